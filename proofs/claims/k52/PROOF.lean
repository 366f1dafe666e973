import PyProof.Rows.All
import Wide.All
import OpenK.AllK
import Wide.FinOn
import Lean
import PyProof.EqAt
import PyProof.EqKinds
import PyProof.TupleCall
import PyProof.NeKinds
import KE.LcSums
import PyProof.ExcBaseAll.ValueError
import KE.KTryMore
import KE.RegKTryMore
import PyProof.StrLawsRepr
import PyProof.ReprStr
import PyProof.EnumMake
import PyProof.EnumFor
import KE.KEqDict
import PyProof.Rows.Range3
import PyProof.SumWalkG
import PyProof.ZipIter
import PySem.Challenge.RW_trueleaf_k52_whole_carried_bounds_lead_t
set_option Elab.async false
set_option linter.all false
set_option maxRecDepth 100000
set_option maxHeartbeats 4000000
namespace L2
open PySem
def defArgs (s:Stmt) : Arguments:=match s with
 | .FunctionDef _ a _ _ _ _ _ _ _ _=>a
 | _=>{ posonlyargs:=[],args:=[],vararg:=none,kwonlyargs:=[],kw_defaults:=[],kwarg:=none,defaults:=[] }
def defBody (s:Stmt) : List Stmt:=match s with
 | .FunctionDef _ _ b _ _ _ _ _ _ _=>b
 | _=>[]
def defScope (s:Stmt) : Scope:=match s with
 | .FunctionDef _ _ _ _ _ _ sc _ _ _=>sc
 | _=>{ kind:=.function,names:=[],isGenerator:=false,isCoroutine:=false }

end L2
namespace K52
open PySem PySem.W L2 PyProof.Rows
noncomputable def top (i:Nat) : Stmt:=PySem.Challenge.pw_trueleaf_k52_whole_carried_bounds_lead_t.main.body.getD i (.Pass ⟨0,0,0,0⟩)
noncomputable abbrev os (s:String) : Str:=Str.ofString s
noncomputable abbrev kh (P:Params) (s:Str) : Int:=PyData.keyHash P s
noncomputable abbrev cO (n:String) (a b c:Nat) (l1 l2 l5:Int) (r0:Addr) (m:Int) (r1 r2 r3 r4:Addr) (x y:Int) (d:Nat) : Obj:=⟨.type "code",none,.fields #[.str (os n) a,.str (os n) b,.str (os "/claim/cut.py") c,.int l1 0,.int l2 0,.int 0 0,.int 0 0,.int l5 0,.ref r0,.bool true,.int m 0,.ref r1,.none,.ref r2,.ref r3,.ref r4,.int x 0,.int y 0,.str (os "/claim/cut.py") d],#[]⟩
noncomputable abbrev fO (n:String) (i:Nat) (d:Value) (m:String) (k:Nat) (r:Addr) : Obj:=⟨.type "function",none,.func (fnOf (os n) (os n) (defArgs (top i)) (defBody (top i)) (defScope (top i)) d .none .none (.str (os m) k) none (.ref r) .none),#[]⟩
noncomputable def kk:Params→Frag:=fun P=>(nat_lit 2,⟨(.none),none,.dict ([]).toArray 0,#[]⟩) ::
 (nat_lit 3,⟨(.type "dict"),none,.dict (List.toArray (⟨kh P (os "__name__"),(.str (os "__name__") 165),(.str (os "law_trueleaf_k52_whole_carried_bounds_lead_t") 596)⟩ :: ⟨kh P (os "__doc__"),(.str (os "__doc__") 166),(.none)⟩ :: ⟨kh P (os "__package__"),(.str (os "__package__") 167),(.none)⟩ :: ⟨kh P (os "__loader__"),(.str (os "__loader__") 168),(.builtin "__main__.__loader__#opaque")⟩ :: ⟨kh P (os "__spec__"),(.str (os "__spec__") 169),(.none)⟩ :: ⟨kh P (os "__annotations__"),(.str (os "__annotations__") 170),(.ref 6)⟩ :: ⟨kh P (os "__builtins__"),(.str (os "__builtins__") 171),(.ref 4)⟩ :: ⟨kh P (os "__file__"),(.str (os "__file__") 173),(.str (os "/claim/cut.py") 172)⟩ :: ⟨kh P (os "__cached__"),(.str (os "__cached__") 174),(.none)⟩ :: ⟨kh P (os "TrueleafError"),(.str (os "TrueleafError") 206),(.ref 24)⟩ :: ⟨kh P (os "NoGrowth"),(.str (os "NoGrowth") 222),(.ref 37)⟩ :: ⟨kh P (os "growth"),(.str (os "growth") 234),(.ref 46)⟩ :: ⟨kh P (os "carried"),(.str (os "carried") 245),(.ref 53)⟩ :: ⟨kh P (os "grown_at"),(.str (os "grown_at") 251),(.ref 58)⟩ :: ⟨kh P (os "shifted"),(.str (os "shifted") 260),(.ref 65)⟩ :: ⟨kh P (os "word_shifted"),(.str (os "word_shifted") 266),(.ref 70)⟩ :: ⟨kh P (os "saying_shifted"),(.str (os "saying_shifted") 275),(.ref 77)⟩ :: ⟨kh P (os "later"),(.str (os "later") 285),(.ref 84)⟩ :: ⟨kh P (os "behind"),(.str (os "behind") 294),(.ref 91)⟩ :: ⟨kh P (os "first_from"),(.str (os "first_from") 303),(.ref 98)⟩ :: ⟨kh P (os "rows_on"),(.str (os "rows_on") 313),(.ref 105)⟩ :: ⟨kh P (os "next_top"),(.str (os "next_top") 320),(.ref 112)⟩ :: ⟨kh P (os "figures_of"),(.str (os "figures_of") 329),(.ref 119)⟩ :: ⟨kh P (os "said"),(.str (os "said") 341),(.ref 126)⟩ :: ⟨kh P (os "wide_of"),(.str (os "wide_of") 350),(.ref 133)⟩ :: ⟨kh P (os "together"),(.str (os "together") 357),(.ref 140)⟩ :: ⟨kh P (os "foot_rows"),(.str (os "foot_rows") 369),(.ref 147)⟩ :: ⟨kh P (os "foot_high"),(.str (os "foot_high") 375),(.ref 152)⟩ :: ⟨kh P (os "first_bounds"),(.str (os "first_bounds") 384),(.ref 159)⟩ :: ⟨kh P (os "reach"),(.str (os "reach") 396),(.ref 166)⟩ :: ⟨kh P (os "told_by_kind"),(.str (os "told_by_kind") 407),(.ref 173)⟩ :: ⟨kh P (os "wides_of"),(.str (os "wides_of") 413),(.ref 178)⟩ :: ⟨kh P (os "highs_of"),(.str (os "highs_of") 419),(.ref 183)⟩ :: ⟨kh P (os "told_behind"),(.str (os "told_behind") 431),(.ref 190)⟩ :: ⟨kh P (os "told_wide"),(.str (os "told_wide") 442),(.ref 197)⟩ :: ⟨kh P (os "told_high"),(.str (os "told_high") 454),(.ref 204)⟩ :: ⟨kh P (os "told_kept"),(.str (os "told_kept") 465),(.ref 211)⟩ :: ⟨kh P (os "told_never"),(.str (os "told_never") 476),(.ref 218)⟩ :: ⟨kh P (os "settle"),(.str (os "settle") 484),(.ref 224)⟩ :: ⟨kh P (os "stands_beyond"),(.str (os "stands_beyond") 492),(.ref 231)⟩ :: ⟨kh P (os "sizes_under"),(.str (os "sizes_under") 501),(.ref 238)⟩ :: ⟨kh P (os "first_unlike"),(.str (os "first_unlike") 510),(.ref 245)⟩ :: ⟨kh P (os "raise_from"),(.str (os "raise_from") 522),(.ref 252)⟩ :: ⟨kh P (os "raise_word"),(.str (os "raise_word") 534),(.ref 259)⟩ :: ⟨kh P (os "raise_by"),(.str (os "raise_by") 547),(.ref 266)⟩ :: ⟨kh P (os "raise_kept"),(.str (os "raise_kept") 558),(.ref 273)⟩ :: ⟨kh P (os "reason_for"),(.str (os "reason_for") 570),(.ref 280)⟩ :: ⟨kh P (os "too_wide_from"),(.str (os "too_wide_from") 582),(.ref 287)⟩ :: ⟨kh P (os "too_high_from"),(.str (os "too_high_from") 595),(.ref 294)⟩ :: ⟨kh P (os "_law_cell_at"),(.str (os "_law_cell_at") 605),(.ref 301)⟩ :: ⟨kh P (os "_law_stream"),(.str (os "_law_stream") 616),(.ref 308)⟩ :: ⟨kh P (os "_law_whole"),(.str (os "_law_whole") 623),(.ref 315)⟩ :: ⟨kh P (os "_law_place"),(.str (os "_law_place") 630),(.ref 322)⟩ :: ⟨kh P (os "_law_text"),(.str (os "_law_text") 636),(.ref 327)⟩ :: ⟨kh P (os "_law_first"),(.str (os "_law_first") 646),(.ref 334)⟩ :: ⟨kh P (os "_law_form"),(.str (os "_law_form") 659),(.ref 341)⟩ :: ⟨kh P (os "_law_saying"),(.str (os "_law_saying") 668),(.ref 348)⟩ :: ⟨kh P (os "_law_word"),(.str (os "_law_word") 674),(.ref 353)⟩ :: ⟨kh P (os "_law_book"),(.str (os "_law_book") 680),(.ref 358)⟩ :: ⟨kh P (os "_law_said"),(.str (os "_law_said") 691),(.ref 365)⟩ :: ⟨kh P (os "_law_high"),(.str (os "_law_high") 705),(.ref 372)⟩ :: ⟨kh P (os "_law_behind"),(.str (os "_law_behind") 715),(.ref 379)⟩ :: ⟨kh P (os "_law_from"),(.str (os "_law_from") 724),(.ref 386)⟩ :: ⟨kh P (os "_law_spots"),(.str (os "_law_spots") 739),(.ref 393)⟩ :: ⟨kh P (os "_law_short"),(.str (os "_law_short") 747),(.ref 400)⟩ :: ⟨kh P (os "_law_widest"),(.str (os "_law_widest") 753),(.ref 405)⟩ :: ⟨kh P (os "_law_borne"),(.str (os "_law_borne") 759),(.ref 410)⟩ :: ⟨kh P (os "_law_moved_saying"),(.str (os "_law_moved_saying") 768),(.ref 417)⟩ :: ⟨kh P (os "_law_moved"),(.str (os "_law_moved") 774),(.ref 422)⟩ :: ⟨kh P (os "_law_put_in"),(.str (os "_law_put_in") 780),(.ref 427)⟩ :: ⟨kh P (os "_law_laid"),(.str (os "_law_laid") 786),(.ref 432)⟩ :: ⟨kh P (os "_law_elder"),(.str (os "_law_elder") 796),(.ref 439)⟩ :: ⟨kh P (os "law"),(.str (os "law") 802),(.ref 444)⟩ :: [])) 73,#[]⟩) ::
 (nat_lit 15,⟨(.type "tuple"),none,(.seq #[.type "ValueError"]),#[]⟩) ::
 (nat_lit 22,⟨(.type "tuple"),none,(.seq #[]),#[]⟩) ::
 (nat_lit 23,⟨(.type "dict"),none,.dict (List.toArray (⟨kh P (os "__module__"),(.str (os "__module__") 196),(.str (os "trueleaf.errors") 187)⟩ :: ⟨kh P (os "__firstlineno__"),(.str (os "__firstlineno__") 200),(.int 2 199)⟩ :: ⟨kh P (os "__static_attributes__"),(.str (os "__static_attributes__") 201),(.ref 22)⟩ :: ⟨kh P (os "__weakref__"),(.str (os "__weakref__") 203),(.ref 25)⟩ :: ⟨kh P (os "__doc__"),(.str (os "__doc__") 204),(.none)⟩ :: [])) 3,#[]⟩) ::
 (nat_lit 24,⟨(.type "type"),none,(.cls (PySem.ClassData.mk (os "TrueleafError") [.type "ValueError"] [.ref 24,.type "ValueError",.type "Exception",.type "BaseException",.type "object"] 23 (os "TrueleafError") true [] [.ref 37] false none false)),#[Option.some (.ref 15),none,Option.some (.str (os "TrueleafError") 189),Option.some (.str (os "TrueleafError") 197),Option.some (.builtin "ValueError.__new__"),Option.some (.bool true)]⟩) ::
 (nat_lit 25,⟨(.type "getset_descriptor"),none,(.fields #[.str (os "__weakref__") 202,.ref 24,.builtin "ExceptionGroup.__weakref__",.none]),#[]⟩) ::
 (nat_lit 28,⟨(.type "tuple"),none,(.seq #[.ref 24]),#[]⟩) ::
 (nat_lit 35,⟨(.type "tuple"),none,(.seq #[]),#[]⟩) ::
 (nat_lit 36,⟨(.type "dict"),none,.dict (List.toArray (⟨kh P (os "__module__"),(.str (os "__module__") 214),(.str (os "trueleaf.errors") 187)⟩ :: ⟨kh P (os "__firstlineno__"),(.str (os "__firstlineno__") 218),(.int 4 217)⟩ :: ⟨kh P (os "__static_attributes__"),(.str (os "__static_attributes__") 219),(.ref 35)⟩ :: ⟨kh P (os "__doc__"),(.str (os "__doc__") 220),(.none)⟩ :: [])) 2,#[]⟩) ::
 (nat_lit 37,⟨(.type "type"),none,(.cls (PySem.ClassData.mk (os "NoGrowth") [.ref 24] [.ref 37,.ref 24,.type "ValueError",.type "Exception",.type "BaseException",.type "object"] 36 (os "NoGrowth") true [] [] false none false)),#[Option.some (.ref 28),none,Option.some (.str (os "NoGrowth") 207),Option.some (.str (os "NoGrowth") 215),Option.some (.builtin "ValueError.__new__"),Option.some (.bool true)]⟩) ::
 (nat_lit 45,cO "growth" 225 226 227 7 2 3 40 181 41 42 43 44 232 7 233) ::
 (nat_lit 46,fO "growth" 4 (.none) "trueleaf.growth" 223 45) ::
 (nat_lit 52,cO "carried" 235 236 237 15 3 3 47 181 48 49 50 51 243 15 244) ::
 (nat_lit 53,fO "carried" 5 (.none) "trueleaf.growth" 223 52) ::
 (nat_lit 57,⟨(.type "code"),none,(.fields #[.str (os "grown_at") 246,.str (os "grown_at") 247,.str (os "/claim/cut.py") 248,.int 21 0,.int 4 0,.int 0 0,.int 0 0,.int 3 0,.ref 54,.bool true,.int 181 0,.ref 55,.none,.none,.none,.ref 56,.int 249 0,.int 21 0,.str (os "/claim/cut.py") 250]),#[]⟩) ::
 (nat_lit 58,fO "grown_at" 6 (.none) "trueleaf.growth" 223 57) ::
 (nat_lit 64,cO "shifted" 252 253 254 28 3 3 59 181 60 61 62 63 258 28 259) ::
 (nat_lit 65,fO "shifted" 7 (.none) "trueleaf.growth" 223 64) ::
 (nat_lit 69,⟨(.type "code"),none,(.fields #[.str (os "word_shifted") 261,.str (os "word_shifted") 262,.str (os "/claim/cut.py") 263,.int 32 0,.int 3 0,.int 0 0,.int 0 0,.int 3 0,.ref 66,.bool true,.int 181 0,.ref 67,.none,.none,.none,.ref 68,.int 264 0,.int 32 0,.str (os "/claim/cut.py") 265]),#[]⟩) ::
 (nat_lit 70,fO "word_shifted" 8 (.none) "trueleaf.growth" 223 69) ::
 (nat_lit 76,cO "saying_shifted" 267 268 269 35 3 3 71 181 72 73 74 75 273 35 274) ::
 (nat_lit 77,fO "saying_shifted" 9 (.none) "trueleaf.growth" 223 76) ::
 (nat_lit 83,cO "later" 278 279 280 40 2 3 78 181 79 80 81 82 283 40 284) ::
 (nat_lit 84,fO "later" 11 (.none) "trueleaf.places" 276 83) ::
 (nat_lit 90,cO "behind" 286 287 288 42 3 3 85 181 86 87 88 89 292 42 293) ::
 (nat_lit 91,fO "behind" 12 (.none) "trueleaf.places" 276 90) ::
 (nat_lit 97,cO "first_from" 295 296 297 50 3 3 92 181 93 94 95 96 301 50 302) ::
 (nat_lit 98,fO "first_from" 13 (.none) "trueleaf.places" 276 97) ::
 (nat_lit 104,cO "rows_on" 304 305 306 54 3 3 99 181 100 101 102 103 311 54 312) ::
 (nat_lit 105,fO "rows_on" 14 (.none) "trueleaf.places" 276 104) ::
 (nat_lit 111,cO "next_top" 314 315 316 59 1 3 106 181 107 108 109 110 318 59 319) ::
 (nat_lit 112,fO "next_top" 15 (.none) "trueleaf.places" 276 111) ::
 (nat_lit 118,cO "figures_of" 323 324 325 62 1 3 113 181 114 115 116 117 327 62 328) ::
 (nat_lit 119,fO "figures_of" 17 (.none) "trueleaf.signs" 321 118) ::
 (nat_lit 125,cO "said" 332 333 334 65 3 3 120 181 121 122 123 124 339 65 340) ::
 (nat_lit 126,fO "said" 19 (.none) "trueleaf.widths" 330 125) ::
 (nat_lit 132,cO "wide_of" 342 343 344 72 3 3 127 181 128 129 130 131 348 72 349) ::
 (nat_lit 133,fO "wide_of" 20 (.none) "trueleaf.widths" 330 132) ::
 (nat_lit 139,cO "together" 351 352 353 74 1 3 134 181 135 136 137 138 355 74 356) ::
 (nat_lit 140,fO "together" 21 (.none) "trueleaf.widths" 330 139) ::
 (nat_lit 146,cO "foot_rows" 358 359 360 76 3 3 141 181 142 143 144 145 367 76 368) ::
 (nat_lit 147,fO "foot_rows" 22 (.none) "trueleaf.widths" 330 146) ::
 (nat_lit 151,⟨(.type "code"),none,(.fields #[.str (os "foot_high") 370,.str (os "foot_high") 371,.str (os "/claim/cut.py") 372,.int 85 0,.int 3 0,.int 0 0,.int 0 0,.int 3 0,.ref 148,.bool true,.int 181 0,.ref 149,.none,.none,.none,.ref 150,.int 373 0,.int 85 0,.str (os "/claim/cut.py") 374]),#[]⟩) ::
 (nat_lit 152,fO "foot_high" 23 (.none) "trueleaf.widths" 330 151) ::
 (nat_lit 158,cO "first_bounds" 378 379 380 91 1 3 153 181 154 155 156 157 382 91 383) ::
 (nat_lit 159,fO "first_bounds" 25 (.none) "trueleaf.bounds" 376 158) ::
 (nat_lit 165,cO "reach" 385 386 387 93 5 3 160 181 161 162 163 164 394 93 395) ::
 (nat_lit 166,fO "reach" 26 (.none) "trueleaf.bounds" 376 165) ::
 (nat_lit 172,cO "told_by_kind" 397 398 399 98 5 3 167 181 168 169 170 171 405 98 406) ::
 (nat_lit 173,fO "told_by_kind" 27 (.none) "trueleaf.bounds" 376 172) ::
 (nat_lit 177,⟨(.type "code"),none,(.fields #[.str (os "wides_of") 408,.str (os "wides_of") 409,.str (os "/claim/cut.py") 410,.int 110 0,.int 4 0,.int 0 0,.int 0 0,.int 3 0,.ref 174,.bool true,.int 181 0,.ref 175,.none,.none,.none,.ref 176,.int 411 0,.int 110 0,.str (os "/claim/cut.py") 412]),#[]⟩) ::
 (nat_lit 178,fO "wides_of" 28 (.none) "trueleaf.bounds" 376 177) ::
 (nat_lit 182,⟨(.type "code"),none,(.fields #[.str (os "highs_of") 414,.str (os "highs_of") 415,.str (os "/claim/cut.py") 416,.int 112 0,.int 4 0,.int 0 0,.int 0 0,.int 3 0,.ref 179,.bool true,.int 181 0,.ref 180,.none,.none,.none,.ref 181,.int 417 0,.int 112 0,.str (os "/claim/cut.py") 418]),#[]⟩) ::
 (nat_lit 183,fO "highs_of" 29 (.none) "trueleaf.bounds" 376 182) ::
 (nat_lit 189,cO "told_behind" 420 421 422 114 3 3 184 181 185 186 187 188 429 114 430) ::
 (nat_lit 190,fO "told_behind" 30 (.none) "trueleaf.bounds" 376 189) ::
 (nat_lit 196,cO "told_wide" 432 433 434 121 4 3 191 181 192 193 194 195 440 121 441) ::
 (nat_lit 197,fO "told_wide" 31 (.none) "trueleaf.bounds" 376 196) ::
 (nat_lit 203,cO "told_high" 443 444 445 126 5 3 198 181 199 200 201 202 452 126 453) ::
 (nat_lit 204,fO "told_high" 32 (.none) "trueleaf.bounds" 376 203) ::
 (nat_lit 210,cO "told_kept" 455 456 457 131 3 3 205 181 206 207 208 209 463 131 464) ::
 (nat_lit 211,fO "told_kept" 33 (.none) "trueleaf.bounds" 376 210) ::
 (nat_lit 217,cO "told_never" 466 467 468 137 3 3 212 181 213 214 215 216 474 137 475) ::
 (nat_lit 218,fO "told_never" 34 (.none) "trueleaf.bounds" 376 217) ::
 (nat_lit 219,⟨(.type "tuple"),none,(.seq #[.none]),#[]⟩) ::
 (nat_lit 223,⟨(.type "code"),none,(.fields #[.str (os "settle") 479,.str (os "settle") 480,.str (os "/claim/cut.py") 481,.int 144 0,.int 2 0,.int 0 0,.int 0 0,.int 3 0,.ref 220,.bool true,.int 181 0,.ref 221,.none,.none,.none,.ref 222,.int 482 0,.int 144 0,.str (os "/claim/cut.py") 483]),#[]⟩) ::
 (nat_lit 224,fO "settle" 36 (.ref 219) "trueleaf.settle" 477 223) ::
 (nat_lit 230,cO "stands_beyond" 485 486 487 160 2 3 225 181 226 227 228 229 490 160 491) ::
 (nat_lit 231,fO "stands_beyond" 37 (.none) "trueleaf.settle" 477 230) ::
 (nat_lit 237,cO "sizes_under" 493 494 495 162 2 3 232 181 233 234 235 236 499 162 500) ::
 (nat_lit 238,fO "sizes_under" 38 (.none) "trueleaf.settle" 477 237) ::
 (nat_lit 244,cO "first_unlike" 502 503 504 165 2 3 239 181 240 241 242 243 508 165 509) ::
 (nat_lit 245,fO "first_unlike" 39 (.none) "trueleaf.settle" 477 244) ::
 (nat_lit 251,cO "raise_from" 511 512 513 170 5 3 246 181 247 248 249 250 520 170 521) ::
 (nat_lit 252,fO "raise_from" 40 (.none) "trueleaf.settle" 477 251) ::
 (nat_lit 258,cO "raise_word" 523 524 525 178 5 3 253 181 254 255 256 257 532 178 533) ::
 (nat_lit 259,fO "raise_word" 41 (.none) "trueleaf.settle" 477 258) ::
 (nat_lit 265,cO "raise_by" 535 536 537 183 6 3 260 181 261 262 263 264 545 183 546) ::
 (nat_lit 266,fO "raise_by" 42 (.none) "trueleaf.settle" 477 265) ::
 (nat_lit 272,cO "raise_kept" 548 549 550 187 4 3 267 181 268 269 270 271 556 187 557) ::
 (nat_lit 273,fO "raise_kept" 43 (.none) "trueleaf.settle" 477 272) ::
 (nat_lit 279,cO "reason_for" 559 560 561 195 4 3 274 181 275 276 277 278 568 195 569) ::
 (nat_lit 280,fO "reason_for" 44 (.none) "trueleaf.settle" 477 279) ::
 (nat_lit 286,cO "too_wide_from" 571 572 573 210 4 3 281 181 282 283 284 285 580 210 581) ::
 (nat_lit 287,fO "too_wide_from" 45 (.none) "trueleaf.settle" 477 286) ::
 (nat_lit 293,cO "too_high_from" 583 584 585 219 4 3 288 181 289 290 291 292 593 219 594) ::
 (nat_lit 294,fO "too_high_from" 46 (.none) "trueleaf.settle" 477 293) ::
 (nat_lit 300,cO "_law_cell_at" 598 599 600 230 2 3 295 181 296 297 298 299 603 230 604) ::
 (nat_lit 301,fO "_law_cell_at" 48 (.none) "law_trueleaf_k52_whole_carried_bounds_lead_t" 596 300) ::
 (nat_lit 307,cO "_law_stream" 606 607 608 234 2 3 302 181 303 304 305 306 614 234 615) ::
 (nat_lit 308,fO "_law_stream" 49 (.none) "law_trueleaf_k52_whole_carried_bounds_lead_t" 596 307) ::
 (nat_lit 314,cO "_law_whole" 617 618 619 241 1 3 309 181 310 311 312 313 621 241 622) ::
 (nat_lit 315,fO "_law_whole" 50 (.none) "law_trueleaf_k52_whole_carried_bounds_lead_t" 596 314) ::
 (nat_lit 321,cO "_law_place" 624 625 626 243 1 3 316 181 317 318 319 320 628 243 629) ::
 (nat_lit 322,fO "_law_place" 51 (.none) "law_trueleaf_k52_whole_carried_bounds_lead_t" 596 321) ::
 (nat_lit 326,⟨(.type "code"),none,(.fields #[.str (os "_law_text") 631,.str (os "_law_text") 632,.str (os "/claim/cut.py") 633,.int 245 0,.int 3 0,.int 0 0,.int 0 0,.int 3 0,.ref 323,.bool true,.int 181 0,.ref 324,.none,.none,.none,.ref 325,.int 634 0,.int 245 0,.str (os "/claim/cut.py") 635]),#[]⟩) ::
 (nat_lit 327,fO "_law_text" 52 (.none) "law_trueleaf_k52_whole_carried_bounds_lead_t" 596 326) ::
 (nat_lit 333,cO "_law_first" 637 638 639 249 1 3 328 181 329 330 331 332 644 249 645) ::
 (nat_lit 334,fO "_law_first" 53 (.none) "law_trueleaf_k52_whole_carried_bounds_lead_t" 596 333) ::
 (nat_lit 340,cO "_law_form" 647 648 649 259 1 3 335 181 336 337 338 339 657 259 658) ::
 (nat_lit 341,fO "_law_form" 54 (.none) "law_trueleaf_k52_whole_carried_bounds_lead_t" 596 340) ::
 (nat_lit 347,cO "_law_saying" 660 661 662 267 2 3 342 181 343 344 345 346 666 267 667) ::
 (nat_lit 348,fO "_law_saying" 55 (.none) "law_trueleaf_k52_whole_carried_bounds_lead_t" 596 347) ::
 (nat_lit 352,⟨(.type "code"),none,(.fields #[.str (os "_law_word") 669,.str (os "_law_word") 670,.str (os "/claim/cut.py") 671,.int 276 0,.int 2 0,.int 0 0,.int 0 0,.int 3 0,.ref 349,.bool true,.int 181 0,.ref 350,.none,.none,.none,.ref 351,.int 672 0,.int 276 0,.str (os "/claim/cut.py") 673]),#[]⟩) ::
 (nat_lit 353,fO "_law_word" 56 (.none) "law_trueleaf_k52_whole_carried_bounds_lead_t" 596 352) ::
 (nat_lit 357,⟨(.type "code"),none,(.fields #[.str (os "_law_book") 675,.str (os "_law_book") 676,.str (os "/claim/cut.py") 677,.int 283 0,.int 2 0,.int 0 0,.int 0 0,.int 3 0,.ref 354,.bool true,.int 181 0,.ref 355,.none,.none,.none,.ref 356,.int 678 0,.int 283 0,.str (os "/claim/cut.py") 679]),#[]⟩) ::
 (nat_lit 358,fO "_law_book" 57 (.none) "law_trueleaf_k52_whole_carried_bounds_lead_t" 596 357) ::
 (nat_lit 364,cO "_law_said" 681 682 683 286 3 3 359 181 360 361 362 363 689 286 690) ::
 (nat_lit 365,fO "_law_said" 58 (.none) "law_trueleaf_k52_whole_carried_bounds_lead_t" 596 364) ::
 (nat_lit 378,cO "_law_behind" 706 707 708 308 3 3 373 181 374 375 376 377 713 308 714) ::
 (nat_lit 379,fO "_law_behind" 60 (.none) "law_trueleaf_k52_whole_carried_bounds_lead_t" 596 378) ::
 (nat_lit 385,cO "_law_from" 716 717 718 317 3 3 380 181 381 382 383 384 722 317 723) ::
 (nat_lit 386,fO "_law_from" 61 (.none) "law_trueleaf_k52_whole_carried_bounds_lead_t" 596 385) ::
 (nat_lit 392,cO "_law_spots" 725 726 727 321 3 3 387 181 388 389 390 391 737 321 738) ::
 (nat_lit 393,fO "_law_spots" 62 (.none) "law_trueleaf_k52_whole_carried_bounds_lead_t" 596 392) ::
 (nat_lit 399,cO "_law_short" 740 741 742 342 2 3 394 181 395 396 397 398 745 342 746) ::
 (nat_lit 400,fO "_law_short" 63 (.none) "law_trueleaf_k52_whole_carried_bounds_lead_t" 596 399) ::
 (nat_lit 404,⟨(.type "code"),none,(.fields #[.str (os "_law_widest") 748,.str (os "_law_widest") 749,.str (os "/claim/cut.py") 750,.int 348 0,.int 2 0,.int 0 0,.int 0 0,.int 3 0,.ref 401,.bool true,.int 181 0,.ref 402,.none,.none,.none,.ref 403,.int 751 0,.int 348 0,.str (os "/claim/cut.py") 752]),#[]⟩) ::
 (nat_lit 405,fO "_law_widest" 64 (.none) "law_trueleaf_k52_whole_carried_bounds_lead_t" 596 404) ::
 (nat_lit 409,⟨(.type "code"),none,(.fields #[.str (os "_law_borne") 754,.str (os "_law_borne") 755,.str (os "/claim/cut.py") 756,.int 357 0,.int 2 0,.int 0 0,.int 0 0,.int 3 0,.ref 406,.bool true,.int 181 0,.ref 407,.none,.none,.none,.ref 408,.int 757 0,.int 357 0,.str (os "/claim/cut.py") 758]),#[]⟩) ::
 (nat_lit 410,fO "_law_borne" 65 (.none) "law_trueleaf_k52_whole_carried_bounds_lead_t" 596 409) ::
 (nat_lit 416,cO "_law_moved_saying" 760 761 762 380 3 3 411 181 412 413 414 415 766 380 767) ::
 (nat_lit 417,fO "_law_moved_saying" 66 (.none) "law_trueleaf_k52_whole_carried_bounds_lead_t" 596 416) ::
 (nat_lit 421,⟨(.type "code"),none,(.fields #[.str (os "_law_moved") 769,.str (os "_law_moved") 770,.str (os "/claim/cut.py") 771,.int 384 0,.int 3 0,.int 0 0,.int 0 0,.int 3 0,.ref 418,.bool true,.int 181 0,.ref 419,.none,.none,.none,.ref 420,.int 772 0,.int 384 0,.str (os "/claim/cut.py") 773]),#[]⟩) ::
 (nat_lit 422,fO "_law_moved" 67 (.none) "law_trueleaf_k52_whole_carried_bounds_lead_t" 596 421) ::
 (nat_lit 426,⟨(.type "code"),none,(.fields #[.str (os "_law_put_in") 775,.str (os "_law_put_in") 776,.str (os "/claim/cut.py") 777,.int 387 0,.int 3 0,.int 0 0,.int 0 0,.int 3 0,.ref 423,.bool true,.int 181 0,.ref 424,.none,.none,.none,.ref 425,.int 778 0,.int 387 0,.str (os "/claim/cut.py") 779]),#[]⟩) ::
 (nat_lit 427,fO "_law_put_in" 68 (.none) "law_trueleaf_k52_whole_carried_bounds_lead_t" 596 426) ::
 (nat_lit 431,⟨(.type "code"),none,(.fields #[.str (os "_law_laid") 781,.str (os "_law_laid") 782,.str (os "/claim/cut.py") 783,.int 392 0,.int 2 0,.int 0 0,.int 0 0,.int 3 0,.ref 428,.bool true,.int 181 0,.ref 429,.none,.none,.none,.ref 430,.int 784 0,.int 392 0,.str (os "/claim/cut.py") 785]),#[]⟩) ::
 (nat_lit 432,fO "_law_laid" 69 (.none) "law_trueleaf_k52_whole_carried_bounds_lead_t" 596 431) ::
 (nat_lit 438,cO "_law_elder" 787 788 789 396 1 3 433 181 434 435 436 437 794 396 795) ::
 (nat_lit 439,fO "_law_elder" 70 (.none) "law_trueleaf_k52_whole_carried_bounds_lead_t" 596 438) ::
 (nat_lit 443,⟨(.type "code"),none,(.fields #[.str (os "law") 797,.str (os "law") 798,.str (os "/claim/cut.py") 799,.int 403 0,.int 1 0,.int 0 0,.int 0 0,.int 3 0,.ref 440,.bool true,.int 181 0,.ref 441,.none,.none,.none,.ref 442,.int 800 0,.int 403 0,.str (os "/claim/cut.py") 801]),#[]⟩) ::
 (nat_lit 444,fO "law" 71 (.none) "law_trueleaf_k52_whole_carried_bounds_lead_t" 596 443) :: []
noncomputable def vw:Program:={ PySem.Challenge.pw_trueleaf_k52_whole_carried_bounds_lead_t with main:={ PySem.Challenge.pw_trueleaf_k52_whole_carried_bounds_lead_t.main with body:=top 1 :: top 2 :: top 4 :: top 5 :: top 6 :: top 7 :: top 8 :: top 9 :: top 11 :: top 12 :: top 13 :: top 14 :: top 15 :: top 17 :: top 19 :: top 20 :: top 21 :: top 22 :: top 23 :: top 25 :: top 26 :: top 27 :: top 28 :: top 29 :: top 30 :: top 31 :: top 32 :: top 33 :: top 34 :: top 37 :: top 38 :: top 39 :: top 40 :: top 41 :: top 42 :: top 43 :: top 44 :: top 45 :: top 46 :: top 48 :: top 49 :: top 50 :: top 51 :: top 52 :: top 53 :: top 54 :: top 55 :: top 56 :: top 57 :: top 58 :: top 59 :: top 60 :: top 61 :: top 62 :: top 63 :: top 64 :: top 65 :: top 66 :: top 67 :: top 68 :: top 69 :: top 70 :: top 71 :: [] } }
noncomputable abbrev ls:List Str:=[os "settle"]
noncomputable abbrev hk:Hook:=kHook kk (nat_lit 2 :: nat_lit 3 :: nat_lit 15 :: nat_lit 22 :: nat_lit 23 :: nat_lit 24 :: nat_lit 25 :: nat_lit 28 :: nat_lit 35 :: nat_lit 36 :: nat_lit 37 :: nat_lit 45 :: nat_lit 46 :: nat_lit 52 :: nat_lit 53 :: nat_lit 57 :: nat_lit 58 :: nat_lit 64 :: nat_lit 65 :: nat_lit 69 :: nat_lit 70 :: nat_lit 76 :: nat_lit 77 :: nat_lit 83 :: nat_lit 84 :: nat_lit 90 :: nat_lit 91 :: nat_lit 97 :: nat_lit 98 :: nat_lit 104 :: nat_lit 105 :: nat_lit 111 :: nat_lit 112 :: nat_lit 118 :: nat_lit 119 :: nat_lit 125 :: nat_lit 126 :: nat_lit 132 :: nat_lit 133 :: nat_lit 139 :: nat_lit 140 :: nat_lit 146 :: nat_lit 147 :: nat_lit 151 :: nat_lit 152 :: nat_lit 158 :: nat_lit 159 :: nat_lit 165 :: nat_lit 166 :: nat_lit 172 :: nat_lit 173 :: nat_lit 177 :: nat_lit 178 :: nat_lit 182 :: nat_lit 183 :: nat_lit 189 :: nat_lit 190 :: nat_lit 196 :: nat_lit 197 :: nat_lit 203 :: nat_lit 204 :: nat_lit 210 :: nat_lit 211 :: nat_lit 217 :: nat_lit 218 :: nat_lit 219 :: nat_lit 223 :: nat_lit 224 :: nat_lit 230 :: nat_lit 231 :: nat_lit 237 :: nat_lit 238 :: nat_lit 244 :: nat_lit 245 :: nat_lit 251 :: nat_lit 252 :: nat_lit 258 :: nat_lit 259 :: nat_lit 265 :: nat_lit 266 :: nat_lit 272 :: nat_lit 273 :: nat_lit 279 :: nat_lit 280 :: nat_lit 286 :: nat_lit 287 :: nat_lit 293 :: nat_lit 294 :: nat_lit 300 :: nat_lit 301 :: nat_lit 307 :: nat_lit 308 :: nat_lit 314 :: nat_lit 315 :: nat_lit 321 :: nat_lit 322 :: nat_lit 326 :: nat_lit 327 :: nat_lit 333 :: nat_lit 334 :: nat_lit 340 :: nat_lit 341 :: nat_lit 347 :: nat_lit 348 :: nat_lit 352 :: nat_lit 353 :: nat_lit 357 :: nat_lit 358 :: nat_lit 364 :: nat_lit 365 :: nat_lit 378 :: nat_lit 379 :: nat_lit 385 :: nat_lit 386 :: nat_lit 392 :: nat_lit 393 :: nat_lit 399 :: nat_lit 400 :: nat_lit 404 :: nat_lit 405 :: nat_lit 409 :: nat_lit 410 :: nat_lit 416 :: nat_lit 417 :: nat_lit 421 :: nat_lit 422 :: nat_lit 426 :: nat_lit 427 :: nat_lit 431 :: nat_lit 432 :: nat_lit 438 :: nat_lit 439 :: nat_lit 443 :: nat_lit 444 :: []) (fun _=>by kernel_rfl)
noncomputable abbrev rr:RowW:=OpenRow.toRowW (OpenLaw.row PySem.Challenge.rw_trueleaf_k52_whole_carried_bounds_lead_t)
noncomputable abbrev xt:Shared→Bool:=fun s=>xlAt vw [] s && recOk (RowW.records rr) s
theorem left_of {σ α β γ δ ε:Type} {o:Option σ} {f:σ→α × β × γ × δ} {g:σ→ε} {z:α × β × γ × δ} {c:ε} (h1:o.map (fun s=>(f s).1)=some z.1) (h2:o.map (fun s=>(f s).2.1)=some z.2.1) (h3:o.map (fun s=>(f s).2.2.1)=some z.2.2.1) (h4:o.map (fun s=>(f s).2.2.2)=some z.2.2.2) (h5:o.map g=some c) : o.map (fun s=>(f s,g s))=some (z,c):=by
 cases o with
 | none=>cases h1
 | some s=>exact congrArg some (Prod.ext (Prod.ext (Option.some.inj h1) (Prod.ext (Option.some.inj h2) (Prod.ext (Option.some.inj h3) (Option.some.inj h4)))) (Option.some.inj h5))
set_option maxHeartbeats 0 in
theorem leftA (w:World) : Option.map (fun s=>(openSeen vw ls (importedModules PySem.Challenge.pw_trueleaf_k52_whole_carried_bounds_lead_t.main.body) xt true s).1) (openEnds PySem.treeTable PySem.Challenge.pw_trueleaf_k52_whole_carried_bounds_lead_t w 4870)=some (openGood vw ls).1:=by
 kernel_rfl
set_option maxHeartbeats 0 in
theorem leftB (w:World) : Option.map (fun s=>(openSeen vw ls (importedModules PySem.Challenge.pw_trueleaf_k52_whole_carried_bounds_lead_t.main.body) xt true s).2.1) (openEnds PySem.treeTable PySem.Challenge.pw_trueleaf_k52_whole_carried_bounds_lead_t w 4870)=some (openGood vw ls).2.1:=by
 kernel_rfl
set_option maxHeartbeats 0 in
theorem leftC (w:World) : Option.map (fun s=>(openSeen vw ls (importedModules PySem.Challenge.pw_trueleaf_k52_whole_carried_bounds_lead_t.main.body) xt true s).2.2.1) (openEnds PySem.treeTable PySem.Challenge.pw_trueleaf_k52_whole_carried_bounds_lead_t w 4870)=some (openGood vw ls).2.2.1:=by
 kernel_rfl
set_option maxHeartbeats 0 in
theorem leftD (w:World) : Option.map (fun s=>(openSeen vw ls (importedModules PySem.Challenge.pw_trueleaf_k52_whole_carried_bounds_lead_t.main.body) xt true s).2.2.2) (openEnds PySem.treeTable PySem.Challenge.pw_trueleaf_k52_whole_carried_bounds_lead_t w 4870)=some (openGood vw ls).2.2.2:=by
 kernel_rfl
set_option maxHeartbeats 0 in
theorem leftE (w:World) : Option.map (fun s=>Hook.obs hk s) (openEnds PySem.treeTable PySem.Challenge.pw_trueleaf_k52_whole_carried_bounds_lead_t w 4870)=some (Hook.val hk w):=by
 kernel_rfl
theorem left:LeftO PySem.Challenge.pw_trueleaf_k52_whole_carried_bounds_lead_t vw ls xt (Hook.obs hk) (Hook.val hk) 4870:=fun w=>left_of (f:=fun s=>openSeen vw ls (importedModules PySem.Challenge.pw_trueleaf_k52_whole_carried_bounds_lead_t.main.body) xt true s) (leftA w) (leftB w) (leftC w) (leftD w) (leftE w)
end K52
set_option maxHeartbeats 4000000
namespace L2
open PySem PySem.Spec PyProof.Rows

abbrev Key:=Sum Int Str
def keyIs:Key→Value→Bool
 | .inl k,v=>Value.isInt k v
 | .inr x,v=>Value.isStrOf x v
def keyH (w:World) : Key→Int
 | .inl k=>hashInt k
 | .inr x=>hashStr w x
theorem keyIs_shape:∀ {k:Key} {v:Value},keyIs k v=true→(∃ i t,k=Sum.inl i∧v=Value.int i t)∨(∃ x t,k=Sum.inr x∧v=Value.str x t)
 | .inl i,v,h=>by
  obtain ⟨t,e⟩:=Value.isInt_shape (k:=i) (v:=v) h
  exact .inl ⟨i,t,rfl,e⟩
 | .inr x,v,h=>by
  obtain ⟨t,e⟩:=Value.isStrOf_shape (x:=x) (v:=v) h
  exact .inr ⟨x,t,rfl,e⟩
theorem keyIs_int (i:Int) (t:Tok) : keyIs (.inl i) (.int i t)=true:=by simp [keyIs,Value.isInt]
theorem keyIs_str (x:Str) (t:Tok) : keyIs (.inr x) (.str x t)=true:=by simp [keyIs,Value.isStrOf]
theorem key_ll (a b:Int) : decide ((Sum.inl a:Key)=Sum.inl b)=(a == b):=by
 by_cases e:a=b
 ·subst e; simp
 ·have h:¬ (Sum.inl a:Key)=Sum.inl b:=fun q=>e (Sum.inl.inj q)
  rw [decide_eq_false h]
  exact (beq_eq_false_iff_ne.mpr e).symm
theorem key_rr (a b:Str) : decide ((Sum.inr a:Key)=Sum.inr b)=decide (a=b):=by
 by_cases e:a=b
 ·subst e; simp
 ·have h:¬ (Sum.inr a:Key)=Sum.inr b:=fun q=>e (Sum.inr.inj q)
  rw [decide_eq_false h,decide_eq_false e]
theorem key_lr (a:Int) (b:Str) : decide ((Sum.inl a:Key)=Sum.inr b)=false:=decide_eq_false (fun q=>nomatch q)
theorem key_rl (a:Str) (b:Int) : decide ((Sum.inr a:Key)=Sum.inl b)=false:=decide_eq_false (fun q=>nomatch q)

def mixKind (prog:Program) (w:World) : PySem.KeyKind prog w Key where
 is:=keyIs
 hash:=keyH w
 inj:=fun v a b ha hb=>by
  rcases keyIs_shape ha with ⟨i,t,rfl,rfl⟩ | ⟨x,t,rfl,rfl⟩
  ·rcases keyIs_shape hb with ⟨j,u,rfl,e⟩ | ⟨y,u,rfl,e⟩
   ·injection e with e1 _; rw [e1]
   ·exact nomatch e
  ·rcases keyIs_shape hb with ⟨j,u,rfl,e⟩ | ⟨y,u,rfl,e⟩
   ·exact nomatch e
   ·injection e with e1 _; rw [e1]
 byValue:=fun k v h=>by
  rcases keyIs_shape h with ⟨i,t,rfl,rfl⟩ | ⟨x,t,rfl,rfl⟩ <;> rfl
 pyHash:=fun hv h=>by
  rcases keyIs_shape hv with ⟨i,t,rfl,rfl⟩ | ⟨x,t,rfl,rfl⟩
  ·exact wpAny_pyHash_int h
  ·exact wpAny_pyHash_str h
 eqBool:=fun hu hv h=>by
  rcases keyIs_shape hu with ⟨i,t,rfl,rfl⟩ | ⟨x,t,rfl,rfl⟩
  ·rcases keyIs_shape hv with ⟨j,u,rfl,rfl⟩ | ⟨y,u,rfl,rfl⟩
   ·rw [key_ll] at h; exact wpAny_eqBool_int h
   ·rw [key_lr] at h; exact SeqAt.EqAt.int_str i t y u _ _ _ _ h
  ·rcases keyIs_shape hv with ⟨j,u,rfl,rfl⟩ | ⟨y,u,rfl,rfl⟩
   ·rw [key_rl] at h; exact SeqAt.EqAt.str_int x t j u _ _ _ _ h
   ·rw [key_rr] at h; exact wpAny_eqBool_str h
 «strs»:=fun k x t v h=>by
  rcases keyIs_shape h with ⟨i,u,rfl,e⟩ | ⟨y,u,rfl,e⟩
  ·exact nomatch e
  ·injection e with e1 _
   subst e1
   cases v <;> rfl

theorem mixKind_int (prog:Program) (w:World) (i:Int) (t:Tok) : (mixKind prog w).is (.inl i) (.int i t)=true:=keyIs_int i t
theorem mixKind_str (prog:Program) (w:World) (x:Str) (t:Tok) : (mixKind prog w).is (.inr x) (.str x t)=true:=keyIs_str x t

inductive V where
 | non | bl (b:Bool) | int (i:Int) | str (x:Str) | byt (b:Array UInt8) | flt (b:UInt64) | ref (a:Addr) | ty (n:String)
 deriving DecidableEq

def RelV:V→Value→Prop
 | .non,u=>u=Value.none
 | .bl b,u=>u=Value.bool b
 | .int i,u=>∃ t,u=Value.int i t
 | .str x,u=>∃ t,u=Value.str x t
 | .byt b,u=>∃ t,u=Value.bytes b t
 | .flt b,u=>∃ t,u=Value.float b t
 | .ref a,u=>u=Value.ref a
 | .ty n,u=>u=Value.type n

abbrev Vals:List V→List Value→Prop:=Paired RelV
theorem Vals.length {xs:List V} {us:List Value} (r:Vals xs us) : xs.length=us.length:=Paired.length r
theorem Vals.get:∀ {xs:List V} {us:List Value} {i:Nat} {x:V},Vals xs us→xs[i]? = some x→∃ u,us[i]? = some u∧RelV x u
 | _,_,_,_,.nil,e=>by simp at e
 | _,_,0,_,.cons r _,e=>by simp at e; subst e; exact ⟨_,rfl,r⟩
 | _,_,i+1,x,.cons _ t,e=>by
  obtain ⟨u,h1,h2⟩:=Vals.get (i:=i) (x:=x) t (by simpa using e)
  exact ⟨u,by simpa using h1,h2⟩
theorem Vals.set {x:V} {u:Value} (r:RelV x u) : ∀ {xs:List V} {us:List Value} (i:Nat),Vals xs us→Vals (xs.set i x) (us.set i u)
 | _,_,_,.nil=>.nil
 | _,_,0,.cons _ t=>.cons r t
 | _,_,i+1,.cons q t=>.cons q (Vals.set r i t)
theorem Vals.append:∀ {xs ys:List V} {us ws:List Value},Vals xs us→Vals ys ws→Vals (xs++ys) (us++ws)
 | _,_,_,_,.nil,s=>s
 | _,_,_,_,.cons r t,s=>.cons r (Vals.append t s)
theorem Vals.take:∀ {xs:List V} {us:List Value} (n:Nat),Vals xs us→Vals (xs.take n) (us.take n)
 | _,_,0,_=>.nil
 | _,_,_+1,.nil=>.nil
 | _,_,n+1,.cons r t=>.cons r (Vals.take n t)
theorem Vals.drop:∀ {xs:List V} {us:List Value} (n:Nat),Vals xs us→Vals (xs.drop n) (us.drop n)
 | _,_,0,r=>r
 | _,_,_+1,.nil=>.nil
 | _,_,n+1,.cons _ t=>Vals.drop n t
def RelO:Option V→Option Value→Prop
 | some v,some u=>RelV v u
 | none,none=>True
 | _,_=>False
def KV {κ:Type} : List (κ × V)→List (κ × Value)→Prop:=Paired fun (p:κ × V) (q:κ × Value)=>p.1=q.1∧RelV p.2 q.2

def kV:Key→V
 | .inl i=>.int i
 | .inr x=>.str x

inductive HO where
  | lst (xs:List V)
  | tup (xs:List V)
  | dK (kvs:List (Key × V)) | dT (kvs:List (List Key × V))
  | set (S:Int→Bool) (n:Nat)
  | ins (C dx:Addr) (fs:List (Str × V))
  | own (x:Addr)
  | xd (fs:List (Str × V))
  | met (f x:Addr)
  | rng (lo hi:Int)
  | frz (o:Obj) (u:HO)
  | tbl (ps:Array Value)
  | ext (φ:Heap→Prop)

abbrev Hp:=Addr→Option HO
def upd (H:Hp) (a:Addr) (o:HO) : Hp:=fun b=>if b=a then some o else H b
theorem upd_same {H:Hp} {a:Addr} {o:HO} : upd H a o a=some o:=by unfold upd; rw [if_pos rfl]
theorem upd_ne {H:Hp} {a b:Addr} {o:HO} (h:b≠a) : upd H a o b=H b:=by unfold upd; rw [if_neg h]
theorem ne_of {H:Hp} {a b:Addr} {o u:HO} (h:H a=some o) (h':H b=some u) (d:o≠u) : a≠b:=by
 intro e; subst e; rw [h] at h'; exact d (Option.some.inj h')
theorem ne_of_none {H:Hp} {a b:Addr} {o:HO} (h:H a=some o) (h':H b=none) : a≠b:=by
 intro e; subst e; rw [h] at h'; cases h'

section
variable (P:Program) (w:World)
def ObjOk (H:Hp) (h:Heap) (a:Addr) : HO→Prop
 | .lst xs=>xs.length≤sizeLine∧∃ (its:List Value) (n:Nat),Vals xs its∧h.get? a=some { cls:=.type "list",data:=.seq its.toArray n }
 | .tup xs=>xs.length≤sizeLine∧∃ its:List Value,Vals xs its∧IsTup h a its.toArray
 | .dK kvs=>kvs.length≤sizeLine∧(a == sysModules)=false∧∃ vs,KV kvs vs∧h.DictOf (mixKind P w) a vs
 | .dT kvs=>kvs.length≤sizeLine∧(a == sysModules)=false∧∃ xs:List (List Key × Addr × Value),
   Paired (fun (p:List Key × V) (q:List Key × Addr × Value)=>p.1=q.1∧H q.2.1=some (.tup (p.1.map kV))∧RelV p.2 q.2.2) kvs xs ∧
   ∃ o es ep,h.get? a=some o∧o.ExactDict∧o.data = .dict es ep∧es.toList=xs.map (entryOfKey (tupleKind (mixKind P w)))∧(xs.map (·.1)).Nodup
 | .set S n=>h.SetOf (intKind P w) a S n
 | .ins C dx fs=>H dx=some (.own a)∧fs.length≤1000∧dx≠a∧h.get? a=some (PySem.W.instObj C dx) ∧
   ∃ mA,h.Ns1 dx mA∧(∀ f,RelO (fs.lookup f) (mA f))∧PySem.Within mA (fs.map (·.1))
 | .own _=>∃ o,h.get? a=some o
 | .xd fs=>∃ mA,h.Ns1 a mA∧∀ f,RelO (fs.lookup f) (mA f)
 | .rng lo hi=>∃ t u v,h.get? a=some { cls:=.type "range",data:=.fields #[.int lo t,.int hi u,.int 1 v] }
 | .frz o u=>h.get? a=some o∧ObjOk H h a u
 | .tbl ps=>h.get? a=some { cls:=.none,data:=.fields ps }
 | .met f x=>h.get? a=some (PySem.W.methodObj (.ref f) (.ref x))
 | .ext φ=>φ h∧(∃ o,h.get? a=some o)∧∀ h1 h2:Heap,φ h1→(∀ o,h1.get? a=some o→h2.get? a=some o)→φ h2
def HOk (H:Hp) (h:Heap) : Prop:=∀ a o,H a=some o→ObjOk P w H h a o
end

section
variable {P:Program} {w:World} {H H':Hp} {h h':Heap} {a:Addr} {o:HO}
theorem ObjOk.lt (x:ObjOk P w H h a o) : a < h.objs.size:=by
 cases o with
 | lst xs=>obtain ⟨_,_,_,_,e⟩:=x; exact Heap.lt_size e
 | tup xs=>obtain ⟨_,_,_,p⟩:=x; exact p.lt
 | dK kvs=>obtain ⟨_,_,_,_,o,_,_,e,_⟩:=x; exact Heap.lt_size e
 | dT kvs=>obtain ⟨_,_,_,_,o,_,_,e,_⟩:=x; exact Heap.lt_size e
 | set S n=>obtain ⟨o,_,_,_,e,_⟩:=x; exact Heap.lt_size e
 | ins C dx fs=>obtain ⟨_,_,_,e,_⟩:=x; exact Heap.lt_size e
 | own y=>obtain ⟨_,e⟩:=x; exact Heap.lt_size e
 | xd fs=>obtain ⟨_,⟨_,_,_,e,_⟩,_⟩:=x; exact Heap.lt_size e
 | rng lo hi=>obtain ⟨_,_,_,e⟩:=x; exact Heap.lt_size e
 | frz ob u=>obtain ⟨e,_⟩:=x; exact Heap.lt_size e
 | tbl ps=>exact Heap.lt_size (show h.get? a=some _ from x)
 | met f y=>exact Heap.lt_size (show h.get? a=some _ from x)
 | ext φ=>obtain ⟨_,⟨_,e⟩,_⟩:=x; exact Heap.lt_size e
theorem Paired.mapP {α β:Type} {F G:α→β→Prop} : ∀ {l₁:List α} {l₂:List β},Paired F l₁ l₂→(∀ a b,F a b→G a b)→Paired G l₁ l₂
 | _,_,.nil,_=>.nil
 | _,_,.cons r t,f=>.cons (f _ _ r) (Paired.mapP t f)
theorem ObjOk.stay (x:ObjOk P w H h a o) (k:∀ b u,(b=a∨H b=some (.own a))→h.get? b=some u→h'.get? b=some u)
  (ho:∀ b,H b=some (.own a)→H' b=some (.own a)) (ht:∀ b xs,H b=some (.tup xs)→H' b=some (.tup xs)) : ObjOk P w H' h' a o:=by
 induction o with
 | lst xs=>obtain ⟨z,its,n,r,e⟩:=x; exact ⟨z,its,n,r,k _ _ (.inl rfl) e⟩
 | tup xs=>obtain ⟨z,its,r,ob,e,c⟩:=x; exact ⟨z,its,r,ob,k _ _ (.inl rfl) e,c⟩
 | dK kvs=>obtain ⟨z,y,vs,r,ob,es,ep,e,c⟩:=x; exact ⟨z,y,vs,r,ob,es,ep,k _ _ (.inl rfl) e,c⟩
 | dT kvs =>
  obtain ⟨z,y,xs,r,ob,es,ep,e,c⟩:=x
  exact ⟨z,y,xs,Paired.mapP r fun p q z=>⟨z.1,ht _ _ z.2.1,z.2.2⟩,ob,es,ep,k _ _ (.inl rfl) e,c⟩
 | set S n=>obtain ⟨ob,es,ep,t,e,c⟩:=x; exact ⟨ob,es,ep,t,k _ _ (.inl rfl) e,c⟩
 | ins C dx fs =>
  obtain ⟨d,z,ne,e,mA,⟨od,es,ep,e2,c⟩,r⟩:=x
  exact ⟨ho _ d,z,ne,k _ _ (.inl rfl) e,mA,⟨od,es,ep,k _ _ (.inr d) e2,c⟩,r⟩
 | own y=>obtain ⟨ob,e⟩:=x; exact ⟨ob,k _ _ (.inl rfl) e⟩
 | xd fs=>obtain ⟨mA,⟨od,es,ep,e,c⟩,r⟩:=x; exact ⟨mA,⟨od,es,ep,k _ _ (.inl rfl) e,c⟩,r⟩
 | rng lo hi=>obtain ⟨t,u,v,e⟩:=x; exact ⟨t,u,v,k _ _ (.inl rfl) e⟩
 | frz ob u ih=>obtain ⟨e,q⟩:=x; exact ⟨k _ _ (.inl rfl) e,ih q⟩
 | tbl ps =>
  have e:h.get? a=some { cls:=.none,data:=.fields ps }:=x
  show h'.get? a=some { cls:=.none,data:=.fields ps }
  exact k a _ (.inl rfl) e
 | met f y =>
  have e:h.get? a=some (PySem.W.methodObj (.ref f) (.ref y)):=x
  show h'.get? a=some (PySem.W.methodObj (.ref f) (.ref y))
  exact k a _ (.inl rfl) e
 | ext φ=>obtain ⟨p,⟨o,e⟩,st⟩:=x; exact ⟨st _ _ p fun o q=>k _ _ (.inl rfl) q,⟨o,k _ _ (.inl rfl) e⟩,st⟩
theorem HOk.lt (x:HOk P w H h) (e:H a=some o) : a < h.objs.size:=(x a o e).lt
theorem HOk.fresh (x:HOk P w H h) (e:h.objs.size≤a) : H a=none:=by
 cases q:H a with
 | none=>rfl
 | some u=>exact absurd (Nat.lt_of_lt_of_le (x.lt q) e) (Nat.lt_irrefl _)
theorem HOk.kept (x:HOk P w H h) (k:∀ b u,h.get? b=some u→h'.get? b=some u) : HOk P w H h':=fun a o e =>
 (x a o e).stay (fun b u _ q=>k b u q) (fun _ q=>q) fun _ _ q=>q
theorem HOk.laid (x:HOk P w H h) (k:∀ b u,h.get? b=some u→h'.get? b=some u) (hp:h.objs.size≤a) (new:ObjOk P w (upd H a o) h' a o) : HOk P w (upd H a o) h':=fun b u e=>by
 have hn:=x.fresh hp
 by_cases hb:b=a
 ·subst hb; rw [upd_same] at e; cases e; exact new
 ·rw [upd_ne hb] at e
  exact (x b u e).stay (fun c v _ q=>k c v q) (fun c q=>by rw [upd_ne (ne_of_none q hn)]; exact q) fun c xs q=>by rw [upd_ne (ne_of_none q hn)]; exact q
end

def Rd (H:Hp) (a:Addr) (u:HO) : Prop:=H a=some u∨∃ o,H a=some (.frz o u)
theorem Rd.ok {P:Program} {w:World} {H:Hp} {h:Heap} {a:Addr} {u:HO} (r:Rd H a u) (x:HOk P w H h) : ObjOk P w H h a u:=by
 rcases r with r | ⟨o,r⟩
 ·exact x a u r
 ·obtain ⟨_,q⟩:=x a _ r
  exact q
def Mut:Option HO→Prop
 | some (.lst _)=>True
 | some (.dK _)=>True
 | some (.dT _)=>True
 | some (.set _ _)=>True
 | some (.ins _ _ _)=>True
 | some (.ext _)=>True
 | _=>False
section
variable {P:Program} {w:World} {H:Hp} {h h':Heap} {x e:Addr} {o':HO}
theorem HOk.write (ok:HOk P w H h) (mu:Mut (H x)) (he:e=x∨H e=some (.own x)) (k:∀ b u,b≠e→h.get? b=some u→h'.get? b=some u) (heo:∃ u,h'.get? e=some u)
  (new:ObjOk P w (upd H x o') h' x o') : HOk P w (upd H x o') h':=fun b u q=>by
 have nown:∀ c y,H c=some (.own y)→c≠x:=fun c y r z=>by subst z; rw [r] at mu; exact mu
 have ntup:∀ c xs,H c=some (.tup xs)→c≠x:=fun c xs r z=>by subst z; rw [r] at mu; exact mu
 by_cases hb:b=x
 ·subst hb; rw [upd_same] at q; cases q; exact new
 ·rw [upd_ne hb] at q
  by_cases hbe:b=e
  ·have q':H b=some (.own x):=by
    rcases he with z | z
    ·exact absurd (hbe.trans z) hb
    ·rw [hbe]; exact z
   rw [q] at q'; cases q'
   obtain ⟨v,hv⟩:=heo
   exact ⟨v,by rw [hbe]; exact hv⟩
  ·refine (ok b u q).stay (fun c v hc r=>k c v ?_ r) (fun c r=>by rw [upd_ne (nown c b r)]; exact r) fun c xs r=>by rw [upd_ne (ntup c xs r)]; exact r
   rcases hc with rfl | hc
   ·exact hbe
   ·rintro rfl
    rcases he with z | z
    ·exact nown c b hc z
    ·rw [hc] at z; cases z; exact hb rfl
end

structure Un (fs ex:List Addr) (H H':Hp) (h h':Heap) : Prop where
 keep:∀ b o,h.get? b=some o→H b=none→b ∉ fs→b ∉ ex→h'.get? b=some o
 slot:∀ b o,h.get? b=some o→H b=none→b ∈ fs→b ∉ ex→∃ sl,h'.get? b=some { o with slots:=sl }
 free:∀ b o,h.get? b=some o→H b=none→b ∉ ex→H' b=none
 there:∀ b o,h.get? b=some o→b ∉ ex→∃ o',h'.get? b=some o'
 tups:∀ b xs,H b=some (.tup xs)→H' b=some (.tup xs)
 frzs:∀ b o u,H b=some (.frz o u)→H' b=some (.frz o u)
 tbls:∀ b ps,H b=some (.tbl ps)→∃ more,H' b=some (.tbl (ps++more))
section
variable {fs fs' ex ex':List Addr} {H H1 H2:Hp} {h h1 h2 h':Heap} {a x e:Addr} {o:HO}
theorem Un.any (u:Un fs ex H H1 h h1) {b:Addr} {ob:Obj} (q:h.get? b=some ob) (n:H b=none) (hx:b ∉ ex) : ∃ sl,h1.get? b=some { ob with slots:=sl }:=by
 by_cases hb:b ∈ fs
 ·exact u.slot b ob q n hb hx
 ·exact ⟨ob.slots,u.keep b ob q n hb hx⟩
theorem Un.trans (a:Un fs ex H H1 h h1) (b:Un fs ex H1 H2 h1 h2) : Un fs ex H H2 h h2 where
 keep:=fun c ob q n hc hx=>b.keep c ob (a.keep c ob q n hc hx) (a.free c ob q n hx) hc hx
 slot:=fun c ob q n hc hx=>by
  obtain ⟨sl,e1⟩:=a.slot c ob q n hc hx
  obtain ⟨sl',e2⟩:=b.slot c _ e1 (a.free c ob q n hx) hc hx
  exact ⟨sl',e2⟩
 free:=fun c ob q n hx=>by
  obtain ⟨o',e1⟩:=a.there c ob q hx
  exact b.free c o' e1 (a.free c ob q n hx) hx
 there:=fun c ob q hx=>by
  obtain ⟨o',e1⟩:=a.there c ob q hx
  exact b.there c o' e1 hx
 tups:=fun c xs q=>b.tups c xs (a.tups c xs q)
 frzs:=fun c ob xs q=>b.frzs c ob xs (a.frzs c ob xs q)
 tbls:=fun c ps q=>by
  obtain ⟨m1,e1⟩:=a.tbls c ps q
  obtain ⟨m2,e2⟩:=b.tbls c _ e1
  exact ⟨m1++m2,by rw [e2,Array.append_assoc]⟩
theorem Un.kept (k:∀ b u,h.get? b=some u→h'.get? b=some u) : Un fs ex H H h h':=
 ⟨fun b ob q _ _ _=>k b ob q,fun b ob q _ _ _=>⟨ob.slots,k b ob q⟩,fun _ _ _ n _=>n,fun b ob q _=>⟨ob,k b ob q⟩,fun _ _ q=>q,fun _ _ _ q=>q,fun _ ps q=>⟨#[],by rw [q]; simp⟩⟩
theorem Un.refl:Un fs ex H H h h:=Un.kept fun _ _ q=>q
theorem Un.laid (k:∀ b u,h.get? b=some u→h'.get? b=some u) (hp:h.objs.size≤a) (hn:H a=none) : Un fs ex H (upd H a o) h h' where
 keep:=fun b u q _ _ _=>k b u q
 slot:=fun b u q _ _ _=>⟨u.slots,k b u q⟩
 free:=fun b u q n _=>by rw [upd_ne (Nat.ne_of_lt (Nat.lt_of_lt_of_le (Heap.lt_size q) hp))]; exact n
 there:=fun b u q _=>⟨u,k b u q⟩
 tups:=fun b xs q=>by rw [upd_ne (ne_of_none q hn)]; exact q
 frzs:=fun b u xs q=>by rw [upd_ne (ne_of_none q hn)]; exact q
 tbls:=fun b ps q=>⟨#[],by rw [upd_ne (ne_of_none q hn),q]; simp⟩
theorem Un.write (mu:Mut (H x)) (he:e=x∨H e=some (.own x)) (k:∀ b u,b≠e→h.get? b=some u→h'.get? b=some u) (heo:∃ u,h'.get? e=some u) : Un fs ex H (upd H x o) h h':=by
 have hx:∀ b,H b=none→b≠x:=fun b n z=>by subst z; rw [n] at mu; exact mu
 have hb:∀ b,H b=none→b≠e:=fun b n z=>by
  subst z
  rcases he with r | r
  ·exact hx b n r
  ·rw [n] at r; cases r
 have hm:∀ b u,H b=some u→¬ Mut (some u)→b≠x:=fun b u q nm z=>by subst z; rw [q] at mu; exact nm mu
 refine ⟨fun b u q n _ _=>k b u (hb b n) q,fun b u q n _ _=>⟨u.slots,k b u (hb b n) q⟩,fun b u q n _=>by rw [upd_ne (hx b n)]; exact n,fun b u q _=>?_,
  fun b xs q=>by rw [upd_ne (hm b _ q fun z=>z)]; exact q,fun b u xs q=>by rw [upd_ne (hm b _ q fun z=>z)]; exact q,fun b ps q=>⟨#[],by rw [upd_ne (hm b _ q fun z=>z),q]; simp⟩⟩
 by_cases hbe:b=e
 ·subst hbe; exact heo
 ·exact ⟨u,k b u hbe q⟩
end

def trk (h:Heap) (H:Hp) : List Addr:=(List.range h.objs.size).filter fun a=>(H a).isSome
def hidT (h:Heap) (H:Hp) : Heap:=PySem.W.hideAll h (trk h H)
theorem hidT_size (h:Heap) (H:Hp) : (hidT h H).objs.size=h.objs.size:=PySem.W.hideAll_size _ _
theorem hidT_get {h:Heap} {H:Hp} {b:Addr} {o:Obj} (e:h.get? b=some o) (n:H b=none) : (hidT h H).get? b=some o:=
 PySem.W.hideAll_get _ e fun hm=>by
  have q:(H b).isSome=true:=(List.mem_filter.mp hm).2
  rw [n] at q; simp at q
theorem of_hidT {h:Heap} {H:Hp} {b:Addr} {o:Obj} (e:(hidT h H).get? b=some o) : h.get? b=some o∧H b=none:=by
 have e':h.get? b=some o:=PySem.W.of_hideAll (trk h H) e
 refine ⟨e',?_⟩
 cases q:H b with
 | none=>rfl
 | some x =>
  have hm:b ∈ trk h H:=List.mem_filter.mpr ⟨List.mem_range.mpr (Heap.lt_size e'),by simp [q]⟩
  have z:(hidT h H).get? b=none:=PySem.W.hideAll_none (trk h H) hm
  rw [z] at e; cases e

def allNews (g h:Heap) (L:Addr) : List (Addr × Obj):=(List.range h.objs.size).filterMap fun a=>if a=L∨(g.get? a).isSome=true then none else (h.get? a).map fun o=>(a,o)
def rest (g h:Heap) (L d:Addr) : List (Addr × Obj):=(allNews g h L).filter fun p=>decide (p.1≠d)

structure Mod (K:PySem.W.Frag) (mg:Str→Option Value) (base:Heap) : Prop where
 kin:K.In base
 glob:base.Ns mainGlobals mg
 blt:∃ mb,base.Ns builtinsNs mb∧∀ x:Str,x≠"__name__"→mb x=bootBuiltins x
 nolimit:base.NoLimit

structure Cx where
 prog:Program
 w:World
 K:PySem.W.Frag
 mg:Str→Option Value
 base:Heap
 A:Around
 N:List Str
 s₀:Shared
 H₀:Hp
 env:Env
 outer:List Env
 stack:List Env
 ex:List Addr
 fn:Str→Bool
 calm:Bool
 pn:List (Addr × Obj)
 xe:Value→Shared→Prop
def frs (l:List Env) : List Addr:=l.filterMap (·.frame)
abbrev Cx.fs (X:Cx) : List Addr:=frs X.outer

def Vis (sc:Scope) (x:Str) : Prop:=sc.names.lookup x=some .local∨sc.names.lookup x=some .cell∨sc.names.lookup x=some .free
def Loc (sc:Scope) (x:Str) : Prop:=sc.names.lookup x=some .local∨sc.names.lookup x=some .cell
def Look (env:Env) (h:Heap) (m:Str→Option Value) (x:Str) (u:Value) : Prop:=
 (env.kindOf x=some .local∧m x=some u)∨((env.kindOf x=some .cell∨env.kindOf x=some .free)∧∃ c,env.cells.lookup x=some c∧h.IsCell c (some u))

structure Cx.Ok (X:Cx) : Prop where
 mod:Mod X.K X.mg X.base
 kind:X.env.scope.kind = .function
 glob:X.env.globals=mainGlobals
 blt:X.env.builtins=builtinsNs
 above:X.s₀.heap.objs.size≤X.env.locals
 inj:∀ x y c,X.env.cells.lookup x=some c→X.env.cells.lookup y=some c→x=y
 has:∀ x,(X.env.kindOf x=some .cell∨X.env.kindOf x=some .free)→∃ c,X.env.cells.lookup x=some c
 cab:∀ x c,X.fn x=true→X.env.cells.lookup x=some c→X.s₀.heap.objs.size≤c
 hd:X.calm=true→X.A.handled=none
 frames:X.A.frames=some X.stack
 stk:X.stack=X.outer∨(X.stack=X.env :: X.outer∧X.env.frame=some X.env.locals)
 exf:∀ b ∈ X.ex,b≠X.env.locals∧∀ x c,X.env.cells.lookup x=some c→c≠b
 bs:∀ b o,X.base.get? b=some o→X.s₀.heap.get? b=some o∧X.H₀ b=none
 bsz:X.base.objs.size≤X.s₀.heap.objs.size
 noex:∀ b o,X.base.get? b=some o→b ∉ X.ex
 exfs:∀ b ∈ X.ex,b ∉ X.fs
 funs:X.s₀.heap.FunFrames X.base X.outer
 frf:∀ b ∈ X.fs,X.H₀ b=none

structure Inv (X:Cx) (pins:List (Addr × Obj)) (σ:List (Option V)) (H:Hp) (s:Shared) : Prop where
 ok:X.Ok
 os:s.os=X.s₀.os
 bare:AllBare s.gens
 base:Un X.fs X.ex X.H₀ H X.s₀.heap s.heap
 loc:∃ m,s.heap.Ns X.env.locals m∧∀ (i:Nat) (x:Str) (v:V),X.N[i]? = some x→σ[i]? = some (some v)→Vis X.env.scope x→∃ u,RelV v u∧Look X.env s.heap m x u
 cell:∀ x c,X.env.cells.lookup x=some c→∃ v,s.heap.IsCell c v
 free:H X.env.locals=none
 freeC:∀ x c,X.env.cells.lookup x=some c→H c=none
 pin:∀ p ∈ X.pn++pins,s.heap.get? p.1=some p.2∧H p.1=none∧p.1≠X.env.locals∧p.1 ∉ X.fs∧∀ v,p.2.data≠.cell v
 hok:HOk X.prog X.w H s.heap
 len:σ.length=X.N.length

section
variable {X:Cx} {pins:List (Addr × Obj)} {σ:List (Option V)} {H H':Hp} {s:Shared} {h':Heap}

theorem Cx.Ok.nofr (ok:X.Ok) {b:Addr} {o:Obj} (e:X.base.get? b=some o) : b ∉ X.fs:=fun hb=>by
 have:=(ok.funs.mem hb).1
 rw [e] at this; cases this
theorem Inv.bs (I:Inv X pins σ H s) : ∀ b o,X.base.get? b=some o→s.heap.get? b=some o∧H b=none:=fun b o e =>
 ⟨I.base.keep b o (I.ok.bs b o e).1 (I.ok.bs b o e).2 (I.ok.nofr e) (I.ok.noex b o e),I.base.free b o (I.ok.bs b o e).1 (I.ok.bs b o e).2 (I.ok.noex b o e)⟩
theorem Inv.bk (I:Inv X pins σ H s) : ∀ b o,X.base.get? b=some o→s.heap.get? b=some o:=fun b o e=>(I.bs b o e).1
theorem Inv.mod (I:Inv X pins σ H s) : Mod X.K X.mg X.base:=I.ok.mod
theorem Inv.kIn (I:Inv X pins σ H s) : X.K.In s.heap:=I.ok.mod.kin.keeps I.bk
theorem Inv.lt (I:Inv X pins σ H s) : X.env.locals < s.heap.objs.size:=let ⟨_,hn,_⟩:=I.loc; hn.lt
theorem Inv.sz (I:Inv X pins σ H s) : X.s₀.heap.objs.size≤s.heap.objs.size:=Nat.le_trans I.ok.above (Nat.le_of_lt I.lt)
theorem Inv.nofs (I:Inv X pins σ H s) {a:Addr} (h:s.heap.objs.size≤a) : a ∉ X.fs:=fun hb=>by
 obtain ⟨_,o,ho,_⟩:=I.ok.funs.mem hb
 exact absurd (Nat.lt_of_lt_of_le (Heap.lt_size ho) (Nat.le_trans I.sz h)) (Nat.lt_irrefl _)
theorem Inv.cne (I:Inv X pins σ H s) : ∀ x c,X.env.cells.lookup x=some c→c≠X.env.locals:=fun x c e z=>by
 obtain ⟨v,o,ho,hd⟩:=I.cell x c e
 obtain ⟨m,⟨o',es,ep,ho',hd',_⟩,_⟩:=I.loc
 rw [z,ho'] at ho; cases ho; rw [hd'] at hd; cases hd
theorem Inv.funs (I:Inv X pins σ H s) : s.heap.FunFrames X.base X.outer:=by
 have all:∀ (l:List Env),(∀ b ∈ frs l,b ∈ X.fs)→X.s₀.heap.FunFrames X.base l→s.heap.FunFrames X.base l:=by
  intro l
  induction l with
  | nil=>intro _ _; trivial
  | cons env r ih =>
   intro hs hl
   obtain ⟨hk,⟨L,o,hf,hn,ho,hd⟩,hr⟩:=hl
   have hL:L ∈ X.fs:=hs L (by unfold frs; rw [List.filterMap_cons,hf]; exact List.mem_cons_self)
   obtain ⟨sl,e⟩:=I.base.slot L o ho (I.ok.frf L hL) hL fun z=>I.ok.exfs L z hL
   exact ⟨hk,⟨L,_,hf,hn,e,hd⟩,ih (fun b hb=>hs b (by unfold frs; rw [List.filterMap_cons,hf]; exact List.mem_cons_of_mem _ hb)) hr⟩
 exact all X.outer (fun _ hb=>hb) I.ok.funs

theorem Inv.stack (I:Inv X pins σ H s) : s.heap.FunFrames X.base X.stack:=by
 rcases I.ok.stk with e | ⟨e,hf⟩
 ·rw [e]; exact I.funs
 ·rw [e]
  obtain ⟨m,hn,_⟩:=I.loc
  refine .cons (by rw [I.ok.kind]; decide) hf hn ?_ I.funs
  exact Heap.get?_none_of_le (Nat.le_trans I.ok.bsz I.ok.above)
theorem Inv.stkSub (I:Inv X pins σ H s) : ∀ b ∈ frs X.stack,b ∈ X.env.locals :: X.fs:=fun b hb=>by
 rcases I.ok.stk with e | ⟨e,hf⟩
 ·rw [e] at hb; exact List.mem_cons_of_mem _ hb
 ·rw [e] at hb
  unfold frs at hb
  rw [List.filterMap_cons,hf] at hb
  exact hb
theorem Inv.stkFree (I:Inv X pins σ H s) : ∀ b ∈ frs X.stack,H b=none:=fun b hb=>by
 rcases List.mem_cons.mp (I.stkSub b hb) with e | hb
 ·rw [e]; exact I.free
 ·obtain ⟨_,o,ho,_⟩:=I.ok.funs.mem hb
  exact I.base.free b o ho (I.ok.frf b hb) fun z=>I.ok.exfs b z hb

theorem Inv.step {g':Array GenState} {t':Nat} {d':Drawn} {ch:List Addr} (I:Inv X pins σ H s)
  (hch:∀ b ∈ ch,(b ∈ X.ex∨X.s₀.heap.objs.size≤b)∧b≠X.env.locals∧(∀ x c,X.env.cells.lookup x=some c→c≠b)∧∀ p ∈ X.pn++pins,p.1≠b)
  (keep:∀ b o,b≠X.env.locals→b ∉ X.fs→b ∉ ch→s.heap.get? b=some o→H b=none→h'.get? b=some o)
  (slot:∀ b o,b≠X.env.locals→b ∈ X.fs→b ∉ ch→s.heap.get? b=some o→H b=none→∃ sl,h'.get? b=some { o with slots:=sl }) (free:∀ b o,b ∉ ch→s.heap.get? b=some o→H b=none→H' b=none)
  (there:∀ b o,b ∉ ch→s.heap.get? b=some o→∃ o',h'.get? b=some o')
  (tups:∀ b xs,H b=some (.tup xs)→H' b=some (.tup xs)) (frzs:∀ b o u,H b=some (.frz o u)→H' b=some (.frz o u)) (tbls:∀ b ps,H b=some (.tbl ps)→∃ more,H' b=some (.tbl (ps++more)))
  (ns:∀ m,s.heap.Ns X.env.locals m→h'.Ns X.env.locals m) (hok:HOk X.prog X.w H' h') (hg:AllBare g') :
  Inv X pins σ H' { s with heap:=h',gens:=g',drawn:=d',toks:=t' }:=by
 have neL:∀ b o,X.s₀.heap.get? b=some o→b≠X.env.locals:=fun b o e=>Nat.ne_of_lt (Nat.lt_of_lt_of_le (Heap.lt_size e) I.ok.above)
 have neC:∀ b o,X.s₀.heap.get? b=some o→b ∉ X.ex→b ∉ ch:=fun b o e hx hb=>by
  rcases (hch b hb).1 with z | z
  ·exact hx z
  ·exact absurd (Nat.lt_of_lt_of_le (Heap.lt_size e) z) (Nat.lt_irrefl _)
 have cellK:∀ x c,X.env.cells.lookup x=some c→∀ v,s.heap.IsCell c v→h'.IsCell c v:=fun x c e v ⟨o,ho,hd⟩=>by
  have nch:c ∉ ch:=fun z=>(hch c z).2.2.1 x c e rfl
  by_cases hc:c ∈ X.fs
  ·obtain ⟨sl,q⟩:=slot c o (I.cne x c e) hc nch ho (I.freeC x c e)
   exact ⟨_,q,hd⟩
  ·exact ⟨o,keep c o (I.cne x c e) hc nch ho (I.freeC x c e),hd⟩
 refine ⟨I.ok,I.os,hg,⟨fun b o e n hb hx=>?_,fun b o e n hb hx=>?_,fun b o e n hx=>?_,fun b o e hx=>?_,fun b xs e=>tups b xs (I.base.tups b xs e),fun b o xs e=>frzs b o xs (I.base.frzs b o xs e),fun b ps e=>?_⟩,?_,fun x c e=>?_,?_,fun x c e=>?_,fun p hp=>?_,hok,I.len⟩
 ·exact keep b o (neL b o e) hb (neC b o e hx) (I.base.keep b o e n hb hx) (I.base.free b o e n hx)
 ·obtain ⟨sl,e1⟩:=I.base.slot b o e n hb hx
  obtain ⟨sl',e2⟩:=slot b _ (neL b o e) hb (neC b o e hx) e1 (I.base.free b o e n hx)
  exact ⟨sl',e2⟩
 ·obtain ⟨o',e1⟩:=I.base.there b o e hx
  exact free b o' (neC b o e hx) e1 (I.base.free b o e n hx)
 ·obtain ⟨o',e1⟩:=I.base.there b o e hx
  exact there b o' (neC b o e hx) e1
 ·obtain ⟨m1,e1⟩:=I.base.tbls b ps e
  obtain ⟨m2,e2⟩:=tbls b _ e1
  exact ⟨m1++m2,by rw [e2,Array.append_assoc]⟩
 ·obtain ⟨m,hn,hl⟩:=I.loc
  refine ⟨m,ns m hn,fun i x v e1 e2 e3=>?_⟩
  obtain ⟨u,r,l⟩:=hl i x v e1 e2 e3
  refine ⟨u,r,?_⟩
  rcases l with l | ⟨k,c,e,z⟩
  ·exact .inl l
  ·exact .inr ⟨k,c,e,cellK x c e _ z⟩
 ·obtain ⟨v,z⟩:=I.cell x c e
  exact ⟨v,cellK x c e v z⟩
 ·obtain ⟨m,⟨o,_,_,ho,_⟩,_⟩:=I.loc
  exact free _ o (fun z=>(hch _ z).2.1 rfl) ho I.free
 ·obtain ⟨v,o,ho,hd⟩:=I.cell x c e
  exact free c o (fun z=>(hch c z).2.2.1 x c e rfl) ho (I.freeC x c e)
 ·obtain ⟨e,n,ne,nf,d⟩:=I.pin p hp
  have nch:p.1 ∉ ch:=fun z=>(hch p.1 z).2.2.2 p hp rfl
  exact ⟨keep p.1 p.2 ne nf nch e n,free p.1 p.2 nch e n,ne,nf,d⟩
theorem Inv.un {t':Nat} (I:Inv X pins σ H s) (u:Un X.fs [] H H' s.heap h') (hok:HOk X.prog X.w H' h') : Inv X pins σ H' { s with heap:=h',toks:=t' }:=by
 obtain ⟨m,⟨o,es,ep,ho,r⟩,_⟩:=id I.loc
 obtain ⟨sl,hL⟩:=u.any ho I.free (by simp)
 exact I.step (g':=s.gens) (d':=s.drawn) (ch:=[]) (fun _ z=>nomatch z) (fun b o _ hb _ e n=>u.keep b o e n hb (by simp)) (fun b o _ hb _ e n=>u.slot b o e n hb (by simp)) (fun b o _ e n=>u.free b o e n (by simp)) (fun b o _ e=>u.there b o e (by simp)) u.tups u.frzs u.tbls (fun m' hm=>by
  obtain ⟨o',es',ep',ho',r'⟩:=hm
  rw [ho] at ho'; cases ho'
  exact ⟨_,es',ep',hL,r'⟩) hok I.bare
theorem Inv.call {g':Array GenState} {t':Nat} {d':Drawn} {ch:List Addr} (I:Inv X pins σ H s) (u:Un (frs X.stack) ch H H' s.heap h') (hok:HOk X.prog X.w H' h') (hg:AllBare g')
  (hch:∀ b ∈ ch,(b ∈ X.ex∨X.s₀.heap.objs.size≤b)∧b≠X.env.locals∧(∀ x c,X.env.cells.lookup x=some c→c≠b)∧∀ p ∈ X.pn++pins,p.1≠b) :
  Inv X pins σ H' { s with heap:=h',gens:=g',drawn:=d',toks:=t' }:=by
 obtain ⟨m,⟨o,es,ep,ho,r⟩,_⟩:=id I.loc
 obtain ⟨sl,hL⟩:=u.any ho I.free fun z=>(hch _ z).2.1 rfl
 exact I.step (ch:=ch) hch (fun b o hL hb hc e n=>u.keep b o e n (fun z=>(List.mem_cons.mp (I.stkSub b z)).elim hL hb) hc) (fun b o _ _ hc e n=>u.any e n hc) (fun b o hc e n=>u.free b o e n hc) (fun b o hc e=>u.there b o e hc) u.tups u.frzs u.tbls (fun m' hm=>by
  obtain ⟨o',es',ep',ho',r'⟩:=hm
  rw [ho] at ho'; cases ho'
  exact ⟨_,es',ep',hL,r'⟩) hok hg
theorem Inv.turned {t':Nat} {it:Addr} (I:Inv X pins σ H s) (k:∀ b o,b≠it→s.heap.get? b=some o→h'.get? b=some o) (hn:H it=none) (hL:it≠X.env.locals)
  (h1:it ∈ X.ex∨X.s₀.heap.objs.size≤it) (h2:∀ x c,X.env.cells.lookup x=some c→c≠it) (h3:∀ p ∈ X.pn++pins,p.1≠it) : Inv X pins σ H { s with heap:=h',toks:=t' }:=by
 have nit:∀ b u,H b=some u→b≠it:=fun b u e z=>by rw [z,hn] at e; cases e
 refine I.step (g':=s.gens) (d':=s.drawn) (ch:=[it]) (fun b hb=>?_) (fun b o _ _ hc e _=>k b o (fun z=>hc (by simp [z])) e) (fun b o _ _ hc e _=>⟨o.slots,k b o (fun z=>hc (by simp [z])) e⟩) (fun _ _ _ _ n=>n)
  (fun b o hc e=>⟨o,k b o (fun z=>hc (by simp [z])) e⟩) (fun _ _ e=>e) (fun _ _ _ e=>e) (fun b ps e=>⟨#[],by rw [e]; simp⟩) (fun m hm=>?_) (fun b u e=>?_) I.bare
 ·have e:b=it:=by simpa using hb
  subst e
  exact ⟨h1,hL,h2,h3⟩
 ·obtain ⟨o,es,ep,ho,r⟩:=hm
  exact ⟨o,es,ep,k _ o (Ne.symm hL) ho,r⟩
 ·refine (I.hok b u e).stay (fun c v hc q=>k c v ?_ q) (fun _ q=>q) fun _ _ q=>q
  rcases hc with z | z
  ·rw [z]; exact nit b u e
  ·exact nit c _ z
theorem Inv.tok (I:Inv X pins σ H s) (t:Nat) : Inv X pins σ H { s with toks:=t }:=I.un (h':=s.heap) (t':=t) Un.refl I.hok
theorem Inv.kept {t':Nat} (I:Inv X pins σ H s) (k:∀ b u,s.heap.get? b=some u→h'.get? b=some u) : Inv X pins σ H { s with heap:=h',toks:=t' }:=I.un (Un.kept k) (I.hok.kept k)
theorem Inv.laid {a:Addr} {o:HO} {t':Nat} (I:Inv X pins σ H s) (k:∀ b u,s.heap.get? b=some u→h'.get? b=some u) (hp:s.heap.objs.size≤a) (new:ObjOk X.prog X.w (upd H a o) h' a o) :
  Inv X pins σ (upd H a o) { s with heap:=h',toks:=t' }:=I.un (Un.laid k hp (I.hok.fresh hp)) (I.hok.laid k hp new)
theorem Inv.write {x e:Addr} {o:HO} {t':Nat} (I:Inv X pins σ H s) (mu:Mut (H x)) (he:e=x∨H e=some (.own x)) (k:∀ b u,b≠e→s.heap.get? b=some u→h'.get? b=some u) (heo:∃ u,h'.get? e=some u)
  (new:ObjOk X.prog X.w (upd H x o) h' x o) : Inv X pins σ (upd H x o) { s with heap:=h',toks:=t' }:=I.un (Un.write mu he k heo) (I.hok.write mu he k heo new)
theorem Inv.pins_of {pins':List (Addr × Obj)} (I:Inv X pins σ H s) (h:∀ p ∈ pins',s.heap.get? p.1=some p.2∧H p.1=none∧p.1≠X.env.locals∧p.1 ∉ X.fs∧∀ v,p.2.data≠.cell v) : Inv X pins' σ H s:=
 ⟨I.ok,I.os,I.bare,I.base,I.loc,I.cell,I.free,I.freeC,fun p hp=>(List.mem_append.mp hp).elim (fun z=>I.pin p (List.mem_append_left _ z)) (h p),I.hok,I.len⟩

theorem nodup_ix {N:List Str} (hN:N.Nodup) {i j:Nat} {x:Str} (a:N[i]? = some x) (b:N[j]? = some x) : i=j:=by
 obtain ⟨h1,e1⟩:=List.getElem?_eq_some_iff.mp a
 obtain ⟨h2,e2⟩:=List.getElem?_eq_some_iff.mp b
 exact (List.getElem_inj hN).mp (e1.trans e2.symm)

theorem store_ok2 {M:Model} {A:Around} {E:Value→Shared→Prop} {i:Nat} {x:Str} {v:V} {u:Value} {Q:Unit→Shared→Prop} (I:Inv X pins σ H s) (hN:X.N.Nodup) (hi:X.N[i]? = some x) (hx:Loc X.env.scope x) (r:RelV v u)
  (h:∀ s',Inv X pins (σ.set i (some v)) H s'→(∃ a,Heap.SameBut a s.heap s'.heap∧(a=X.env.locals∨X.env.cells.lookup x=some a))→Q () s') (hf:X.fn x=true∨X.env.scope.names.lookup x=some .local:=by first | exact .inl rfl | exact .inr rfl | assumption) : wpAny M A (storeName X.env x u) Q E s:=by
 obtain ⟨m,hn,hl⟩:=id I.loc
 have hcls:(X.env.scope.kind == .class || (X.env.scope.kind == .module && X.env.locals != X.env.globals))=false:=by rw [I.ok.kind]; rfl
 have hiσ:i < σ.length:=by rw [I.len]; exact (List.getElem?_eq_some_iff.mp hi).1
 have cne:=I.cne
 have tracked:∀ {a:Addr} {h':Heap},(∃ o,s.heap.get? a=some o∧H a=none)→Heap.SameBut a s.heap h'→HOk X.prog X.w H h':=fun {a h'} ha hs b ob e=>by
  obtain ⟨_,_,hfree⟩:=ha
  refine (I.hok b ob e).stay (fun c w' hc q=>(hs.2 c ?_).trans q) (fun _ q=>q) fun _ _ q=>q
  rintro rfl
  rcases hc with rfl | hc
  ·rw [hfree] at e; cases e
  ·rw [hfree] at hc; cases hc
 rcases hx with hk | hk
 ·refine wpAny_storeName_local hk hn (fun h' hn' hs=>?_) hcls
  obtain ⟨oL,_,_,hoL,_⟩:=id hn
  refine h _ ⟨I.ok,I.os,I.bare,⟨fun b o e n hb hx=>?_,fun b o e n hb hx=>?_,I.base.free,fun b o e hx=>?_,I.base.tups,I.base.frzs,I.base.tbls⟩,⟨_,hn',fun j y v' e1 e2 e3=>?_⟩,fun y c e=>?_,I.free,I.freeC,fun p hp=>?_,tracked ⟨oL,hoL,I.free⟩ hs,by simpa using I.len⟩ ⟨_,hs,.inl rfl⟩
  ·exact (hs.2 b (Nat.ne_of_lt (Nat.lt_of_lt_of_le (Heap.lt_size e) I.ok.above))).trans (I.base.keep b o e n hb hx)
  ·obtain ⟨sl,e1⟩:=I.base.slot b o e n hb hx
   exact ⟨sl,(hs.2 b (Nat.ne_of_lt (Nat.lt_of_lt_of_le (Heap.lt_size e) I.ok.above))).trans e1⟩
  ·obtain ⟨o',e1⟩:=I.base.there b o e hx
   exact ⟨o',(hs.2 b (Nat.ne_of_lt (Nat.lt_of_lt_of_le (Heap.lt_size e) I.ok.above))).trans e1⟩
  ·by_cases hj:j=i
   ·subst hj
    rw [hi] at e1; cases e1
    rw [List.getElem?_set_self hiσ] at e2
    cases e2
    exact ⟨u,r,.inl ⟨hk,by simp⟩⟩
   ·rw [List.getElem?_set_ne (Ne.symm hj)] at e2
    obtain ⟨u',r',q⟩:=hl j y v' e1 e2 e3
    refine ⟨u',r',?_⟩
    rcases q with ⟨k,e⟩ | ⟨k,c,e,z⟩
    ·refine .inl ⟨k,?_⟩
     have:y≠x:=fun e=>hj (nodup_ix hN e1 (e ▸ hi))
     simp [this,e]
    ·exact .inr ⟨k,c,e,z.sameBut hs (cne y c e)⟩
  ·obtain ⟨w',z⟩:=I.cell y c e
   exact ⟨w',z.sameBut hs (cne y c e)⟩
  ·obtain ⟨e,n,ne,nf,d⟩:=I.pin p hp
   exact ⟨(hs.2 p.1 ne).trans e,n,ne,nf,d⟩
 ·have hfn:X.fn x=true:=by
   rcases hf with z | z
   ·exact z
   ·rw [z] at hk; cases hk
  obtain ⟨c,hc⟩:=I.ok.has x (.inl hk)
  obtain ⟨w',z⟩:=I.cell x c hc
  refine wpAny_storeName_cell I.ok.kind hk hc z (fun h' hc' hs=>?_)
  obtain ⟨oc,hoc,hocd⟩:=id z
  refine h { s with heap:=h' } ⟨I.ok,I.os,I.bare,⟨fun b o e n hb hx=>?_,fun b o e n hb hx=>?_,I.base.free,fun b o e hx=>?_,I.base.tups,I.base.frzs,I.base.tbls⟩,⟨m,hn.sameBut hs (Ne.symm (cne x c hc)),fun j y v' e1 e2 e3=>?_⟩,fun y c' e=>?_,I.free,I.freeC,fun p hp=>?_,tracked ⟨oc,hoc,I.freeC x c hc⟩ hs,by simpa using I.len⟩ ⟨c,hs,.inr hc⟩
  ·exact (hs.2 b (Nat.ne_of_lt (Nat.lt_of_lt_of_le (Heap.lt_size e) (I.ok.cab x c hfn hc)))).trans (I.base.keep b o e n hb hx)
  ·obtain ⟨sl,e1⟩:=I.base.slot b o e n hb hx
   exact ⟨sl,(hs.2 b (Nat.ne_of_lt (Nat.lt_of_lt_of_le (Heap.lt_size e) (I.ok.cab x c hfn hc)))).trans e1⟩
  ·obtain ⟨o',e1⟩:=I.base.there b o e hx
   exact ⟨o',(hs.2 b (Nat.ne_of_lt (Nat.lt_of_lt_of_le (Heap.lt_size e) (I.ok.cab x c hfn hc)))).trans e1⟩
  ·by_cases hj:j=i
   ·subst hj
    rw [hi] at e1; cases e1
    rw [List.getElem?_set_self hiσ] at e2
    cases e2
    exact ⟨u,r,.inr ⟨.inl hk,c,hc,hc'⟩⟩
   ·rw [List.getElem?_set_ne (Ne.symm hj)] at e2
    obtain ⟨u',r',q⟩:=hl j y v' e1 e2 e3
    refine ⟨u',r',?_⟩
    rcases q with q | ⟨k,c',e,z'⟩
    ·exact .inl q
    ·refine .inr ⟨k,c',e,z'.sameBut hs ?_⟩
     rintro rfl
     exact hj (nodup_ix hN e1 (I.ok.inj _ _ _ e hc ▸ hi))
  ·by_cases hcc:c' = c
   ·subst hcc; exact ⟨_,hc'⟩
   ·obtain ⟨w2,z2⟩:=I.cell y c' e
    exact ⟨w2,z2.sameBut hs hcc⟩
  ·obtain ⟨e,n,ne,nf,d⟩:=I.pin p hp
   refine ⟨(hs.2 p.1 ?_).trans e,n,ne,nf,d⟩
   intro q
   rw [q,hoc] at e
   have q':oc=p.2:=Option.some.inj e
   exact d w' (by rw [← q']; exact hocd)
theorem store_ok {M:Model} {A:Around} {E:Value→Shared→Prop} {i:Nat} {x:Str} {v:V} {u:Value} {Q:Unit→Shared→Prop} (I:Inv X pins σ H s) (hN:X.N.Nodup) (hi:X.N[i]? = some x) (hx:Loc X.env.scope x) (r:RelV v u)
  (h:∀ s',Inv X pins (σ.set i (some v)) H s'→Q () s') (hf:X.fn x=true∨X.env.scope.names.lookup x=some .local:=by first | exact .inl rfl | exact .inr rfl | assumption) : wpAny M A (storeName X.env x u) Q E s:=
 store_ok2 I hN hi hx r (fun s' I' _=>h s' I') hf
theorem Inv.call' {s':Shared} {ch:List Addr} (I:Inv X pins σ H s) (ho:s'.os=s.os) (u:Un (frs X.stack) ch H H' s.heap s'.heap) (hok:HOk X.prog X.w H' s'.heap) (hg:AllBare s'.gens)
  (hch:∀ b ∈ ch,(b ∈ X.ex∨X.s₀.heap.objs.size≤b)∧b≠X.env.locals∧(∀ x c,X.env.cells.lookup x=some c→c≠b)∧∀ p ∈ X.pn++pins,p.1≠b) : Inv X pins σ H' s':=by
 obtain ⟨h',g',d',t',o'⟩:=s'
 have e:o' = s.os:=ho
 subst e
 exact I.call (g':=g') (t':=t') (d':=d') u hok hg hch
end

abbrev XK:=Value→Option Addr→Hp→Prop
abbrev St:=List (Option V)
abbrev VK:=V→Hp→Prop
abbrev TE:=St→Hp→VK→Prop
abbrev TT:=St→Hp→(Bool→Hp→Prop)→Prop
abbrev TA:=St→Hp→(List V→Hp→Prop)→Prop
structure Ends where
 nx:St→Hp→Prop
 rt:VK
 bk:St→Hp→Prop:=fun _ _=>False
 ct:St→Hp→Prop:=fun _ _=>False
abbrev TS:=Ends→St→Hp→Prop

def EP (X:Cx) (pins:List (Addr × Obj)) (σ:St) (Q:VK) (u:Value) (s':Shared) : Prop:=∃ v H',Inv X pins σ H' s'∧RelV v u∧Q v H'
def TP (X:Cx) (pins:List (Addr × Obj)) (σ:St) (Q:Bool→Hp→Prop) (b:Bool) (s':Shared) : Prop:=∃ H',Inv X pins σ H' s'∧Q b H'
def AP (X:Cx) (pins:List (Addr × Obj)) (σ:St) (Q:List V→Hp→Prop) (us:List Value) (s':Shared) : Prop:=∃ vs H',Inv X pins σ H' s'∧Vals vs us∧Q vs H'
def SP (X:Cx) (pins:List (Addr × Obj)) (D:Ends) (f:Flow) (s':Shared) : Prop:=
 match f with
 | .next=>∃ σ' H',Inv X pins σ' H' s'∧D.nx σ' H'
 | .brk=>∃ σ' H',Inv X pins σ' H' s'∧D.bk σ' H'
 | .cont=>∃ σ' H',Inv X pins σ' H' s'∧D.ct σ' H'
 | .ret u=>∃ v σ' H',Inv X pins σ' H' s'∧RelV v u∧D.rt v H'

def PE (X:Cx) (e:Expr) (t:TE) : Prop:=
 ∀ (pins:List (Addr × Obj)) (s:Shared) (σ:St) (H:Hp) (Q:VK),Inv X pins σ H s→t σ H Q→wpAny (model X.prog X.w) X.A (eval e X.env) (EP X pins σ Q) X.xe s
def PT (X:Cx) (e:Expr) (t:TT) : Prop:=
 ∀ (pins:List (Addr × Obj)) (s:Shared) (σ:St) (H:Hp) (Q:Bool→Hp→Prop),Inv X pins σ H s→t σ H Q→wpAny (model X.prog X.w) X.A (isTrue e X.env (eval e X.env)) (TP X pins σ Q) X.xe s
def PW (X:Cx) (e:Expr) (t:TT) : Prop:=
 ∀ (whole:Sem Value) (pins:List (Addr × Obj)) (s:Shared) (σ:St) (H:Hp) (Q:Bool→Hp→Prop),Inv X pins σ H s→t σ H Q→wpAny (model X.prog X.w) X.A (isTrue e X.env whole) (TP X pins σ Q) X.xe s
theorem PW.pt {X:Cx} {e:Expr} {t:TT} (h:PW X e t) : PT X e t:=h _
def PA (X:Cx) (es:List Expr) (t:TA) : Prop:=
 ∀ (pos:Pos) (pins:List (Addr × Obj)) (s:Shared) (σ:St) (H:Hp) (Q:List V→Hp→Prop),Inv X pins σ H s→t σ H Q→wpAny (model X.prog X.w) X.A (spliced (backTo pos (starEach es X.env))) (AP X pins σ Q) X.xe s
def PS (X:Cx) (st:Stmt) (t:TS) : Prop:=
 ∀ (pins:List (Addr × Obj)) (s:Shared) (σ:St) (H:Hp) (D:Ends),Inv X pins σ H s→t D σ H→wpAny (model X.prog X.w) X.A (exec st X.env) (SP X pins D) X.xe s
def PSs (X:Cx) (st:List Stmt) (t:TS) : Prop:=
 ∀ (pins:List (Addr × Obj)) (s:Shared) (σ:St) (H:Hp) (D:Ends),Inv X pins σ H s→t D σ H→wpAny (model X.prog X.w) X.A (execs st X.env) (SP X pins D) X.xe s
theorem thn {α:Type} {t:Sem α} {Q Q':α→Shared→Prop} {M:Model} {A:Around} {E:Value→Shared→Prop} {s:Shared} (h:wpAny M A t Q E s) (hQ:∀ a s,Q a s→Q' a s) : wpAny M A t Q' E s:=wpAny_mono h hQ fun _ _ x=>x
section
variable {X:Cx}

def tVar (i:Nat) : TE:=fun σ H Q=>∃ v,σ[i]? = some (some v)∧Q v H
def tC (v:V) : TE:=fun _ H Q=>Q v H
theorem pe_var {i:Nat} {x:Str} {pos:Pos} (hN:X.N[i]? = some x) (hv:Vis X.env.scope x) (hd:(x == ("__debug__" : Str))=false:=by decide) (hcd:(x == ("__classdict__" : Str))=false:=by decide) : PE X (.Name x pos) (tVar i):=by
 intro pins s σ H Q I h
 obtain ⟨v,e,h⟩:=h
 obtain ⟨m,hn,hl⟩:=I.loc
 obtain ⟨u,r,l⟩:=hl i x v hN e hv
 have fin:EP X pins σ Q u s:=⟨v,H,I,r,h⟩
 rcases l with ⟨hk,hm⟩ | ⟨hk,c,hc,hcell⟩
 ·exact wpAny_Name (wpAny_loadName_local I.ok.kind hk hn hm fin) hd
 ·rcases hk with hk | hk
  ·exact wpAny_Name (wpAny_loadName_cell I.ok.kind hk hc hcell fin) hd
  ·exact wpAny_Name (wpAny_loadName_free I.ok.kind hk hc hcell fin hcd) hd
theorem pe_int {i j pos} : PE X (.Constant (.int i) j pos) (tC (.int i)):=fun _ _ _ H _ I h=>wpAny_Constant_int ⟨.int i,H,I.tok _,⟨_,rfl⟩,h⟩
theorem pe_bl {b j pos} : PE X (.Constant (.bool b) j pos) (tC (.bl b)):=fun _ _ _ H _ I h=>Constant_bool ⟨.bl b,H,I,rfl,h⟩
theorem pe_non {j pos} : PE X (.Constant .none j pos) (tC .non):=fun _ _ _ H _ I h=>Constant_none ⟨.non,H,I,rfl,h⟩
theorem pe_str {x j pos} : PE X (.Constant (.str x) j pos) (tC (.str x)):=fun _ _ _ H _ I h=>Calls.Constant_str ⟨.str x,H,I.tok _,⟨_,rfl⟩,h⟩

def Gl (X:Cx) (x:Str) : Prop:=X.env.kindOf x=some .globalImplicit
theorem ld_glob {E:Value→Shared→Prop} {pins:List (Addr × Obj)} {s:Shared} {σ:St} {H:Hp} {x:Str} {u:Value} {pos:Pos} {Q:Value→Shared→Prop} (I:Inv X pins σ H s) (hg:Gl X x) (hm:X.mg x=some u) (h:Q u s)
  (hd:(x == ("__debug__" : Str))=false:=by decide) : wpAny (model X.prog X.w) X.A (eval (.Name x pos) X.env) Q E s:=
 Calls.Name_function_global I.ok.kind hg (Calls.loadGlobal_global (by rw [I.ok.glob]; exact I.mod.glob.keeps I.bk) hm h) hd
theorem ld_blt {E:Value→Shared→Prop} {pins:List (Addr × Obj)} {s:Shared} {σ:St} {H:Hp} {x:Str} {u:Value} {pos:Pos} {Q:Value→Shared→Prop} (I:Inv X pins σ H s) (hg:Gl X x) (hm:X.mg x=none) (hv:bootBuiltins x=some u) (h:Q u s)
  (hn:x≠"__name__":=by decide) (hd:(x == ("__debug__" : Str))=false:=by decide) : wpAny (model X.prog X.w) X.A (eval (.Name x pos) X.env) Q E s:=by
 obtain ⟨mb,h1,h2⟩:=I.mod.blt
 exact Calls.Name_function_global I.ok.kind hg (Calls.loadGlobal_builtin (by rw [I.ok.glob]; exact I.mod.glob.keeps I.bk) hm (by rw [I.ok.blt]; exact h1.keeps I.bk) ((h2 x hn).trans hv) h) hd
theorem pe_bltn {x:Str} {v:V} {u:Value} {pos:Pos} (hg:Gl X x) (hm:X.mg x=none) (hv:bootBuiltins x=some u) (r:RelV v u) (hn:x≠"__name__":=by decide) (hd:(x == ("__debug__" : Str))=false:=by decide) : PE X (.Name x pos) (tC v):=
 fun _ _ _ H _ I h=>ld_blt I hg hm hv ⟨v,H,I,r,h⟩ hn hd

variable {a b:Expr} {ta tb:TE} {pos:Pos}
def tB (t:TE) : TT:=fun σ H Q=>t σ H fun x H1=>∃ c,x = .bl c∧Q c H1
theorem pt_val {e:Expr} {t:TE} (h:PE X e t) (he:∀ whole,isTrue e X.env whole=(do let v ← whole; standAt e.pos; holding [v] (truthy v)):=by intro _; rfl) : PT X e (tB t):=by
 intro pins s σ H Q I hw
 refine isTrue_plain (thn (h pins s σ H _ I hw) fun v s1 ⟨x,H1,I1,r1,q1⟩=>?_) (he _)
 obtain ⟨d,rfl,q⟩:=q1
 cases r1
 exact wpAny_truthy_bool ⟨H1,I1,q⟩

variable {tA tB':TT} {rest:List Expr}
def tAnd (t u:TT) : TT:=fun σ H Q=>t σ H fun c H1=>if c=true then u σ H1 Q else Q false H1
def tOr (t u:TT) : TT:=fun σ H Q=>t σ H fun c H1=>if c=true then Q true H1 else u σ H1 Q
def tNot (t:TT) : TT:=fun σ H Q=>t σ H fun c H1=>Q (!c) H1
theorem pw_and1 (ha:PT X a tA) : PW X (.BoolOp .And [a] pos) tA:=by
 intro wh pins s σ H Q I h
 refine isTrue_and (thn (ha pins s σ H Q I h) fun c s1 e=>?_)
 cases c with
 | true=>exact isTrue_and_nil e
 | false=>exact e
theorem pw_or1 (ha:PT X a tA) : PW X (.BoolOp .Or [a] pos) tA:=by
 intro wh pins s σ H Q I h
 refine isTrue_or (thn (ha pins s σ H Q I h) fun c s1 e=>?_)
 cases c with
 | false=>exact isTrue_or_nil e
 | true=>exact e
theorem pw_and (ha:PT X a tA) (hb:PW X (.BoolOp .And (b :: rest) pos) tB') : PW X (.BoolOp .And (a :: b :: rest) pos) (tAnd tA tB'):=by
 intro wh pins s σ H Q I h
 refine isTrue_and (thn (ha pins s σ H _ I h) fun c s1 ⟨H1,I1,q1⟩=>?_)
 cases c with
 | true=>exact hb wh pins s1 σ H1 Q I1 q1
 | false=>exact ⟨H1,I1,q1⟩
theorem pw_or (ha:PT X a tA) (hb:PW X (.BoolOp .Or (b :: rest) pos) tB') : PW X (.BoolOp .Or (a :: b :: rest) pos) (tOr tA tB'):=by
 intro wh pins s σ H Q I h
 refine isTrue_or (thn (ha pins s σ H _ I h) fun c s1 ⟨H1,I1,q1⟩=>?_)
 cases c with
 | true=>exact ⟨H1,I1,q1⟩
 | false=>exact hb wh pins s1 σ H1 Q I1 q1
theorem pt_not (ha:PT X a tA) : PT X (.UnaryOp .Not a pos) (tNot tA):=by
 intro pins s σ H Q I h
 exact isTrue_not (ha pins s σ H (fun c H1=>Q (!c) H1) I h)
def tAndV (ta tb:TE) : TE:=fun σ H Q=>ta σ H fun x H1=>∃ c,x = .bl c∧if c=true then tb σ H1 Q else Q (.bl false) H1
def tOrV (ta tb:TE) : TE:=fun σ H Q=>ta σ H fun x H1=>∃ c,x = .bl c∧if c=true then Q (.bl true) H1 else tb σ H1 Q
def tNotV (ta:TE) : TE:=fun σ H Q=>ta σ H fun x H1=>∃ c,x = .bl c∧Q (.bl (!c)) H1
theorem pe_one {op} {t:TE} (h:PE X a t) : PE X (.BoolOp op [a] pos) t:=fun pins s σ H Q I hw=>BoolOp_one (h pins s σ H Q I hw)
theorem pe_and (ha:PE X a ta) (hb:PE X (.BoolOp .And (b :: rest) pos) tb) : PE X (.BoolOp .And (a :: b :: rest) pos) (tAndV ta tb):=by
 intro pins s σ H Q I h
 refine BoolOp_and (thn (ha pins s σ H _ I h) fun v s1 ⟨x,H1,I1,r1,q1⟩=>?_)
 obtain ⟨c,rfl,q1⟩:=q1
 cases r1
 refine wpAny_truthy_bool ?_
 cases c with
 | true=>exact hb pins s1 σ H1 Q I1 q1
 | false=>exact ⟨.bl false,H1,I1,rfl,q1⟩
theorem pe_or (ha:PE X a ta) (hb:PE X (.BoolOp .Or (b :: rest) pos) tb) : PE X (.BoolOp .Or (a :: b :: rest) pos) (tOrV ta tb):=by
 intro pins s σ H Q I h
 refine BoolOp_or (thn (ha pins s σ H _ I h) fun v s1 ⟨x,H1,I1,r1,q1⟩=>?_)
 obtain ⟨c,rfl,q1⟩:=q1
 cases r1
 refine wpAny_truthy_bool ?_
 cases c with
 | false=>exact hb pins s1 σ H1 Q I1 q1
 | true=>exact ⟨.bl true,H1,I1,rfl,q1⟩
theorem pe_not (ha:PE X a ta) : PE X (.UnaryOp .Not a pos) (tNotV ta):=by
 intro pins s σ H Q I h
 refine UnaryOp_ (thn (ha pins s σ H _ I h) fun v s1 ⟨x,H1,I1,r1,q1⟩=>?_)
 obtain ⟨c,rfl,q1⟩:=q1
 cases r1
 exact not_of (wpAny_truthy_bool ⟨.bl (!c),H1,I1,rfl,q1⟩)
end

def SqL (K:PySem.W.Frag) (H:Hp) (a:Addr) (xs:List V) : Prop:=
 Rd H a (.lst xs) ∨
  ∃ (o:Obj) (its:Array Value) (n:Nat),K.lookup a=some o∧o.cls = .type "list"∧o.dict=none∧o.data = .seq its n∧its.size≤sizeLine∧Vals xs its.toList
def SqT (K:PySem.W.Frag) (H:Hp) (a:Addr) (xs:List V) : Prop:=
 Rd H a (.tup xs) ∨
  ∃ (o:Obj) (its:Array Value) (n:Nat),K.lookup a=some o∧o.cls = .type "tuple"∧o.data = .seq its n∧its.size≤sizeLine∧Vals xs its.toList
def absV:Value→Option V
 | .none=>some .non
 | .bool b=>some (.bl b)
 | .int i _=>some (.int i)
 | .str x _=>some (.str x)
 | .bytes b _=>some (.byt b)
 | .float b _=>some (.flt b)
 | .ref a=>some (.ref a)
 | .type n=>some (.ty n)
 | _=>none
theorem RelV.abs {x:V} {u:Value} (r:RelV x u) : absV u=some x:=by
 cases x with
 | non=>cases r; rfl
 | bl _=>cases r; rfl
 | int _=>obtain ⟨t,rfl⟩:=r; rfl
 | str _=>obtain ⟨t,rfl⟩:=r; rfl
 | byt _=>obtain ⟨t,rfl⟩:=r; rfl
 | flt _=>obtain ⟨t,rfl⟩:=r; rfl
 | ref _=>cases r; rfl
 | ty _=>cases r; rfl
theorem RelV.inj {x y:V} {u:Value} (r:RelV x u) (q:RelV y u) : x=y:=Option.some.inj (r.abs.symm.trans q.abs)
theorem Vals.inj:∀ {xs ys:List V} {us:List Value},Vals xs us→Vals ys us→xs=ys
 | _,_,_,.nil,.nil=>rfl
 | _,_,_,.cons r t,.cons r' t'=>by rw [r.inj r',Vals.inj t t']
section
variable {X:Cx} {pins:List (Addr × Obj)} {σ:St} {H:Hp} {s:Shared} {a:Addr} {xs ys:List V}
theorem SqL.of {K:PySem.W.Frag} (h:H a=some (.lst xs)) : SqL K H a xs:=.inl (.inl h)
theorem SqT.of {K:PySem.W.Frag} (h:H a=some (.tup xs)) : SqT K H a xs:=.inl (.inl h)
theorem Inv.list (I:Inv X pins σ H s) (h:SqL X.K H a xs) : ∃ its:List Value,Vals xs its∧PlainL s.heap a its.toArray∧xs.length≤sizeLine:=by
 rcases h with h | ⟨o,its,n,hk,hc,hd,hs,hz,r⟩
 ·obtain ⟨z,its,n,r,e⟩:=h.ok I.hok
  exact ⟨its,r,⟨_,n,e,rfl,rfl,rfl⟩,z⟩
 ·refine ⟨its.toList,r,⟨o,n,I.kIn a o hk,hc,hd,by simpa using hs⟩,?_⟩
  have e:=r.length
  simp only [Array.length_toList] at e
  omega
theorem Inv.tuple (I:Inv X pins σ H s) (h:SqT X.K H a xs) : ∃ its:List Value,Vals xs its∧IsTup s.heap a its.toArray∧xs.length≤sizeLine:=by
 rcases h with h | ⟨o,its,n,hk,hc,hs,hz,r⟩
 ·obtain ⟨z,its,r,p⟩:=h.ok I.hok
  exact ⟨its,r,p,z⟩
 ·refine ⟨its.toList,r,⟨o,I.kIn a o hk,hc,n,by simpa using hs⟩,?_⟩
  have e:=r.length
  simp only [Array.length_toList] at e
  omega
theorem Inv.list_inj (I:Inv X pins σ H s) (h:SqL X.K H a xs) (h':SqL X.K H a ys) : xs=ys:=by
 obtain ⟨its,r,⟨o,n,e,_,_,d⟩,_⟩:=I.list h
 obtain ⟨its',r',⟨o',n',e',_,_,d'⟩,_⟩:=I.list h'
 rw [e] at e'; cases e'
 rw [d] at d'
 injection d' with d1 _
 have:its=its':=by simpa using congrArg Array.toList d1
 subst this
 exact r.inj r'
theorem Inv.tuple_inj (I:Inv X pins σ H s) (h:SqT X.K H a xs) (h':SqT X.K H a ys) : xs=ys:=by
 obtain ⟨its,r,⟨o,e,_,n,d⟩,_⟩:=I.tuple h
 obtain ⟨its',r',⟨o',e',_,n',d'⟩,_⟩:=I.tuple h'
 rw [e] at e'; cases e'
 rw [d] at d'
 injection d' with d1 _
 have:its=its':=by simpa using congrArg Array.toList d1
 subst this
 exact r.inj r'
end

abbrev Cx.wish (X:Cx) (E:Value→Shared→Prop) : Cx:={ X with xe:=E }
abbrev Cx.nox (X:Cx) : Cx:=X.wish fun _ _=>False
theorem Cx.Ok.wish {X:Cx} (ok:X.Ok) (E:Value→Shared→Prop) : (X.wish E).Ok:=
 ⟨ok.mod,ok.kind,ok.glob,ok.blt,ok.above,ok.inj,ok.has,ok.cab,ok.hd,ok.frames,ok.stk,ok.exf,ok.bs,ok.bsz,ok.noex,ok.exfs,ok.funs,ok.frf⟩
theorem Cx.Ok.unwish {X:Cx} {E:Value→Shared→Prop} (ok:(X.wish E).Ok) : X.Ok:=
 ⟨ok.mod,ok.kind,ok.glob,ok.blt,ok.above,ok.inj,ok.has,ok.cab,ok.hd,ok.frames,ok.stk,ok.exf,ok.bs,ok.bsz,ok.noex,ok.exfs,ok.funs,ok.frf⟩
section
variable {X:Cx} {pins:List (Addr × Obj)} {σ:St} {H:Hp} {s:Shared} {E:Value→Shared→Prop}
theorem Inv.wish (I:Inv X pins σ H s) (E:Value→Shared→Prop) : Inv (X.wish E) pins σ H s:=⟨I.ok.wish E,I.os,I.bare,I.base,I.loc,I.cell,I.free,I.freeC,I.pin,I.hok,I.len⟩
theorem Inv.unwish (I:Inv (X.wish E) pins σ H s) : Inv X pins σ H s:=⟨I.ok.unwish,I.os,I.bare,I.base,I.loc,I.cell,I.free,I.freeC,I.pin,I.hok,I.len⟩
theorem SP.unwish {D:Ends} {f:Flow} {s':Shared} (h:SP (X.wish E) pins D f s') : SP X pins D f s':=by
 cases f with
 | next=>obtain ⟨σ',H',I,q⟩:=h; exact ⟨σ',H',I.unwish,q⟩
 | brk=>obtain ⟨σ',H',I,q⟩:=h; exact ⟨σ',H',I.unwish,q⟩
 | cont=>obtain ⟨σ',H',I,q⟩:=h; exact ⟨σ',H',I.unwish,q⟩
 | ret u=>obtain ⟨v,σ',H',I,r,q⟩:=h; exact ⟨v,σ',H',I.unwish,r,q⟩
theorem PSs.nox {st:List Stmt} {t:TS} (h:PSs X.nox st t) : PSs X st t:=fun pins s σ H D I hw =>
 wpAny_mono (h pins s σ H D (I.wish _) hw) (fun _ _ q=>q.unwish) fun _ _ z=>False.elim z
end

section
variable {X:Cx} {st:Stmt} {rest:List Stmt} {t u:TS} {e:Expr} {te:TE} {pos:Pos}
def tNext:TS:=fun D σ H=>D.nx σ H
def tSeq (t u:TS) : TS:=fun D σ H=>t { D with nx:=u D } σ H
theorem pss_nil:PSs X [] tNext:=fun _ _ σ H _ I h=>wpAny_execs_nil ⟨σ,H,I,h⟩
theorem pss_cons (h1:PS X st t) (h2:PSs X rest u) : PSs X (st :: rest) (tSeq t u):=by
 intro pins s σ H D I h
 refine wpAny_execs_cons (thn (h1 pins s σ H { D with nx:=u D } I h) fun f s1 q=>?_)
 cases f with
 | next =>
  obtain ⟨σ',H',I',q⟩:=q
  exact h2 pins s1 σ' H' D I' q
 | ret v=>exact q
 | brk=>exact q
 | cont=>exact q
theorem pss_one (h1:PS X st t) : PSs X [st] t:=by
 intro pins s σ H D I h
 refine wpAny_execs_cons (thn (h1 pins s σ H D I h) fun f s1 q=>?_)
 cases f with
 | next=>exact wpAny_execs_nil q
 | ret v=>exact q
 | brk=>exact q
 | cont=>exact q
theorem Inv.quiet {pins:List (Addr × Obj)} {σ:St} {H:Hp} {s:Shared} (I:Inv X pins σ H s) : interactive X.env=false:=by simp [interactive,I.ok.kind]
def tDrop (te:TE) : TS:=fun D σ H=>te σ H fun _ H1=>D.nx σ H1
theorem ps_expr (he:PE X e te) (hs:swapsWith e none pos.line X.env=pure false:=by rfl) : PS X (.Expr e pos) (tDrop te):=by
 intro pins s σ H D I h
 exact wpAny_Expr_any (thn (he pins s σ H _ I h) fun v s1 ⟨x,H1,I1,r1,q1⟩=>⟨σ,H1,I1,q1⟩) I.quiet hs
def tRet (te:TE) : TS:=fun D σ H=>te σ H D.rt
theorem ps_ret (he:PE X e te) : PS X (.Return (some e) pos) (tRet te):=by
 intro pins s σ H D I h
 exact wpAny_Return_some (thn (he pins s σ H _ I h) fun v s1 ⟨x,H1,I1,r1,q1⟩=>⟨x,σ,H1,I1,r1,q1⟩)
def tIfS (c:TT) (t u:TS) : TS:=fun D σ H=>c σ H fun b H1=>if b=true then t D σ H1 else u D σ H1
theorem ps_if {c:Expr} {a b:List Stmt} {tc:TT} (hc:PT X c tc) (ha:PSs X a t) (hb:PSs X b u) : PS X (.If c a b pos) (tIfS tc t u):=by
 intro pins s σ H D I h
 refine wpAny_If (thn (hc pins s σ H _ I h) fun d s1 ⟨H1,I1,q1⟩=>?_)
 cases d with
 | true=>exact ha pins s1 σ H1 D I1 q1
 | false=>exact hb pins s1 σ H1 D I1 q1
def tNever:TS:=fun _ _ _=>False
theorem ps_never:PS X st tNever:=fun _ _ _ _ _ _ h=>h.elim
end

abbrev TG:=V→St→Hp→(St→Hp→Prop)→Prop
abbrev TGs:=List V→St→Hp→(St→Hp→Prop)→Prop
def PG (X:Cx) (target:Expr) (t:TG) : Prop:=
 ∀ (pins:List (Addr × Obj)) (s:Shared) (σ:St) (H:Hp) (v:V) (u:Value) (Q:St→Hp→Prop),Inv X pins σ H s→RelV v u→t v σ H Q →
  wpAny (model X.prog X.w) X.A (assign target X.env u) (fun _ s'=>∃ σ' H',Inv X pins σ' H' s'∧Q σ' H') X.xe s
def PGs (X:Cx) (ts:List Expr) (t:TGs) : Prop:=
 ∀ (pins:List (Addr × Obj)) (s:Shared) (σ:St) (H:Hp) (vs:List V) (us:List Value) (Q:St→Hp→Prop),Inv X pins σ H s→Vals vs us→t vs σ H Q →
  wpAny (model X.prog X.w) X.A (assignInOrder ((assignEach ts X.env).map (·.2)) us) (fun _ s'=>∃ σ' H',Inv X pins σ' H' s'∧Q σ' H') X.xe s
abbrev TSet:=V→V→V→Hp→(Hp→Prop)→Prop
def PSet (X:Cx) (t:TSet) : Prop:=
 ∀ (pins:List (Addr × Obj)) (s:Shared) (σ:St) (H:Hp) (o i v:V) (ov iv u:Value) (Q:Hp→Prop),Inv X pins σ H s→RelV o ov→RelV i iv→RelV v u→t o i v H Q →
  wpAny (model X.prog X.w) X.A (setItem ov iv u) (fun _ s'=>∃ H',Inv X pins σ H' s'∧Q H') X.xe s
section
variable {X:Cx} {pos:Pos}
def gName (i:Nat) : TG:=fun v σ H Q=>Q (σ.set i (some v)) H
theorem pg_name {i:Nat} {x:Str} (hN:X.N.Nodup) (hi:X.N[i]? = some x) (hx:Loc X.env.scope x) (hf:X.fn x=true∨X.env.scope.names.lookup x=some .local:=by first | exact .inl rfl | exact .inr rfl | assumption) : PG X (.Name x pos) (gName i):=by
 intro pins s σ H v u Q I r h
 exact wpAny_assign_Name (store_ok I hN hi hx r (fun s' I'=>⟨_,H,I',h⟩) hf)
def gNil:TGs:=fun vs σ H Q=>vs=[]∧Q σ H
def gCons (t:TG) (u:TGs) : TGs:=fun vs σ H Q=>∃ v r,vs=v :: r∧t v σ H fun σ' H'=>u r σ' H' Q
theorem pgs_nil:PGs X [] gNil:=by
 intro pins s σ H vs us Q I r h
 obtain ⟨e,h⟩:=h
 subst e
 cases r
 exact assignInOrder_nil ⟨σ,H,I,h⟩
theorem pgs_cons {e:Expr} {es:List Expr} {t:TG} {u:TGs} (h1:PG X e t) (h2:PGs X es u)
  (hs:(assignEach (e :: es) X.env).map (·.2)=assign e X.env :: (assignEach es X.env).map (·.2):=by rfl) : PGs X (e :: es) (gCons t u):=by
 intro pins s σ H vs us Q I r h
 obtain ⟨v,vr,e1,h⟩:=h
 subst e1
 cases r with
 | cons r rr =>
  rw [hs]
  refine assignInOrder_cons (thn (h1 pins s σ H _ _ _ I r h) fun _ s1 ⟨σ1,H1,I1,q1⟩=>?_)
  exact h2 pins s1 σ1 H1 _ _ Q I1 rr q1
def gTup (K:PySem.W.Frag) (n:Nat) (t:TGs) : TG:=fun v σ H Q=>∃ a xs,v = .ref a∧SqT K H a xs∧xs.length=n∧t xs σ H Q
theorem pg_tup {es:List Expr} {k:Nat} {t:TGs} {n:Nat} (hc:X.calm=true) (h:PGs X es t)
  (hn:(assignEach es X.env).length=n:=by rfl) (hst:(assignEach es X.env).findIdx? (·.1)=none:=by rfl) : PG X (.Tuple es k pos) (gTup X.K n t):=by
 intro pins s σ H v u Q I r hw
 obtain ⟨a,xs,e1,hq,hl,hw⟩:=hw
 subst e1
 cases r
 obtain ⟨its,rv,ht,hz⟩:=I.tuple hq
 refine assign_Tuple_tuple (I.ok.hd hc) ht (by simp [hn,← hl,rv.length]) hst fun h' hx=>?_
 have I1:Inv X pins σ H { s with heap:=h' }:=I.kept (t':=s.toks) fun b o e=>hx b o (Nat.ne_of_lt (Heap.lt_size e)) e
 exact h pins _ σ H xs _ Q I1 (by simpa using rv) hw
def gSub (to ti:TE) (t:TSet) : TG:=fun v σ H Q=>to σ H fun o H1=>ti σ H1 fun i H2=>t o i v H2 fun H3=>Q σ H3
theorem pg_sub {o i:Expr} {to ti:TE} {t:TSet} (ho:PE X o to) (hi:PE X i ti) (hs:PSet X t)
  (ha:∀ v,assign (.Subscript o i pos) X.env v=(do
   let ov ← holding [v] (eval o X.env)
   let iv ← holding [v,ov] (eval i X.env)
   standAt pos
   holding [v,ov,iv] (setItem ov iv v)
   release [v,ov,iv] []):=by intro _; rfl) : PG X (.Subscript o i pos) (gSub to ti t):=by
 intro pins s σ H v u Q I r h
 rw [ha]
 refine wpAny_bind (wpAny_holding (thn (ho pins s σ H _ I h) fun ov s1 ⟨x,H1,I1,r1,q1⟩=>?_))
 refine wpAny_bind (wpAny_holding (thn (hi pins s1 σ H1 _ I1 q1) fun iv s2 ⟨y,H2,I2,r2,q2⟩=>?_))
 refine wpAny_bind (wpAny_standAt (wpAny_bind (wpAny_holding (thn (hs pins s2 σ H2 x y v ov iv u _ I2 r1 r2 r q2) fun _ s3 ⟨H3,I3,q3⟩=>?_))))
 exact wpAny_release ⟨σ,H3,I3,q3⟩
def tAsg (te:TE) (g:TG) : TS:=fun D σ H=>te σ H fun x H1=>g x σ H1 D.nx
theorem ps_asg {tg e:Expr} {te:TE} {g:TG} (he:PE X e te) (hg:PG X tg g) (hs:swapsWithSole [tg] e pos.line X.env=pure false:=by rfl) (hw:swappedStores [tg] e X.env=pure none:=by rfl)
  (h1:(assignEach [tg] X.env).map (·.2)=[assign tg X.env]:=by rfl) : PS X (.Assign [tg] e pos) (tAsg te g):=by
 intro pins s σ H D I h
 refine wpAny_Assign_stores (thn (he pins s σ H _ I h) fun v s1 ⟨x,H1,I1,r1,q1⟩=>?_) hs hw
 rw [h1]
 exact thn (hg pins s1 σ H1 x v _ I1 r1 q1) fun _ s2 q=>q
theorem ps_set {i:Nat} {x:Str} {e:Expr} {te:TE} {pos':Pos} (hN:X.N.Nodup) (hi:X.N[i]? = some x) (hx:Loc X.env.scope x) (he:PE X e te) (hs:swapsWith e (some (.Name x pos')) pos.line X.env=pure false:=by rfl) (hf:X.fn x=true∨X.env.scope.names.lookup x=some .local:=by first | exact .inl rfl | exact .inr rfl | assumption) :
  PS X (.Assign [.Name x pos'] e pos) (tAsg te (gName i)):=by
 intro pins s σ H D I h
 refine wpAny_Assign_Name (thn (he pins s σ H _ I h) fun v s1 ⟨y,H1,I1,r1,q1⟩=>?_) hs
 exact store_ok I1 hN hi hx r1 (fun s2 I2=>⟨_,H1,I2,q1⟩) hf
end

section
variable {X:Cx} {pos:Pos}
def tWhile (c:TT) (tb:TS) : TS:=fun D σ H=>∃ W:Nat→St→Hp→Prop,(∃ m,W m σ H)∧∀ m σ H,W m σ H →
 c σ H fun b H1=>if b=true then ∃ N:St→Hp→Prop,(∀ σ' H',N σ' H'→∃ m',m' < m∧W m' σ' H')∧tb { D with nx:=N,ct:=N,bk:=D.nx } σ H1 else D.nx σ H1
theorem ps_while {c:Expr} {body:List Stmt} {tc:TT} {tb:TS} (hp:PassesOwn (model X.prog X.w) X.A X.env X.xe) (hc:PT X c tc) (hb:PSs X body tb) : PS X (.While c body [] pos) (tWhile tc tb):=by
 intro pins s σ H D I h
 obtain ⟨W,⟨m0,w0⟩,turn⟩:=h
 refine wpAny_While (codeAny_whileLoop (fun n s'=>∃ σ' H',Inv X pins σ' H' s'∧W n σ' H') ?_ m0 ⟨σ,H,I,w0⟩)
 rintro n s1 ⟨σ1,H1,I1,w1⟩
 refine wpAny_passesOwn hp (thn (hc pins s1 σ1 H1 _ I1 (turn n σ1 H1 w1)) fun b s2 ⟨H2,I2,q2⟩=>?_)
 cases b with
 | true =>
  obtain ⟨N,hN,q2⟩:=q2
  rw [if_pos rfl]
  refine wpAny_passesOwn hp (thn (hb pins s2 σ1 H2 _ I2 q2) fun f s3 q3=>?_)
  cases f with
  | next =>
   obtain ⟨σ3,H3,I3,n3⟩:=q3
   obtain ⟨m',hm,w3⟩:=hN σ3 H3 n3
   exact ⟨m',hm,σ3,H3,I3,w3⟩
  | cont =>
   obtain ⟨σ3,H3,I3,n3⟩:=q3
   obtain ⟨m',hm,w3⟩:=hN σ3 H3 n3
   exact ⟨m',hm,σ3,H3,I3,w3⟩
  | brk=>exact q3
  | ret v=>exact q3
 | false =>
  rw [if_neg Bool.false_ne_true]
  exact wpAny_execs_nil ⟨σ1,H2,I2,q2⟩
end

structure It where
 go:Nat→Hp→Prop
 yld:Nat→Hp→V→Hp→Prop
 stop:Nat→Hp→Prop
def FpOk (X:Cx) (pins:List (Addr × Obj)) (H:Hp) (b:Addr) : Prop:=
 H b=none∧b≠X.env.locals∧b ∉ X.fs∧(b ∈ X.ex∨X.s₀.heap.objs.size≤b)∧(∀ x c,X.env.cells.lookup x=some c→c≠b)∧∀ p ∈ X.pn++pins,p.1≠b
theorem Inv.fpOk {X:Cx} {pins:List (Addr × Obj)} {σ:St} {H H':Hp} {s:Shared} {b:Addr} (I:Inv X pins σ H s) (hb:s.heap.objs.size≤b) (hn:H' b=none) : FpOk X pins H' b:=by
 refine ⟨hn,Nat.ne_of_gt (Nat.lt_of_lt_of_le I.lt hb),I.nofs hb,.inr (Nat.le_trans I.sz hb),fun x c e z=>?_,fun p hp z=>?_⟩
 ·obtain ⟨v,q⟩:=I.cell x c e
  exact absurd (Nat.lt_of_lt_of_le q.lt (by rw [z]; exact hb)) (Nat.lt_irrefl _)
 ·exact absurd (Nat.lt_of_lt_of_le (Heap.lt_size (I.pin p hp).1) (by rw [z]; exact hb)) (Nat.lt_irrefl _)
structure Turn (P:Program) (w:World) (K:PySem.W.Frag) (tg:Expr) (J:It) (fp:List Addr) (it:Addr) (tn:Nat→Heap→Prop) : Prop where
 mem:it ∈ fp
 obj:∀ i h,tn i h→∀ b ∈ fp,∃ o,h.get? b=some o∧∀ v,o.data≠.cell v
 keep:∀ i h h',tn i h→(∀ b ∈ fp,∀ o,h.get? b=some o→h'.get? b=some o)→tn i h'
 item:∀ (X:Cx),X.prog=P→X.w=w→X.K=K→X.calm=true→∀ (i:Nat) (pins:List (Addr × Obj)) (s:Shared) (σ:St) (H:Hp) (E:Value→Shared→Prop),Inv X pins σ H s→(∀ b ∈ fp,FpOk X pins H b)→tn i s.heap→J.go i H →
  wpAny (model P w) X.A (pyNext (.ref it)) (fun r s1=>∃ u,r=some u ∧
   wpAny (model P w) X.A (letOwnedTupleGo tg (.ref it) u) (fun _ s2=>∃ x H',Inv X pins σ H' s2∧RelV x u∧J.yld i H x H'∧tn (i+1) s2.heap∧∀ b ∈ fp,H' b=none) E s1) E s
 done:∀ (X:Cx),X.prog=P→X.w=w→X.K=K→X.calm=true→∀ (i:Nat) (pins:List (Addr × Obj)) (s:Shared) (σ:St) (H:Hp) (E:Value→Shared→Prop),Inv X pins σ H s→(∀ b ∈ fp,FpOk X pins H b)→tn i s.heap→J.stop i H →
  wpAny (model P w) X.A (pyNext (.ref it)) (fun r s1=>r=none∧Inv X pins σ H s1) E s
 self:∀ (A:Around) (i:Nat) (s:Shared) (Q:Value→Shared→Prop) (E:Value→Shared→Prop),tn i s.heap→Q (.ref it) s→wpAny (model P w) A (pyIter (.ref it)) Q E s
abbrev TI:=St→Hp→(It→Hp→Prop)→Prop
def PIE (X:Cx) (pins:List (Addr × Obj)) (σ:St) (tg:Expr) (R:It→Hp→Prop) (itv:Value) (s2:Shared) : Prop:=
 ∃ (it:Addr) (fp:List Addr) (tn:Nat→Heap→Prop) (J:It) (H':Hp),itv = .ref it∧Inv X pins σ H' s2∧Turn X.prog X.w X.K tg J fp it tn∧tn 0 s2.heap∧(∀ b ∈ fp,FpOk X pins H' b)∧R J H'
def PI (X:Cx) (tg iter:Expr) (wi:TI) : Prop:=
 ∀ (pins:List (Addr × Obj)) (s:Shared) (σ:St) (H:Hp) (R:It→Hp→Prop),Inv X pins σ H s→wi σ H R →
  wpAny (model X.prog X.w) X.A (eval iter X.env) (fun v s1=>wpAny (model X.prog X.w) X.A (pyIter v) (PIE X pins σ tg R) X.xe s1) X.xe s

theorem go_of {M:Model} {A:Around} {E:Value→Shared→Prop} {s:Shared} {tg:Expr} {it:Addr} {u:Value} {o:Obj} {n:String} {vs:Array Value} {Q:Unit→Shared→Prop} (ho:s.heap.get? it=some o) (hc:o.cls = .type n) (hd:o.data = .fields vs)
  (hn:["enumerate","zip","dict_itemiterator","dict_reverseitemiterator","odict_iterator","itertools.zip_longest","itertools.pairwise"].contains n=false) (hQ:Q () s) : wpAny M A (letOwnedTupleGo tg (.ref it) u) Q E s:=by
 unfold letOwnedTupleGo
 cases tg <;> first
  | exact wpAny_pure hQ
  | (cases u <;> first
    | exact wpAny_pure hQ
    | (refine wpAny_bind (wpAny_load ho ?_)
       rw [hc,hd]
       show wpAny M A (if (["enumerate","zip","dict_itemiterator","dict_reverseitemiterator","odict_iterator","itertools.zip_longest","itertools.pairwise"].contains n && vs[0]? == some (rawInt _))=true then _ else _) Q E s
       rw [if_neg (by intro h; rw [hn,Bool.false_and] at h; cases h)]
       exact wpAny_pure hQ))

def Itl (K:PySem.W.Frag) (a:Addr) : It:=
 ⟨fun i H=>∃ xs x,SqL K H a xs∧xs[i]? = some x,fun i H x H'=>H' = H∧∀ xs,SqL K H a xs→xs[i]? = some x,fun i H=>∃ xs,SqL K H a xs∧xs.length≤i⟩
def Itr (lo:Int) (n:Nat) : It:=⟨fun i _=>i < n,fun i H x H'=>H' = H∧x = .int (lo+i),fun i _=>n≤i⟩
theorem turn_list {P:Program} {w:World} {K:PySem.W.Frag} {tg:Expr} (a it:Addr) : Turn P w K tg (Itl K a) [it] it (fun i h=>h.IsListIter it a i) where
 mem:=by simp
 obj:=fun i h st b hb=>by
  have e:b=it:=by simpa using hb
  subst e
  obtain ⟨o,e,c,d⟩:=st
  exact ⟨o,e,fun v z=>by rw [d] at z; cases z⟩
 keep:=fun i h h' st k=>st.at fun o e=>k it (by simp) o e
 item:=by
  intro X hP hw hK hc i pins s σ H E I hf st hg
  subst hP hw hK
  obtain ⟨xs,x,hq,hx⟩:=hg
  obtain ⟨its,rv,p,hz⟩:=I.list hq
  obtain ⟨u,hu,ru⟩:=rv.get hx
  obtain ⟨f0,f1,f2,f3,f4,f5⟩:=hf it (by simp)
  refine wpAny_pyNext_list_item st p.isList (x:=u) (by simpa using hu) fun h' st' sb=>?_
  have I1:Inv X pins σ H { s with heap:=h' }:=I.turned (t':=s.toks) (fun b o hb e=>(sb.2 b hb).trans e) f0 f1 f3 f4 f5
  obtain ⟨o,e,c,d⟩:=id st'
  exact ⟨u,rfl,go_of (s:={ s with heap:=h' }) e c d (by decide) ⟨x,H,I1,ru,⟨rfl,fun ys hy=>by rw [I.list_inj hy hq]; exact hx⟩,st',fun b hb=>(hf b hb).1⟩⟩
 done:=by
  intro X hP hw hK hc i pins s σ H E I hf st hg
  subst hP hw hK
  obtain ⟨xs,hq,hx⟩:=hg
  obtain ⟨its,rv,p,hz⟩:=I.list hq
  obtain ⟨f0,f1,f2,f3,f4,f5⟩:=hf it (by simp)
  have hl:=rv.length
  exact wpAny_pyNext_list_end (I.ok.hd hc) st p.isList (by simp; omega) fun h' eb=>⟨rfl,I.turned (t':=s.toks) (fun b o hb e=>eb b o hb e) f0 f1 f3 f4 f5⟩
 self:=fun _ _ _ _ _ st h=>wpAny_pyIter_listiter st h
theorem turn_range {P:Program} {w:World} {K:PySem.W.Frag} {tg:Expr} (it:Addr) (lo:Int) (n:Nat) : Turn P w K tg (Itr lo n) [it] it (fun i h=>IsRangeIter h it (lo+(i:Nat) * 1) ((n:Int) - (i:Nat)) 1) where
 mem:=by simp
 obj:=fun i h st b hb=>by
  have e:b=it:=by simpa using hb
  subst e
  exact ⟨_,st,fun v z=>by
   have z':Data.fields _=Data.cell v:=z
   cases z'⟩
 keep:=fun i h h' st k=>k it (by simp) _ st
 item:=by
  intro X hP hw hK hc i pins s σ H E I hf st hg
  subst hP hw hK
  obtain ⟨f0,f1,f2,f3,f4,f5⟩:=hf it (by simp)
  have W:=Walks.range (prog:=X.prog) (w:=X.w) (I.ok.hd hc) it lo 1 n
  refine W.item i s _ _ hg st fun v h' tk hv st' kk=>?_
  obtain ⟨t,rfl⟩:=hv
  have I1:Inv X pins σ H { s with heap:=h',toks:=tk }:=I.turned (fun b o hb e=>kk b o (by simpa using hb) e) f0 f1 f3 f4 f5
  refine ⟨_,rfl,go_of (s:={ s with heap:=h',toks:=tk }) (n := "range_iterator") st' rfl rfl (by decide) ⟨.int (lo+i),H,I1,⟨t,?_⟩,⟨rfl,rfl⟩,st',fun b hb=>(hf b hb).1⟩⟩
  rw [Int.mul_one]
 done:=by
  intro X hP hw hK hc i pins s σ H E I hf st hg
  subst hP hw hK
  obtain ⟨f0,f1,f2,f3,f4,f5⟩:=hf it (by simp)
  exact wpAny_pyNext_range_end (I.ok.hd hc) st (by have:n≤i:=hg; omega) fun h' eb=>⟨rfl,I.turned (t':=s.toks) (fun b o hb e=>eb b o hb e) f0 f1 f3 f4 f5⟩
 self:=fun _ _ _ _ _ st h=>wpAny_pyIter_rangeiter st h
section
variable {X:Cx} {tg:Expr}
def iList (K:PySem.W.Frag) (tl:TE) : TI:=fun σ H R=>tl σ H fun x H1=>∃ a,x = .ref a∧(∃ xs,SqL K H1 a xs)∧R (Itl K a) H1
theorem pi_list {l:Expr} {tl:TE} (hl:PE X l tl) : PI X tg l (iList X.K tl):=by
 intro pins s σ H R I h
 refine thn (hl pins s σ H _ I h) fun v s1 ⟨x,H1,I1,r1,q1⟩=>?_
 obtain ⟨a,e,⟨xs,hq⟩,q⟩:=q1
 subst e
 cases r1
 obtain ⟨its,rv,p,hz⟩:=I1.list hq
 refine wpAny_pyIter_list p.isList ?_
 refine ⟨s1.heap.objs.size,[s1.heap.objs.size],_,_,H1,rfl,I1.kept (t':=s1.toks) fun b o e=>Heap.get?_push_of_some _ e,turn_list a _,⟨_,Heap.get?_push_size _ rfl,rfl,rfl⟩,fun b hb=>?_,q⟩
 have e:b=s1.heap.objs.size:=by simpa using hb
 subst e
 exact I1.fpOk (Nat.le_refl _) (I1.hok.fresh (Nat.le_refl _))
theorem range_it {pins:List (Addr × Obj)} {σ:St} {H:Hp} {s:Shared} {R:It→Hp→Prop} {E:Value→Shared→Prop} {lo hi:Int} {t u v:Tok} {tk:Nat} (I:Inv X pins σ H s) (h1:-(2 ^ 62)≤lo) (h2:lo < 2 ^ 62) (h3:-(2 ^ 62)≤hi) (h4:hi < 2 ^ 62)
  (q:R (Itr lo (hi - lo).toNat) H) : wpAny (model X.prog X.w) X.A (pyIter (.ref s.heap.objs.size)) (PIE X pins σ tg R) E { s with heap:=s.heap.push { cls:=.type "range",data:=.fields #[.int lo t,.int hi u,.int 1 v] },toks:=tk }:=by
 refine wpAny_pyIter_range (IsRange.new ..) (small_one h1 h2 h3 h4) ?_
 have I1:Inv X pins σ H { s with heap:=s.heap.push { cls:=.type "range",data:=.fields #[.int lo t,.int hi u,.int 1 v] },toks:=tk }:=I.kept fun b o e=>Heap.get?_push_of_some _ e
 refine ⟨(s.heap.push { cls:=.type "range",data:=.fields #[.int lo t,.int hi u,.int 1 v] }).objs.size,[(s.heap.push { cls:=.type "range",data:=.fields #[.int lo t,.int hi u,.int 1 v] }).objs.size],_,_,H,rfl,
  I1.kept (t':=tk) fun b o e=>Heap.get?_push_of_some _ e,turn_range _ lo (hi - lo).toNat,?_,fun b hb=>?_,q⟩
 ·have e1:lo+((0:Nat) : Int) * 1=lo:=by simp
  have e2:(((hi - lo).toNat:Nat) : Int) - ((0:Nat) : Int)=Builtin.Range.rangeSize lo hi 1:=by rw [rangeSize_one]; split <;> omega
  show IsRangeIter _ _ (lo+((0:Nat) : Int) * 1) ((((hi - lo).toNat:Nat) : Int) - ((0:Nat) : Int)) 1
  rw [e1,e2]
  exact Heap.get?_push_size _ rfl
 ·have e:b=(s.heap.push { cls:=.type "range",data:=.fields #[.int lo t,.int hi u,.int 1 v] }).objs.size:=by simpa using hb
  subst e
  exact I1.fpOk (Nat.le_refl _) (I1.hok.fresh (Nat.le_refl _))
def iRng1 (ta:TA) : TI:=fun σ H R=>ta σ H fun vs H1=>∃ j:Int,vs=[.int j]∧-(2 ^ 62)≤j∧j < 2 ^ 62∧R (Itr 0 j.toNat) H1
theorem pi_range1 {a:Expr} {ta:TA} {p pos:Pos} (hg:Gl X "range") (hm:X.mg "range" = none) (ha:PA X [a] ta) (hs:starEach [a] X.env=[(false,eval a X.env)]:=by rfl) : PI X tg (.Call (.Name "range" p) [a] [] pos) (iRng1 ta):=by
 intro pins s σ H R I h
 refine Call_ (ld_blt I hg hm boot_range (PyProof.Rows.callWith_type1 (thn (ha pos pins s σ H _ I h) fun us s1 ⟨vs,H1,I1,r1,q1⟩=>?_) hs rfl))
 obtain ⟨j,e,q1,q2,q⟩:=q1
 subst e
 cases r1 with
 | cons r rr =>
  cases rr
  obtain ⟨t,rfl⟩:=r
  exact call_range_1 (range_it I1 (by omega) (by omega) q1 q2 (by simpa using q))
def tFor (wi:TI) (g:TG) (tb:TS) : TS:=fun D σ H=>wi σ H fun J H1=>∃ W:Nat→Nat→St→Hp→Prop,(∃ m,W 0 m σ H1)∧∀ i m σ H,W i m σ H →
 (J.stop i H∧D.nx σ H)∨(J.go i H∧∃ N:St→Hp→Prop,(∀ σ' H',N σ' H'→∃ m',m' < m∧W (i+1) m' σ' H')∧∀ x H',J.yld i H x H'→g x σ H' fun σ2 H2=>tb { D with nx:=N,ct:=N,bk:=D.nx } σ2 H2)
def pinsAt (fp:List Addr) (h:Heap) : List (Addr × Obj):=fp.filterMap fun b=>(h.get? b).map fun o=>(b,o)
theorem mem_pinsAt {fp:List Addr} {h:Heap} {b:Addr} {o:Obj} (hb:b ∈ fp) (e:h.get? b=some o) : (b,o) ∈ pinsAt fp h:=List.mem_filterMap.mpr ⟨b,hb,by rw [e]; rfl⟩
theorem of_pinsAt {fp:List Addr} {h:Heap} {p:Addr × Obj} (hp:p ∈ pinsAt fp h) : p.1 ∈ fp∧h.get? p.1=some p.2:=by
 obtain ⟨b,hb,e⟩:=List.mem_filterMap.mp hp
 cases q:h.get? b with
 | none=>rw [q] at e; cases e
 | some o =>
  rw [q] at e
  have e':(b,o)=p:=Option.some.inj e
  subst e'
  exact ⟨hb,q⟩
theorem Inv.pinned {pins:List (Addr × Obj)} {σ:St} {H:Hp} {s:Shared} {fp:List Addr} (I:Inv X pins σ H s) (hf:∀ b ∈ fp,FpOk X pins H b) (ho:∀ b ∈ fp,∃ o,s.heap.get? b=some o∧∀ v,o.data≠.cell v) : Inv X (pins++pinsAt fp s.heap) σ H s:=
 I.pins_of fun p hp=>(List.mem_append.mp hp).elim (fun z=>I.pin p (List.mem_append_right _ z)) fun z=>by
  obtain ⟨hb,e⟩:=of_pinsAt z
  obtain ⟨f0,f1,f2,_⟩:=hf p.1 hb
  obtain ⟨o,e',d⟩:=ho p.1 hb
  rw [e] at e'; cases e'
  exact ⟨e,f0,f1,f2,d⟩
theorem Inv.unpinned {pins pl:List (Addr × Obj)} {σ:St} {H:Hp} {s:Shared} (I:Inv X (pins++pl) σ H s) : Inv X pins σ H s:=I.pins_of fun p hp=>I.pin p (List.mem_append_right _ (List.mem_append_left _ hp))
theorem ps_for {iter:Expr} {body:List Stmt} {wi:TI} {g:TG} {tb:TS} {pos:Pos} (hp:PassesOwn (model X.prog X.w) X.A X.env X.xe) (hc:X.calm=true) (hi:PI X tg iter wi) (hg:PG X tg g) (hb:PSs X body tb)
  (hs:∀ x,foldedSetIterable iter X.env x=pure x:=by intro _; rfl) : PS X (.For tg iter body [] pos) (tFor wi g tb):=by
 intro pins s σ H D I h
 refine wpAny_For (thn (hi pins s σ H _ I h) fun v s1 h1=>thn h1 fun itv s2 h2=>?_) hs
 obtain ⟨it,fp,tn,J,H2,e,I2,T,st2,f2,W,⟨m0,w0⟩,turn⟩:=h2
 subst e
 -- what stays true of the iterator's objects through the loop
 have stat:∀ {H':Hp},(∀ b ∈ fp,H' b=none)→∀ b ∈ fp,FpOk X pins H' b:=fun hn b hb=>⟨hn b hb,(f2 b hb).2⟩
 refine codeAny_forLoop_any (fun n s'=>∃ i σ' H',Inv X pins σ' H' s'∧tn i s'.heap∧(∀ b ∈ fp,H' b=none)∧W i n σ' H') ?_ m0 ⟨0,σ,H2,I2,st2,fun b hb=>(f2 b hb).1,w0⟩
 rintro n s3 ⟨i,σ3,H3,I3,st3,fr3,w3⟩
 rcases turn i n σ3 H3 w3 with ⟨stop,qn⟩ | ⟨go,N,hN,step⟩
 ·refine wpAny_passesOwn hp (thn (T.done X rfl rfl rfl hc i pins s3 σ3 H3 X.xe I3 (stat fr3) st3 stop) fun r s4 ⟨hr,I4⟩=>?_)
  subst hr
  exact wpAny_execs_nil ⟨σ3,H3,I4,qn⟩
 ·refine wpAny_passesOwn hp (thn (T.item X rfl rfl rfl hc i pins s3 σ3 H3 X.xe I3 (stat fr3) st3 go) fun r s4 ⟨u,hr,h4⟩=>?_)
  subst hr
  refine wpAny_passesOwn hp (thn h4 fun _ s5 ⟨x,H5,I5,r5,y5,st5,fr5⟩=>?_)
  have I5':=I5.pinned (stat fr5) (T.obj _ _ st5)
  refine wpAny_passesOwn hp (thn (hg _ s5 σ3 H5 x u _ I5' r5 (step x H5 y5)) fun _ s6 ⟨σ6,H6,I6,q6⟩=>?_)
  refine wpAny_passesOwn hp (thn (hb _ s6 σ6 H6 _ I6 q6) fun f s7 q7=>?_)
  have again:∀ {σ7:St} {H7:Hp},Inv X (pins++pinsAt fp s5.heap) σ7 H7 s7→N σ7 H7→∃ m,m < n∧∃ i σ' H',Inv X pins σ' H' s7∧tn i s7.heap∧(∀ b ∈ fp,H' b=none)∧W i m σ' H':=fun {σ7 H7} I7 n7=>by
   obtain ⟨m',hm,w7⟩:=hN σ7 H7 n7
   refine ⟨m',hm,i+1,σ7,H7,I7.unpinned,T.keep _ _ _ st5 fun b hb o e=>(I7.pin (b,o) (List.mem_append_right _ (List.mem_append_right _ (mem_pinsAt hb e)))).1,fun b hb=>?_,w7⟩
   obtain ⟨o,e,d⟩:=T.obj _ _ st5 b hb
   exact (I7.pin (b,o) (List.mem_append_right _ (List.mem_append_right _ (mem_pinsAt hb e)))).2.1
  cases f with
  | next=>obtain ⟨σ7,H7,I7,n7⟩:=q7; exact again I7 n7
  | cont=>obtain ⟨σ7,H7,I7,n7⟩:=q7; exact again I7 n7
  | brk=>obtain ⟨σ7,H7,I7,q7⟩:=q7; exact ⟨σ7,H7,I7.unpinned,q7⟩
  | ret v=>obtain ⟨x7,σ7,H7,I7,r7,q7⟩:=q7; exact ⟨x7,σ7,H7,I7.unpinned,r7,q7⟩
end

theorem for_list {K:PySem.W.Frag} {a:Addr} {xs:List V} {g:TG} {tb:TS} {D:Ends} {σ:St} {H:Hp} (Pv:Nat→St→Hp→Prop) (h0:Pv 0 σ H) (hl:∀ i σ H,i≤xs.length→Pv i σ H→SqL K H a xs)
  (hs:∀ i x σ H,xs[i]? = some x→Pv i σ H→g x σ H fun σ2 H2=>tb { D with nx:=Pv (i+1),ct:=Pv (i+1),bk:=D.nx } σ2 H2) (hd:∀ σ H,Pv xs.length σ H→D.nx σ H) :
  ∃ W:Nat→Nat→St→Hp→Prop,(∃ m,W 0 m σ H)∧∀ i m σ H,W i m σ H →
   ((Itl K a).stop i H∧D.nx σ H)∨((Itl K a).go i H∧∃ N:St→Hp→Prop,(∀ σ' H',N σ' H'→∃ m',m' < m∧W (i+1) m' σ' H')∧∀ x H',(Itl K a).yld i H x H'→g x σ H' fun σ2 H2=>tb { D with nx:=N,ct:=N,bk:=D.nx } σ2 H2):=by
 refine ⟨fun i m σ H=>m=xs.length - i∧i≤xs.length∧Pv i σ H,⟨xs.length,by simp,Nat.zero_le _,h0⟩,?_⟩
 rintro i m σ H ⟨rfl,hi,p⟩
 have q:=hl i σ H hi p
 by_cases hlt:i < xs.length
 ·refine .inr ⟨⟨xs,xs[i],q,by simp [hlt]⟩,Pv (i+1),fun σ' H' p'=>⟨xs.length - (i+1),by omega,rfl,hlt,p'⟩,fun x H' y=>?_⟩
  obtain ⟨e,y⟩:=y
  subst e
  exact hs i x σ _ (y xs q) p
 ·have e:i=xs.length:=by omega
  subst e
  exact .inl ⟨⟨xs,q,Nat.le_refl _⟩,hd σ H p⟩
theorem for_range {lo:Int} {n:Nat} {g:TG} {tb:TS} {D:Ends} {σ:St} {H:Hp} (Pv:Nat→St→Hp→Prop) (h0:Pv 0 σ H)
  (hs:∀ i σ H,i < n→Pv i σ H→g (.int (lo+i)) σ H fun σ2 H2=>tb { D with nx:=Pv (i+1),ct:=Pv (i+1),bk:=D.nx } σ2 H2) (hd:∀ σ H,Pv n σ H→D.nx σ H) :
  ∃ W:Nat→Nat→St→Hp→Prop,(∃ m,W 0 m σ H)∧∀ i m σ H,W i m σ H →
   ((Itr lo n).stop i H∧D.nx σ H)∨((Itr lo n).go i H∧∃ N:St→Hp→Prop,(∀ σ' H',N σ' H'→∃ m',m' < m∧W (i+1) m' σ' H')∧∀ x H',(Itr lo n).yld i H x H'→g x σ H' fun σ2 H2=>tb { D with nx:=N,ct:=N,bk:=D.nx } σ2 H2):=by
 refine ⟨fun i m σ H=>m=n - i∧i≤n∧Pv i σ H,⟨n,by simp,Nat.zero_le _,h0⟩,?_⟩
 rintro i m σ H ⟨rfl,hi,p⟩
 by_cases hlt:i < n
 ·refine .inr ⟨hlt,Pv (i+1),fun σ' H' p'=>⟨n - (i+1),by omega,rfl,hlt,p'⟩,fun x H' y=>?_⟩
  obtain ⟨e,y⟩:=y
  subst e y
  exact hs i σ _ hlt p
 ·have e:i=n:=by omega
  subst e
  exact .inl ⟨Nat.le_refl _,hd σ H p⟩

abbrev R2:=V→V→Hp→VK→Prop
def OpR (X:Cx) (f:Value→Value→Sem Value) (r:R2) : Prop:=
 ∀ (pins:List (Addr × Obj)) (s:Shared) (σ:St) (H:Hp) (x y:V) (v u:Value) (Q:VK),Inv X pins σ H s→RelV x v→RelV y u→r x y H Q →
  wpAny (model X.prog X.w) X.A (f v u) (EP X pins σ Q) X.xe s
def UnR (X:Cx) (f:Value→Sem Value) (r:V→Hp→VK→Prop) : Prop:=
 ∀ (pins:List (Addr × Obj)) (s:Shared) (σ:St) (H:Hp) (x:V) (v:Value) (Q:VK),Inv X pins σ H s→RelV x v→r x H Q →
  wpAny (model X.prog X.w) X.A (f v) (EP X pins σ Q) X.xe s
def CallR (X:Cx) (f:Value) (r:List V→Hp→VK→Prop) : Prop:=
 ∀ (pins:List (Addr × Obj)) (s:Shared) (σ:St) (H:Hp) (xs:List V) (us:List Value) (Q:VK),Inv X pins σ H s→Vals xs us→r xs H Q →
  wpAny (model X.prog X.w) X.A (call f us) (EP X pins σ Q) X.xe s
def tOp (r:R2) (ta tb:TE) : TE:=fun σ H Q=>ta σ H fun x H1=>tb σ H1 fun y H2=>r x y H2 Q
def tUn (r:V→Hp→VK→Prop) (ta:TE) : TE:=fun σ H Q=>ta σ H fun x H1=>r x H1 Q
def rI (C:Int→Int→Prop) (g:Int→Int→V) : R2:=fun x y H Q=>∃ i j,x = .int i∧y = .int j∧C i j∧Q (g i j) H
def rI0 (g:Int→Int→V) : R2:=fun x y H Q=>∃ i j,x = .int i∧y = .int j∧Q (g i j) H
def rU (g:Int→V) : V→Hp→VK→Prop:=fun x H Q=>∃ i,x = .int i∧Q (g i) H

section
variable {X:Cx} {a b c:Expr} {ta tb tc:TE} {pos:Pos}

theorem binT (ha:PE X a ta) (hb:PE X b tb) {pins:List (Addr × Obj)} {s:Shared} {σ:St} {H:Hp} {R:V→V→Hp→Prop} (I:Inv X pins σ H s)
  (h:ta σ H fun x H1=>tb σ H1 fun y H2=>R x y H2) {Q:Value→Shared→Prop} {f:Value→Value→Sem Value}
  (hf:∀ v u s2 x y H2,Inv X pins σ H2 s2→RelV x v→RelV y u→R x y H2→wpAny (model X.prog X.w) X.A (f v u) Q X.xe s2) :
  wpAny (model X.prog X.w) X.A (eval a X.env) (fun v s₁=>wpAny (model X.prog X.w) X.A (eval b X.env) (fun u s₂=>wpAny (model X.prog X.w) X.A (f v u) Q X.xe s₂) X.xe s₁) X.xe s:=by
 refine thn (ha pins s σ H _ I h) fun v s1 ⟨x,H1,I1,r1,q1⟩=>?_
 refine thn (hb pins s1 σ H1 _ I1 q1) fun u s2 ⟨y,H2,I2,r2,q2⟩=>?_
 exact hf v u s2 x y H2 I2 r1 r2 q2

theorem pe_op {op:Operator} {r:R2} (ho:OpR X (binaryOp op) r) (ha:PE X a ta) (hb:PE X b tb) : PE X (.BinOp a op b pos) (tOp r ta tb):=by
 intro pins s σ H Q I h
 exact wpAny_BinOp (binT ha hb I h fun v u s2 x y H2 I2 rx ry q=>ho pins s2 σ H2 x y v u Q I2 rx ry q)
theorem pe_un {op:UnaryOp} {r:V→Hp→VK→Prop} (ho:UnR X (unaryOp op) r) (ha:PE X a ta) : PE X (.UnaryOp op a pos) (tUn r ta):=by
 intro pins s σ H Q I h
 exact UnaryOp_ (thn (ha pins s σ H _ I h) fun v s1 ⟨x,H1,I1,r1,q1⟩=>ho pins s1 σ H1 x v Q I1 r1 q1)
theorem opI {f:Value→Value→Sem Value} {C:Int→Int→Prop} {g:Int→Int→Int}
  (rule:∀ (i j:Int) (t u:Tok) (s:Shared) (Q:Value→Shared→Prop) (E:Value→Shared→Prop),C i j→Q (.int (g i j) s.toks) { s with toks:=s.toks+1 }→wpAny (model X.prog X.w) X.A (f (.int i t) (.int j u)) Q E s) :
  OpR X f (rI C fun i j=>.int (g i j)):=by
 intro pins s σ H x y v u Q I rx ry h
 obtain ⟨i,j,rfl,rfl,hc,q⟩:=h
 obtain ⟨t,rfl⟩:=rx
 obtain ⟨t',rfl⟩:=ry
 exact rule i j t t' s _ _ hc ⟨.int (g i j),H,I.tok _,⟨_,rfl⟩,q⟩
theorem opI0 {f:Value→Value→Sem Value} {g:Int→Int→Int}
  (rule:∀ (i j:Int) (t u:Tok) (s:Shared) (Q:Value→Shared→Prop) (E:Value→Shared→Prop),Q (.int (g i j) s.toks) { s with toks:=s.toks+1 }→wpAny (model X.prog X.w) X.A (f (.int i t) (.int j u)) Q E s) :
  OpR X f (rI0 fun i j=>.int (g i j)):=by
 intro pins s σ H x y v u Q I rx ry h
 obtain ⟨i,j,rfl,rfl,q⟩:=h
 obtain ⟨t,rfl⟩:=rx
 obtain ⟨t',rfl⟩:=ry
 exact rule i j t t' s _ _ ⟨.int (g i j),H,I.tok _,⟨_,rfl⟩,q⟩
theorem opB0 {f:Value→Value→Sem Value} {g:Int→Int→Bool}
  (rule:∀ (i j:Int) (t u:Tok) (s:Shared) (Q:Value→Shared→Prop) (E:Value→Shared→Prop),Q (.bool (g i j)) s→wpAny (model X.prog X.w) X.A (f (.int i t) (.int j u)) Q E s) :
  OpR X f (rI0 fun i j=>.bl (g i j)):=by
 intro pins s σ H x y v u Q I rx ry h
 obtain ⟨i,j,rfl,rfl,q⟩:=h
 obtain ⟨t,rfl⟩:=rx
 obtain ⟨t',rfl⟩:=ry
 exact rule i j t t' s _ _ ⟨.bl (g i j),H,I,rfl,q⟩

def CDiv (i j:Int) : Prop:=0 < j∧j < 1073741824
def CPow (i j:Int) : Prop:=0≤j∧j≤1000000∧i.natAbs < 2 ^ 64
def CMul (i j:Int) : Prop:=(-(2 ^ 64) < i∧i < 2 ^ 64)∨(-(2 ^ 64) < j∧j < 2 ^ 64)
theorem CMul.ok {i j:Int} (h:CMul i j) : IntMulOk i j:=by
 rcases h with ⟨h1,h2⟩ | ⟨h1,h2⟩
 ·exact .of_left (intBits_le_64 h1 h2)
 ·exact .of_right (intBits_le_64 h1 h2)
theorem op_add:OpR X (binaryOp .Add) (rI0 fun i j=>.int (i+j)):=opI0 fun _ _ _ _ _ _ _ q=>add_int q
theorem op_sub:OpR X (binaryOp .Sub) (rI0 fun i j=>.int (i - j)):=opI0 fun _ _ _ _ _ _ _ q=>sub_int q
theorem op_mul:OpR X (binaryOp .Mult) (rI CMul fun i j=>.int (i * j)):=opI fun _ _ _ _ _ _ _ hc q=>mul_int q hc.ok
theorem op_fdiv:OpR X (binaryOp .FloorDiv) (rI CDiv fun i j=>.int (i / j)):=opI fun i j _ _ _ _ _ hc q=>by
 have h1:(0:Int) < j:=hc.1
 have h2:j < 1073741824:=hc.2
 exact floordiv_int (by omega) (by rw [Int.fdiv_eq_ediv_of_nonneg i (by omega)]; exact q) (.inl (PyProof.noPylong_small (by omega)))
theorem op_mod:OpR X (binaryOp .Mod) (rI (fun _ j=>0 < j) fun i j=>.int (i % j)):=opI fun i j _ _ _ _ _ hc q=>by
 have h1:(0:Int) < j:=hc
 exact mod_int' (by omega) (by rw [Int.fmod_eq_emod_of_nonneg i (by omega)]; exact q)
theorem op_pow:OpR X (binaryOp .Pow) (rI CPow fun i j=>.int (i ^ j.toNat)):=opI fun _ _ _ _ _ _ _ hc q=>pow_int_small hc.1 hc.2.1 hc.2.2 q
theorem unI {f:Value→Sem Value} {g:Int→Int}
  (rule:∀ (i:Int) (t:Tok) (s:Shared) (Q:Value→Shared→Prop) (E:Value→Shared→Prop),Q (.int (g i) s.toks) { s with toks:=s.toks+1 }→wpAny (model X.prog X.w) X.A (f (.int i t)) Q E s) :
  UnR X f (rU fun i=>.int (g i)):=by
 intro pins s σ H x v Q I rx h
 obtain ⟨i,rfl,q⟩:=h
 obtain ⟨t,rfl⟩:=rx
 exact rule i t s _ _ ⟨.int (g i),H,I.tok _,⟨_,rfl⟩,q⟩
theorem un_neg:UnR X (unaryOp .USub) (rU fun i=>.int (-i)):=unI fun _ _ _ _ _ q=>neg_int q
end

def scal:V→V→Bool
 | .non,.non=>true | .non,.int _=>true | .int _,.non=>true | .non,.bl _=>true | .bl _,.non=>true | .non,.str _=>true | .str _,.non=>true
 | .int _,.int _=>true | .bl _,.bl _=>true | .str _,.str _=>true | .byt _,.byt _=>true
 | .int _,.str _=>true | .str _,.int _=>true | .bl _,.str _=>true | .str _,.bl _=>true
 | _,_=>false
def rEq:R2:=fun x y H Q=>scal x y=true∧Q (.bl (decide (x=y))) H
def rNe:R2:=fun x y H Q=>scal x y=true∧Q (.bl (!decide (x=y))) H

theorem dec_int {i j:Int} : decide (V.int i=V.int j)=(i == j):=by
 rw [Bool.eq_iff_iff]
 simp
theorem dec_bl {i j:Bool} : decide (V.bl i=V.bl j)=(i == j):=by
 rw [Bool.eq_iff_iff]
 simp
theorem dec_str {i j:Str} : decide (V.str i=V.str j)=(i == j):=by
 rw [Bool.eq_iff_iff]
 simp
theorem dec_byt {i j:Array UInt8} : decide (V.byt i=V.byt j)=(i.toList == j.toList):=by
 rw [Bool.eq_iff_iff]
 cases i
 cases j
 simp

section
variable {X:Cx} {a b c:Expr} {ta tb tc:TE} {pos:Pos}
theorem fin_bl {pins:List (Addr × Obj)} {σ:St} {H:Hp} {s:Shared} {Q:VK} {k k':Bool} (I:Inv X pins σ H s) (q:Q (.bl k) H) (e:k=k') : EP X pins σ Q (.bool k') s:=by
 subst e
 exact ⟨.bl k,H,I,rfl,q⟩
theorem op_eq:OpR X (compareOp .Eq) rEq:=by
 intro pins s σ H x y v u Q I rx ry h
 obtain ⟨hs,q⟩:=h
 cases x with
 | non =>
  cases rx
  cases y with
  | non=>cases ry; exact PySem.EqNone.eq_none_none (fin_bl I q (by simp))
  | bl j=>cases ry; exact PySem.EqNone.eq_none_bool (fin_bl I q (by simp))
  | int j=>obtain ⟨t',rfl⟩:=ry; exact PySem.EqNone.eq_none_int (fin_bl I q (by simp))
  | str j=>obtain ⟨t',rfl⟩:=ry; exact PySem.EqNone.eq_none_str (fin_bl I q (by simp))
  | _=>exact absurd (show false=true from hs) Bool.false_ne_true
 | bl i =>
  cases rx
  cases y with
  | non=>cases ry; exact PySem.EqNone.eq_bool_none (fin_bl I q (by simp))
  | bl j=>cases ry; exact eq_bool (fin_bl I q dec_bl)
  | str j=>obtain ⟨t',rfl⟩:=ry; exact PySem.EqMixed.eq_bool_str (fin_bl I q (by simp))
  | _=>exact absurd (show false=true from hs) Bool.false_ne_true
 | int i =>
  obtain ⟨t,rfl⟩:=rx
  cases y with
  | non=>cases ry; exact PySem.EqNone.eq_int_none (fin_bl I q (by simp))
  | int j=>obtain ⟨t',rfl⟩:=ry; exact eq_int (fin_bl I q dec_int)
  | str j=>obtain ⟨t',rfl⟩:=ry; exact PySem.EqMixed.eq_int_str (fin_bl I q (by simp))
  | _=>exact absurd (show false=true from hs) Bool.false_ne_true
 | str i =>
  obtain ⟨t,rfl⟩:=rx
  cases y with
  | non=>cases ry; exact PySem.EqNone.eq_str_none (fin_bl I q (by simp))
  | bl j=>cases ry; exact PySem.EqMixed.eq_str_bool (fin_bl I q (by simp))
  | int j=>obtain ⟨t',rfl⟩:=ry; exact PySem.EqMixed.eq_str_int (fin_bl I q (by simp))
  | str j=>obtain ⟨t',rfl⟩:=ry; exact eq_str (fin_bl I q dec_str)
  | _=>exact absurd (show false=true from hs) Bool.false_ne_true
 | byt i =>
  obtain ⟨t,rfl⟩:=rx
  cases y with
  | byt j=>obtain ⟨t',rfl⟩:=ry; exact PySem.W.eq_bytes (fin_bl I q dec_byt)
  | _=>exact absurd (show false=true from hs) Bool.false_ne_true
 | _=>cases y <;> exact absurd (show false=true from hs) Bool.false_ne_true
theorem op_ne:OpR X (compareOp .NotEq) rNe:=by
 intro pins s σ H x y v u Q I rx ry h
 obtain ⟨hs,q⟩:=h
 cases x with
 | non =>
  cases rx
  cases y with
  | non=>cases ry; exact PySem.EqNone.ne_none_none (fin_bl I q (by simp))
  | bl j=>cases ry; exact PySem.EqNone.ne_none_bool (fin_bl I q (by simp))
  | int j=>obtain ⟨t',rfl⟩:=ry; exact PySem.EqNone.ne_none_int (fin_bl I q (by simp))
  | str j=>obtain ⟨t',rfl⟩:=ry; exact PySem.EqNone.ne_none_str (fin_bl I q (by simp))
  | _=>exact absurd (show false=true from hs) Bool.false_ne_true
 | bl i =>
  cases rx
  cases y with
  | non=>cases ry; exact PySem.EqNone.ne_bool_none (fin_bl I q (by simp))
  | bl j=>cases ry; exact ne_bool (fin_bl I q (congrArg not dec_bl))
  | str j=>obtain ⟨t',rfl⟩:=ry; exact PySem.EqMixed.ne_bool_str (fin_bl I q (by simp))
  | _=>exact absurd (show false=true from hs) Bool.false_ne_true
 | int i =>
  obtain ⟨t,rfl⟩:=rx
  cases y with
  | non=>cases ry; exact PySem.EqNone.ne_int_none (fin_bl I q (by simp))
  | int j=>obtain ⟨t',rfl⟩:=ry; exact ne_int (fin_bl I q (congrArg not dec_int))
  | str j=>obtain ⟨t',rfl⟩:=ry; exact PySem.EqMixed.ne_int_str (fin_bl I q (by simp))
  | _=>exact absurd (show false=true from hs) Bool.false_ne_true
 | str i =>
  obtain ⟨t,rfl⟩:=rx
  cases y with
  | non=>cases ry; exact PySem.EqNone.ne_str_none (fin_bl I q (by simp))
  | bl j=>cases ry; exact PySem.EqMixed.ne_str_bool (fin_bl I q (by simp))
  | int j=>obtain ⟨t',rfl⟩:=ry; exact PySem.EqMixed.ne_str_int (fin_bl I q (by simp))
  | str j=>obtain ⟨t',rfl⟩:=ry; exact ne_str (fin_bl I q (congrArg not dec_str))
  | _=>exact absurd (show false=true from hs) Bool.false_ne_true
 | byt i =>
  obtain ⟨t,rfl⟩:=rx
  cases y with
  | byt j=>obtain ⟨t',rfl⟩:=ry; exact PySem.W.ne_bytes (fin_bl I q (congrArg not dec_byt))
  | _=>exact absurd (show false=true from hs) Bool.false_ne_true
 | _=>cases y <;> exact absurd (show false=true from hs) Bool.false_ne_true

theorem op_lt:OpR X (compareOp .Lt) (rI0 fun i j=>.bl (decide (i < j))):=opB0 fun _ _ _ _ _ _ _ q=>lt_int q
theorem op_le:OpR X (compareOp .LtE) (rI0 fun i j=>.bl (decide (i≤j))):=opB0 fun _ _ _ _ _ _ _ q=>le_int q
theorem op_gt:OpR X (compareOp .Gt) (rI0 fun i j=>.bl (decide (j < i))):=opB0 fun _ _ _ _ _ _ _ q=>gt_int q
theorem op_ge:OpR X (compareOp .GtE) (rI0 fun i j=>.bl (decide (j≤i))):=opB0 fun _ _ _ _ _ _ _ q=>ge_int q
theorem op_isN:OpR X (compareOp .Is) (fun x y H Q=>y = .non∧Q (.bl (decide (x = .non))) H):=by
 intro pins s σ H x y v u Q I rx ry h
 obtain ⟨rfl,q⟩:=h
 cases ry
 refine is_none_gen (fin_bl I q ?_)
 cases x <;> first
  | (cases rx; rfl)
  | (obtain ⟨t,rfl⟩:=rx; rfl)
theorem op_notN:OpR X (compareOp .IsNot) (fun x y H Q=>y = .non∧Q (.bl (!decide (x = .non))) H):=by
 intro pins s σ H x y v u Q I rx ry h
 obtain ⟨rfl,q⟩:=h
 cases ry
 refine isnot_none_gen (fin_bl I q ?_)
 cases x <;> first
  | (cases rx; rfl)
  | (obtain ⟨t,rfl⟩:=rx; rfl)

theorem nomark (b:Expr) {op:CmpOp} (h:op≠.In:=by decide) (h2:op≠.NotIn:=by decide) : behindInMarks op b=false:=by
 have e1:(op == CmpOp.In)=false:=by cases op <;> first | rfl | exact absurd rfl h
 have e2:(op == CmpOp.NotIn)=false:=by cases op <;> first | rfl | exact absurd rfl h2
 cases b <;> simp [behindInMarks,e1,e2]
theorem pe_cmpR {op:CmpOp} {r:R2} (ho:OpR X (compareOp op) r) (ha:PE X a ta) (hb:PE X b tb) (hm:behindInMarks op b=false) : PE X (.Compare a [op] [b] pos) (tOp r ta tb):=by
 intro pins s σ H Q I h
 exact wpAny_Compare1 (binT ha hb I h fun v u s2 x y H2 I2 rx ry q=>ho pins s2 σ H2 x y v u Q I2 rx ry q) hm
def tTest (t:TE) : TT:=fun σ H Q=>t σ H fun x H'=>∃ k,x = .bl k∧Q k H'
theorem pt_cmpR {op:CmpOp} {r:R2} (ho:OpR X (compareOp op) r) (ha:PE X a ta) (hb:PE X b tb) (hm:behindInMarks op b=false) : PT X (.Compare a [op] [b] pos) (tTest (tOp r ta tb)):=by
 intro pins s σ H Q I h
 refine wpAny_isTrue_Compare1 (thn (ha pins s σ H _ I h) fun v s1 ⟨x,H1,I1,r1,q1⟩=>thn (hb pins s1 σ H1 _ I1 q1) fun u s2 ⟨y,H2,I2,r2,q2⟩ =>
  thn (ho pins s2 σ H2 x y v u _ I2 r1 r2 q2) fun c s3 ⟨z,H3,I3,r3,k,e,q3⟩=>?_) hm
 subst e
 cases r3
 exact wpAny_truthy_bool ⟨H3,I3,q3⟩
def tChain (r r':R2) (ta tb tc:TE) : TE:=fun σ H Q=>ta σ H fun x H1=>tb σ H1 fun y H2=>r x y H2 fun z H3=>∃ k,z = .bl k ∧
 (if k=true then tc σ H3 fun w' H4=>r' y w' H4 Q else Q (.bl false) H3)
theorem pt_chain {op op':CmpOp} {r r':R2} (ho:OpR X (compareOp op) r) (ho':OpR X (compareOp op') r') (ha:PE X a ta) (hb:PE X b tb) (hc:PE X c tc)
  (hm:lastMarks [op,op'] [b,c]=false:=by with_unfolding_all rfl) : PT X (.Compare a [op,op'] [b,c] pos) (tTest (tChain r r' ta tb tc)):=by
 intro pins s σ H Q I h
 refine isTrue_chain (thn (ha pins s σ H _ I h) fun v s1 ⟨x,H1,I1,r1,q1⟩=>test_link (thn (hb pins s1 σ H1 _ I1 q1) fun u s2 ⟨y,H2,I2,r2,q2⟩ =>
  thn (ho pins s2 σ H2 x y v u _ I2 r1 r2 q2) fun d s3 ⟨z,H3,I3,r3,k,e,q3⟩=>?_)) hm
 subst e
 cases r3
 refine wpAny_truthy_bool ?_
 cases k with
 | false =>
  obtain ⟨k',e',q'⟩:=q3
  cases e'
  exact ite_ff ⟨H3,I3,q'⟩
 | true =>
  refine ite_tt (test_last (thn (hc pins s3 σ H3 _ I3 q3) fun w' s4 ⟨z',H4,I4,r4,q4⟩=>thn (ho' pins s4 σ H4 y z' u w' _ I4 r2 r4 q4) fun d' s5 ⟨z2,H5,I5,r5,k2,e2,q5⟩=>?_))
  subst e2
  cases r5
  exact wpAny_truthy_bool ⟨H5,I5,q5⟩

theorem line63:(sizeLine:Nat) < 2 ^ 63:=by rw [sizeLine_eq]; decide
theorem op_add_str:OpR X (binaryOp .Add) (fun x y H Q=>∃ i j,x = .str i∧y = .str j∧i.length+j.length≤sizeLine∧Q (.str (i++j)) H):=by
 intro pins s σ H x y v u Q I rx ry h
 obtain ⟨i,j,rfl,rfl,hz,q⟩:=h
 obtain ⟨t,rfl⟩:=rx
 obtain ⟨t',rfl⟩:=ry
 exact add_str (fun t' tk=>⟨.str (i++j),H,I.tok _,⟨_,rfl⟩,q⟩) hz
theorem vals1 {x:V} {us:List Value} (r:Vals [x] us) : ∃ u,us=[u]∧RelV x u:=by
 cases r with
 | cons r1 r2=>cases r2; exact ⟨_,rfl,r1⟩
theorem vals2 {x y:V} {us:List Value} (r:Vals [x,y] us) : ∃ u w',us=[u,w']∧RelV x u∧RelV y w':=by
 cases r with
 | cons r1 r2 =>
  cases r2 with
  | cons r3 r4=>cases r4; exact ⟨_,_,rfl,r1,r3⟩
theorem call_max2 (hc:X.calm=true) : CallR X (.builtin "max") (fun xs H Q=>∃ i j,xs=[.int i,.int j]∧Q (.int (if j > i then j else i)) H):=by
 intro pins s σ H xs us Q I r h
 obtain ⟨i,j,rfl,q⟩:=h
 obtain ⟨u,w',rfl,⟨t,rfl⟩,⟨t',rfl⟩⟩:=vals2 r
 refine max_two_ints (I.ok.hd hc) fun h' tk k=>⟨_,H,I.kept k,?_,q⟩
 by_cases hj:j > i
 ·rw [if_pos hj,if_pos hj]; exact ⟨_,rfl⟩
 ·rw [if_neg hj,if_neg hj]; exact ⟨_,rfl⟩
theorem call_min2 (hc:X.calm=true) : CallR X (.builtin "min") (fun xs H Q=>∃ i j,xs=[.int i,.int j]∧Q (.int (if j < i then j else i)) H):=by
 intro pins s σ H xs us Q I r h
 obtain ⟨i,j,rfl,q⟩:=h
 obtain ⟨u,w',rfl,⟨t,rfl⟩,⟨t',rfl⟩⟩:=vals2 r
 refine min_two_ints (I.ok.hd hc) fun h' tk k=>⟨_,H,I.kept k,?_,q⟩
 by_cases hj:j < i
 ·rw [if_pos hj,if_pos hj]; exact ⟨_,rfl⟩
 ·rw [if_neg hj,if_neg hj]; exact ⟨_,rfl⟩
theorem call_int1:CallR X (.type "int") (fun xs H Q=>(∃ i,xs=[.int i]∧Q (.int i) H)∨∃ k,xs=[.bl k]∧Q (.int (if k then 1 else 0)) H):=by
 intro pins s σ H xs us Q I r h
 rcases h with ⟨i,rfl,q⟩ | ⟨k,rfl,q⟩
 ·obtain ⟨u,rfl,t,rfl⟩:=vals1 r
  exact call_int_int ⟨.int i,H,I,⟨_,rfl⟩,q⟩
 ·obtain ⟨u,rfl,r1⟩:=vals1 r
  cases r1
  exact call_int_bool ⟨.int (if k then 1 else 0),H,I.tok _,⟨_,rfl⟩,q⟩
theorem call_str_int:CallR X (.type "str") (fun xs H Q=>∃ i,xs=[.int i]∧i.natAbs.log2 < 1920∧Q (.str (toString i)) H):=by
 intro pins s σ H xs us Q I r h
 obtain ⟨i,rfl,hz,q⟩:=h
 obtain ⟨u,rfl,t,rfl⟩:=vals1 r
 exact PySem.P.str_of_int hz ⟨.str _,H,I.tok _,⟨_,rfl⟩,q⟩
end

section
variable {prog:Program} {w:World} {A:Around} {E:Value→Shared→Prop} {s:Shared} {K:PySem.W.Frag} {x dx C f:Addr} {mA:Str→Option Value} {name:Str} {v:Value}

end

theorem RelO.some_of {v:V} {o:Option Value} (r:RelO (some v) o) : ∃ u,o=some u∧RelV v u:=by
 cases o with
 | none=>exact (show False from r).elim
 | some u=>exact ⟨u,rfl,r⟩
section
variable {P:Program} {w:World} {H H':Hp} {h h':Heap} {a C dx:Addr} {fs fs':List (Str × V)}
end

section
variable {X:Cx} {pins:List (Addr × Obj)} {σ:St} {H:Hp} {s:Shared} {a C dx:Addr} {fs:List (Str × V)} {f:Str} {v:V} {A:Around} {E:Value→Shared→Prop}

end

section
variable {X:Cx} {o e value:Expr} {f:Str} {pos pos' tpos:Pos} {ta tv:TE}
end

section
variable {X:Cx} {pins:List (Addr × Obj)} {σ:St} {H:Hp} {s:Shared} {A:Around} {E:Value→Shared→Prop} {Q:Value→Shared→Prop} {c:Value} {b:Bool}
end

structure Room (k:Nat) (A:Around) : Prop where
 hd:A.handled=none
 dp:A.depth+3 * k+5 < recursionLimit
 un:A.units+16 * k+200 < cLine
theorem Room.mono {j k:Nat} {A:Around} (r:Room k A) (h:j≤k) : Room j A:=⟨r.hd,by have:=r.dp; omega,by have:=r.un; omega⟩
theorem Room.deeper {k:Nat} {A:Around} (r:Room (k+1) A) (env:Env) : Room k (A.deeper env):=
 ⟨r.hd,by have:=r.dp; show A.depth+1+3 * k+5 < _; omega,by have:=r.un; show A.units+3+16 * k+200 < _; omega⟩
theorem Room.depth {k:Nat} {A:Around} (r:Room k A) : A.depth < recursionLimit:=by have:=r.dp; omega
theorem Room.units {k:Nat} {A:Around} (r:Room k A) : A.units+64 < cLine:=by have:=r.un; omega
def tNil:TA:=fun _ H Q=>Q [] H
def tCons (ta:TE) (tr:TA) : TA:=fun σ H Q=>ta σ H fun x H1=>tr σ H1 fun xs H2=>Q (x :: xs) H2
section
variable {X:Cx} {e:Expr} {es:List Expr} {te:TE} {t:TA} {pos:Pos}
theorem pa_nil:PA X [] tNil:=fun _ _ _ _ H Q I h=>Calls.spliced_nil ⟨[],H,I,.nil,h⟩
theorem pa_cons (ha:PE X e te) (hr:PA X es t) (hs:starEach (e :: es) X.env=(false,eval e X.env) :: starEach es X.env:=by rfl) : PA X (e :: es) (tCons te t):=by
 intro pos pins s σ H Q I h
 rw [hs]
 show wpAny _ _ (spliced ((false,eval e X.env) :: backTo pos (starEach es X.env))) _ _ s
 refine Calls.spliced_cons (thn (ha pins s σ H _ I h) fun u s1 ⟨x,H1,I1,r1,q1⟩=>?_)
 exact thn (hr pos pins s1 σ H1 _ I1 q1) fun us s2 ⟨xs,H2,I2,r2,q2⟩=>⟨x :: xs,H2,I2,.cons r1 r2,q2⟩

def tTup (t:TA) : TE:=fun σ H Q=>t σ H fun xs H1=>xs.length≤sizeLine∧∀ p,H1 p=none→Q (.ref p) (upd H1 p (.tup xs))
def tLst (t:TA) : TE:=fun σ H Q=>t σ H fun xs H1=>xs.length≤sizeLine∧∀ p,H1 p=none→Q (.ref p) (upd H1 p (.lst xs))
theorem pe_tup {x1} (h:PA X es t) : PE X (.Tuple es x1 pos) (tTup t):=by
 intro pins s σ H Q I hq
 refine wpAny_Tuple_spliced (thn (h pos pins s σ H _ I hq) fun us s1 ⟨xs,H1,I1,r,z,q⟩=>⟨by rw [← r.length]; exact z,?_⟩)
 have hf:H1 s1.heap.objs.size=none:=I1.hok.fresh (Nat.le_refl _)
 refine ⟨.ref s1.heap.objs.size,upd H1 s1.heap.objs.size (.tup xs),I1.laid (t':=s1.toks) (fun b u e=>Heap.get?_push_of_some _ e) (Nat.le_refl _) ?_,rfl,q _ hf⟩
 exact ⟨z,us,r,⟨_,Heap.get?_push_size _ rfl,rfl,_,rfl⟩⟩
theorem pe_lst (h:PA X es t) : PE X (.List es pos) (tLst t):=by
 intro pins s σ H Q I hq
 refine wpAny_List_spliced (thn (h pos pins s σ H _ I hq) fun us s1 ⟨xs,H1,I1,r,z,q⟩=>⟨by rw [← r.length]; exact z,?_⟩)
 have hf:H1 s1.heap.objs.size=none:=I1.hok.fresh (Nat.le_refl _)
 refine ⟨.ref s1.heap.objs.size,upd H1 s1.heap.objs.size (.lst xs),I1.laid (t':=s1.toks) (fun b u e=>Heap.get?_push_of_some _ e) (Nat.le_refl _) ?_,rfl,q _ hf⟩
 exact ⟨z,us,0,r,Heap.get?_push_size _ rfl⟩
end

abbrev Sp:=List V→Hp→VK→XK→Prop
abbrev CXT:=List Env→Hp→Shared→XK→Value→Shared→Prop

structure Env0 (P:Program) (w:World) (K:PySem.W.Frag) (mg:Str→Option Value) (base:Heap) (A:Around) (outer:List Env) (s:Shared) (H:Hp) : Prop where
 frames:A.frames=some outer
 mod:Mod K mg base
 bs:∀ b o,base.get? b=some o→s.heap.get? b=some o∧H b=none
 bsz:base.objs.size≤s.heap.objs.size
 funs:s.heap.FunFrames base outer
 frf:∀ b ∈ frs outer,H b=none
 hok:HOk P w H s.heap
 bare:AllBare s.gens
def CE (outer:List Env) (P:Program) (w:World) (H:Hp) (s:Shared) (Q:VK) (u:Value) (s':Shared) : Prop:=
 ∃ v H',s'.os=s.os∧AllBare s'.gens∧Un (frs outer) [] H H' s.heap s'.heap∧HOk P w H' s'.heap∧RelV v u∧Q v H'
def CR (CX:CXT) (outer:List Env) (P:Program) (w:World) (H:Hp) (s:Shared) (Q:VK) (E:XK) (r:Result) (s':Shared) : Prop:=
 match r with
 | .ok (.ret u)=>CE outer P w H s Q u s'
 | .ok _=>False
 | .error e=>CX outer H s E e s'
structure FnOk (P:Program) (w:World) (K:PySem.W.Frag) (mg:Str→Option Value) (base:Heap) (CX:CXT) (k:Nat) (f:Addr) (fd:FuncData) (ps:List Str) (sp:Sp) : Prop where
 len:∀ vs H Q E,sp vs H Q E→vs.length=ps.length
 run:∀ (A:Around) (outer:List Env) (s:Shared) (H:Hp) (args:Args) (us:List Value) (vs:List V) (Q:VK) (E:XK),Room k A→Env0 P w K mg base A outer s H→BindsTo s fd args (ps.zip us)→Vals vs us→sp vs H Q E →
  codeAny (model P w) A (.call (.ref f) args) (CR CX outer P w H s Q E) s
section
variable {X:Cx} {pins:List (Addr × Obj)} {σ:St} {H:Hp} {s s':Shared}
theorem Inv.env0 (I:Inv X pins σ H s) : Env0 X.prog X.w X.K X.mg X.base X.A X.stack s H:=
 ⟨I.ok.frames,I.ok.mod,I.bs,Nat.le_trans I.ok.bsz I.sz,I.stack,I.stkFree,I.hok,I.bare⟩
theorem Inv.after {Q:VK} {u:Value} (I:Inv X pins σ H s) (h:CE X.stack X.prog X.w H s Q u s') : EP X pins σ Q u s':=by
 obtain ⟨v,H',os,bare,un,hok,r,q⟩:=h
 obtain ⟨hh,g,d,t,os'⟩:=s'
 obtain rfl:os' = s.os:=os
 exact ⟨v,H',I.call (h':=hh) (g':=g) (d':=d) (t':=t) (ch:=[]) un hok bare (fun b z=>absurd z (by simp)),r,q⟩
end

def tCall (sp:Sp) (dvs:List V) (E:XK) (t:TA) : TE:=fun σ H Q=>t σ H fun vs H1=>sp (vs++dvs) H1 Q E
def Binds (K:PySem.W.Frag) (fd:FuncData) (ps:List Str) (ds:List Value) : Prop:=
 ∀ (s:Shared) (us:List Value),K.In s.heap→(us++ds).length=ps.length→BindsTo s fd ⟨us,[]⟩ (ps.zip (us++ds))
theorem Binds.all {K:PySem.W.Frag} {fd:FuncData} {ps:List Str} (h:∀ us:List Value,us.length=ps.length→bindArgs fd ⟨us,[]⟩=pure (ps.zip us)) : Binds K fd ps []:=fun s us _ hl=>by
 rw [List.append_nil] at hl ⊢
 exact .of_eq (h us hl)

def Passes (CX:CXT) (X:Cx) (E:XK) : Prop:=∀ (pins:List (Addr × Obj)) (σ:St) (H:Hp) (s:Shared) (e:Value) (s':Shared),Inv X pins σ H s→CX X.stack H s E e s'→X.xe e s'

section
variable {X:Cx} {CX:CXT} {k:Nat} {f C:Addr} {fd:FuncData} {ps:List Str} {sp:Sp} {dvs:List V} {ds:List Value} {E:XK} {x m:Str} {p pos apos:Pos} {e o:Expr} {es:List Expr} {ta:TE} {t:TA}

theorem run_fn {pins:List (Addr × Obj)} {σ:St} {H:Hp} {s:Shared} {Q:VK} {us:List Value} {vs:List V} (F:FnOk X.prog X.w X.K X.mg X.base CX k f fd ps sp) (hr:Room k X.A) (hb:Binds X.K fd ps ds) (hd:Vals dvs ds) (hx:Passes CX X E)
  (I:Inv X pins σ H s) (r:Vals vs us) (h:sp (vs++dvs) H Q E) : wpAny (model X.prog X.w) X.A (call (.ref f) us) (EP X pins σ Q) X.xe s:=by
 have r2:Vals (vs++dvs) (us++ds):=r.append hd
 have hl:(us++ds).length=ps.length:=by rw [← r2.length]; exact F.len _ _ _ _ h
 refine wpAny_call (codeAny_mono (F.run X.A X.stack s H ⟨us,[]⟩ (us++ds) (vs++dvs) Q E hr I.env0 (hb s us I.kIn hl) r2 h) fun r s' hq=>?_)
 cases r with
 | error e=>exact hx pins σ H s e s' I hq
 | ok fl =>
  cases fl with
  | ret u=>exact I.after hq
  | next=>exact False.elim hq
  | brk=>exact False.elim hq
  | cont=>exact False.elim hq

theorem pe_call (F:FnOk X.prog X.w X.K X.mg X.base CX k f fd ps sp) (hr:Room k X.A) (hg:Gl X x) (hm:X.mg x=some (.ref f)) (hk:PySem.W.keepIn X.K (.ref f)=true) (hb:Binds X.K fd ps ds) (hd:Vals dvs ds) (hx:Passes CX X E)
  (ha:PA X (e :: es) t) (hdb:(x == ("__debug__" : Str))=false:=by decide) (he:starEach (e :: es) X.env=(false,eval e X.env) :: starEach es X.env:=by rfl) (hpl:(backTo pos (starEach es X.env)).any (·.1)=false:=by rfl) :
  PE X (.Call (.Name x p) (e :: es) [] pos) (tCall sp dvs E t):=by
 intro pins s σ H Q I h
 refine wpAny_Call_Name_kw (ld_glob I hg hm ?_ hdb)
 refine PySem.W.callWith_K (h₀:=X.base) I.ok.mod.kin hk (thn (ha pos pins s σ H _ I h) fun us s1 ⟨vs,H1,I1,r,q⟩=>⟨I1.kIn,?_⟩) he hpl
 exact run_fn F hr hb hd hx I1 r q
end

section
variable {X:Cx} {CX:CXT} {k:Nat} {f C:Addr} {fd:FuncData} {ps ks:List Str} {sp:Sp} {E:XK} {x m:Str} {p pos apos kpos:Pos} {e o:Expr} {es:List Expr} {kws:List Keyword} {te ta:TE} {t tk:TA} {nm:Option Str}
variable {g:List Value→List Value→List Value} {gV:List V→List V→List V}
end

structure FnScope (N P:List Str) (sc:Scope) : Prop where
 kind:sc.kind = .function
 co:sc.isCoroutine=false
 gen:sc.isGenerator=false
 nd:N.Nodup
 pre:N.take P.length=P
 par:∀ x ∈ P,sc.names.lookup x=some .local∨sc.names.lookup x=some .cell
 nofree:∀ y ∈ sc.names,y.2≠.free

theorem bindL_out {kindOf:Str→Option NameKind} {x:Str} : ∀ {binds:List (Str × Value)} {m:Str→Option Value},(∀ v,(x,v) ∉ binds)→bindL kindOf binds m x=m x
 | [],_,_=>rfl
 | (n,v) :: r,m,h=>by
  unfold bindL
  rw [bindL_out fun w hw=>h w (List.mem_cons_of_mem _ hw)]
  split
  ·have:x≠n:=by rintro rfl; exact h v List.mem_cons_self
   simp [this]
  ·rfl
theorem bindC_out {kindOf:Str→Option NameKind} {x:Str} : ∀ {binds:List (Str × Value)} {m:Str→Option Value},(∀ v,(x,v) ∉ binds)→bindC kindOf binds m x=m x
 | [],_,_=>rfl
 | (n,v) :: r,m,h=>by
  unfold bindC
  rw [bindC_out fun w hw=>h w (List.mem_cons_of_mem _ hw)]
  split
  ·rfl
  ·have:x≠n:=by rintro rfl; exact h v List.mem_cons_self
   simp [this]
theorem bindL_get {kindOf:Str→Option NameKind} {x:Str} {v:Value} : ∀ {P:List Str} {vs:List Value} {i:Nat} {m:Str→Option Value},P.Nodup→P[i]? = some x→vs[i]? = some v→kindOf x=some .local →
  bindL kindOf (P.zip vs) m x=some v
 | [],_,_,_,_,h,_,_=>by simp at h
 | _ :: _,[],_,_,_,_,h,_=>by simp at h
 | p :: P,w :: vs,0,m,nd,h1,h2,hk=>by
  simp at h1 h2; subst h1; subst h2
  show bindL kindOf ((p,w) :: P.zip vs) m p=_
  unfold bindL
  rw [bindL_out fun v hv=>(List.nodup_cons.mp nd).1 (List.of_mem_zip hv).1,if_pos hk]
  simp
 | p :: P,w :: vs,i+1,m,nd,h1,h2,hk=>by
  show bindL kindOf ((p,w) :: P.zip vs) m x=_
  unfold bindL
  exact bindL_get (i:=i) (List.nodup_cons.mp nd).2 (by simpa using h1) (by simpa using h2) hk
theorem bindC_get {kindOf:Str→Option NameKind} {x:Str} {v:Value} : ∀ {P:List Str} {vs:List Value} {i:Nat} {m:Str→Option Value},P.Nodup→P[i]? = some x→vs[i]? = some v→kindOf x≠some .local →
  bindC kindOf (P.zip vs) m x=some v
 | [],_,_,_,_,h,_,_=>by simp at h
 | _ :: _,[],_,_,_,_,h,_=>by simp at h
 | p :: P,w :: vs,0,m,nd,h1,h2,hk=>by
  simp at h1 h2; subst h1; subst h2
  show bindC kindOf ((p,w) :: P.zip vs) m p=_
  unfold bindC
  rw [bindC_out fun v hv=>(List.nodup_cons.mp nd).1 (List.of_mem_zip hv).1,if_neg hk]
  simp
 | p :: P,w :: vs,i+1,m,nd,h1,h2,hk=>by
  show bindC kindOf ((p,w) :: P.zip vs) m x=_
  unfold bindC
  exact bindC_get (i:=i) (List.nodup_cons.mp nd).2 (by simpa using h1) (by simpa using h2) hk

def start (N:List Str) (vs:List V) : St:=vs.map some++List.replicate (N.length - vs.length) none

def cxOf (CX:CXT) (P:Program) (w:World) (K:PySem.W.Frag) (mg:Str→Option Value) (base:Heap) (N:List Str) (qual:Str) (scope:Scope) (f:Addr) (cd:Value) (A:Around) (outer:List Env) (s:Shared) (H:Hp) (E:XK) : Cx where
 prog:=P
 w:=w
 K:=K
 mg:=mg
 base:=base
 A:=A.deeper (envOfC qual scope s.heap.objs.size f cd)
 N:=N
 s₀:=s
 H₀:=H
 env:=envOfC qual scope s.heap.objs.size f cd
 outer:=outer
 stack:=envOfC qual scope s.heap.objs.size f cd :: outer
 ex:=[]
 calm:=true
 fn:=fun _=>true
 pn:=[]
 xe:=fun e s'=>wpAny (model P w) (A.deeper (envOfC qual scope s.heap.objs.size f cd)) (leaving (envOfC qual scope s.heap.objs.size f cd) e) (fun _ s''=>CX outer H s E e s'') (fun e' s''=>CX outer H s E e' s'') s'

theorem cell_has {sc:Scope} {n:Nat} {x:Str} (h:sc.names.lookup x=some .cell) : ∃ c,(cellsFrom n sc.names []).lookup x=some c:=by
 have q:=PySem.W.cellsFrom_some sc.names n [] (.inl h)
 exact Option.isSome_iff_exists.mp q

theorem inv_start {CX:CXT} {P:Program} {w:World} {K:PySem.W.Frag} {mg:Str→Option Value} {base:Heap} {N ps:List Str} {qual:Str} {scope:Scope} {f:Addr} {cd:Value} {A:Around} {outer:List Env} {s s1:Shared} {H:Hp} {E:XK} {us:List Value} {vs:List V}
  (S:FnScope N ps scope) (hd:A.handled=none) (e0:Env0 P w K mg base A outer s H) (hl:vs.length=ps.length) (r:Vals vs us)
  (x:InCallC s s.heap.objs.size (bindL (envOfC qual scope s.heap.objs.size f cd).kindOf (ps.zip us) fun _=>none) (cellsFrom (s.heap.objs.size+1) scope.names []) (bindC (envOfC qual scope s.heap.objs.size f cd).kindOf (ps.zip us) fun _=>none) s1) :
  Inv (cxOf CX P w K mg base N qual scope f cd A outer s H E) [] (start N vs) H s1:=by
 have hpl:ps.length≤N.length:=by have:=congrArg List.length S.pre; rw [List.length_take] at this; omega
 obtain ⟨h1,tk,rfl,hk⟩:=x.done
 have noA:∀ b:Addr,b ∉ (cxOf CX P w K mg base N qual scope f cd A outer s H E).ex:=fun b z=>absurd (show b ∈ ([] : List Addr) from z) (by simp)
 refine ⟨⟨e0.mod,S.kind,rfl,rfl,Nat.le_refl _,fun y z c h1 h2=>?_,fun y hy=>?_,fun y c _ h=>?_,fun _=>hd,Around.frames_deeper e0.frames,.inr ⟨rfl,rfl⟩,fun b z=>absurd z (noA b),e0.bs,e0.bsz,fun b _ _=>noA b,fun b z=>absurd z (noA b),e0.funs,e0.frf⟩,
  rfl,e0.bare,Un.kept hk,⟨_,x.toInCall.ns,fun i y v h1 h2 h3=>?_⟩,fun y c h=>⟨_,x.cell y c h⟩,e0.hok.fresh (Nat.le_refl _),fun y c h=>?_,fun p hp=>absurd (show p ∈ ([] : List (Addr × Obj)) from hp) (by simp),e0.hok.kept hk,?_⟩
 ·exact name_of_addr x.apart (PySem.mem_of_lookup h1) (PySem.mem_of_lookup h2)
 ·have hy:scope.names.lookup y=some .cell∨scope.names.lookup y=some .free:=hy
  rcases hy with hy | hy
  ·exact cell_has hy
  ·exact absurd rfl (S.nofree _ (PySem.mem_of_lookup hy))
 ·exact Nat.le_of_lt (x.above y c (PySem.mem_of_lookup h))
 ·have hi:i < vs.length:=by
   unfold start at h2
   by_cases hi:i < vs.length
   ·exact hi
   ·rw [List.getElem?_append_right (by simpa using hi)] at h2
    rw [List.getElem?_replicate] at h2
    split at h2 <;> cases h2
  have ha:vs[i]? = some v:=by
   unfold start at h2
   rw [List.getElem?_append_left (by simpa using hi),List.getElem?_map] at h2
   cases e:vs[i]? with
   | none=>rw [e] at h2; cases h2
   | some a=>rw [e] at h2; cases h2; rfl
  obtain ⟨u,hu,rv⟩:=r.get ha
  have hp:ps[i]? = some y:=by
   rw [← S.pre,List.getElem?_take_of_lt (by omega)]; exact h1
  have ndP:ps.Nodup:=by rw [← S.pre]; exact S.nd.sublist (List.take_sublist _ _)
  refine ⟨u,rv,?_⟩
  rcases S.par y (List.mem_of_getElem? hp) with k | k
  ·exact .inl ⟨k,bindL_get ndP hp hu k⟩
  ·obtain ⟨c,e⟩:=cell_has (n:=s.heap.objs.size+1) k
   refine .inr ⟨.inl k,c,e,?_⟩
   have q:=x.cell y c e
   rw [bindC_get ndP hp hu (by show scope.names.lookup y≠_; rw [k]; decide)] at q
   exact q
 ·exact e0.hok.fresh (Nat.le_of_lt (x.above y c (PySem.mem_of_lookup h)))
 ·unfold start
  show _=N.length
  rw [List.length_append,List.length_map,List.length_replicate]
  omega

theorem fn_of {CX:CXT} {P:Program} {w:World} {K:PySem.W.Frag} {mg:Str→Option Value} {base:Heap} {k:Nat} {f:Addr} {name qual:Str} {params:Arguments} {body:List Stmt} {scope:Scope} {dV kV doc pm cdv ct oc:Value} {an od:Option Addr}
  {osl:Array (Option Value)} {N ps:List Str} {sp:Sp} (lk:K.lookup f=some ⟨oc,od,.func (PySem.W.fnOf name qual params body scope dV kV doc pm an cdv ct),osl⟩) (hcd:PySem.W.codeIn K cdv qual=true) (S:FnScope N ps scope)
  (len:∀ vs H Q E,sp vs H Q E→vs.length=ps.length)
  (hbody:∀ (A:Around) (outer:List Env) (s:Shared) (H:Hp) (vs:List V) (Q:VK) (E:XK),Room k (A.deeper (envOfC qual scope s.heap.objs.size f cdv))→sp vs H Q E →
   ∃ t,PSs (cxOf CX P w K mg base N qual scope f cdv A outer s H E) body t∧t { nx:=fun _ H'=>Q .non H',rt:=Q } (start N vs) H) :
  FnOk P w K mg base CX (k+1) f (PySem.W.fnOf name qual params body scope dV kV doc pm an cdv ct) ps sp:=by
 refine ⟨len,fun A outer s H args us vs Q E hr e0 hb r hsp=>?_⟩
 have hl:=len _ _ _ _ hsp
 have KX:K.In s.heap:=e0.mod.kin.keeps fun b o e=>(e0.bs b o e).1
 have lim:s.heap.NoLimit:=e0.mod.nolimit.keeps fun b o e=>(e0.bs b o e).1
 have hkind:∀ y ∈ ps.zip us,scope.names.lookup y.1=some .local∨(scope.names.lookup y.1=some .cell∧((cellsFrom (s.heap.objs.size+1) scope.names []).lookup y.1).isSome=true):=fun ⟨n,v⟩ hy=>by
  rcases S.par n (List.of_mem_zip hy).1 with q | q
  ·exact .inl q
  ·exact .inr ⟨q,PySem.W.cellsFrom_some _ _ _ (.inl q)⟩
 refine codeAny_call_function hr.depth (KX _ _ lk) rfl S.co S.gen rfl (PySem.W.codeRec_of KX hcd) (hb _ _ _ _ ?_)
 refine wpAny_newFunctionEnv_cells S.kind hkind fun env he s1 x=>?_
 subst he
 refine ⟨lim.keeps x.toInCall.keep,codeAny_func ?_⟩
 obtain ⟨t,ht,hq⟩:=hbody A outer s H vs Q E (hr.deeper _) hsp
 have I:Inv (cxOf CX P w K mg base N qual scope f cdv A outer s H E) [] (start N vs) H s1:=inv_start S hr.hd e0 hl r x
 refine wpAny_mono (ht [] s1 (start N vs) H _ I hq) (fun fl s' hs=>?_) fun e s' hs=>hs
 have fin:∀ {σ':St} {H':Hp} {v:V} {u:Value},Inv (cxOf CX P w K mg base N qual scope f cdv A outer s H E) [] σ' H' s'→RelV v u→Q v H'→CE outer P w H s Q u s':=
  fun {σ' H' v u} J rv q=>⟨v,H',J.os,J.bare,J.base,J.hok,rv,q⟩
 cases fl with
 | ret u =>
  obtain ⟨v,σ',H',J,rv,q⟩:=hs
  exact fin J rv q
 | next =>
  obtain ⟨σ',H',J,q⟩:=hs
  exact fin (v:=V.non) (u:=Value.none) J rfl q
 | brk =>
  obtain ⟨_,_,_,q⟩:=hs
  exact False.elim q
 | cont =>
  obtain ⟨_,_,_,q⟩:=hs
  exact False.elim q
section
variable {X:Cx} {x:Str} {p pos:Pos} {e:Expr} {es:List Expr} {t:TA} {id T:String} {r:List V→Hp→VK→Prop}

def tCB (r:List V→Hp→VK→Prop) (t:TA) : TE:=fun σ H Q=>t σ H fun vs H1=>r vs H1 Q
theorem pe_callB (hc:CallR X (.builtin id) r) (hg:Gl X x) (hm:X.mg x=none) (hv:bootBuiltins x=some (.builtin id)) (ha:PA X (e :: es) t) (hn:x≠"__name__":=by decide) (hdb:(x == ("__debug__" : Str))=false:=by decide)
  (he:starEach (e :: es) X.env=(false,eval e X.env) :: starEach es X.env:=by rfl) (hpl:(backTo pos (starEach es X.env)).any (·.1)=false:=by rfl) : PE X (.Call (.Name x p) (e :: es) [] pos) (tCB r t):=by
 intro pins s σ H Q I h
 refine wpAny_Call_Name_kw (ld_blt I hg hm hv ?_ hn hdb)
 exact PyProof.Rows.callWith_builtin1 (thn (ha pos pins s σ H _ I h) fun us s1 ⟨vs,H1,I1,r1,q1⟩=>hc pins s1 σ H1 vs us Q I1 r1 q1) he hpl
theorem pe_callTy (hc:CallR X (.type T) r) (hg:Gl X x) (hm:X.mg x=none) (hv:bootBuiltins x=some (.type T)) (ha:PA X (e :: es) t) (hn:x≠"__name__":=by decide) (hdb:(x == ("__debug__" : Str))=false:=by decide)
  (he:starEach (e :: es) X.env=(false,eval e X.env) :: starEach es X.env:=by rfl) (hpl:(backTo pos (starEach es X.env)).any (·.1)=false:=by rfl) : PE X (.Call (.Name x p) (e :: es) [] pos) (tCB r t):=by
 intro pins s σ H Q I h
 refine wpAny_Call_Name_kw (ld_blt I hg hm hv ?_ hn hdb)
 exact PyProof.Rows.callWith_type1 (thn (ha pos pins s σ H _ I h) fun us s1 ⟨vs,H1,I1,r1,q1⟩=>hc pins s1 σ H1 vs us Q I1 r1 q1) he hpl
end
end L2

namespace HT
open PySem PyProof.Rows

theorem eqAt_int (A:Around) (s:Shared) (a:Int) (t:Tok) (c:Int) (u:Tok) : ∃ e,SeqAt.EqAt A s (.int a t) (.int c u) e∧(e=true↔a=c):=
 ⟨(a == c),SeqAt.EqAt.int_int a t c u,by simp⟩
section
open PySem.SeqAt
open PySem.AutoSeq1 (wpAny_loadPart')
open PySem.MeetsSeq PySem.MeetsSeq2 PySem.MeetsSeq3

end

section
variable {prog:Program} {w:World} {A:Around} {E:Value→Shared→Prop} {s:Shared}

def sIx (n d:Nat) : Option Int→Nat
 | none=>d
 | some v=>if v < 0 then (v+(n:Int)).toNat else min v.toNat n
theorem sIx_none (n d:Nat) : sIx n d none=d:=rfl
theorem sIx_nat (n d k:Nat) : sIx n d (some (k:Int))=min k n:=by
 show (if (k:Int) < 0 then ((k:Int)+(n:Int)).toNat else min (k:Int).toNat n)=min k n
 rw [if_neg (by omega),Int.toNat_natCast]
end
end HT

namespace L2
open PySem PySem.Spec PyProof.Rows

abbrev TO:=St→Hp→(Option Int→Hp→Prop)→Prop
def PO (X:Cx) (e:Option Expr) (t:TO) : Prop:=
 ∀ (pins:List (Addr × Obj)) (s:Shared) (σ:St) (H:Hp) (Q:Option Int→Hp→Prop),Inv X pins σ H s→t σ H Q →
  wpAny (model X.prog X.w) X.A (evalPart e X.env) (fun u s'=>∃ o H',Inv X pins σ H' s'∧IsPart u o∧Q o H') X.xe s
def tNoPart:TO:=fun _ H Q=>Q none H
def tPart (t:TE) : TO:=fun σ H Q=>t σ H fun x H1=>∃ i,x = .int i∧Q (some i) H1

theorem intsAre_of {ns:List Int} : ∀ {us:List Value},Vals (ns.map V.int) us→IntsAre us ns:=by
 induction ns with
 | nil=>intro us r; rw [List.map_nil] at r; cases r; exact .nil
 | cons n ns ih =>
  intro us r
  rw [List.map_cons] at r
  cases r with
  | cons r1 r2 =>
   obtain ⟨t,e⟩:=r1
   subst e
   exact .cons n t (ih r2)

section
variable {X:Cx} {e:Expr} {te:TE} {lo hi:Option Expr} {tl th:TO} {pos p2:Pos}

theorem po_none:PO X none tNoPart:=by
 intro pins s σ H Q I h
 rw [evalPart_none]
 exact wpAny_pure ⟨none,H,I,.none,h⟩
theorem po_some (h:PE X e te) : PO X (some e) (tPart te):=by
 intro pins s σ H Q I hw
 rw [evalPart_some]
 refine thn (h pins s σ H _ I hw) fun u s1 ⟨x,H1,I1,r1,q1⟩=>?_
 obtain ⟨i,rfl,q⟩:=q1
 obtain ⟨t,rfl⟩:=r1
 exact ⟨some i,H1,I1,.int i t,q⟩

def SlR (X:Cx) (r:V→Option Int→Option Int→Hp→VK→Prop) : Prop:=
 ∀ (pins:List (Addr × Obj)) (s:Shared) (σ:St) (H:Hp) (x:V) (v vl vu:Value) (lo hi:Option Int) (sl:Addr) (Q:VK),Inv X pins σ H s→RelV x v→s.heap.IsSliceOf sl vl vu .none→IsPart vl lo→IsPart vu hi→r x lo hi H Q →
  ∃ T id,typeLookup (.type T) "__getitem__" = pure (some (.builtin id))∧s.TypeIs v T∧wpAny (model X.prog X.w) X.A (getItem v (.ref sl)) (EP X pins σ Q) X.xe s
def tSl (r:V→Option Int→Option Int→Hp→VK→Prop) (te:TE) (tl th:TO) : TE:=fun σ H Q=>te σ H fun x H1=>tl σ H1 fun l H2=>th σ H2 fun u H3=>r x l u H3 Q
theorem pe_slice {r:V→Option Int→Option Int→Hp→VK→Prop} (hr:SlR X r) (he:PE X e te) (hl:PO X lo tl) (hu:PO X hi th) : PE X (.Subscript e (.Slice lo hi none p2) pos) (tSl r te tl th):=by
 intro pins s σ H Q I h
 refine Subscript_ (thn (he pins s σ H _ I h) fun v s1 ⟨x,H1,I1,r1,q1⟩=>?_)
 refine wpAny_Slice (thn (hl pins s1 σ H1 _ I1 q1) fun vl s2 ⟨l,H2,I2,pl,q2⟩=>thn (hu pins s2 σ H2 _ I2 q2) fun vu s3 ⟨u,H3,I3,pu,q3⟩=>?_)
 rw [evalPart_none]
 refine wpAny_pure ?_
 have I4:Inv X pins σ H3 { s3 with heap:=s3.heap.push { cls:=.type "slice",data:=.fields #[vl,vu,.none] } }:=I3.kept (t':=s3.toks) fun b ob q=>Heap.get?_push_of_some _ q
 obtain ⟨T,id,hT,ht,hg⟩:=hr pins { s3 with heap:=s3.heap.push { cls:=.type "slice",data:=.fields #[vl,vu,.none] } } σ H3 x v vl vu l u s3.heap.objs.size Q I4 r1 (Heap.IsSliceOf.new ..) pl pu q3
 show wpAny (model X.prog X.w) X.A (subscriptTail e (.Slice lo hi none p2) v (.ref s3.heap.objs.size)) (EP X pins σ Q) X.xe { s3 with heap:=s3.heap.push { cls:=.type "slice",data:=.fields #[vl,vu,.none] } }
 exact tail_any (ops:=[.ref s3.heap.objs.size,v]) ht hT hg (by with_unfolding_all rfl)

def cutV (xs:List V) (lo hi:Option Int) : List V:=(xs.drop (HT.sIx xs.length 0 lo)).take (HT.sIx xs.length xs.length hi - HT.sIx xs.length 0 lo)
theorem cutV_length (xs:List V) (lo hi:Option Int) : (cutV xs lo hi).length≤xs.length:=by
 unfold cutV
 rw [List.length_take,List.length_drop]
 omega
end

def ixN (n:Nat) (i:Int) : Option Nat:=if 0≤i then (if i < n then some i.toNat else none) else if -(n:Int)≤i then some (i+n).toNat else none
def atI {α:Type} (xs:List α) (i:Int) : Option α:=(ixN xs.length i).bind fun j=>xs[j]?
theorem ixN_seq {n:Nat} {i:Int} {j:Nat} (h:ixN n i=some j) : seqIndex? i n=some j∧j < n∧-(n:Int)≤i∧i < n:=by
 unfold ixN at h
 by_cases h0:0≤i
 ·rw [if_pos h0] at h
  by_cases h1:i < n
  ·rw [if_pos h1] at h
   have e:i.toNat=j:=Option.some.inj h
   exact ⟨by rw [seqIndex_of h0 h1,e],by omega,by omega,h1⟩
  ·rw [if_neg h1] at h; cases h
 ·rw [if_neg h0] at h
  by_cases h1:-(n:Int)≤i
  ·rw [if_pos h1] at h
   have e:(i+n).toNat=j:=Option.some.inj h
   exact ⟨by rw [seqIndex_neg (by omega) h1,e],by omega,h1,by omega⟩
  ·rw [if_neg h1] at h; cases h
theorem atI_get {α:Type} {xs:List α} {i:Int} {v:α} (h:atI xs i=some v) : ∃ j,seqIndex? i xs.length=some j∧xs[j]? = some v∧j < xs.length∧-(xs.length:Int)≤i∧i < xs.length:=by
 unfold atI at h
 cases e:ixN xs.length i with
 | none=>rw [e] at h; cases h
 | some j =>
  rw [e] at h
  obtain ⟨h1,h2,h3,h4⟩:=ixN_seq e
  exact ⟨j,h1,h,h2,h3,h4⟩
theorem atI_nat {α:Type} {xs:List α} {j:Nat} {v:α} (h:xs[j]? = some v) : atI xs (j:Int)=some v:=by
 have hj:j < xs.length:=(List.getElem?_eq_some_iff.mp h).1
 have e:ixN xs.length (j:Int)=some j:=by
  unfold ixN
  rw [if_pos (by omega),if_pos (by omega)]; simp
 unfold atI; rw [e]; exact h
def PlainIx (b:Expr) : Prop:=∀ o i,subscripted b false o i=operate [o,i] (getItem o i)
def IxR (X:Cx) (r:R2) : Prop:=
 ∀ (value slice:Expr) (pins:List (Addr × Obj)) (s:Shared) (σ:St) (H:Hp) (x y:V) (v u:Value) (Q:VK),Inv X pins σ H s→RelV x v→RelV y u→r x y H Q →
  subscripted slice false v u=operate [v,u] (getItem v u)→wpAny (model X.prog X.w) X.A (subscriptTail value slice v u) (EP X pins σ Q) X.xe s
def MtR (X:Cx) (id:String) (r:V→List V→Hp→VK→Prop) : Prop:=
 ∀ (pins:List (Addr × Obj)) (s:Shared) (σ:St) (H:Hp) (x:V) (xs:List V) (v:Value) (us:List Value) (Q:VK),Inv X pins σ H s→RelV x v→Vals xs us→r x xs H Q →
  wpAny (model X.prog X.w) X.A (call (.builtin id) (v :: us)) (EP X pins σ Q) X.xe s
section
variable {X:Cx} {a b:Expr} {ta tb:TE} {pos:Pos}
theorem pe_ix {r:R2} (hr:IxR X r) (ha:PE X a ta) (hb:PE X b tb) (hs:PlainIx b) : PE X (.Subscript a b pos) (tOp r ta tb):=by
 intro pins s σ H Q I h
 exact Subscript_ (binT ha hb I h fun v u s2 x y H2 I2 rx ry q=>hr a b pins s2 σ H2 x y v u Q I2 rx ry q (hs _ _))

def rIxL (K:PySem.W.Frag) : R2:=fun x y H Q=>∃ p xs i v,x = .ref p∧y = .int i∧SqL K H p xs∧atI xs i=some v∧Q v H
def rIxT (K:PySem.W.Frag) : R2:=fun x y H Q=>∃ p xs i v,x = .ref p∧y = .int i∧SqT K H p xs∧atI xs i=some v∧Q v H
def rIxS:R2:=fun x y H Q=>∃ z i c,x = .str z∧y = .int i∧z.length≤sizeLine∧atI z.cps.toList i=some c∧Q (.str ⟨#[c]⟩) H
theorem ix_list:IxR X (rIxL X.K):=by
 intro value slice pins s σ H x y v u Q I rx ry h hs
 obtain ⟨p,xs,i,z,rfl,rfl,hq,he,q⟩:=h
 cases rx
 obtain ⟨t,rfl⟩:=ry
 obtain ⟨its,r,pl,hz⟩:=I.list hq
 obtain ⟨j,h1,h2,h3,h4,h5⟩:=atI_get he
 obtain ⟨w,ew,rw'⟩:=r.get h2
 have hl:=r.length
 have hn:=line63
 have fin:EP X pins σ Q w s:=⟨z,H,I,rw',q⟩
 by_cases h0:0≤i
 ·have hj:i.toNat=j:=by
   rw [seqIndex_of h0 h5] at h1
   exact Option.some.inj h1
  exact item_listR pl.isList h0 (by omega) (by rw [hj]; simpa using ew) fin hs
 ·have hj:(i+(its.toArray.size:Int)).toNat=j:=by
   rw [seqIndex_neg (by omega) h4] at h1
   rw [List.size_toArray,← hl]
   exact Option.some.inj h1
  exact subscriptTail_builtinR (x:=w) pl.isList.typeIs slot_list_getitem.lookup
   (wpAny_getItem_list_neg (Q:=fun r s'=>r=w∧EP X pins σ Q r s') pl.isList (by omega) (by rw [List.size_toArray] <;> omega) (by omega) (by rw [hj]; simpa using ew) ⟨rfl,fin⟩) hs
theorem ix_tup:IxR X (rIxT X.K):=by
 intro value slice pins s σ H x y v u Q I rx ry h hs
 obtain ⟨p,xs,i,z,rfl,rfl,hq,he,q⟩:=h
 cases rx
 obtain ⟨t,rfl⟩:=ry
 obtain ⟨its,r,pl,hz⟩:=I.tuple hq
 obtain ⟨j,h1,h2,h3,h4,h5⟩:=atI_get he
 obtain ⟨w,ew,rw'⟩:=r.get h2
 have hl:=r.length
 have hn:=line63
 have fin:EP X pins σ Q w s:=⟨z,H,I,rw',q⟩
 exact subscriptTail_builtinR (x:=w) pl.typeIs slot_tuple_getitem.lookup
  (getItem_tuple (j:=j) (Q:=fun r s'=>r=w∧EP X pins σ Q r s') pl (by omega) (by omega) (by rw [List.size_toArray,← hl]; exact h1) (by simpa using ew) ⟨rfl,fin⟩) hs
theorem ix_str:IxR X rIxS:=by
 intro value slice pins s σ H x y v u Q I rx ry h hs
 obtain ⟨z,i,c,rfl,rfl,hz,he,q⟩:=h
 obtain ⟨t,rfl⟩:=rx
 obtain ⟨t',rfl⟩:=ry
 obtain ⟨j,h1,h2,h3,h4,h5⟩:=atI_get he
 have hl:z.cps.toList.length=z.length:=by simp [Str.length]
 rw [hl] at h1 h4 h5
 have hn:=line63
 exact tail_any (typeIs_str s z t) slot_str_getitem.lookup (getItem_str (c:=c) (by
  have e1:decide (i < -(2 ^ 63:Int))=false:=decide_eq_false (by omega)
  have e2:decide (i ≥ 2 ^ 63)=false:=decide_eq_false (by omega)
  rw [e1,e2,Bool.or_false]) (by rw [h1]; simpa using h2) ⟨.str ⟨#[c]⟩,H,I.tok _,⟨_,rfl⟩,q⟩) hs
theorem mapSeq_set (its:List Value) (n j:Nat) (u:Value) : Obj.mapSeq (·.setIfInBounds j u) { cls:=.type "list",data:=.seq its.toArray n }={ cls:=.type "list",data:=.seq (its.set j u).toArray n }:=by
 simp [Obj.mapSeq]
theorem Inv.lst {pins:List (Addr × Obj)} {σ:St} {H:Hp} {s:Shared} {p:Addr} {xs:List V} (I:Inv X pins σ H s) (h:H p=some (.lst xs)) :
  ∃ (its:List Value) (n:Nat),Vals xs its∧s.heap.get? p=some { cls:=.type "list",data:=.seq its.toArray n }∧xs.length≤sizeLine:=by
 obtain ⟨z,its,n,r,e⟩:=I.hok p _ h
 exact ⟨its,n,r,e,z⟩
theorem Inv.lstUpd {pins:List (Addr × Obj)} {σ:St} {H:Hp} {s:Shared} {p:Addr} {xs ys:List V} {its its':List Value} {n n':Nat} {f:Obj→Obj} (I:Inv X pins σ H s) (h:H p=some (.lst xs))
  (ho:s.heap.get? p=some { cls:=.type "list",data:=.seq its.toArray n }) (hf:f { cls:=.type "list",data:=.seq its.toArray n }={ cls:=.type "list",data:=.seq its'.toArray n' }) (r:Vals ys its') (hz:ys.length≤sizeLine) (t:Nat) :
  Inv X pins σ (upd H p (.lst ys)) { s with heap:=s.heap.update p f,toks:=t }:=by
 have e:(s.heap.update p f).get? p=some { cls:=.type "list",data:=.seq its'.toArray n' }:=by
  rw [Heap.get?_update_self f ho (by rw [hf] <;> rfl),hf]
 refine I.write (x:=p) (e:=p) (by rw [h]; trivial) (.inl rfl) (fun b u hb q=>(Heap.get?_update_other _ _ (Ne.symm hb)).trans q) ⟨_,e⟩ ?_
 exact ⟨hz,its',n',r,e⟩
def rSetL:V→V→V→Hp→(Hp→Prop)→Prop:=fun o i v H Q=>∃ p xs k j,o = .ref p∧i = .int k∧H p=some (.lst xs)∧ixN xs.length k=some j∧Q (upd H p (.lst (xs.set j v)))
theorem set_list:PSet X rSetL:=by
 intro pins s σ H o i v ov iv u Q I ro ri rv h
 obtain ⟨p,xs,k,j,rfl,rfl,hp,hj,q⟩:=h
 cases ro
 obtain ⟨t,rfl⟩:=ri
 obtain ⟨its,n,r,ho,hz⟩:=I.lst hp
 obtain ⟨h1,h2,h3,h4⟩:=ixN_seq hj
 have hl:=r.length
 have hn:=line63
 have I':Inv X pins σ (upd H p (.lst (xs.set j v))) { s with heap:=s.heap.update p (Obj.mapSeq (·.setIfInBounds j u)) }:=
  I.lstUpd hp ho (mapSeq_set its n j u) (r.set rv j) (by rw [List.length_set]; exact hz) s.toks
 by_cases h0:0≤k
 ·have hk:k.toNat=j:=by
   rw [seqIndex_of h0 h4] at h1
   exact Option.some.inj h1
  exact PySem.W.ki_setAt ho h0 (by omega) (by rw [List.size_toArray,← hl]; exact h4) (by rw [hk]; exact ⟨_,I',q⟩)
 ·have hk:(k+(its.toArray.size:Int)).toNat=j:=by
   rw [seqIndex_neg (by omega) h3] at h1
   rw [List.size_toArray,← hl]
   exact Option.some.inj h1
  exact PySem.W.ki_setBack ho (by omega) (by rw [List.size_toArray,← hl]; exact h3) (by omega) (by rw [hk]; exact ⟨_,I',q⟩)

theorem slice_bounds (lo hi:Option Int) (n:Nat) : (sliceBounds lo hi none n).1=((HT.sIx n 0 lo:Nat) : Int)∧(sliceBounds lo hi none n).2.1=((HT.sIx n n hi:Nat) : Int)∧(sliceBounds lo hi none n).2.2=1:=by
 refine ⟨?_,?_,rfl⟩
 ·cases lo with
  | none=>simp [sliceBounds,HT.sIx]
  | some i =>
   simp only [sliceBounds,HT.sIx,Option.getD_none,show (1:Int) > 0 by decide,if_true]
   by_cases h:i < 0
   ·simp only [h,if_true] <;> omega
   ·simp only [h,if_false] <;> omega
 ·cases hi with
  | none=>simp [sliceBounds,HT.sIx]
  | some i =>
   simp only [sliceBounds,HT.sIx,Option.getD_none,show (1:Int) > 0 by decide,if_true]
   by_cases h:i < 0
   ·simp only [h,if_true] <;> omega
   ·simp only [h,if_false] <;> omega
theorem slicePick_cut (its:List Value) (lo hi:Option Int) : slicePick its.toArray lo hi none=((its.drop (HT.sIx its.length 0 lo)).take (HT.sIx its.length its.length hi - HT.sIx its.length 0 lo)).toArray:=by
 obtain ⟨h1,h2,h3⟩:=slice_bounds lo hi its.toArray.size
 unfold slicePick
 rw [h1,h2,h3]
 simp only [sliceRange_one,pick_run,List.size_toArray] <;> rfl
def rSlL (K:PySem.W.Frag) : V→Option Int→Option Int→Hp→VK→Prop:=fun x lo hi H Q=>∃ a xs,x = .ref a∧SqL K H a xs∧∀ p,H p=none→Q (.ref p) (upd H p (.lst (cutV xs lo hi)))
theorem sl_list:SlR X (rSlL X.K):=by
 intro pins s σ H x v vl vu lo hi sl Q I rx hs pl pu h
 obtain ⟨a,xs,rfl,hx,q⟩:=h
 cases rx
 obtain ⟨its,r,ht,hz⟩:=I.list hx
 have hlen:=r.length
 refine ⟨"list",_,slot_list_getitem.lookup,ht.isList.typeIs,?_⟩
 refine wpAny_getItem_list_slice ht.isList hs pl pu .none (by simp) ?_ (by rw [List.size_toArray] <;> omega)
 rw [slicePick_cut,← hlen]
 refine ⟨.ref s.heap.objs.size,_,I.laid (t':=s.toks) (o:=.lst (cutV xs lo hi)) (fun b ob q=>Heap.get?_push_of_some _ q) (Nat.le_refl _) ?_,rfl,q _ (I.hok.fresh (Nat.le_refl _))⟩
 exact ⟨Nat.le_trans (cutV_length xs lo hi) hz,_,0,(r.drop (HT.sIx xs.length 0 lo)).take (HT.sIx xs.length xs.length hi - HT.sIx xs.length 0 lo),Heap.get?_push_size _ rfl⟩

def flatV:V→Bool
 | .non=>true
 | .bl _=>true
 | .int _=>true
 | .str _=>true
 | _=>false
def eqV:V→V→Bool
 | .non,.non=>true
 | .bl a,.bl b=>a == b
 | .bl a,.int b=>(if a then 1 else 0) == b
 | .int a,.bl b=>a == (if b then 1 else 0)
 | .int a,.int b=>a == b
 | .str a,.str b=>a == b
 | _,_=>false
theorem eqAt_V {A:Around} {s:Shared} {y x:V} {u v:Value} (ry:RelV y u) (rx:RelV x v) (fy:flatV y=true) (fx:flatV x=true) : SeqAt.EqAt A s u v (eqV y x):=by
 cases y with
 | non =>
  cases ry
  cases x with
  | non=>cases rx; exact SeqAt.EqAt.same _
  | bl b=>cases rx; exact SeqAt.EqAt.none_bool b
  | int b=>obtain ⟨t,rfl⟩:=rx; exact SeqAt.EqAt.none_int b t
  | str b=>obtain ⟨t,rfl⟩:=rx; exact SeqAt.EqAt.none_str b t
  | _=>exact absurd (show false=true from fx) Bool.false_ne_true
 | bl a =>
  cases ry
  cases x with
  | non=>cases rx; exact SeqAt.EqAt.bool_none a
  | bl b=>cases rx; exact SeqAt.EqAt.bool_bool a b
  | int b=>obtain ⟨t,rfl⟩:=rx; exact SeqAt.EqAt.bool_int a b t
  | str b=>obtain ⟨t,rfl⟩:=rx; exact SeqAt.EqAt.bool_str a b t
  | _=>exact absurd (show false=true from fx) Bool.false_ne_true
 | int a =>
  obtain ⟨t',rfl⟩:=ry
  cases x with
  | non=>cases rx; exact SeqAt.EqAt.int_none a t'
  | bl b=>cases rx; exact SeqAt.EqAt.int_bool a t' b
  | int b=>obtain ⟨t,rfl⟩:=rx; exact SeqAt.EqAt.int_int a t' b t
  | str b=>obtain ⟨t,rfl⟩:=rx; exact SeqAt.EqAt.int_str a t' b t
  | _=>exact absurd (show false=true from fx) Bool.false_ne_true
 | str a =>
  obtain ⟨t',rfl⟩:=ry
  cases x with
  | non=>cases rx; exact SeqAt.EqAt.str_none a t'
  | bl b=>cases rx; exact SeqAt.EqAt.str_bool a t' b
  | int b=>obtain ⟨t,rfl⟩:=rx; exact SeqAt.EqAt.str_int a t' b t
  | str b=>obtain ⟨t,rfl⟩:=rx; exact SeqAt.EqAt.str_str a t' b t
  | _=>exact absurd (show false=true from fx) Bool.false_ne_true
 | _=>exact absurd (show false=true from fy) Bool.false_ne_true
def eqU (x:V) (u:Value) : Bool:=match u with
 | .none=>eqV .non x
 | .bool b=>eqV (.bl b) x
 | .int i _=>eqV (.int i) x
 | .str z _=>eqV (.str z) x
 | _=>false
theorem eqU_of {x y:V} {u:Value} (r:RelV y u) (f:flatV y=true) : eqU x u=eqV y x:=by
 cases y with
 | non=>cases r; rfl
 | bl b=>cases r; rfl
 | int i=>obtain ⟨t,rfl⟩:=r; rfl
 | str z=>obtain ⟨t,rfl⟩:=r; rfl
 | _=>exact absurd (show false=true from f) Bool.false_ne_true
theorem any_eqU {x:V} : ∀ {xs:List V} {us:List Value},Vals xs us→xs.all flatV=true→us.any (eqU x)=xs.any fun y=>eqV y x
 | _,_,.nil,_=>rfl
 | y :: xs,u :: us,.cons r t,f=>by
  rw [List.all_cons,Bool.and_eq_true] at f
  rw [List.any_cons,List.any_cons,eqU_of r f.1,any_eqU t f.2]
theorem mem_eqAt {A:Around} {s:Shared} {x:V} {v:Value} (rx:RelV x v) (fx:flatV x=true) : ∀ {xs:List V} {us:List Value},Vals xs us→xs.all flatV=true→∀ u ∈ us,SeqAt.EqAt A s u v (eqU x u)
 | _,_,.nil,_=>fun u hu=>by cases hu
 | y :: xs,u :: us,.cons r t,f=>fun u' hu=>by
  rw [List.all_cons,Bool.and_eq_true] at f
  rcases List.mem_cons.mp hu with rfl | hu
  ·rw [eqU_of r f.1]; exact eqAt_V r rx f.1 fx
  ·exact mem_eqAt rx fx t f.2 u' hu
def inV (x:V) (xs:List V) : Bool:=xs.any fun y=>eqV y x
def rIn (K:PySem.W.Frag) (neg:Bool) : R2:=fun x y H Q=>∃ p xs,y = .ref p∧(SqL K H p xs∨SqT K H p xs)∧flatV x=true∧xs.all flatV=true∧Q (.bl (if neg then !inV x xs else inV x xs)) H
theorem op_notIn_seq:OpR X (compareOp .NotIn) (rIn X.K true):=by
 intro pins s σ H x y v u Q I rx ry h
 obtain ⟨p,xs,rfl,hq,fx,fs,q⟩:=h
 cases ry
 rcases hq with hq | hq
 ·obtain ⟨its,r,pl,hz⟩:=I.list hq
  refine SeqAt.notIn_listAt (eqU x) pl.isList (fun w hw=>mem_eqAt rx fx r fs w (by simpa using hw)) ⟨.bl _,H,I,rfl,?_⟩
  rw [show its.toArray.any (eqU x)=its.any (eqU x) by simp,any_eqU r fs]
  exact q
 ·obtain ⟨its,r,pl,hz⟩:=I.tuple hq
  refine SeqAt.notIn_tupleAt (eqU x) pl (fun w hw=>mem_eqAt rx fx r fs w (by simpa using hw)) ⟨.bl _,H,I,rfl,?_⟩
  rw [show its.toArray.any (eqU x)=its.any (eqU x) by simp,any_eqU r fs]
  exact q
theorem call_len_seq:CallR X (.builtin "len") (fun xs H Q=>∃ p ys,xs=[.ref p]∧(SqL X.K H p ys∨SqT X.K H p ys)∧Q (.int ys.length) H):=by
 intro pins s σ H xs us Q I r h
 obtain ⟨p,ys,rfl,hq,q⟩:=h
 obtain ⟨u,rfl,rx⟩:=vals1 r
 cases rx
 have hn:=line63
 rcases hq with hq | hq
 ·obtain ⟨its,r',pl,hz⟩:=I.list hq
  have hlen:=r'.length
  exact Calls.call_len_list pl.isList (by simp only [List.size_toArray] <;> omega) ⟨.int ys.length,H,I.tok _,⟨s.toks+1,by rw [List.size_toArray,hlen]⟩,q⟩
 ·obtain ⟨its,r',pl,hz⟩:=I.tuple hq
  have hlen:=r'.length
  exact len_tuple pl (by simp only [List.size_toArray] <;> omega) ⟨.int ys.length,H,I.tok _,⟨s.toks+1,by rw [List.size_toArray,hlen]⟩,q⟩
theorem call_len_str:CallR X (.builtin "len") (fun xs H Q=>∃ z,xs=[.str z]∧z.length≤sizeLine∧Q (.int z.length) H):=by
 intro pins s σ H xs us Q I r h
 obtain ⟨z,rfl,hz,q⟩:=h
 obtain ⟨u,rfl,t,rfl⟩:=vals1 r
 have hn:=line63
 exact len_str (by omega) ⟨.int z.length,H,I.tok _,⟨_,rfl⟩,q⟩
theorem call_list_of:CallR X (.type "list") (fun xs H Q=>∃ p ys,xs=[.ref p]∧(SqL X.K H p ys∨SqT X.K H p ys)∧∀ l,H l=none→Q (.ref l) (upd H l (.lst ys))):=by
 intro pins s σ H xs us Q I r h
 obtain ⟨p,ys,rfl,hq,q⟩:=h
 obtain ⟨u,rfl,rx⟩:=vals1 r
 cases rx
 have fin:∀ (its:List Value),Vals ys its→ys.length≤sizeLine→∀ (h':Heap) (c':Nat),(∀ b o',s.heap.get? b=some o'→h'.get? b=some o') →
   h'.get? s.heap.objs.size=some { cls:=.type "list",dict:=none,data:=.seq its.toArray c',slots:=#[] }→EP X pins σ Q (.ref s.heap.objs.size) { s with heap:=h' }:=fun its r' hz h' c' kp e =>
  ⟨.ref s.heap.objs.size,_,I.laid (t':=s.toks) kp (Nat.le_refl _) (show ObjOk X.prog X.w _ h' _ (.lst ys) from ⟨hz,its,c',r',e⟩),rfl,q _ (I.hok.fresh (Nat.le_refl _))⟩
 rcases hq with hq | hq
 ·obtain ⟨its,r',pl,hz⟩:=I.list hq
  have hlen:=r'.length
  obtain ⟨o,ho,hc,n,hd⟩:=pl.isList
  exact call_list_seq p (.inl rfl) ho hc hd (fun h' c' kp e=>fin its r' hz h' c' kp e) (by simp only [List.size_toArray] <;> omega)
 ·obtain ⟨its,r',pl,hz⟩:=I.tuple hq
  have hlen:=r'.length
  obtain ⟨o,ho,hc,n,hd⟩:=pl
  exact call_list_seq p (.inr rfl) ho hc hd (fun h' c' kp e=>fin its r' hz h' c' kp e) (by simp only [List.size_toArray] <;> omega)
def tyV (K:PySem.W.Frag) (T:String) (x:V) (H:Hp) : Prop:=match x with
 | .str _=>T = "str"
 | .int _=>T = "int"
 | .ref p=>(T = "list"∧∃ xs,SqL K H p xs)∨(T = "tuple"∧∃ o,K.lookup p=some o∧o.cls = .type "tuple"∧o.dict=none) ∨
   (T = "dict"∧((∃ kvs,H p=some (.dK kvs))∨∃ kvs,H p=some (.dT kvs)))∨(T = "set"∧∃ S n,H p=some (.set S n))
 | _=>False
theorem tyV_is {pins:List (Addr × Obj)} {σ:St} {H:Hp} {s:Shared} {T:String} {x:V} {v:Value} (I:Inv X pins σ H s) (r:RelV x v) (ty:tyV X.K T x H) :
  s.TypeIs v T∧∀ a,v = .ref a→∃ ob,s.heap.get? a=some ob∧ob.dict=none:=by
 cases x with
 | str z =>
  obtain ⟨t,rfl⟩:=r
  cases (show T = "str" from ty)
  exact ⟨typeIs_str s z t,fun _ e=>nomatch e⟩
 | int i =>
  obtain ⟨t,rfl⟩:=r
  cases (show T = "int" from ty)
  exact ⟨typeIs_int s i t,fun _ e=>nomatch e⟩
 | ref p =>
  cases r
  rcases ty with ⟨rfl,xs,hq⟩ | ⟨rfl,o,hk,hc,hd⟩ | ⟨rfl,hk⟩ | ⟨rfl,S,n,hk⟩
  ·obtain ⟨its,_,pl,_⟩:=I.list hq
   refine ⟨pl.isList.typeIs,fun a e=>?_⟩
   cases e
   obtain ⟨o,n,e,c,hd,_⟩:=pl
   exact ⟨o,e,hd⟩
  ·refine ⟨⟨o,I.kIn p o hk,hc⟩,fun a e=>?_⟩
   cases e
   exact ⟨o,I.kIn _ o hk,hd⟩
  ·have z:∃ o,s.heap.get? p=some o∧o.ExactDict:=by
    rcases hk with ⟨kvs,hk⟩ | ⟨kvs,hk⟩
    ·obtain ⟨_,_,_,_,o,_,_,e,ex,_⟩:=I.hok p _ hk
     exact ⟨o,e,ex⟩
    ·obtain ⟨_,_,_,_,o,_,_,e,ex,_⟩:=I.hok p _ hk
     exact ⟨o,e,ex⟩
   obtain ⟨o,e,ex⟩:=z
   refine ⟨⟨o,e,ex.1⟩,fun a e2=>?_⟩
   cases e2
   exact ⟨o,e,ex.2.1⟩
  ·obtain ⟨o,_,_,_,e,ex,_⟩:=I.hok p _ hk
   refine ⟨⟨o,e,ex.1⟩,fun a e2=>?_⟩
   cases e2
   exact ⟨o,e,ex.2.1⟩
 | _=>exact False.elim ty
def tBM (K:PySem.W.Frag) (T:String) (r:V→List V→Hp→VK→Prop) (to:TE) (t:TA) : TE:=fun σ H Q=>to σ H fun x H1=>tyV K T x H1∧t σ H1 fun xs H2=>r x xs H2 Q
variable {o e:Expr} {es:List Expr} {to:TE} {t:TA} {name:Str} {apos cpos:Pos} {T id:String} {r:V→List V→Hp→VK→Prop}
theorem pe_bm (pa:PlainAttrs T) (slot:Slot T name id) (hty:typeOf (.builtin id)=pure (.type "method_descriptor")) (hm:MtR X id r) (ho:PE X o to) (ha:PA X (e :: es) t)
  (hbase:attributeBase o name X.env (eval o X.env)=eval o X.env:=by rfl)
  (hfew:((backTo cpos (starEach (e :: es) X.env)).all (fun x=>!x.1) && (backToKw cpos (keywordEach [] X.env)).all (fun x=>x.1.isSome)
   && decide ((e :: es).length+([] : List Keyword).length+(if ([] : List Keyword).isEmpty then 0 else 1) < 30))=true:=by rfl)
  (hline:(apos.endLine == cpos.line)=true:=by rfl) (hs:starEach (e :: es) X.env=(false,eval e X.env) :: starEach es X.env:=by rfl) (hplain:(backTo cpos (starEach es X.env)).any (·.1)=false:=by rfl) :
  PE X (.Call (.Attribute o name apos) (e :: es) [] cpos) (tBM X.K T r to t):=by
 intro pins s σ H Q I h
 refine wpAny_Call_method_late hbase hfew hline rfl (thn (ho pins s σ H _ I h) fun v s1 ⟨x,H1,I1,r1,ty,q1⟩=>?_)
 obtain ⟨h1,h2⟩:=tyV_is I1 r1 ty
 refine ⟨T,id,pa,slot,hty,h1,h2,?_⟩
 have hA:=ha cpos pins s1 σ H1 _ I1 q1
 rw [hs] at hA ⊢
 refine Calls.callWith_builtin (by show (false || (backTo cpos (starEach es X.env)).any (·.1))=false; rw [hplain] <;> rfl) (Calls.evalArgs_plain ?_)
 exact thn hA fun us s2 ⟨vs,H2,I2,r2,q2⟩=>hm pins s2 σ H2 x vs v us Q I2 r1 r2 q2
end

def MtM (X:Cx) (id:String) (r:V→List V→Hp→VK→Prop) : Prop:=
 ∀ (pins:List (Addr × Obj)) (s:Shared) (σ:St) (H:Hp) (x:V) (xs:List V) (v:Value) (us:List Value) (Q:VK),Inv X pins σ H s→RelV x v→Vals xs us→r x xs H Q →
  wpAny (model X.prog X.w) X.A (call (.builtin id) (v :: us)) (EP X pins σ Q) X.xe s

theorem Vals.one:∀ {x:V} {us:List Value},Vals [x] us→∃ u,us=[u]∧RelV x u
 | _,_,.cons r .nil=>⟨_,rfl,r⟩
theorem Vals.rep {xs:List V} {us:List Value} (h:Vals xs us) : ∀ k:Nat,Vals (List.replicate k xs).flatten (List.replicate k us).flatten
 | 0=>.nil
 | k+1=>by
  rw [List.replicate_succ,List.replicate_succ,List.flatten_cons,List.flatten_cons]
  exact Vals.append h (Vals.rep h k)
theorem foldl_rep (its:List Value) : ∀ (k:Nat) (acc:List Value),
  List.foldl (fun x1 x2=>x1++x2) acc.toArray (List.replicate k its.toArray)=(acc++(List.replicate k its).flatten).toArray
 | 0,acc=>by simp
 | k+1,acc=>by
  have e:acc.toArray++its.toArray=(acc++its).toArray:=by simp
  have e2:(acc++its)++(List.replicate k its).flatten=acc++(List.replicate (k+1) its).flatten:=by
   rw [List.replicate_succ,List.flatten_cons,List.append_assoc]
  rw [← e2,← foldl_rep its k (acc++its),← e,List.replicate_succ,List.foldl_cons]

section
variable {X:Cx} {pins:List (Addr × Obj)} {σ:St} {H:Hp} {s:Shared} {l b:Addr} {xs ys zs:List V}

theorem Inv.lset {its its':List Value} {n:Nat} {f:Array Value→Array Value} {t':Nat} (I:Inv X pins σ H s) (hH:H l=some (.lst xs))
  (e:s.heap.get? l=some { cls:=.type "list",data:=.seq its.toArray n }) (hf:f its.toArray=its'.toArray) (hv:Vals ys its') (hz:ys.length≤sizeLine) :
  Inv X pins σ (upd H l (.lst ys)) { s with heap:=s.heap.update l (Obj.mapSeq f),toks:=t' }:=by
 have q:=PySem.IsL.update e f
 rw [hf] at q
 refine I.write (x:=l) (e:=l) (by rw [hH]; exact trivial) (.inl rfl) (fun b' u hb hu=>(Heap.get?_update_other s.heap (Obj.mapSeq f) (Ne.symm hb)).trans hu) ⟨_,q⟩ ?_
 exact ⟨hz,its',_,hv,q⟩
theorem Inv.lnew {its:List Value} {t':Nat} (I:Inv X pins σ H s) (hv:Vals ys its) (hz:ys.length≤sizeLine) :
  Inv X pins σ (upd H s.heap.objs.size (.lst ys)) { s with heap:=s.heap.push { cls:=.type "list",data:=.seq its.toArray },toks:=t' }:=
 I.laid (fun _ _ q=>Heap.get?_push_of_some _ q) (Nat.le_refl _) ⟨hz,its,0,hv,Heap.get?_push_size _ rfl⟩
theorem Inv.fresh (I:Inv X pins σ H s) : H s.heap.objs.size=none:=I.hok.fresh (Nat.le_refl _)
theorem Inv.lstM (I:Inv X pins σ H s) (hH:H l=some (.lst xs)) : xs.length≤sizeLine∧∃ (its:List Value) (n:Nat),Vals xs its∧xs.length=its.length∧s.heap.get? l=some { cls:=.type "list",data:=.seq its.toArray n }:=by
 obtain ⟨z,its,n,r,e⟩:=I.hok l _ hH
 exact ⟨z,its,n,r,r.length,e⟩

theorem notLongL {n:Nat} (h:n≤sizeLine) : Builtin.List.listTooLong n=false:=by
 unfold Builtin.List.listTooLong
 exact decide_eq_false (by omega)
end

section
variable {X:Cx}

def rAppend:V→List V→Hp→VK→Prop:=fun x vs H Q=>∃ l xs y,x = .ref l∧vs=[y]∧H l=some (.lst xs)∧xs.length < sizeLine∧Q .non (upd H l (.lst (xs++[y])))
theorem mt_append:MtM X "list.append" rAppend:=by
 intro pins s σ H x vs v us Q I rx rv h
 obtain ⟨l,xs,y,rfl,rfl,hH,hz,q⟩:=h
 cases rx
 obtain ⟨u,rfl,ru⟩:=rv.one
 obtain ⟨z,its,n,r,hl,e⟩:=I.lstM hH
 refine call_meets F.slot_list_append ⟨_,e,rfl⟩ F.entry_list_append (F.args_list_append_2 _ _) (PySem.list_append l its.toArray n u (by rw [List.size_toArray]; omega)) ⟨e,?_⟩
 refine ⟨.non,_,I.lset (its':=its++[u]) hH e (by simp) (r.append (.cons ru .nil)) ?_,rfl,q⟩
 rw [List.length_append,List.length_singleton]
 omega

def rCat:R2:=fun x y H Q=>∃ l b xs zs,x = .ref l∧y = .ref b∧H l=some (.lst xs)∧H b=some (.lst zs)∧xs.length+zs.length≤sizeLine∧∀ p,H p=none→Q (.ref p) (upd H p (.lst (xs++zs)))
theorem op_cat:OpR X (binaryOp .Add) rCat:=by
 intro pins s σ H x y v u Q I rx ry h
 obtain ⟨l,b,xs,zs,rfl,rfl,hH,hB,hz,q⟩:=h
 cases rx
 cases ry
 obtain ⟨z,its,n,r,hl,e⟩:=I.lstM hH
 obtain ⟨z2,its2,n2,r2,hl2,e2⟩:=I.lstM hB
 refine PySem.P.add_list e e2 ?_ (by rw [List.size_toArray,List.size_toArray]; omega)
 have ea:its.toArray++its2.toArray=(its++its2).toArray:=by simp
 rw [ea]
 exact ⟨.ref _,_,I.lnew (t':=s.toks) (r.append r2) (by rw [List.length_append]; omega),rfl,q _ I.fresh⟩
def rRep:R2:=fun x y H Q=>∃ l k xs,x = .ref l∧y = .int k∧H l=some (.lst xs)∧-(2 ^ 63)≤k∧k < 2 ^ 63∧xs.length * k.toNat≤sizeLine ∧
 ∀ p,H p=none→Q (.ref p) (upd H p (.lst (List.replicate k.toNat xs).flatten))
theorem len_rep {α:Type} (xs:List α) (k:Nat) : (List.replicate k xs).flatten.length=k * xs.length:=by
 induction k with
 | zero=>simp
 | succ k ih=>rw [List.replicate_succ,List.flatten_cons,List.length_append,ih,Nat.succ_mul,Nat.add_comm]
theorem op_rep:OpR X (binaryOp .Mult) rRep:=by
 intro pins s σ H x y v u Q I rx ry h
 obtain ⟨l,k,xs,rfl,rfl,hH,h1,h2,hz,q⟩:=h
 cases rx
 obtain ⟨t,rfl⟩:=ry
 obtain ⟨z,its,n,r,hl,e⟩:=I.lstM hH
 have hlen:its.toArray.size * k.toNat≤sizeLine:=by rw [List.size_toArray,← hl]; exact hz
 have hcap:¬ its.toArray.size * k.toNat > (2 ^ 63 - 1) / 8:=by
  have:(sizeLine:Nat)≤(2 ^ 63 - 1) / 8:=by decide
  omega
 have hfit:¬ (!Builtin.List.listFitsIndex k)=true:=by
  rw [fitsIndex_both h1 h2]
  exact Bool.false_ne_true
 have hlong:¬ Builtin.List.listTooLong (its.toArray.size * k.toNat)=true:=by
  rw [notLongL hlen]
  exact Bool.false_ne_true
 have hnew:List.foldl (fun x1 x2=>x1++x2) #[] (List.replicate (if its.toArray.isEmpty=true then 0 else k.toNat) its.toArray)=(List.replicate k.toNat its).flatten.toArray:=by
  have f0:∀ m:Nat,List.foldl (fun x1 x2=>x1++x2) #[] (List.replicate m its.toArray)=(List.replicate m its).flatten.toArray:=fun m=>by
   have:=foldl_rep its m []
   rw [List.nil_append] at this
   exact this
  rw [f0]
  cases its with
  | nil=>simp
  | cons a r'=>rw [if_neg (by simp)]
 refine wpAny_binaryOp_repeat_ref (T := "list") (U := "int") (by decide) ⟨_,e,rfl⟩ (fun s'=>typeIs_int s' k t) noFill_list_mul F.fills_int_mul F.slot_int_rmul repeat_list F.slot_int_index.lookup
  (call_meets F.slot_int_rmul (typeIs_int s k t) F.entry_int_rmul (F.args_int_rmul_2 _ _) (int___rmul___int_list k t l its.toArray n)
   ⟨e,rfl,⟨_,e,rfl⟩,call_meets F.slot_list_mul ⟨_,e,rfl⟩ F.entry_list_mul (F.args_list_mul_2 _ _) (AutoListH.list___mul___list_int_3 l its.toArray n k t hfit hcap hlong) ⟨e,?_⟩⟩)
 rw [hnew]
 exact ⟨.ref _,_,I.lnew (t':=s.toks) (r.rep k.toNat) (by rw [len_rep,Nat.mul_comm]; exact hz),rfl,q _ I.fresh⟩

end

section
variable {prog:Program} {w:World} {A:Around} {E:Value→Shared→Prop} {s:Shared}
end

section
variable {X:Cx}
end

section
variable {κ:Type} [DecidableEq κ]
def valV (kvs:List (κ × V)) (k:κ) : Option V:=(kvs.find? fun kv=>decide (kv.1=k)).map (·.2)
def putK (kvs:List (κ × V)) (k:κ) (v:V) : List (κ × V):=
 if (kvs.any fun kv=>decide (kv.1=k))=true then kvs.map (fun kv=>if kv.1=k then (kv.1,v) else kv) else kvs++[(k,v)]
theorem valV_pos {p:κ × V} {r:List (κ × V)} {k:κ} (e:p.1=k) : valV (p :: r) k=some p.2:=by simp [valV,List.find?_cons,e]
theorem valV_neg {p:κ × V} {r:List (κ × V)} {k:κ} (e:¬ p.1=k) : valV (p :: r) k=valV r k:=by simp [valV,List.find?_cons,e]
theorem valV_any (k:κ) : ∀ kvs:List (κ × V),(kvs.any fun kv=>decide (kv.1=k))=(valV kvs k).isSome
 | []=>rfl
 | p :: r=>by
  rw [List.any_cons]
  by_cases e:p.1=k
  ·simp only [valV_pos e,decide_eq_true e,Bool.true_or,Option.isSome_some]
  ·rw [valV_neg e,decide_eq_false e,Bool.false_or]; exact valV_any k r
theorem valV_map (k j:κ) (y:V) : ∀ kvs:List (κ × V),valV (kvs.map fun kv=>if kv.1=k then (kv.1,y) else kv) j=(valV kvs j).map fun x=>if j=k then y else x
 | []=>rfl
 | p :: r=>by
  have ih:=valV_map k j y r
  rw [List.map_cons]
  by_cases h:p.1=k
  ·rw [if_pos h]
   by_cases e:p.1=j
   ·rw [valV_pos (p:=(p.1,y)) e,valV_pos e,Option.map_some,if_pos (e.symm.trans h)]
   ·rw [valV_neg (p:=(p.1,y)) e,valV_neg e,ih]
  ·rw [if_neg h]
   by_cases e:p.1=j
   ·rw [valV_pos (p:=p) e,valV_pos e,Option.map_some,if_neg (fun z=>h (e.trans z))]
   ·rw [valV_neg (p:=p) e,valV_neg e,ih]
theorem valV_snoc (k j:κ) (y:V) : ∀ kvs:List (κ × V),valV kvs k=none→valV (kvs++[(k,y)]) j=if j=k then some y else valV kvs j
 | [],_=>by
  by_cases e:k=j
  ·rw [if_pos e.symm]; exact valV_pos (p:=(k,y)) e
  ·rw [if_neg (fun z=>e z.symm)]; exact valV_neg (p:=(k,y)) e
 | p :: r,hn=>by
  rw [List.cons_append]
  have hk:¬ p.1=k:=fun z=>by rw [valV_pos z] at hn; cases hn
  rw [valV_neg hk] at hn
  have ih:=valV_snoc k j y r hn
  by_cases e:p.1=j
  ·rw [valV_pos e,valV_pos e,if_neg (fun z=>hk (e.trans z))]
  ·rw [valV_neg e,valV_neg e,ih]
theorem valV_put (kvs:List (κ × V)) (k j:κ) (y:V) : valV (putK kvs k y) j=if j=k then some y else valV kvs j:=by
 unfold putK
 by_cases a:(kvs.any fun kv=>decide (kv.1=k))=true
 ·rw [if_pos a,valV_map]
  rw [valV_any] at a
  by_cases e:j=k
  ·obtain ⟨x,hx⟩:=Option.isSome_iff_exists.mp a
   rw [if_pos e,e,hx,Option.map_some,if_pos rfl]
  ·rw [if_neg e]
   cases valV kvs j with
   | none=>rfl
   | some x=>rw [Option.map_some,if_neg e]
 ·rw [if_neg a]
  refine valV_snoc k j y kvs ?_
  rw [valV_any] at a
  cases q:valV kvs k with
  | none=>rfl
  | some x=>rw [q] at a; exact (a rfl).elim
theorem length_putK (kvs:List (κ × V)) (k:κ) (v:V) : (putK kvs k v).length≤kvs.length+1:=by
 unfold putK
 split
 ·rw [List.length_map]; omega
 ·rw [List.length_append,List.length_cons,List.length_nil]; omega
theorem RelO.isSome_eq {o:Option V} {u:Option Value} (r:RelO o u) : o.isSome=u.isSome:=by
 cases o with
 | none=>cases u with
  | none=>rfl
  | some _=>exact (show False from r).elim
 | some _=>cases u with
  | none=>exact (show False from r).elim
  | some _=>rfl
theorem KV.val {kvs:List (κ × V)} {vs:List (κ × Value)} (r:KV kvs vs) (k:κ) : RelO (valV kvs k) (valueAt vs k):=by
 unfold KV at r
 induction r with
 | nil=>exact True.intro
 | @cons p q ps qs h t ih =>
  obtain ⟨h1,h2⟩:=h
  by_cases e:p.1=k
  ·have e':q.1=k:=h1.symm.trans e
   have b:valueAt (q :: qs) k=some q.2:=by simp [valueAt,List.find?_cons,e']
   rw [valV_pos e,b]; exact h2
  ·have e':¬ q.1=k:=fun z=>e (h1.trans z)
   have b:valueAt (q :: qs) k=valueAt qs k:=by simp [valueAt,List.find?_cons,e']
   rw [valV_neg e,b]; exact ih
theorem KV.any {kvs:List (κ × V)} {vs:List (κ × Value)} (r:KV kvs vs) (k:κ) : (kvs.any fun kv=>decide (kv.1=k))=vs.any fun kv=>decide (kv.1=k):=by
 unfold KV at r
 induction r with
 | nil=>rfl
 | cons h t ih=>rw [List.any_cons,List.any_cons,ih,h.1]
theorem KV.repl {kvs:List (κ × V)} {vs:List (κ × Value)} (r:KV kvs vs) (k:κ) {y:V} {u:Value} (ry:RelV y u) :
  KV (kvs.map fun kv=>if kv.1=k then (kv.1,y) else kv) (vs.map fun kv=>if kv.1=k then (kv.1,u) else kv):=by
 unfold KV at r ⊢
 induction r with
 | nil=>exact .nil
 | @cons p q ps qs h t ih =>
  rw [List.map_cons,List.map_cons]
  refine .cons ?_ ih
  obtain ⟨h1,h2⟩:=h
  by_cases e:p.1=k
  ·rw [if_pos e,if_pos (h1.symm.trans e)]; exact ⟨h1,ry⟩
  ·rw [if_neg e,if_neg (fun z=>e (h1.trans z))]; exact ⟨h1,h2⟩
theorem KV.put {kvs:List (κ × V)} {vs:List (κ × Value)} (r:KV kvs vs) (k:κ) {y:V} {u:Value} (ry:RelV y u) : KV (putK kvs k y) (stored vs k u):=by
 unfold putK stored
 rw [r.any k]
 by_cases e:(vs.any fun kv=>decide (kv.1=k))=true
 ·rw [if_pos e,if_pos e]; exact r.repl k ry
 ·rw [if_neg e,if_neg e]; exact Paired.snoc r ⟨rfl,ry⟩
theorem KV.length {kvs:List (κ × V)} {vs:List (κ × Value)} (r:KV kvs vs) : kvs.length=vs.length:=Paired.length r
end


theorem kV_is {P:Program} {w:World} {k:Key} {u:Value} (r:RelV (kV k) u) : (mixKind P w).is k u=true:=by
 cases k with
 | inl i=>obtain ⟨t,e⟩:=(show ∃ t,u=Value.int i t from r); subst e; exact mixKind_int P w i t
 | inr x=>obtain ⟨t,e⟩:=(show ∃ t,u=Value.str x t from r); subst e; exact mixKind_str P w x t
theorem items_are {P:Program} {w:World} : ∀ {ks:List Key} {us:List Value},Vals (ks.map kV) us→ItemsAre (mixKind P w) ks us
 | [],_,r=>by rw [List.map_nil] at r; cases r; exact .nil
 | k :: ks,_,r=>by
  rw [List.map_cons] at r
  cases r with
  | cons h t=>exact .cons (kV_is h) (items_are t)

abbrev KT (H:Hp) : List (List Key × V)→List (List Key × Addr × Value)→Prop:=Paired fun p q=>p.1=q.1∧H q.2.1=some (.tup (p.1.map kV))∧RelV p.2 q.2.2
theorem KT.val {H:Hp} {kvs:List (List Key × V)} {xs:List (List Key × Addr × Value)} (r:KT H kvs xs) (k:List Key) : RelO (valV kvs k) ((atKey xs k).map (·.2)):=by
 induction r with
 | nil=>exact True.intro
 | @cons p q ps qs h t ih =>
  obtain ⟨h1,_,h2⟩:=h
  by_cases e:p.1=k
  ·have e':q.1=k:=h1.symm.trans e
   have b:atKey (q :: qs) k=some q.2:=by simp [atKey,List.find?_cons,e']
   rw [valV_pos e,b]; exact h2
  ·have e':¬ q.1=k:=fun z=>e (h1.trans z)
   have b:atKey (q :: qs) k=atKey qs k:=by simp [atKey,List.find?_cons,e']
   rw [valV_neg e,b]; exact ih
theorem KT.repl {H:Hp} {kvs:List (List Key × V)} {xs:List (List Key × Addr × Value)} (r:KT H kvs xs) (k:List Key) {y:V} {u:Value} (ry:RelV y u) :
  KT H (kvs.map fun kv=>if kv.1=k then (kv.1,y) else kv) (xs.map (putAt k u)):=by
 induction r with
 | nil=>exact .nil
 | @cons p q ps qs h t ih =>
  rw [List.map_cons,List.map_cons]
  refine .cons ?_ ih
  obtain ⟨h1,h2,h3⟩:=h
  unfold putAt
  by_cases e:p.1=k
  ·rw [if_pos e,if_pos (h1.symm.trans e)]; exact ⟨h1,h2,ry⟩
  ·rw [if_neg e,if_neg (fun z=>e (h1.trans z))]; exact ⟨h1,h2,h3⟩
theorem KT.put {H:Hp} {kvs:List (List Key × V)} {xs:List (List Key × Addr × Value)} (r:KT H kvs xs) (k:List Key) {b:Addr} {y:V} {u:Value} (hb:H b=some (.tup (k.map kV))) (ry:RelV y u) :
  KT H (putK kvs k y) (storedH xs k b u):=by
 have e:(kvs.any fun kv=>decide (kv.1=k))=(atKey xs k).isSome:=by
  rw [valV_any,(r.val k).isSome_eq,Option.isSome_map]
 unfold putK storedH
 rw [e]
 by_cases q:(atKey xs k).isSome=true
 ·rw [if_pos q,if_pos q]; exact r.repl k ry
 ·rw [if_neg q,if_neg q]; exact Paired.snoc r ⟨rfl,hb,ry⟩
theorem KT.keeps {H H':Hp} {kvs:List (List Key × V)} {xs:List (List Key × Addr × Value)} (r:KT H kvs xs) (ht:∀ b ys,H b=some (.tup ys)→H' b=some (.tup ys)) : KT H' kvs xs:=
 Paired.mapP r fun _ _ z=>⟨z.1,ht _ _ z.2.1,z.2.2⟩

section
variable {P:Program} {w:World} {H:Hp} {h:Heap} {a:Addr}
theorem rd_of {u:HO} (ok:HOk P w H h) (e:Rd H a u) : ObjOk P w H h a u:=e.ok ok
theorem dk_rd {kvs:List (Key × V)} (ok:HOk P w H h) (e:Rd H a (.dK kvs)) : kvs.length≤sizeLine∧(a == sysModules)=false∧∃ vs,KV kvs vs∧h.DictOf (mixKind P w) a vs:=
 show ObjOk P w H h a (.dK kvs) from rd_of ok e
theorem dk_of {kvs:List (Key × V)} (ok:HOk P w H h) (e:H a=some (.dK kvs)) : kvs.length≤sizeLine∧(a == sysModules)=false∧∃ vs,KV kvs vs∧h.DictOf (mixKind P w) a vs:=dk_rd ok (.inl e)
theorem key_of {ks:List Key} (ok:HOk P w H h) (e:H a=some (.tup (ks.map kV))) : (tupleKind (mixKind P w)).is h ks a:=by
 obtain ⟨_,its,r,o,h1,h2,n,h3⟩:=(show ObjOk P w H h a (.tup (ks.map kV)) from ok a _ e)
 exact ⟨o,its.toArray,n,h1,h2,h3,by simpa using items_are r⟩
theorem dt_rd {kvs:List (List Key × V)} (ok:HOk P w H h) (e:Rd H a (.dT kvs)) : kvs.length≤sizeLine∧(a == sysModules)=false ∧
  ∃ xs,KT H kvs xs∧h.DictOfH (tupleKind (mixKind P w)) a xs:=by
 obtain ⟨z,y,xs,r,o,es,ep,h1,h2,h3,h4,h5⟩:=(show ObjOk P w H h a (.dT kvs) from rd_of ok e)
 refine ⟨z,y,xs,r,o,es,ep,h1,h2,h3,h4,fun x hx=>?_,h5⟩
 have all:∀ {l:List (List Key × V)} {m:List (List Key × Addr × Value)},KT H l m→∀ x ∈ m,(tupleKind (mixKind P w)).is h x.1 x.2.1:=by
  intro l m q
  induction q with
  | nil=>intro x hx; exact nomatch hx
  | @cons p q ps qs hq t ih =>
   intro x hx
   rcases List.mem_cons.mp hx with e | hx
   ·subst e
    exact key_of ok (by rw [← hq.1]; exact hq.2.1)
   ·exact ih x hx
 exact all r x hx
theorem dt_of {kvs:List (List Key × V)} (ok:HOk P w H h) (e:H a=some (.dT kvs)) : kvs.length≤sizeLine∧(a == sysModules)=false ∧
  ∃ xs,KT H kvs xs∧h.DictOfH (tupleKind (mixKind P w)) a xs:=dt_rd ok (.inl e)
end

def DGet (H:Hp) (a:Addr) (y:V) (r:Option V) : Prop:=
 (∃ kvs k,Rd H a (.dK kvs)∧y=kV k∧r=valV kvs k)∨∃ kvs k b,Rd H a (.dT kvs)∧y = .ref b∧H b=some (.tup (k.map kV))∧r=valV kvs k
def DPut (H:Hp) (a:Addr) (y v:V) (H':Hp) : Prop:=
 (∃ kvs k,H a=some (.dK kvs)∧y=kV k∧kvs.length < sizeLine∧H' = upd H a (.dK (putK kvs k v))) ∨
 ∃ kvs k b,H a=some (.dT kvs)∧y = .ref b∧H b=some (.tup (k.map kV))∧kvs.length < sizeLine∧H' = upd H a (.dT (putK kvs k v))
theorem DGet.k {H:Hp} {a:Addr} {kvs:List (Key × V)} {k:Key} (e:H a=some (.dK kvs)) : DGet H a (kV k) (valV kvs k):=.inl ⟨kvs,k,.inl e,rfl,rfl⟩
theorem DPut.k {H:Hp} {a:Addr} {kvs:List (Key × V)} {k:Key} {v:V} (e:H a=some (.dK kvs)) (hl:kvs.length < sizeLine) : DPut H a (kV k) v (upd H a (.dK (putK kvs k v))):=.inl ⟨kvs,k,e,rfl,hl,rfl⟩
section
variable {X:Cx} {pins:List (Addr × Obj)} {σ:St} {H:Hp} {s:Shared} {a:Addr} {y v:V} {u r:Value} {o:Option V} {A:Around} {E:Value→Shared→Prop}

theorem Inv.big (I:Inv X pins σ H s) : sysModules < s.heap.objs.size:=by
 have h:mainGlobals < s.heap.objs.size:=(I.mod.glob.keeps I.bk).lt
 exact Nat.lt_trans (by decide) h

theorem d_getItem {Q:Value→Shared→Prop} (hu:A.units+1 < cLine) (I:Inv X pins σ H s) (g:DGet H a y (some v)) (ry:RelV y u) (h:∀ w' s',Inv X pins σ H s'→RelV v w'→Q w' s') :
  wpAny (model X.prog X.w) A (getItem (.ref a) u) Q E s:=by
 rcases g with ⟨kvs,k,e,ey,l⟩ | ⟨kvs,k,b,e,ey,eb,l⟩
 ·subst ey
  obtain ⟨z,hd,vs,rel,dd⟩:=dk_rd I.hok e
  obtain ⟨w',hw,rw'⟩:=RelO.some_of (v:=v) (o:=valueAt vs k) (by rw [l]; exact rel.val k)
  exact wpAny_getItem_of (kV_is ry) dd.mapOf hw (h w' _ (I.tok _) rw')
 ·subst ey
  cases (show u=Value.ref b from ry)
  obtain ⟨z,hd,xs,rel,dd⟩:=dt_rd I.hok e
  obtain ⟨w',hw,rw'⟩:=RelO.some_of (v:=v) (o:=(atKey xs k).map (·.2)) (by rw [l]; exact rel.val k)
  obtain ⟨p,hp,hp2⟩:=Option.map_eq_some_iff.mp hw
  refine wpAny_getItem_heap (tupleKind_room_in1 hu) (key_of I.hok eb) dd hp ?_
  rw [hp2]
  exact h w' _ (I.tok _) rw'
theorem d_write {h':Heap} {t':Nat} {ob:HO} (I:Inv X pins σ H s) (mu:Mut (H a)) (hs:Heap.SameBut a s.heap h') (he:∃ q,h'.get? a=some q) (new:ObjOk X.prog X.w (upd H a ob) h' a ob) :
  Inv X pins σ (upd H a ob) { s with heap:=h',toks:=t' }:=
 I.write (x:=a) (e:=a) mu (.inl rfl) (fun b q hb z=>(hs.2 b hb).trans z) he new
theorem dk_new {P:Program} {w:World} {H':Hp} {h':Heap} {kvs:List (Key × V)} {vs:List (Key × Value)} (z:kvs.length≤sizeLine) (hd:(a == sysModules)=false) (rel:KV kvs vs) (dd:h'.DictOf (mixKind P w) a vs) :
  ObjOk P w H' h' a (.dK kvs):=⟨z,hd,vs,rel,dd⟩
theorem d_setItem {H':Hp} {Q:Unit→Shared→Prop} (hu:A.units+1 < cLine) (I:Inv X pins σ H s) (g:DPut H a y v H') (ry:RelV y u) (rv:RelV v r) (h:∀ s',Inv X pins σ H' s'→Q () s') :
  wpAny (model X.prog X.w) A (setItem (.ref a) u r) Q E s:=by
 rcases g with ⟨kvs,k,e,ey,l,eH⟩ | ⟨kvs,k,b,e,ey,eb,l,eH⟩
 ·subst ey eH
  obtain ⟨z,hd,vs,rel,dd⟩:=dk_of I.hok e
  have hz:vs.length≤sizeLine:=by rw [← rel.length]; exact z
  have hl:(putK kvs k v).length≤sizeLine:=by have:=length_putK kvs k v; omega
  refine wpAny_setItem_pairs (hsz:=hz) (kV_is ry) dd fun h' dd' hs=>h _ ?_
  have he:∃ q,h'.get? a=some q:=let ⟨q,_,_,hq,_⟩:=dd'; ⟨q,hq⟩
  exact d_write I (by rw [e]; exact True.intro) hs he (dk_new hl hd (rel.put k rv) dd')
 ·subst ey eH
  cases (show u=Value.ref b from ry)
  obtain ⟨z,hd,xs,rel,dd⟩:=dt_of I.hok e
  have hz:xs.length≤sizeLine:=by rw [← Paired.length rel]; exact z
  have hl:(putK kvs k v).length≤sizeLine:=by have:=length_putK kvs k v; omega
  refine wpAny_setItem_heap (hsz:=hz) (tupleKind_room_in1 hu) (key_of I.hok eb) dd fun h' dd' hs=>h _ ?_
  obtain ⟨q,es,ep,hq,h2,h3,h4,_,h5⟩:=dd'
  refine d_write I (by rw [e]; exact True.intro) hs ⟨q,hq⟩ ⟨hl,hd,_,(rel.put k eb rv).keeps fun c ys ec=>?_,q,es,ep,hq,h2,h3,h4,h5⟩
  rw [upd_ne (ne_of ec e (fun z=>nomatch z))]
  exact ec
end

section
variable {X:Cx} {pins:List (Addr × Obj)} {σ:St} {H:Hp} {s:Shared} {a:Addr} {kvs:List (Key × V)} {k:Key} {u:Value} {A:Around} {E:Value→Shared→Prop}
end


def NoSl (i:Expr) : Prop:=∀ ov iv,subscripted i false ov iv=operate [ov,iv] (getItem ov iv)
theorem subD_of {prog:Program} {w:World} {A:Around} {E:Value→Shared→Prop} {s:Shared} {env:Env} {value slice:Expr} {pos:Pos} {T id:String} {Q:Value→Shared→Prop}
  (hl:typeLookup (.type T) "__getitem__" = pure (some (.builtin id))) (hs:NoSl slice)
  (h:wpAny (model prog w) A (eval value env) (fun o s₁=>wpAny (model prog w) A (eval slice env) (fun i s₂=>s₂.TypeIs o T∧wpAny (model prog w) A (getItem o i) Q E s₂) E s₁) E s) :
  wpAny (model prog w) A (eval (.Subscript value slice pos) env) Q E s:=by
 refine Subscript_ (wpAny_mono h (fun o s₁ h₁=>wpAny_mono h₁ (fun i s₂ h₂=>?_) fun _ _ x=>x) fun _ _ x=>x)
 obtain ⟨hT,h₂⟩:=h₂
 unfold subscriptTail
 refine wpAny_bind ?_
 rw [getitemInPython_of_ne hT.not_modules]
 refine wpAny_bind (wpAny_specialOf hT hl ?_)
 have fin:wpAny (model prog w) A (subscripted slice false o i) (fun r s₃=>wpAny (model prog w) A (letTemporaryGo value o r >>= fun _=>pure r) Q E s₃) E s₂:=by
  rw [hs o i]
  exact wpAny_operating (wpAny_mono h₂ (fun r s₃ h₃=>wpAny_bind (wpAny_letTemporaryGo (wpAny_pure h₃))) fun _ _ x=>x)
 first
  | exact wpAny_pure (wpAny_bind fin)
  | exact wpAny_bind (wpAny_pure (wpAny_bind fin))
  | exact wpAny_bind fin

theorem dict_typeIs {X:Cx} {pins:List (Addr × Obj)} {σ:St} {H:Hp} {s:Shared} {a:Addr} {y:V} {o:Option V} (I:Inv X pins σ H s) (g:DGet H a y o) : s.TypeIs (.ref a) "dict":=by
 rcases g with ⟨kvs,k,e,_,_⟩ | ⟨kvs,k,b,e,_,_,_⟩
 ·obtain ⟨_,_,vs,_,dd⟩:=dk_rd I.hok e
  exact dd.typeIs
 ·obtain ⟨_,_,xs,_,dd⟩:=dt_rd I.hok e
  exact dd.typeIs
def tDGet (td ty:TE) : TE:=fun σ H Q=>td σ H fun x H1=>ty σ H1 fun y H2=>∃ a v,x = .ref a∧DGet H2 a y (some v)∧Q v H2
def sDPut (td ty tv:TE) : TS:=fun D σ H=>tv σ H fun v H1=>td σ H1 fun x H2=>ty σ H2 fun y H3=>∃ a H4,x = .ref a∧DPut H3 a y v H4∧D.nx σ H4
section
variable {X:Cx} {o i e value:Expr} {pos pos' tpos:Pos} {td ty tv:TE}
theorem pe_dget (hu:X.A.units+1 < cLine) (ho:PE X o td) (hi:PE X i ty) (hs:NoSl i) : PE X (.Subscript o i pos) (tDGet td ty):=by
 intro pins s σ H Q I h
 refine subD_of PySem.F.slot_dict_getitem.lookup hs (thn (ho pins s σ H _ I h) fun u s1 ⟨x,H1,I1,rx,q1⟩=>thn (hi pins s1 σ H1 _ I1 q1) fun iv s2 ⟨y,H2,I2,ry,a,v,ex,g,q2⟩=>?_)
 subst ex
 obtain rfl:u=Value.ref a:=rx
 exact ⟨dict_typeIs I2 g,d_getItem hu I2 g ry fun w' s3 I3 rw'=>⟨v,H2,I3,rw',q2⟩⟩
theorem ps_dput (hu:X.A.units+1 < cLine) (ho:PE X o td) (hi:PE X i ty) (hv:PE X value tv) (hs:swapsWith value (some (.Subscript o i pos')) pos.line X.env=pure false) :
  PS X (.Assign [.Subscript o i pos'] value pos) (sDPut td ty tv):=by
 intro pins s σ H D I h
 refine wpAny_Assign_Subscript (thn (hv pins s σ H _ I h) fun r s1 ⟨v,H1,I1,rv,q1⟩=>thn (ho pins s1 σ H1 _ I1 q1) fun u s2 ⟨x,H2,I2,rx,q2⟩=>thn (hi pins s2 σ H2 _ I2 q2) fun iv s3 ⟨y,H3,I3,ry,a,H4,ex,g,q3⟩=>?_) hs
 subst ex
 obtain rfl:u=Value.ref a:=rx
 exact d_setItem hu I3 g ry rv fun s4 I4=>⟨σ,H4,I4,q3⟩
end


theorem dk_empty {P:Program} {w:World} {H:Hp} (h:Heap) (hb:sysModules < h.objs.size) : ObjOk P w H (h.push { cls:=.type "dict",data:=.dict #[] }) h.objs.size (.dK []):=
 ⟨Nat.zero_le _,beq_eq_false_iff_ne.mpr (Ne.symm (Nat.ne_of_lt hb)),[],.nil,Heap.DictOf.new h⟩
def tDNewK:TE:=fun _ H Q=>∀ p,H p=none→Q (.ref p) (upd H p (.dK []))
section
variable {X:Cx} {pos:Pos}
theorem pe_dnewK:PE X (.Dict [] [] pos) tDNewK:=fun pins s σ H Q I h =>
 wpAny_Dict_empty ⟨.ref s.heap.objs.size,_,I.laid (a:=s.heap.objs.size) (o:=.dK []) (t':=s.toks) (fun _ _ q=>Heap.get?_push_of_some _ q) (Nat.le_refl _) (dk_empty s.heap I.big),rfl,h _ (I.hok.fresh (Nat.le_refl _))⟩
end

section
variable {X:Cx} {pins:List (Addr × Obj)} {σ:St} {H:Hp} {s:Shared} {a:Addr} {y d:V} {u r:Value} {o:Option V} {A:Around} {E:Value→Shared→Prop}
end

section
variable {X:Cx} {o e f:Expr} {apos cpos:Pos} {td ty tx:TE}
end

section
variable {X:Cx} {pins:List (Addr × Obj)} {σ:St} {H:Hp} {s:Shared} {a:Addr} {kvs:List (Key × V)} {A:Around} {E:Value→Shared→Prop}
end


section
variable {X:Cx} {pins:List (Addr × Obj)} {σ:St} {H:Hp} {s:Shared} {a:Addr} {y:V} {u:Value} {A:Around} {E:Value→Shared→Prop}
end
end L2

namespace Att
open PySem PySem.W PySem.Calls PyProof.Rows

theorem ints_of_wellAll {P:Params} {h:Heap} : ∀ (ns:List Int) (vs:List Value),WellAll P h vs (ns.map WData.int)→IntsAre vs ns:=by
 intro ns
 induction ns with
 | nil =>
  intro vs w
  rw [List.map_nil] at w
  cases w
  exact .nil
 | cons n ns ih =>
  intro vs w
  rw [List.map_cons] at w
  cases w with
  | cons a b =>
   cases a
   exact .cons _ _ (ih _ b)

theorem script_of {l:OpenLaw} {n:Nat} (hn:l.most=some n) {P:Params} {h:Heap} {args:List WData} {vals:List Value}
  (hpre:l.row.toRowW.claim.pre args=true) (hwl:WellAll P h vals args) :
  ∃ a vs ns,vals=[Value.ref a]∧args=[WData.list (ns.map WData.int)]∧h.get? a=some { cls:=.type "list",data:=.seq vs.toArray }∧IntsAre vs ns∧ns.length≤n:=by
 have hsh:WShape.hasAll [] args [.list .int]=true:=(pre_splitW hpre).1
 have hc:l.pre.holds [] { args:=args }=true:=(pre_splitW hpre).2
 obtain ⟨d,r,rfl,h1,h2⟩:=hasAllW_cons hsh
 obtain rfl:=hasAllW_nil h2
 obtain ⟨xs,rfl,h3⟩:=hasW_list h1
 obtain ⟨ns,rfl⟩:=items_int h3
 have hlen:ns.length≤n:=by
  unfold OpenLaw.pre at hc
  have h4:(WTm.not (.lt (.lit (.int (n:Int))) (.len (.arg 0)))).holds [] { args:=[.list (ns.map .int)] }=true:=by
   have h4:=(holds_andW hc).1
   rw [hn] at h4
   exact h4
  have h5:=condW_of h4 (w_not (w_lt w_lit (w_len_list (w_arg rfl))))
  rw [List.length_map] at h5
  refine Nat.le_of_not_lt fun q=>?_
  have q':(n:Int) < ((ns.length:Nat) : Int):=by omega
  first
   | (rw [decide_eq_true q'] at h5; exact absurd h5 (by decide))
   | (simp at h5; omega)
 cases hwl with
 | cons w1 w2 =>
  cases w2
  cases w1 with
  | list ho hall=>exact ⟨_,_,ns,rfl,rfl,ho,ints_of_wellAll ns _ hall,hlen⟩

theorem post_true (l:OpenLaw) (args:List WData) : l.row.toRowW.claim.post args (.bool true) args=true:=
 postW_of (r:=l.row.toRowW) (X:=(true == true))
  (show WShape.has [] (.bool true) .bool=true by first | rfl | decide | simp [WShape.has,WShape.arms,WShape.armsAll])
  (show (WTm.eq .res (.lit (.bool true))).value [] { args:=args,res:=some (.bool true),after:=args }=some (.bool (true == true)) from w_eq_bool (w_res rfl) w_lit) rfl

theorem attach_call {l:OpenLaw} {n:Nat} {q:Program} {loose:List Str} {XP:(Str→Option Value)→Heap→Prop} {YP:World→Heap→Prop} {d:DefRec}
  (hn:l.most=some n) (hdf:d.params.defaults=[])
  (call:∀ (w:World) (s₀ s₁:Shared) (mg mb:Str→Option Value) (fa:Addr) (o:Obj) (pm cd doc:Value) (a:Addr) (vs:List Value) (ns:List Int),
   Ground q loose [] XP w s₀ mg mb s₁.heap→YP w s₁.heap →
   s₁.heap.get? fa=some o→o.data = .func (docDef d.name d.params d.body d.scope pm cd doc)→s₁.heap.CodeRec cd d.name→mg d.name=some (.ref fa) →
   s₁.heap.get? a=some { cls:=.type "list",data:=.seq vs.toArray }→IntsAre vs ns→ns.length≤n→s₁.gens = #[] →
   codeAny (model l.prog w) callerA (.call (.ref fa) ⟨[.ref a],[]⟩) (fun r s'=>r = .ok (.ret (.bool true))∧OldK s₁.heap s'.heap∧s'.os=s₁.os∧AllBare s'.gens) s₁) :
  WalkO q loose XP YP l.row.toRowW d [] (fun f vs=>PySem.call f vs):=by
 intro w s₀ s₁ mg mb G Y fa o pm cd doc dV kV ho hd hcd hD hmg hg args vals as hpre hlay hrd hwl hlo
 obtain rfl:dV = .none:=Dflts.none hD hdf
 obtain rfl:kV = .none:=Dflts.noKw hD
 obtain ⟨a,vs,ns,rfl,rfl,hobj,hints,hlen⟩:=script_of hn hpre hwl
 refine enter_call (codeAny_mono (call w s₀ s₁ mg mb fa o pm cd doc a vs ns G Y ho (fd_plain hd) hcd hmg hobj hints hlen hg) fun r s' hq=>?_)
 obtain ⟨rfl,h2,h3,h4⟩:=hq
 exact ⟨.inl ⟨.bool true,.bool true,[],rfl,fun _=>rfl,.bool true,post_true l _,fun _=>⟨List.Pairwise.nil,fun _ hm=>(nomatch hm)⟩⟩,h2,h3,h4⟩

section
variable {prog:Program} {w:World} {A:Around} {E:Value→Shared→Prop} {s:Shared} {K:Frag}

end
end Att

namespace L2
open PySem PySem.Spec PyProof.Rows

theorem vals_ints:∀ {vs:List Value} {ns:List Int},IntsAre vs ns→Vals (ns.map V.int) vs
 | _,_,.nil=>.nil
 | _,_,.cons n t h=>.cons ⟨t,rfl⟩ (vals_ints h)

def Only (H:Hp) : Prop:=∀ b,H b=none∨∃ o xs,H b=some (.frz o (.lst xs))

theorem law_call {P:Program} {w:World} {K:PySem.W.Frag} {mg mb:Str→Option Value} {CX:CXT} {k:Nat} {fa a:Addr} {fd:FuncData} {x:Str} {sp:Sp} {s₁:Shared} {vs:List Value} {ns:List Int}
  (KX:K.In s₁.heap) (hns:s₁.heap.Ns mainGlobals mg) (hb:s₁.heap.Ns builtinsNs mb) (hbb:∀ x:Str,x≠"__name__"→mb x=bootBuiltins x) (hlim:s₁.heap.NoLimit) (hg:s₁.gens = #[])
  (ha:s₁.heap.get? a=some { cls:=.type "list",data:=.seq vs.toArray }) (hi:IntsAre vs ns) (hl:ns.length≤sizeLine) (hr:Room k callerA)
  (F:∀ base:Heap,K.In base→base.Ns mainGlobals mg→FnOk P w K mg base CX k fa fd [x] sp) (hbind:∀ (s:Shared) (u:Value),BindsTo s fd ⟨[u],[]⟩ [(x,u)])
  (hsp:∀ H:Hp,Only H→SqL K H a (ns.map V.int)→sp [.ref a] H (fun v _=>v = .bl true) fun _ _ _=>False)
  (hCX:∀ H e s',CX [] H s₁ (fun _ _ _=>False) e s'→False) :
  codeAny (model P w) callerA (.call (.ref fa) ⟨[.ref a],[]⟩) (fun r s'=>r = .ok (.ret (.bool true))∧OldK s₁.heap s'.heap∧s'.os=s₁.os∧AllBare s'.gens) s₁:=by
 have rv:=vals_ints hi
 have lenV:=hi.length
 -- from an abstract heap in which nothing but the script may be tracked
 have core:∀ H:Hp,Only H→SqL K H a (ns.map V.int)→HOk P w H s₁.heap→(∀ b,H b≠none→b=a)→(H a≠none→K.lookup a=none) →
   codeAny (model P w) callerA (.call (.ref fa) ⟨[.ref a],[]⟩) (fun r s'=>r = .ok (.ret (.bool true))∧OldK s₁.heap s'.heap∧s'.os=s₁.os∧AllBare s'.gens) s₁:=by
  intro H hO hS hok hA hK
  have base_of:∀ {b:Addr} {o:Obj},s₁.heap.get? b=some o→H b=none→(hidT s₁.heap H).get? b=some o:=fun e n=>hidT_get e n
  have noA:∀ {b:Addr} {o:Obj} {es:Array DictEntry} {ep:Nat},s₁.heap.get? b=some o→o.data = .dict es ep→H b=none:=fun {b o es ep} e d=>by
   cases q:H b with
   | none=>rfl
   | some u =>
    have e':b=a:=hA b (by rw [q]; simp)
    subst e'
    rw [ha] at e; cases e
    have d':Data.seq vs.toArray _=Data.dict es ep:=d
    cases d'
  have nsK:∀ {b:Addr} {m:Str→Option Value},s₁.heap.Ns b m→(hidT s₁.heap H).Ns b m:=fun {b m} ⟨o,es,ep,e,d,r⟩=>⟨o,es,ep,base_of e (noA e d),d,r⟩
  have hKb:K.In (hidT s₁.heap H):=fun b o e=>base_of (KX b o e) (by
   cases q:H b with
   | none=>rfl
   | some u =>
    have e':b=a:=hA b (by rw [q]; simp)
    subst e'
    rw [hK (by rw [q]; simp)] at e; cases e)
  have hM:Mod K mg (hidT s₁.heap H):=⟨hKb,nsK hns,⟨mb,nsK hb,hbb⟩,let ⟨mc,h1,h2⟩:=hlim; ⟨mc,nsK h1,h2⟩⟩
  have e0:Env0 P w K mg (hidT s₁.heap H) callerA [] s₁ H:=⟨rfl,hM,fun b o e=>of_hidT e,Nat.le_of_eq (hidT_size _ _),trivial,fun b hb=>absurd (show b ∈ ([] : List Addr) from hb) (by simp),hok,.of_eq hg⟩
  refine codeAny_mono ((F _ hKb (nsK hns)).run callerA [] s₁ H ⟨[.ref a],[]⟩ [.ref a] [.ref a] _ _ hr e0 (hbind s₁ (.ref a)) (.cons rfl .nil) (hsp H hO hS)) fun r s' h=>?_
  cases r with
  | error e=>exact (hCX H e s' h).elim
  | ok fl =>
   cases fl with
   | next=>exact False.elim h
   | brk=>exact False.elim h
   | cont=>exact False.elim h
   | ret u =>
    obtain ⟨v,H',os,bare,un,hok',r',q⟩:=h
    have q':v = .bl true:=q
    subst q'
    obtain rfl:u=Value.bool true:=r'
    refine ⟨rfl,OldK.of_keep fun b o e=>?_,os,bare⟩
    cases q:H b with
    | none=>exact un.keep b o e q (by intro z; exact absurd (show b ∈ ([] : List Addr) from z) (by simp)) (by simp)
    | some u =>
     rcases hO b with z | ⟨ob,xs,z⟩
     ·rw [q] at z; cases z
     ·have z2:=un.frzs b ob _ z
      obtain ⟨e1,_⟩:=hok b _ z
      obtain ⟨e2,_⟩:=hok' b _ z2
      rw [e] at e1; cases e1
      exact e2
 cases hk:K.lookup a with
 | some o =>
  -- the script is one of the module's own objects
  have e:=KX a o hk
  rw [ha] at e
  cases e
  refine core (fun _=>none) (fun _=>.inl rfl) (.inr ⟨_,vs.toArray,_,hk,rfl,rfl,rfl,by rw [List.size_toArray,lenV]; exact hl,by simpa using rv⟩) (fun b u z=>by have z':(none:Option HO)=some u:=z; cases z') (fun b z=>absurd rfl z) fun z=>absurd rfl z
 | none =>
  refine core (fun b=>if b=a then some (.frz { cls:=.type "list",data:=.seq vs.toArray } (.lst (ns.map V.int))) else none) (fun b=>?_) (.inl (.inr ⟨{ cls:=.type "list",data:=.seq vs.toArray },if_pos rfl⟩)) (fun b u z=>?_) (fun b z=>?_) fun _=>hk
  ·by_cases hb:b=a
   ·exact .inr ⟨_,_,if_pos hb⟩
   ·exact .inl (if_neg hb)
  ·by_cases hb:b=a
   ·have z':=(if_pos hb).symm.trans z
    cases z'
    subst hb
    exact ⟨ha,by rw [List.length_map]; exact hl,vs,_,rv,ha⟩
   ·have z':=(if_neg hb).symm.trans z
    cases z'
  ·by_cases hb:b=a
   ·exact hb
   ·exact absurd (if_neg hb) z

theorem walk_of {l:PySem.W.OpenLaw} {n k:Nat} {q:Program} {loose:List Str} {XP:(Str→Option Value)→Heap→Prop} {YP:World→Heap→Prop} {d:DefRec} {K:Params→PySem.W.Frag} {CX:World→CXT} {sp:World→Sp} {x:Str}
  (hn:l.most=some n) (hn2:n≤sizeLine) (hdf:d.params.defaults=[]) (hr:Room k callerA)
  (hY:∀ (w:World) (h:Heap),YP w h→(K w.params).In h)
  (F:∀ (w:World) (mg:Str→Option Value) (fa:Addr) (h:Heap),(K w.params).In h→h.Ns mainGlobals mg→mg d.name=some (.ref fa) →
   ∃ fd:FuncData,(∀ (s:Shared) (u:Value),BindsTo s fd ⟨[u],[]⟩ [(x,u)]) ∧
    ∀ base:Heap,(K w.params).In base→base.Ns mainGlobals mg→FnOk l.prog w (K w.params) mg base (CX w) k fa fd [x] (sp w))
  (hsp:∀ (w:World) (H:Hp) (a:Addr) (ns:List Int),ns.length≤n→Only H→SqL (K w.params) H a (ns.map V.int)→sp w [.ref a] H (fun v _=>v = .bl true) fun _ _ _=>False)
  (hCX:∀ (w:World) (H:Hp) (s:Shared) (e:Value) (s':Shared),CX w [] H s (fun _ _ _=>False) e s'→False) :
  PySem.W.WalkO q loose XP YP l.row.toRowW d [] (fun f vs=>PySem.call f vs):=by
 refine Att.attach_call hn hdf fun w s₀ s₁ mg mb fa o pm cd doc a vs ns G Y ho hd hcd hmg hobj hints hlen hg=>?_
 have KX:=hY w _ Y
 obtain ⟨fd,hb,hF⟩:=F w mg fa _ KX G.T.g hmg
 exact law_call KX G.T.g G.T.b G.T.builtins G.T.nolimit hg hobj hints (Nat.le_trans hlen hn2) hr hF hb (fun H hO hS=>hsp w H a ns hlen hO hS) fun H e s'=>hCX w H s₁ e s'

abbrev CX0:CXT:=fun _ _ _ _ _ _=>False
abbrev E0:XK:=fun _ _ _=>False
theorem pass0 {X:Cx} : Passes CX0 X E0:=fun _ _ _ _ _ _ _ h=>h.elim

structure Fun (K:PySem.W.Frag) (x qual:Str) (st:Stmt) (f:Addr) (fd:FuncData) : Prop where
 ex:∃ (oc:Value) (od:Option Addr) (kV doc pm:Value) (an:Option Addr) (cdv ct:Value) (osl:Array (Option Value)),
  fd=PySem.W.fnOf x qual (defArgs st) (defBody st) (defScope st) .none kV doc pm an cdv ct∧K.lookup f=some ⟨oc,od,.func fd,osl⟩∧PySem.W.codeIn K cdv qual=true
 kp:PySem.W.keepIn K (.ref f)=true
section
variable {P:Program} {w:World} {K:PySem.W.Frag} {mg:Str→Option Value} {base:Heap}
theorem Fun.ok {x qual:Str} {st:Stmt} {f:Addr} {fd:FuncData} {N ps:List Str} {k:Nat} {sp:Sp} (F:Fun K x qual st f fd) (S:FnScope N ps (defScope st)) (len:∀ vs H Q E,sp vs H Q E→vs.length=ps.length)
  (hbody:∀ (cdv:Value) (A:Around) (outer:List Env) (s:Shared) (H:Hp) (vs:List V) (Q:VK) (E:XK),Room k (A.deeper (envOfC qual (defScope st) s.heap.objs.size f cdv))→sp vs H Q E →
   ∃ t,PSs (cxOf CX0 P w K mg base N qual (defScope st) f cdv A outer s H E).nox (defBody st) t∧t { nx:=fun _ H'=>Q .non H',rt:=Q } (start N vs) H) : FnOk P w K mg base CX0 (k+1) f fd ps sp:=by
 obtain ⟨oc,od,kV,doc,pm,an,cdv,ct,osl,rfl,lk,hcd⟩:=F.ex
 refine fn_of lk hcd S len fun A outer s H vs Q E hr hsp=>?_
 obtain ⟨t,h,q⟩:=hbody cdv A outer s H vs Q E hr hsp
 exact ⟨t,h.nox,q⟩
theorem Fun.binds {x qual:Str} {st:Stmt} {f:Addr} {fd:FuncData} {ps:List Str} (F:Fun K x qual st f fd)
  (h:∀ (kV doc pm:Value) (an:Option Addr) (cdv ct:Value) (us:List Value),us.length=ps.length→bindArgs (PySem.W.fnOf x qual (defArgs st) (defBody st) (defScope st) .none kV doc pm an cdv ct) ⟨us,[]⟩=pure (ps.zip us)) : Binds K fd ps []:=by
 obtain ⟨oc,od,kV,doc,pm,an,cdv,ct,osl,rfl,lk,hcd⟩:=F.ex
 exact .all (h kV doc pm an cdv ct)
theorem fun_mk {x qual:Str} {st:Stmt} {f:Addr} {oc:Value} {od an:Option Addr} {osl:Array (Option Value)} {kV doc pm cdv ct:Value} (l:K.lookup f=some ⟨oc,od,.func (PySem.W.fnOf x qual (defArgs st) (defBody st) (defScope st) .none kV doc pm an cdv ct),osl⟩)
  (c:PySem.W.codeIn K cdv qual=true) (k:PySem.W.keepIn K (.ref f)=true) : Fun K x qual st f (PySem.W.fnOf x qual (defArgs st) (defBody st) (defScope st) .none kV doc pm an cdv ct):=⟨⟨oc,od,kV,doc,pm,an,cdv,ct,osl,rfl,l,c⟩,k⟩
end
theorem hu_of {A:Around} {k:Nat} (hr:Room k A) : A.units+1 < cLine:=Nat.lt_of_le_of_lt (Nat.add_le_add_left (by decide:1≤64) _) hr.units
theorem small1000 {n:Nat} (h:n≤1000) : n < sizeLine:=Nat.lt_of_le_of_lt h (by decide)

section
variable {X:Cx}
theorem pv (i:Nat) {x:Str} {pos:Pos} (hN:X.N[i]? = some x:=by rfl) (hv:Vis X.env.scope x:=by first | exact Or.inl rfl | exact Or.inr (Or.inl rfl) | exact Or.inr (Or.inr rfl)) (hd:(x == ("__debug__" : Str))=false:=by decide)
  (hcd:(x == ("__classdict__" : Str))=false:=by decide) : PE X (.Name x pos) (tVar i):=pe_var hN hv hd hcd
end

theorem iteF {A B:Prop} (h:B) : if false=true then A else B:=by
 rw [if_neg Bool.false_ne_true]
 exact h
theorem iteT {A B:Prop} (h:A) : if true=true then A else B:=by
 rw [if_pos rfl]
 exact h
theorem ite2 {c A B:Prop} [Decidable c] (h1:c→A) (h2:¬ c→B) : if c then A else B:=by
 by_cases h:c
 ·rw [if_pos h]
  exact h1 h
 ·rw [if_neg h]
  exact h2 h
theorem iteNS {c A B:Prop} [Decidable c] (hc:c) (h:B) : if (!decide c)=true then A else B:=by
 rw [decide_eq_true hc]
 exact iteF h

def Same (H H':Hp) : Prop:=∀ b o,H b=some o→H' b=some o
theorem Same.refl (H:Hp) : Same H H:=fun _ _ h=>h
theorem Same.trans {H H1 H2:Hp} (a:Same H H1) (b:Same H1 H2) : Same H H2:=fun c o h=>b c o (a c o h)
theorem Same.free {H H':Hp} (e:Same H H') {l:Addr} (h:H' l=Option.none) : H l=Option.none:=by
 cases q:H l with
 | none=>rfl
 | some o =>
  rw [e l o q] at h
  cases h
theorem Same.seq {K:PySem.W.Frag} {H H':Hp} {a:Addr} {xs:List V} (e:Same H H') (h:SqL K H a xs) : SqL K H' a xs:=by
 rcases h with (h | ⟨o,h⟩) | h
 ·exact .inl (.inl (e _ _ h))
 ·exact .inl (.inr ⟨o,e _ _ h⟩)
 ·exact .inr h

section
variable {κ:Type} [DecidableEq κ]
end

section
variable {prog:Program} {w:World} {A:Around} {R:Result→Shared→Prop} {s:Shared}
theorem compLoop_any {elt target iter:Expr} {ifs:List Expr} {scope:Scope} {pos:Pos} {it acc:Value} {env:Env} (I:Nat→Shared→Prop)
  (turn:∀ n s,I n s→wpAny (model prog w) A (pyNext it) (fun r s₁=>match r with
   | none=>R (.ok .next) s₁
   | some v=>wpAny (model prog w) A (letOwnedTupleGo target it v) (fun _ s₀=>wpAny (model prog w) A (assign target env v) (fun _ s₂ =>
     wpAny (model prog w) A (forIn ifs true fun c r=>if r=true then do let ok ← isTrue c env (eval c env); pure (ForInStep.yield ok) else pure (ForInStep.yield r)) (fun ok s₃ =>
      if ok=true then wpAny (model prog w) A (eval elt env) (fun x s₄ =>
       wpAny (model prog w) A (call (.builtin "list.append") [acc,x]) (fun _ s₅=>∃ m,m < n∧I m s₅) (fun _ _=>False) s₄) (fun _ _=>False) s₃
      else ∃ m,m < n∧I m s₃) (fun _ _=>False) s₂) (fun _ _=>False) s₀) (fun _ _=>False) s₁) (fun _ _=>False) s)
  (n:Nat) (h:I n s) : codeAny (model prog w) A (.compLoop (.ListComp elt [⟨target,iter,ifs,0⟩] scope pos) 0 it acc env) R s:=by
 refine codeAny_loop rfl I (fun n s hI=>?_) n h
 show wpAny _ A ((compTurn (.ListComp elt [⟨target,iter,ifs,0⟩] scope pos) 0 it acc env).onRaise (fun x=>do noteFrame x env; theTreesLotGoes x)) _ _ s
 refine wpAny_noted ?_
 rw [compTurn_list]
 refine wpAny_bind (wpAny_standAt (wpAny_bind (wpAny_mono (turn n s hI) (fun r s₁ h₁=>?_) fun _ _ h'=>h'.elim)))
 cases r with
 | none=>exact wpAny_pure h₁
 | some v =>
  refine wpAny_bind (wpAny_mono h₁ (fun _ s₀ h₀=>?_) fun _ _ h'=>h'.elim)
  refine wpAny_bind (wpAny_mono h₀ (fun _ s₂ h₂=>wpAny_bind (wpAny_mono h₂ (fun ok s₃ h₃=>?_) fun _ _ h'=>h'.elim)) fun _ _ h'=>h'.elim)
  cases ok with
  | false=>exact wpAny_pure ⟨rfl,h₃⟩
  | true =>
   exact wpAny_bind (wpAny_bind (wpAny_mono h₃ (fun x s₄ h₄=>wpAny_bind (wpAny_mono h₄ (fun _ s₅ h₅=>wpAny_pure (wpAny_pure ⟨rfl,h₅⟩)) fun _ _ h'=>h'.elim)) fun _ _ h'=>h'.elim))
end

def PTs (X:Cx) (ifs:List Expr) (t:TT) : Prop:=
 ∀ (pins:List (Addr × Obj)) (s:Shared) (σ:St) (H:Hp) (Q:Bool→Hp→Prop),Inv X pins σ H s→t σ H Q →
  wpAny (model X.prog X.w) X.A (forIn ifs true fun c r=>if r=true then do let ok ← isTrue c X.env (eval c X.env); pure (ForInStep.yield ok) else pure (ForInStep.yield r)) (TP X pins σ Q) X.xe s
def tYes:TT:=fun _ H Q=>Q true H
theorem pts_nil {X:Cx} : PTs X [] tYes:=fun _ _ _ H _ I h=>wpAny_tests_nil ⟨H,I,h⟩
abbrev Cx.blk (X:Cx) (N:List Str) (s:Shared) (H:Hp) (scope:Scope) (cl:List (Str × Addr)) (C:Addr) (ex:List Addr) : Cx:=
 { X with N:=N,s₀:=s,H₀:=H,env:=compEnvC scope cl C X.env,outer:=X.stack,stack:=X.stack,ex:=ex,fn:=fun _=>false,pn:=[],xe:=fun _ _=>False }

def AllC (env:Env) : List (Str × Addr)→Prop
 | []=>True
 | p :: r=>env.cells.lookup p.1=some p.2∧AllC env r
theorem lookup_mem {α:Type} : ∀ {l:List (Str × α)} {x:Str} {k:α},l.lookup x=some k→(x,k) ∈ l
 | [],_,_,h=>by simp at h
 | (n,k') :: r,x,k,h=>by
  rw [List.lookup_cons] at h
  cases hx:x == n with
  | true =>
   rw [hx] at h
   have e:x=n:=eq_of_beq hx
   have e2:k' = k:=Option.some.inj h
   rw [e,e2]; exact List.mem_cons_self
  | false =>
   rw [hx] at h
   exact List.mem_cons_of_mem _ (lookup_mem h)
theorem AllC.get {env:Env} : ∀ {cl:List (Str × Addr)} {x:Str} {c:Addr},AllC env cl→cl.lookup x=some c→env.cells.lookup x=some c:=fun {cl x c} h e=>by
 have go:∀ (l:List (Str × Addr)),AllC env l→∀ p ∈ l,env.cells.lookup p.1=some p.2:=by
  intro l
  induction l with
  | nil=>intro _ p hp; cases hp
  | cons q r ih =>
   intro ha p hp
   rcases List.mem_cons.mp hp with rfl | hp
   ·exact ha.1
   ·exact ih ha.2 p hp
 exact go cl h (x,c) (lookup_mem e)
def CapOk (X:Cx) (scope:Scope) (cl:List (Str × Addr)) : List Str→List Nat→Prop
 | [],[]=>True
 | y :: ys,j :: js=>(X.N[j]? = some y∧(X.env.kindOf y=some .cell∨X.env.kindOf y=some .free)∧(cl.lookup y).isSome=true∧((relabel scope X.env).names.lookup y=some .cell∨(relabel scope X.env).names.lookup y=some .free))∧CapOk X scope cl ys js
 | _,_=>False
theorem CapOk.get {X:Cx} {scope:Scope} {cl:List (Str × Addr)} : ∀ {ys:List Str} {js:List Nat} {i:Nat} {y:Str},CapOk X scope cl ys js→ys[i]? = some y →
  ∃ j,js[i]? = some j∧X.N[j]? = some y∧(X.env.kindOf y=some .cell∨X.env.kindOf y=some .free)∧(cl.lookup y).isSome=true∧((relabel scope X.env).names.lookup y=some .cell∨(relabel scope X.env).names.lookup y=some .free)
 | [],_,_,_,_,e=>by simp at e
 | _ :: _,[],_,_,h,_=>h.elim
 | y :: ys,j :: js,0,z,h,e=>by
  have e':y=z:=by simpa using e
  subst e'
  exact ⟨j,rfl,h.1⟩
 | y :: ys,j :: js,i+1,z,h,e=>by
  obtain ⟨k,e1,e2⟩:=CapOk.get (i:=i) h.2 (by simpa using e)
  exact ⟨k,by simpa using e1,e2⟩
theorem CapOk.len {X:Cx} {scope:Scope} {cl:List (Str × Addr)} : ∀ {ys:List Str} {js:List Nat},CapOk X scope cl ys js→ys.length=js.length
 | [],[],_=>rfl
 | [],_ :: _,h=>h.elim
 | _ :: _,[],h=>h.elim
 | _ :: _,_ :: _,h=>by rw [List.length_cons,List.length_cons,CapOk.len h.2]
def capv (σ:St) (js:List Nat) : St:=js.map fun j=>(σ[j]?).join
theorem relabel_free {scope:Scope} {env:Env} {x:Str} (hcell:∀ y ∈ scope.names,y.2≠.cell) (h:(relabel scope env).names.lookup x=some .cell∨(relabel scope env).names.lookup x=some .free) : (x,NameKind.free) ∈ scope.names:=by
 have hm:∃ k,(k=NameKind.cell∨k=NameKind.free)∧(x,k) ∈ (relabel scope env).names:=by
  rcases h with h | h
  ·exact ⟨_,.inl rfl,lookup_mem h⟩
  ·exact ⟨_,.inr rfl,lookup_mem h⟩
 obtain ⟨k,hk,hm⟩:=hm
 obtain ⟨⟨n,k'⟩,hin,e⟩:=List.mem_map.mp hm
 dsimp only at e
 by_cases hc:(k' == NameKind.free && env.scope.kind == .function && env.kindOf n == some .cell)=true
 ·rw [if_pos hc] at e
  cases e
  have:k' = NameKind.free:=by
   rw [Bool.and_eq_true,Bool.and_eq_true] at hc
   exact eq_of_beq hc.1.1
  rw [← this]; exact hin
 ·rw [if_neg hc] at e
  cases e
  rcases hk with hk | hk
  ·exact absurd hk (hcell _ hin)
  ·rw [← hk]; exact hin
section
variable {X:Cx} {pins:List (Addr × Obj)} {σ:St} {H:Hp} {s:Shared}
theorem Inv.adopt {D:Addr} {ys:List V} {its:List Value} {n:Nat} (I:Inv X pins σ H s) (hn:H D=none) (hnew:X.s₀.heap.objs.size≤D) (hL:D≠X.env.locals) (hc:∀ x c,X.env.cells.lookup x=some c→c≠D) (hp:∀ p ∈ X.pn++pins,p.1≠D)
  (e:s.heap.get? D=some { cls:=.type "list",data:=.seq its.toArray n }) (hv:Vals ys its) (hz:ys.length≤sizeLine) : Inv X pins σ (upd H D (.lst ys)) s:=by
 have ne:∀ b u,H b=some u→b≠D:=fun b u q=>ne_of_none q hn
 refine ⟨I.ok,I.os,I.bare,⟨I.base.keep,I.base.slot,fun b o q nn hx=>?_,I.base.there,fun b xs q=>?_,fun b o u q=>?_,fun b ps q=>?_⟩,I.loc,I.cell,?_,fun x c q=>?_,fun p hq=>?_,fun b u q=>?_,I.len⟩
 ·rw [upd_ne (Nat.ne_of_lt (Nat.lt_of_lt_of_le (Heap.lt_size q) hnew))]; exact I.base.free b o q nn hx
 ·have z:=I.base.tups b xs q
  rw [upd_ne (ne b _ z)]; exact z
 ·have z:=I.base.frzs b o u q
  rw [upd_ne (ne b _ z)]; exact z
 ·obtain ⟨more,z⟩:=I.base.tbls b ps q
  exact ⟨more,by rw [upd_ne (ne b _ z)]; exact z⟩
 ·rw [upd_ne (Ne.symm hL)]; exact I.free
 ·rw [upd_ne (hc x c q)]; exact I.freeC x c q
 ·obtain ⟨a1,a2,a3⟩:=I.pin p hq
  exact ⟨a1,by rw [upd_ne (hp p hq)]; exact a2,a3⟩
 ·by_cases hb:b=D
  ·subst hb
   rw [upd_same] at q; cases q
   exact ⟨hz,its,n,hv,e⟩
  ·rw [upd_ne hb] at q
   exact (I.hok b u q).stay (fun c v _ r=>r) (fun c r=>by rw [upd_ne (ne c _ r)]; exact r) fun c xs r=>by rw [upd_ne (ne c _ r)]; exact r
structure Outed (X:Cx) (pins:List (Addr × Obj)) (σ:St) (C D:Addr) (H:Hp) (s:Shared) : Prop where
 inv:Inv X pins σ H s
 ns:∃ m,s.heap.Ns C m
 nL:C≠X.env.locals
 new:X.s₀.heap.objs.size≤C
 nc:∀ x c,X.env.cells.lookup x=some c→c≠C
 np:∀ p ∈ X.pn++pins,p.1≠C
 free:H C=none
theorem Outed.gone {C D:Addr} {h':Heap} (O:Outed X pins σ C D H s) (sb:Heap.SameBut C s.heap h') : Inv X pins σ H { s with heap:=h' }:=
 O.inv.turned (t':=s.toks) (it:=C) (fun b o hb e=>(sb.2 b hb).trans e) O.free O.nL (.inr O.new) O.nc O.np
end

def gLC (J:It) (g:TG) (tc:TT) (te:TE) (n:Nat) (cv:St) (Fin:List V→Hp→Prop) (H1:Hp) : Prop:=
 ∃ W:Nat→Nat→List V→Hp→Prop,(∃ m,W 0 m [] H1)∧∀ i m ys H,W i m ys H →
  (J.stop i H∧Fin ys H) ∨
  (J.go i H∧ys.length < sizeLine∧∃ N:List V→Hp→Prop,(∀ ys' H',N ys' H'→∃ m',m' < m∧W (i+1) m' ys' H')∧∀ x H',J.yld i H x H'→∀ own:St,own.length=n→g x (own++cv) H' fun σ2 H2=>(∃ own2:St,own2.length=n∧σ2=own2++cv) ∧
   tc σ2 H2 fun b H3=>if b=true then te σ2 H3 fun y H4=>N (ys++[y]) H4 else N ys H3)

def clOf (env:Env) : List (Str × NameKind)→List (Str × Addr)→List (Str × Addr)
 | [],acc=>acc
 | (n,k) :: r,acc=>clOf env r (if k == .free then (match env.cells.lookup n with | some c=>(n,c) :: acc | none=>acc) else acc)
theorem clOf_all (env:Env) : ∀ (names:List (Str × NameKind)) (acc:List (Str × Addr)),AllC env acc→AllC env (clOf env names acc)
 | [],_,h=>h
 | (n,k) :: r,acc,h=>by
  refine clOf_all env r _ ?_
  split
  ·split
   ·exact ⟨by assumption,h⟩
   ·exact h
  ·exact h
structure LcOk (X:Cx) (scope:Scope) (cl:List (Str × Addr)) (own caps:List Str) (js:List Nat) : Prop where
 clos:closureFor scope X.env=pure cl
 cell:∀ y ∈ scope.names,y.2≠.cell
 kind:scope.kind = .function
 names:∀ y ∈ scope.names,y.2 = .local→scope.names.lookup y.1=some .local
 allc:AllC X.env cl
 free:(scope.names.all fun y=>y.2 != .free || (cl.lookup y.1).isSome)=true
 cap:CapOk X scope cl caps js

theorem lcok {X:Cx} {scope:Scope} {own caps:List Str} {js:List Nat} (clos:closureFor scope X.env=pure (clOf X.env scope.names []):=by with_unfolding_all rfl) (cell:∀ y ∈ scope.names,y.2≠.cell:=by decide +kernel) (kind:scope.kind = .function:=by rfl)
  (names:∀ y ∈ scope.names,y.2 = .local→scope.names.lookup y.1=some .local:=by decide +kernel) (free:(scope.names.all fun y=>y.2 != .free || ((clOf X.env scope.names []).lookup y.1).isSome)=true:=by with_unfolding_all rfl)
  (cap:CapOk X scope (clOf X.env scope.names []) caps js) : LcOk X scope (clOf X.env scope.names []) own caps js:=⟨clos,cell,kind,names,clOf_all _ _ _ trivial,free,cap⟩
section
variable {X:Cx} {elt iter target:Expr} {ifs:List Expr} {scope:Scope} {cl:List (Str × Addr)} {pos:Pos} {own caps:List Str} {js:List Nat} {g:TG} {tc:TT} {te:TE}
theorem lc_block {pins:List (Addr × Obj)} {σ:St} {s₂:Shared} {H1:Hp} {it:Addr} {fp:List Addr} {tn:Nat→Heap→Prop} {J:It} {Fin:List V→Hp→Prop} {RR:Value→Addr→Result→Shared→Prop} {E:Value→Shared→Prop}
  (hc:X.calm=true) (L:LcOk X scope cl own caps js)
  (hg:∀ s H C ex,PG (X.blk (own++caps) s H scope cl C ex) target g) (ht:∀ s H C ex,PTs (X.blk (own++caps) s H scope cl C ex) ifs tc) (he:∀ s H C ex,PE (X.blk (own++caps) s H scope cl C ex) elt te)
  (I2:Inv X pins σ H1 s₂) (T:Turn X.prog X.w X.K target J fp it tn) (st2:tn 0 s₂.heap) (f2:∀ b ∈ fp,FpOk X pins H1 b)
  (G:gLC J g tc te own.length (capv σ js) Fin H1)
  (hRR:∀ D C H ys s',H D=none→Outed X pins σ C D (upd H D (.lst ys)) s'→Fin ys H→RR (.ref D) C (.ok .next) s') :
  wpAny (model X.prog X.w) X.A (newList []) (fun acc s₃=>wpAny (model X.prog X.w) X.A (newFunctionEnv scope X.env.globals cl [] X.env.qual none .none (some X.env)) (fun cenv s₄ =>
   codeAny (model X.prog X.w) X.A (.compStart (.ListComp elt [⟨target,iter,ifs,0⟩] scope pos) 0 (.ref it) acc { cenv with scope:=relabel scope X.env }) (RR acc cenv.locals) s₄) E s₃) E s₂:=by
 refine wpAny_newObj_type (wpAny_newFunctionEnv L.cell (by intro y hy; simp at hy) (fun h₁ hns₁ hsb₁=>?_) L.kind)
 dsimp only at hns₁ hsb₁ ⊢
 generalize hH2:s₂.heap.push { cls:=.type "list",dict:=none,data:=.seq ([] : List Value).toArray }=G2 at hns₁ hsb₁ ⊢
 have hC:G2.objs.size=s₂.heap.objs.size+1:=by rw [← hH2,Heap.size_push]
 have up2:∀ b o,s₂.heap.get? b=some o→G2.get? b=some o:=fun b o e=>hH2 ▸ Heap.get?_push_of_some _ e
 have hDC:s₂.heap.objs.size≠G2.objs.size:=by rw [hC]; exact Nat.ne_of_lt (Nat.lt_succ_self _)
 have hD2:G2.get? s₂.heap.objs.size=some { cls:=.type "list",data:=.seq ([] : List Value).toArray ([] : List Value).length }:=hH2 ▸ Heap.get?_push_size _ rfl
 -- the state with the list laid
 have I3:Inv X pins σ H1 { s₂ with heap:=G2 }:=I2.kept (t':=s₂.toks) up2
 have up3:∀ b o,G2.get? b=some o→h₁.get? b=some o:=fun b o e=>hsb₁.extBut b o (Nat.ne_of_lt (Heap.lt_size e)) (Heap.get?_push_of_some _ e)
 have DH:H1 s₂.heap.objs.size=none:=I2.fresh
 have CH:H1 G2.objs.size=none:=I3.fresh
 have fpl:∀ b ∈ fp,b < s₂.heap.objs.size:=fun b hb=>by
  obtain ⟨o,e,_⟩:=T.obj 0 _ st2 b hb
  exact Heap.lt_size e
 have celllt:∀ x c,X.env.cells.lookup x=some c→c < s₂.heap.objs.size:=fun x c e=>by
  obtain ⟨v,q⟩:=I2.cell x c e
  exact q.lt
 have locl:X.env.locals < s₂.heap.objs.size:=I2.lt
 generalize hD:s₂.heap.objs.size=D at *
 generalize hCC:G2.objs.size=C at *
 have hDltC:D < C:=by omega
 have noF:∀ b,b ∈ frs X.stack→b < D:=fun b hb=>by
  rcases List.mem_cons.mp (I2.stkSub b hb) with e | hb
  ·rw [e]; exact locl
  ·obtain ⟨_,o,ho,_⟩:=I2.ok.funs.mem hb
   exact Nat.lt_of_lt_of_le (Heap.lt_size ho) (hD ▸ I2.sz)
 have fpF:∀ b ∈ fp,b ∉ frs X.stack:=fun b hb z=>by
  obtain ⟨_,e1,e2,_⟩:=f2 b hb
  rcases List.mem_cons.mp (I2.stkSub b z) with e | z
  ·exact e1 e
  ·exact e2 z
 have ok':(X.blk (own++caps) { s₂ with heap:=G2 } H1 scope cl C (D :: fp)).Ok:={
  mod:=I2.ok.mod
  kind:=L.kind
  glob:=I2.ok.glob
  blt:=I2.ok.blt
  above:=Nat.le_of_eq hCC
  inj:=fun x y c e1 e2=>I2.ok.inj x y c (L.allc.get e1) (L.allc.get e2)
  has:=fun x hx=>by
   have hm:=relabel_free L.cell hx
   have q:=List.all_eq_true.mp L.free _ hm
   have q':(cl.lookup x).isSome=true:=by simpa using q
   exact Option.isSome_iff_exists.mp q'
  cab:=fun x c e=>nomatch e
  hd:=I2.ok.hd
  frames:=I2.ok.frames
  stk:=.inl rfl
  exf:=fun b hb=>by
   rcases List.mem_cons.mp hb with rfl | hb
   ·exact ⟨Nat.ne_of_lt hDltC,fun x c e=>Nat.ne_of_lt (celllt x c (L.allc.get e))⟩
   ·obtain ⟨_,e1,e2,_,e4,_⟩:=f2 b hb
    exact ⟨Nat.ne_of_lt (Nat.lt_trans (fpl b hb) hDltC),fun x c e=>e4 x c (L.allc.get e)⟩
  bs:=fun b o e=>⟨up2 b o (I2.bs b o e).1,(I2.bs b o e).2⟩
  bsz:=by
   show X.base.objs.size≤G2.objs.size
   have:=I2.ok.bsz
   have:=I2.sz
   omega
  noex:=fun b o e hb=>by
   have hlt:=Heap.lt_size (I2.bs b o e).1
   rcases List.mem_cons.mp hb with z | hb
   ·exact absurd (show b < D from hD ▸ hlt) (by rw [z]; exact Nat.lt_irrefl _)
   ·obtain ⟨_,_,_,e3,_⟩:=f2 b hb
    rcases e3 with e3 | e3
    ·exact I2.ok.noex b o e e3
    ·exact absurd (Nat.lt_of_lt_of_le (Heap.lt_size (I2.ok.bs b o e).1) e3) (Nat.lt_irrefl _)
  exfs:=fun b hb z=>by
   rcases List.mem_cons.mp hb with e | hb
   ·exact absurd (noF b z) (by rw [e]; exact Nat.lt_irrefl _)
   ·exact fpF b hb z
  funs:=I3.stack
  frf:=I3.stkFree }
 have hns:h₁.Ns C (fun x=>([] : List (Str × Value)).reverse.lookup x):=hns₁
 have start:Inv (X.blk (own++caps) { s₂ with heap:=G2 } H1 scope cl C (D :: fp)) [(D,LCg.lst [])] (List.replicate own.length none++capv σ js) H1 { s₂ with heap:=h₁,toks:=s₂.toks+([] : List (Str × Value)).length }:=by
  refine ⟨ok',rfl,I2.bare,Un.kept up3,⟨_,hns,fun i x v e1 e2 e3=>?_⟩,fun x c e=>?_,CH,fun x c e=>I2.freeC x c (L.allc.get e),fun p hp=>?_,I3.hok.kept up3,?_⟩
  ·have hlo:own.length≤i:=by
    refine Nat.le_of_not_lt fun hlt=>?_
    rw [List.getElem?_append_left (by rw [List.length_replicate]; exact hlt),List.getElem?_replicate,if_pos hlt] at e2
    cases e2
   have e1':caps[i - own.length]? = some x:=by rw [← List.getElem?_append_right hlo]; exact e1
   obtain ⟨j,j1,j2,j3,j4,j5⟩:=L.cap.get e1'
   have e2':(capv σ js)[i - own.length]? = some (some v):=by
    rw [← e2,List.getElem?_append_right (by rw [List.length_replicate]; exact hlo),List.length_replicate]
   have e4:σ[j]? = some (some v):=by
    unfold capv at e2'
    rw [List.getElem?_map,j1] at e2'
    have e5:(σ[j]?).join=some v:=Option.some.inj e2'
    cases hq:σ[j]? with
    | none=>rw [hq] at e5; cases e5
    | some q=>rw [hq] at e5; exact congrArg some e5
   obtain ⟨m,hn,hl⟩:=I2.loc
   obtain ⟨u,ru,lk⟩:=hl j x v j2 e4 (.inr j3)
   refine ⟨u,ru,.inr ⟨j5,?_⟩⟩
   rcases lk with ⟨k,_⟩ | ⟨_,c,ec,o,ho,hd⟩
   ·rcases j3 with z | z <;> (rw [k] at z; cases z)
   ·obtain ⟨c',ec'⟩:=Option.isSome_iff_exists.mp j4
    have:=L.allc.get ec'
    rw [ec] at this
    cases this
    exact ⟨c,ec',o,up3 _ _ (up2 _ _ ho),hd⟩
  ·obtain ⟨v,o,ho,hd⟩:=I2.cell x c (L.allc.get e)
   exact ⟨v,o,up3 _ _ (up2 _ _ ho),hd⟩
  ·have e:p=(D,LCg.lst []):=by simpa using hp
   subst e
   exact ⟨up3 _ _ hD2,DH,Nat.ne_of_lt hDltC,fun z=>absurd (noF D z) (Nat.lt_irrefl _),fun v z=>by cases z⟩
  ·rw [List.length_append,List.length_append,List.length_replicate]
   unfold capv
   rw [List.length_map,L.cap.len]
 obtain ⟨W,⟨m0,w0⟩,turn⟩:=G
 have loop:codeAny (model X.prog X.w) X.A (.compLoop (.ListComp elt [⟨target,iter,ifs,0⟩] scope pos) 0 (.ref it) (.ref D) (compEnvC scope cl C X.env)) (RR (.ref D) C) { s₂ with heap:=h₁,toks:=s₂.toks+([] : List (Str × Value)).length }:=by
  refine compLoop_any (fun n s'=>∃ i ys its ow H',Inv (X.blk (own++caps) { s₂ with heap:=G2 } H1 scope cl C (D :: fp)) [(D,LCg.lst its)] (ow++capv σ js) H' s'∧ow.length=own.length∧tn i s'.heap∧(∀ b ∈ fp,H' b=none)∧Vals ys its∧ys.length≤sizeLine∧W i n ys H') ?_ m0
   ⟨0,[],[],List.replicate own.length none,H1,start,List.length_replicate,T.keep _ _ _ st2 fun b _ o e=>up3 _ _ (up2 _ _ e),fun b hb=>(f2 b hb).1,.nil,Nat.zero_le _,w0⟩
  rintro n s' ⟨i,ys,its,ow,H',I',hlo,st,fr,hv,hz,wv⟩
  have fpok:∀ {H'':Hp},(∀ b ∈ fp,H'' b=none)→∀ b ∈ fp,FpOk (X.blk (own++caps) { s₂ with heap:=G2 } H1 scope cl C (D :: fp)) [(D,LCg.lst its)] H'' b:=fun hn b hb=>by
   obtain ⟨_,e1,e2,e3,e4,e5⟩:=f2 b hb
   refine ⟨hn b hb,Nat.ne_of_lt (Nat.lt_trans (fpl b hb) hDltC),fpF b hb,.inl (List.mem_cons_of_mem _ hb),fun x c e=>e4 x c (L.allc.get e),fun p hp=>?_⟩
   have e:p=(D,LCg.lst its):=by simpa using hp
   subst e
   exact Nat.ne_of_gt (fpl b hb)
  rcases turn i n ys H' wv with ⟨stop,fin⟩ | ⟨go,hlt,N,hN,step⟩
  ·refine wpAny_mono (T.done (X.blk (own++caps) { s₂ with heap:=G2 } H1 scope cl C (D :: fp)) rfl rfl rfl hc i _ s' _ H' (fun _ _=>False) I' (fpok fr) st stop) (fun r s4 ⟨hr,I4⟩=>?_) fun _ _ f=>f
   subst hr
   have pD:=I4.pin (D,LCg.lst its) (by simp)
   have hch:∀ b ∈ D :: fp,(b ∈ X.ex∨X.s₀.heap.objs.size≤b)∧b≠X.env.locals∧(∀ x c,X.env.cells.lookup x=some c→c≠b)∧∀ p ∈ X.pn++pins,p.1≠b:=fun b hb=>by
    rcases List.mem_cons.mp hb with rfl | hb
    ·exact ⟨.inr (hD ▸ I2.sz),Nat.ne_of_gt locl,fun x c e=>Nat.ne_of_lt (celllt x c e),fun p hp=>Nat.ne_of_lt (hD ▸ Heap.lt_size (I2.pin p hp).1)⟩
    ·obtain ⟨_,e1,e2,e3,e4,e5⟩:=f2 b hb
     exact ⟨e3,e1,e4,e5⟩
   have IX:Inv X pins σ H' s4:=I2.call' (ch:=D :: fp) I4.os ((Un.kept up2).trans I4.base) I4.hok I4.bare hch
   have cD:=hch D List.mem_cons_self
   have IA:Inv X pins σ (upd H' D (.lst ys)) s4:=IX.adopt pD.2.1 (hD ▸ I2.sz) cD.2.1 cD.2.2.1 cD.2.2.2 pD.1 hv hz
   obtain ⟨mm,hmm,_⟩:=I4.loc
   refine hRR D C H' ys s4 pD.2.1 ⟨IA,⟨mm,hmm⟩,Nat.ne_of_gt (Nat.lt_trans locl hDltC),?_,fun x c e=>Nat.ne_of_lt (Nat.lt_trans (celllt x c e) hDltC),fun p hp=>?_,?_⟩ fin
   ·have:=I2.sz
    omega
   ·exact Nat.ne_of_lt (Nat.lt_trans (show p.1 < D from hD ▸ Heap.lt_size (I2.pin p hp).1) hDltC)
   ·rw [upd_ne (Nat.ne_of_gt hDltC)]; exact I4.free
  ·refine wpAny_mono (T.item (X.blk (own++caps) { s₂ with heap:=G2 } H1 scope cl C (D :: fp)) rfl rfl rfl hc i _ s' _ H' (fun _ _=>False) I' (fpok fr) st go) (fun r s4 ⟨u,hr,h4⟩=>?_) fun _ _ f=>f
   subst hr
   refine wpAny_mono h4 (fun _ s5 ⟨x,H5,I5,r5,y5,st5,fr5⟩=>?_) fun _ _ f=>f
   have I5':=I5.pinned (fpok fr5) (T.obj _ _ st5)
   have keepT:∀ {σ8:St} {H8:Hp} {s8:Shared},Inv (X.blk (own++caps) { s₂ with heap:=G2 } H1 scope cl C (D :: fp)) ([(D,LCg.lst its)]++pinsAt fp s5.heap) σ8 H8 s8→tn (i+1) s8.heap∧∀ b ∈ fp,H8 b=none:=fun {σ8 H8 s8} I8 =>
    ⟨T.keep _ _ _ st5 fun b hb o e=>(I8.pin (b,o) (List.mem_append_right _ (List.mem_append_right _ (mem_pinsAt hb e)))).1,fun b hb=>by
     obtain ⟨o,e,d⟩:=T.obj _ _ st5 b hb
     exact (I8.pin (b,o) (List.mem_append_right _ (List.mem_append_right _ (mem_pinsAt hb e)))).2.1⟩
   refine wpAny_mono (hg _ _ _ _ _ s5 _ H5 x u _ I5' r5 (step x H5 y5 ow hlo)) (fun _ s6 ⟨σ6,H6,I6,⟨own2,hl2,e6⟩,q6⟩=>?_) fun _ _ f=>f
   subst e6
   refine wpAny_mono (ht _ _ _ _ _ s6 _ H6 _ I6 q6) (fun b s7 ⟨H7,I7,q7⟩=>?_) fun _ _ f=>f
   cases b with
   | false =>
    rw [if_neg Bool.false_ne_true]
    rw [if_neg Bool.false_ne_true] at q7
    obtain ⟨m',hm,w7⟩:=hN _ _ q7
    obtain ⟨k1,k2⟩:=keepT I7
    exact ⟨m',hm,i+1,ys,its,own2,H7,I7.unpinned,hl2,k1,k2,hv,hz,w7⟩
   | true =>
    rw [if_pos rfl]
    rw [if_pos rfl] at q7
    refine wpAny_mono (he _ _ _ _ _ s7 _ H7 _ I7 q7) (fun y s8 ⟨vy,H8,I8,r8,n8⟩=>?_) fun _ _ f=>f
    obtain ⟨m',hm,w8⟩:=hN _ _ n8
    obtain ⟨k1,k2⟩:=keepT I8
    have pD:=I8.pin (D,LCg.lst its) (by simp)
    have hyl:=hv.length
    refine append_at (hsz:=by show its.toArray.size≤sizeLine; rw [List.size_toArray]; omega) pD.1 fun h9 hs9 hD9=>?_
    have I9:Inv (X.blk (own++caps) { s₂ with heap:=G2 } H1 scope cl C (D :: fp)) [] (own2++capv σ js) H8 { s8 with heap:=h9 }:=by
     refine (I8.pins_of (pins':=[]) fun p hp=>nomatch hp).turned (t':=s8.toks) (it:=D) (fun b o hb e=>(hs9.2 b hb).trans e) pD.2.1 (Nat.ne_of_lt hDltC) (.inl List.mem_cons_self) (fun x c e=>Nat.ne_of_lt (celllt x c (L.allc.get e))) fun p hp=>?_
     simp at hp
    refine ⟨m',hm,i+1,ys++[vy],its++[y],own2,H8,I9.pins_of fun p hp=>?_,hl2,T.keep _ _ _ k1 fun b hb o e=>(hs9.2 b (Nat.ne_of_lt (fpl b hb))).trans e,k2,hv.append (.cons r8 .nil),?_,w8⟩
    ·have e:p=(D,LCg.lst (its++[y])):=by simpa using hp
     subst e
     exact ⟨hD9.trans (congrArg some (LCg.lst_snoc its y)),pD.2.1,Nat.ne_of_lt hDltC,fun z=>absurd (noF D z) (Nat.lt_irrefl _),fun v z=>by cases z⟩
    ·rw [List.length_append,List.length_singleton]; omega
 exact codeAny_compStart_list loop (T.self _ _ _ _ _ (T.keep _ _ _ st2 fun b _ o e=>up3 _ _ (up2 _ _ e)) loop)

def tLCg (wi:TI) (g:TG) (tc:TT) (te:TE) (n:Nat) (js:List Nat) : TE:=fun σ H Q=>wi σ H fun J H1=>gLC J g tc te n (capv σ js) (fun ys H=>∀ p,H p=none→Q (.ref p) (upd H p (.lst ys))) H1
variable {wi:TI}
theorem pe_lcg (hc:X.calm=true) (L:LcOk X scope cl own caps js) (hi:PI X target iter wi)
  (hg:∀ s H C ex,PG (X.blk (own++caps) s H scope cl C ex) target g) (ht:∀ s H C ex,PTs (X.blk (own++caps) s H scope cl C ex) ifs tc) (he:∀ s H C ex,PE (X.blk (own++caps) s H scope cl C ex) elt te)
  (hs:∀ x,foldedSetIterable iter X.env x=pure x:=by intro _; rfl) : PE X (.ListComp elt [⟨target,iter,ifs,0⟩] scope pos) (tLCg wi g tc te own.length js):=by
 intro pins s σ H Q I h
 rw [eval_ListComp]
 refine wpAny_comprehension_free (use:=none) rfl hs L.clos L.kind L.names (thn (hi pins s σ H _ I h) fun v s1 h1=>thn h1 fun itv s2 h2=>?_)
 obtain ⟨it,fp,tn,J,H2,e,I2,T,st2,f2,G⟩:=h2
 subst e
 refine lc_block hc L hg ht he I2 T st2 f2 G ?_
 intro D C H3 ys s' hD O fin
 obtain ⟨m,hn⟩:=O.ns
 exact ⟨m,hn,fun h' sb=>⟨.ref D,_,O.gone sb,rfl,fin D hD⟩⟩
theorem ps_lcg {k:Nat} {y:Str} {py spos:Pos} (hc:X.calm=true) (L:LcOk X scope cl own caps js) (hi:PI X target iter wi)
  (hg:∀ s H C ex,PG (X.blk (own++caps) s H scope cl C ex) target g) (ht:∀ s H C ex,PTs (X.blk (own++caps) s H scope cl C ex) ifs tc) (he:∀ s H C ex,PE (X.blk (own++caps) s H scope cl C ex) elt te)
  (hN:X.N.Nodup) (hk:X.N[k]? = some y) (hy:X.env.scope.names.lookup y=some .local)
  (hsw:swapsWith (.ListComp elt [⟨target,iter,ifs,0⟩] scope pos) (some (.Name y py)) spos.line X.env=pure true:=by rfl)
  (hs:∀ x,foldedSetIterable iter X.env x=pure x:=by intro _; rfl) : PS X (.Assign [.Name y py] (.ListComp elt [⟨target,iter,ifs,0⟩] scope pos) spos) (tAsg (tLCg wi g tc te own.length js) (gName k)):=by
 intro pins s σ H De I h
 rw [exec_Assign_Name_used _ _ _ _ hsw]
 refine wpAny_bind (wpAny_standAt (wpAny_bind ?_))
 show wpAny _ _ (do let _ ← comprehension (.ListComp elt [⟨target,iter,ifs,0⟩] scope pos) scope X.env _ (newList []) false (eval iter X.env) (some (assign (.Name y py) X.env))) _ _ s
 refine wpAny_bind (wpAny_mono (wpAny_comprehension_free (use:=some (assign (.Name y py) X.env)) (Q:=fun _ s'=>SP X pins De .next s') rfl hs L.clos L.kind L.names
  (thn (hi pins s σ H _ I h) fun v s1 h1=>thn h1 fun itv s2 h2=>?_)) (fun _ s' hq=>wpAny_pure (wpAny_pure hq)) fun _ _ e=>e)
 obtain ⟨it,fp,tn,J,H2,e,I2,T,st2,f2,G⟩:=h2
 subst e
 refine lc_block hc L hg ht he I2 T st2 f2 G ?_
 intro D C H3 ys s' hD O fin
 show wpAny _ _ (assign (.Name y py) X.env (.ref D)) _ _ _
 refine wpAny_assign_Name (store_ok2 O.inv hN hk (.inl hy) (show RelV (.ref D) (.ref D) from rfl) (fun s'' I'' sb=>?_) (.inr hy))
 obtain ⟨a,hsb,ha⟩:=sb
 have hne:C≠a:=by
  rcases ha with rfl | ha
  ·exact O.nL
  ·exact Ne.symm (O.nc _ _ ha)
 obtain ⟨m,hn⟩:=O.ns
 refine ⟨m,hn.sameBut hsb hne,fun h' sb'=>⟨_,_,?_,fin D hD⟩⟩
 exact I''.turned (t':=s''.toks) (it:=C) (fun b o hb e=>(sb'.2 b hb).trans e) O.free O.nL (.inr O.new) O.nc O.np
end

section
variable {X:Cx} {elt iter:Expr} {ifs:List Expr} {scope:Scope} {cl:List (Str × Addr)} {pos:Pos} {caps:List Str} {js:List Nat} {tc:TT} {te:TE} {wi:TI} {x:Str} {px:Pos}
theorem gLC1 {J:It} {cv:St} {Fin:List V→Hp→Prop} {H1:Hp} (h:∃ W:Nat→Nat→List V→Hp→Prop,(∃ m,W 0 m [] H1)∧∀ i m ys H,W i m ys H →
  (J.stop i H∧Fin ys H) ∨
  (J.go i H∧ys.length < sizeLine∧∃ N:List V→Hp→Prop,(∀ ys' H',N ys' H'→∃ m',m' < m∧W (i+1) m' ys' H')∧∀ x H',J.yld i H x H' →
   tc (some x :: cv) H' fun b H3=>if b=true then te (some x :: cv) H3 fun y H4=>N (ys++[y]) H4 else N ys H3)) : gLC J (gName 0) tc te 1 cv Fin H1:=by
 obtain ⟨W,w0,turn⟩:=h
 refine ⟨W,w0,fun i m ys H w=>?_⟩
 rcases turn i m ys H w with ⟨a,b⟩ | ⟨a,b,N,hN,c⟩
 ·exact .inl ⟨a,b⟩
 ·refine .inr ⟨a,b,N,hN,fun v H' y own ho=>?_⟩
  match own,ho with
  | [τ],_=>exact ⟨⟨[some v],rfl,rfl⟩,c v H' y⟩
def tLC (wi:TI) (tc:TT) (te:TE) (js:List Nat) : TE:=tLCg wi (gName 0) tc te 1 js
theorem pe_lc (hc:X.calm=true) (L:LcOk X scope cl [x] caps js) (hi:PI X (.Name x px) iter wi)
  (ht:∀ s H C ex,PTs (X.blk (x :: caps) s H scope cl C ex) ifs tc) (he:∀ s H C ex,PE (X.blk (x :: caps) s H scope cl C ex) elt te)
  (hN:(x :: caps).Nodup:=by decide +kernel) (hx:(relabel scope X.env).names.lookup x=some .local:=by with_unfolding_all rfl)
  (hs:∀ x,foldedSetIterable iter X.env x=pure x:=by intro _; rfl) : PE X (.ListComp elt [⟨.Name x px,iter,ifs,0⟩] scope pos) (tLC wi tc te js):=
 pe_lcg (own:=[x]) (g:=gName 0) hc L hi (fun s H C ex=>pg_name (i:=0) hN rfl (.inl hx) (.inr hx)) ht he hs
theorem ps_lc {k:Nat} {y:Str} {py spos:Pos} (hc:X.calm=true) (L:LcOk X scope cl [x] caps js) (hi:PI X (.Name x px) iter wi)
  (ht:∀ s H C ex,PTs (X.blk (x :: caps) s H scope cl C ex) ifs tc) (he:∀ s H C ex,PE (X.blk (x :: caps) s H scope cl C ex) elt te)
  (hXN:X.N.Nodup) (hk:X.N[k]? = some y) (hy:X.env.scope.names.lookup y=some .local) (hN:(x :: caps).Nodup:=by decide +kernel) (hx:(relabel scope X.env).names.lookup x=some .local:=by with_unfolding_all rfl)
  (hsw:swapsWith (.ListComp elt [⟨.Name x px,iter,ifs,0⟩] scope pos) (some (.Name y py)) spos.line X.env=pure true:=by rfl)
  (hs:∀ x,foldedSetIterable iter X.env x=pure x:=by intro _; rfl) : PS X (.Assign [.Name y py] (.ListComp elt [⟨.Name x px,iter,ifs,0⟩] scope pos) spos) (tAsg (tLC wi tc te js) (gName k)):=
 ps_lcg (own:=[x]) (g:=gName 0) hc L hi (fun s H C ex=>pg_name (i:=0) hN rfl (.inl hx) (.inr hx)) ht he hXN hk hy hsw hs
theorem lc_list {K:PySem.W.Frag} {a:Addr} {xs:List V} {cv:St} {Fin:List V→Hp→Prop} {H1:Hp} (Pv:Nat→List V→Hp→Prop) (h0:Pv 0 [] H1) (hl:∀ i ys H,i≤xs.length→Pv i ys H→SqL K H a xs) (hz:∀ i ys H,i < xs.length→Pv i ys H→ys.length < sizeLine)
  (hs:∀ i x ys H,xs[i]? = some x→Pv i ys H→tc (some x :: cv) H fun b H3=>if b=true then te (some x :: cv) H3 fun y H4=>Pv (i+1) (ys++[y]) H4 else Pv (i+1) ys H3)
  (hd:∀ ys H,Pv xs.length ys H→Fin ys H) : gLC (Itl K a) (gName 0) tc te 1 cv Fin H1:=by
 refine gLC1 ⟨fun i m ys H=>m=xs.length - i∧i≤xs.length∧Pv i ys H,⟨xs.length,by simp,Nat.zero_le _,h0⟩,?_⟩
 rintro i m ys H ⟨rfl,hi,p⟩
 have q:=hl i ys H hi p
 by_cases hlt:i < xs.length
 ·refine .inr ⟨⟨xs,xs[i],q,by simp [hlt]⟩,hz i ys H hlt p,Pv (i+1),fun ys' H' p'=>⟨xs.length - (i+1),by omega,rfl,hlt,p'⟩,fun v H' y=>?_⟩
  obtain ⟨e,y⟩:=y
  subst e
  exact hs i v ys _ (y xs q) p
 ·have e:i=xs.length:=by omega
  subst e
  exact .inl ⟨⟨xs,q,Nat.le_refl _⟩,hd ys H p⟩
theorem lc_range {lo:Int} {n:Nat} {cv:St} {Fin:List V→Hp→Prop} {H1:Hp} (Pv:Nat→List V→Hp→Prop) (h0:Pv 0 [] H1) (hz:∀ i ys H,i < n→Pv i ys H→ys.length < sizeLine)
  (hs:∀ i ys H,i < n→Pv i ys H→tc (some (.int (lo+i)) :: cv) H fun b H3=>if b=true then te (some (.int (lo+i)) :: cv) H3 fun y H4=>Pv (i+1) (ys++[y]) H4 else Pv (i+1) ys H3)
  (hd:∀ ys H,Pv n ys H→Fin ys H) : gLC (Itr lo n) (gName 0) tc te 1 cv Fin H1:=by
 refine gLC1 ⟨fun i m ys H=>m=n - i∧i≤n∧Pv i ys H,⟨n,by simp,Nat.zero_le _,h0⟩,?_⟩
 rintro i m ys H ⟨rfl,hi,p⟩
 by_cases hlt:i < n
 ·refine .inr ⟨hlt,hz i ys H hlt p,Pv (i+1),fun ys' H' p'=>⟨n - (i+1),by omega,rfl,hlt,p'⟩,fun v H' y=>?_⟩
  obtain ⟨e,y⟩:=y
  subst e y
  exact hs i ys _ hlt p
 ·have e:i=n:=by omega
  subst e
  exact .inl ⟨Nat.le_refl _,hd ys H p⟩
end

theorem yes_go {A B:Hp→Prop} {σ:St} {H:Hp} (h:A H) : tYes σ H (fun b H3=>if b=true then A H3 else B H3):=by
 show if true=true then A H else B H
 rw [if_pos rfl]
 exact h
section
variable {X:Cx} {tg:Expr}
end
section
variable {X:Cx}
theorem strsAre_of {ys:List Str} : ∀ {us:List Value},Vals (ys.map V.str) us→StrsAre us ys:=by
 induction ys with
 | nil=>intro us h; cases h; exact .nil
 | cons y ys ih =>
  intro us h
  cases h with
  | cons r t =>
   obtain ⟨tk,rfl⟩:=r
   exact .cons y tk (ih t)
theorem mt_join:MtR X "str.join" (fun x xs H Q=>∃ sep a ys,x = .str sep∧xs=[.ref a]∧SqL X.K H a (ys.map V.str)∧sep.length≤16∧(ys.map (·.length)).sum+ys.length≤1048576∧Q (.str (Txt.join sep ys)) H):=by
 intro pins s σ H x xs v us Q I rx r h
 obtain ⟨sep,a,ys,rfl,rfl,hS,h1,h2,q⟩:=h
 obtain ⟨t,rfl⟩:=rx
 obtain ⟨w',rfl,rfl⟩:=vals1 r
 obtain ⟨its,rv,p,hz⟩:=I.list hS
 exact join_listW p.isList (strsAre_of (by simpa using rv)) h1 h2 fun t' k=>⟨.str _,H,I.tok k,⟨t',rfl⟩,q⟩
end
end L2

namespace Tl
open PySem PySem.Builtin PySem.Builtin.Str L2

abbrev tx (l:List Nat) : Str:=⟨l.toArray⟩
theorem tx_of (s:Str) : s=tx s.cps.toList:=by cases s; rfl
theorem tx_app (a b:List Nat) : tx a++tx b=tx (a++b):=by
 show (⟨a.toArray++b.toArray⟩ : Str)=⟨(a++b).toArray⟩
 rw [List.append_toArray]
theorem tx_len (l:List Nat) : (tx l).length=l.length:=by show l.toArray.size=_; simp
theorem tx_inj {a b:List Nat} (h:tx a=tx b) : a=b:=by
 have e:a.toArray=b.toArray:=congrArg Str.cps h
 have e2:=congrArg Array.toList e
 simpa using e2
def cutL {α:Type} (l:List α) (lo hi:Option Int) : List α:=(l.drop (HT.sIx l.length 0 lo)).take (HT.sIx l.length l.length hi - HT.sIx l.length 0 lo)
theorem cut_to {α:Type} (l:List α) (j:Nat) : cutL l none (some (j:Int))=l.take j:=by
 unfold cutL
 rw [HT.sIx_none,HT.sIx_nat,List.drop_zero,Nat.sub_zero]
 by_cases h:j≤l.length
 ·rw [Nat.min_eq_left h]
 ·rw [Nat.min_eq_right (by omega),List.take_of_length_le (Nat.le_refl _),List.take_of_length_le (by omega)]
def joinL (sep:List Nat) : List (List Nat)→List Nat
 | []=>[]
 | [x]=>x
 | x :: y :: r=>x++sep++joinL sep (y :: r)
theorem join_tx (sep:List Nat) : ∀ ps:List (List Nat),Txt.join (tx sep) (ps.map tx)=tx (joinL sep ps):=by
 have go:∀ ps:List (List Nat),Str.join (tx sep) (ps.map tx)=tx (joinL sep ps):=by
  intro ps
  induction ps with
  | nil=>rfl
  | cons x r ih =>
   cases r with
   | nil=>rfl
   | cons y r =>
    show tx x++tx sep++Str.join (tx sep) (tx y :: r.map tx)=_
    rw [show Str.join (tx sep) (tx y :: r.map tx)=tx (joinL sep (y :: r)) from ih,tx_app,tx_app]
    rfl
 intro ps
 show glued (tx sep) (ps.map tx)=_
 rw [StrLaws.glued_eq_join]
 exact go ps
end Tl

namespace L2
open PySem PySem.Spec PyProof.Rows

def isiV (K:PySem.W.Frag) (T:String) (x:V) (H:Hp) (b:Bool) : Prop:=match x with
 | .non=>b=false
 | .bl _=>b=(T == "bool" || T == "int")
 | .int _=>b=(T == "int")
 | .str _=>b=(T == "str")
 | .ref p=>((∃ xs,SqL K H p xs)∧b=(T == "list"))∨((∃ xs,SqT K H p xs)∧b=(T == "tuple"))
 | _=>False
section
variable {X:Cx}
theorem call_isi:CallR X (.builtin "isinstance") (fun xs H Q=>∃ x T b,xs=[x,.ty T]∧(T = "bool"∨T = "int"∨T = "str"∨T = "tuple"∨T = "list")∧isiV X.K T x H b∧Q (.bl b) H):=by
 intro pins s σ H xs us Q I r h
 obtain ⟨x,T,b,rfl,hT,hv,q⟩:=h
 obtain ⟨u,w',rfl,r1,r2⟩:=vals2 r
 cases r2
 have no:b=false→EP X pins σ Q (.bool false) { s with toks:=s.toks+1 }:=fun e=>⟨.bl false,H,I.tok _,rfl,e ▸ q⟩
 have yes:b=true→EP X pins σ Q (.bool true) s:=fun e=>⟨.bl true,H,I,rfl,e ▸ q⟩
 cases x with
 | non =>
  cases r1
  have hv':b=false:=hv
  rcases hT with rfl | rfl | rfl | rfl | rfl
  ·exact IsiPair.NoneType_bool (no hv')
  ·exact IsiPair.NoneType_int (no hv')
  ·exact IsiPair.NoneType_str (no hv')
  ·exact IsiPair.NoneType_tuple (no hv')
  ·exact IsiPair.NoneType_list (no hv')
 | bl c =>
  cases r1
  rcases hT with rfl | rfl | rfl | rfl | rfl
  ·exact IsiPair.bool_bool (yes (hv.trans (by decide)))
  ·exact IsiPair.bool_int (yes (hv.trans (by decide)))
  ·exact IsiPair.bool_str (no (hv.trans (by decide)))
  ·exact IsiPair.bool_tuple (no (hv.trans (by decide)))
  ·exact IsiPair.bool_list (no (hv.trans (by decide)))
 | int c =>
  obtain ⟨t,rfl⟩:=r1
  rcases hT with rfl | rfl | rfl | rfl | rfl
  ·exact IsiPair.int_bool (no (hv.trans (by decide)))
  ·exact IsiPair.int_int (yes (hv.trans (by decide)))
  ·exact IsiPair.int_str (no (hv.trans (by decide)))
  ·exact IsiPair.int_tuple (no (hv.trans (by decide)))
  ·exact IsiPair.int_list (no (hv.trans (by decide)))
 | str c =>
  obtain ⟨t,rfl⟩:=r1
  rcases hT with rfl | rfl | rfl | rfl | rfl
  ·exact IsiPair.str_bool (no (hv.trans (by decide)))
  ·exact IsiPair.str_int (no (hv.trans (by decide)))
  ·exact IsiPair.str_str (yes (hv.trans (by decide)))
  ·exact IsiPair.str_tuple (no (hv.trans (by decide)))
  ·exact IsiPair.str_list (no (hv.trans (by decide)))
 | ref p =>
  cases r1
  rcases hv with ⟨⟨xs,hq⟩,hb⟩ | ⟨⟨xs,hq⟩,hb⟩
  ·obtain ⟨its,_,p',_⟩:=I.list hq
   obtain ⟨o,n,e,c,_⟩:=p'
   rcases hT with rfl | rfl | rfl | rfl | rfl
   ·exact IsiPair.list_bool e c (no (hb.trans (by decide)))
   ·exact IsiPair.list_int e c (no (hb.trans (by decide)))
   ·exact IsiPair.list_str e c (no (hb.trans (by decide)))
   ·exact IsiPair.list_tuple e c (no (hb.trans (by decide)))
   ·exact IsiPair.list_list e c (yes (hb.trans (by decide)))
  ·obtain ⟨its,_,p',_⟩:=I.tuple hq
   obtain ⟨o,e,c,_⟩:=p'
   rcases hT with rfl | rfl | rfl | rfl | rfl
   ·exact IsiPair.tuple_bool e c (no (hb.trans (by decide)))
   ·exact IsiPair.tuple_int e c (no (hb.trans (by decide)))
   ·exact IsiPair.tuple_str e c (no (hb.trans (by decide)))
   ·exact IsiPair.tuple_tuple e c (yes (hb.trans (by decide)))
   ·exact IsiPair.tuple_list e c (no (hb.trans (by decide)))
 | byt c=>exact hv.elim
 | flt c=>exact hv.elim
 | ty c=>exact hv.elim
end

section
variable {X:Cx}
end
structure DefOk (K:PySem.W.Frag) (mg:Str→Option Value) (x:Str) (st:Stmt) (ps:List Str) (f:Addr) (fd:FuncData) : Prop where
 fn:Fun K x x st f fd
 bd:Binds K fd ps []
 mg:mg x=some (.ref f)
 ba:∀ us:List Value,us.length=ps.length→bindArgs fd ⟨us,[]⟩=pure (ps.zip us)
section
variable {X:Cx} {x:Str} {st:Stmt} {ps:List Str} {f:Addr} {fd:FuncData} {k:Nat} {sp:Sp} {e:Expr} {es:List Expr} {t:TA} {p pos:Pos}
theorem pe_callD (D:DefOk X.K X.mg x st ps f fd) (G:FnOk X.prog X.w X.K X.mg X.base CX0 k f fd ps sp) (hr:Room k X.A) (hg:Gl X x) (ha:PA X (e :: es) t) (hd:(x == ("__debug__" : Str))=false:=by decide)
  (he:starEach (e :: es) X.env=(false,eval e X.env) :: starEach es X.env:=by rfl) (hpl:(backTo pos (starEach es X.env)).any (·.1)=false:=by rfl) : PE X (.Call (.Name x p) (e :: es) [] pos) (tCall sp [] E0 t):=pe_call G hr hg D.mg D.fn.kp D.bd .nil pass0 ha hd he hpl
theorem defok_mk {K:PySem.W.Frag} {h:Heap} {mg:Str→Option Value} (KX:K.In h) (G:h.Ns mainGlobals mg) {od an:Option Addr} {sl:Array (Option Value)} {oc kV dc pm cd ct:Value} (a:PySem.W.nsIn K mainGlobals x=some (some (.ref f)))
  (l:K.lookup f=some ⟨oc,od,.func (PySem.W.fnOf x x (defArgs st) (defBody st) (defScope st) .none kV dc pm an cd ct),sl⟩) (c:PySem.W.codeIn K cd x=true) (k:PySem.W.keepIn K (.ref f)=true)
  (b:∀ (kV doc pm:Value) (an:Option Addr) (cdv ct:Value) (us:List Value),us.length=ps.length→bindArgs (PySem.W.fnOf x x (defArgs st) (defBody st) (defScope st) .none kV doc pm an cdv ct) ⟨us,[]⟩=pure (ps.zip us)) :
  DefOk K mg x st ps f (PySem.W.fnOf x x (defArgs st) (defBody st) (defScope st) .none kV dc pm an cd ct):=
 ⟨fun_mk l c k,(fun_mk l c k).binds b,PySem.W.mg_of KX G a,fun us hl=>b _ _ _ _ _ _ us hl⟩
end

theorem cut_seq {t u:TS} {D:Ends} {σ:St} {H:Hp} (Mid:St→Hp→Prop) (h2:∀ σ' H',Mid σ' H'→u D σ' H') (h1:(∀ σ' H',Mid σ' H'→u D σ' H')→t { D with nx:=u D } σ H) : tSeq t u D σ H:=h1 h2

def eqVs:List V→List V→Bool
 | [],[]=>true
 | a :: r,b :: s=>eqV a b && eqVs r s
 | _,_=>false
theorem eqVs_len:∀ {xs ys:List V},xs.length≠ys.length→eqVs xs ys=false
 | [],[],h=>absurd rfl h
 | [],_ :: _,_=>rfl
 | _ :: _,[],_=>rfl
 | a :: r,b :: s,h=>by
  show (eqV a b && eqVs r s)=false
  rw [eqVs_len (xs:=r) (ys:=s) (fun e=>h (by rw [List.length_cons,List.length_cons,e])),Bool.and_false]
theorem eqVs_range:∀ {xs ys:List V},xs.length=ys.length→(List.range xs.length).all (fun j=>eqV ((xs[j]?).getD .non) ((ys[j]?).getD .non))=eqVs xs ys
 | [],[],_=>rfl
 | [],_ :: _,h=>by simp at h
 | _ :: _,[],h=>by simp at h
 | a :: r,b :: s,h=>by
  have ih:=eqVs_range (xs:=r) (ys:=s) (by simpa using h)
  rw [List.length_cons,List.range_succ_eq_map,List.all_cons,List.all_map]
  show (eqV a b && _)=(eqV a b && eqVs r s)
  rw [← ih]
  rfl
theorem eqV_refl:∀ {x:V},flatV x=true→eqV x x=true:=by
 intro x f
 cases x with
 | non=>rfl
 | bl b=>show (b == b)=true; simp
 | int i=>show (i == i)=true; simp
 | str s=>show (s == s)=true; simp
 | _=>exact absurd (show false=true from f) Bool.false_ne_true
section
variable {X:Cx}
theorem flat_get {xs:List V} (f:xs.all flatV=true) {j:Nat} {x:V} (h:xs[j]? = some x) : flatV x=true:=List.all_eq_true.mp f x (List.mem_of_getElem? h)
theorem items_eq {A:Around} {s:Shared} {xs ys:List V} {its its2:List Value} (r:Vals xs its) (r2:Vals ys its2) (fx:xs.all flatV=true) (fy:ys.all flatV=true) (j:Nat) (h1:j < its.toArray.size) (h2:j < its2.toArray.size) :
  SeqAt.EqAt A s its.toArray[j] its2.toArray[j] (eqV ((xs[j]?).getD .non) ((ys[j]?).getD .non)):=by
 have l1:=r.length
 have l2:=r2.length
 have h1':j < its.length:=by simpa using h1
 have h2':j < its2.length:=by simpa using h2
 have e1:xs[j]? = some xs[j]:=List.getElem?_eq_getElem (by omega)
 have e2:ys[j]? = some ys[j]:=List.getElem?_eq_getElem (by omega)
 obtain ⟨u,hu,ru⟩:=r.get e1
 obtain ⟨v,hv,rv⟩:=r2.get e2
 have eu:its.toArray[j]=u:=by
  have:its[j]? = some its[j]:=List.getElem?_eq_getElem h1'
  rw [hu] at this
  simpa using this.symm
 have ev:its2.toArray[j]=v:=by
  have:its2[j]? = some its2[j]:=List.getElem?_eq_getElem h2'
  rw [hv] at this
  simpa using this.symm
 rw [eu,ev,e1,e2]
 exact eqAt_V ru rv (flat_get fx e1) (flat_get fy e2)
def rEqL (K:PySem.W.Frag) (neg:Bool) : R2:=fun x y H Q=>∃ a b xs ys,x = .ref a∧y = .ref b∧SqL K H a xs∧SqL K H b ys∧xs.all flatV=true∧ys.all flatV=true∧Q (.bl (if neg then !eqVs xs ys else eqVs xs ys)) H
theorem op_neL (hu:X.A.units < cLine) : OpR X (compareOp .NotEq) (rEqL X.K true):=by
 intro pins s σ H x y v u Q I rx ry h
 obtain ⟨a,b,xs,ys,rfl,rfl,ha,hb,fx,fy,q⟩:=h
 cases rx
 cases ry
 obtain ⟨its,r,p,z⟩:=I.list ha
 obtain ⟨its2,r2,p2,z2⟩:=I.list hb
 have l1:=r.length
 have l2:=r2.length
 by_cases hl:xs.length=ys.length
 ·refine SeqAt.RcNeAt.lists (e:=fun j=>eqV ((xs[j]?).getD .non) ((ys[j]?).getD .non)) p.isList p2.isList (by simp; omega) hu (fun j h1 h2=>items_eq r r2 fx fy j h1 h2) _ _ _ _ ⟨.bl _,H,I,rfl,?_⟩
  have e:its.toArray.size=xs.length:=by simp; omega
  rw [e,eqVs_range hl]
  exact q
 ·refine SeqAt.RcNeAt.lists_lengths p.isList p2.isList (by simp; omega) hu _ _ _ _ ⟨.bl true,H,I,rfl,?_⟩
  have q':Q (.bl (!eqVs xs ys)) H:=q
  rw [eqVs_len hl] at q'
  exact q'

theorem call_all (hc:X.calm=true) : CallR X (.builtin "all") (fun xs H Q=>∃ (l:Addr) (bs:List Bool),xs=[.ref l]∧SqL X.K H l (bs.map V.bl)∧Q (.bl (bs.all id)) H):=by
 intro pins s σ H xs us Q I r h
 obtain ⟨l,bs,rfl,hl,q⟩:=h
 obtain ⟨u,rfl,ru⟩:=vals1 r
 cases ru
 obtain ⟨its,rv,p,z⟩:=I.list hl
 have hlt:l < s.heap.objs.size:=by obtain ⟨_,_,e,_⟩:=p; exact Heap.lt_size e
 have len:=rv.length
 refine call_all_walk (wpAny_pyIter_list p.isList ?_)
 refine ⟨s.heap.objs.size,[s.heap.objs.size,l],[s.heap.objs.size],its.toArray.size,_,_,fun i=>(bs[i]?).getD true,rfl,Walks.list (A:=X.A.in1) (I.ok.hd hc) _ l (Nat.ne_of_lt hlt) its.toArray,
  ⟨⟨_,Heap.get?_push_size _ rfl,rfl,rfl⟩,p.isList.push _⟩,fun i v s' Q' E' hP hQ=>?_,fun h' tk hk=>?_⟩
 ·have hi:its[i]? = some v:=by simpa using hP
  have hlt2:i < bs.length:=by
   have:=(List.getElem?_eq_some_iff.mp hi).1
   rw [List.length_map] at len
   omega
  have eb:(bs.map V.bl)[i]? = some (V.bl bs[i]):=by rw [List.getElem?_map,List.getElem?_eq_getElem hlt2]; rfl
  obtain ⟨w',hw,rw'⟩:=rv.get eb
  rw [hi] at hw
  cases hw
  cases rw'
  have e2:(bs[i]?).getD true=bs[i]:=by rw [List.getElem?_eq_getElem hlt2]; rfl
  have hQ2:Q' ((bs[i]?).getD true) s':=hQ
  rw [e2] at hQ2
  exact wpAny_truthy_bool hQ2
 ·have e:((List.range its.toArray.size).all fun i=>(bs[i]?).getD true)=bs.all id:=by
   have:its.toArray.size=bs.length:=by rw [List.length_map] at len; simp; omega
   rw [this]
   exact LSm.range_all bs
  rw [e]
  exact ⟨.bl _,H,I.kept fun b x e=>hk b x (fun hm=>by rw [List.mem_singleton.mp hm] at e; exact Nat.lt_irrefl _ (Heap.lt_size e)) (Heap.get?_push_of_some _ e),rfl,q⟩

end


section
variable {X:Cx} {o i:Expr} {pos:Pos} {td ty:TE}
end

section
variable {P:Program} {w:World} {K:PySem.W.Frag} {mg:Str→Option Value} {base:Heap} {N:List Str} {qual:Str} {scope:Scope} {f:Addr} {cd:Value} {A:Around} {outer:List Env} {s:Shared} {H:Hp} {E:XK}
end

section
variable {X:Cx} {E:XK} {c:Str} {C:Addr} {e:Expr} {es:List Expr} {t:TA} {np cpos pos:Pos}
end
section
variable {X:Cx} {k:Nat} {f T:Addr} {fd:FuncData} {ps:List Str} {sp:Sp} {fx c:Str} {st:Stmt} {e:Expr} {es:List Expr} {t:TA} {b₀:Stmt} {suite:List Stmt} {th:TS} {np pf cpos apos hpos pos:Pos}
end
end L2

set_option maxHeartbeats 4000000
namespace L2
open PySem PySem.Spec PyProof.Rows Tl

section
variable {X:Cx}
end

theorem Inv.track {X:Cx} {pins:List (Addr × Obj)} {σ:St} {H:Hp} {s:Shared} {D:Addr} {o:HO} (I:Inv X pins σ H s) (hn:H D=none) (hnew:X.s₀.heap.objs.size≤D) (hL:D≠X.env.locals) (hc:∀ x c,X.env.cells.lookup x=some c→c≠D) (hp:∀ p ∈ X.pn++pins,p.1≠D)
  (ok:ObjOk X.prog X.w (upd H D o) s.heap D o) : Inv X pins σ (upd H D o) s:=by
 have ne:∀ b u,H b=some u→b≠D:=fun b u q=>ne_of_none q hn
 refine ⟨I.ok,I.os,I.bare,⟨I.base.keep,I.base.slot,fun b o q nn hx=>?_,I.base.there,fun b xs q=>?_,fun b o u q=>?_,fun b ps q=>?_⟩,I.loc,I.cell,?_,fun x c q=>?_,fun p hq=>?_,fun b u q=>?_,I.len⟩
 ·rw [upd_ne (Nat.ne_of_lt (Nat.lt_of_lt_of_le (Heap.lt_size q) hnew))]; exact I.base.free b o q nn hx
 ·have z:=I.base.tups b xs q
  rw [upd_ne (ne b _ z)]; exact z
 ·have z:=I.base.frzs b o u q
  rw [upd_ne (ne b _ z)]; exact z
 ·obtain ⟨more,z⟩:=I.base.tbls b ps q
  exact ⟨more,by rw [upd_ne (ne b _ z)]; exact z⟩
 ·rw [upd_ne (Ne.symm hL)]; exact I.free
 ·rw [upd_ne (hc x c q)]; exact I.freeC x c q
 ·obtain ⟨a1,a2,a3⟩:=I.pin p hq
  exact ⟨a1,by rw [upd_ne (hp p hq)]; exact a2,a3⟩
 ·by_cases hb:b=D
  ·subst hb
   rw [upd_same] at q; cases q
   exact ok
  ·rw [upd_ne hb] at q
   exact (I.hok b u q).stay (fun c v _ r=>r) (fun c r=>by rw [upd_ne (ne c _ r)]; exact r) fun c xs r=>by rw [upd_ne (ne c _ r)]; exact r
def Ite (K:PySem.W.Frag) (a:Addr) : It:=
 ⟨fun i H=>∃ xs x,SqL K H a xs∧xs[i]? = some x,fun i H x H'=>∃ p,H p=none∧x = .ref p∧∀ xs y,SqL K H a xs→xs[i]? = some y→H' = upd H p (.tup [.int (i:Int),y]),fun i H=>∃ xs,SqL K H a xs∧xs.length≤i⟩
theorem turn_enum {P:Program} {w:World} {K:PySem.W.Frag} {elts:List Expr} {k1} {tp:Pos} (a e it:Addr) (hei:e≠it) : Turn P w K (.Tuple elts k1 tp) (Ite K a) [e,it] e (fun i h=>(∃ old,IsEnum h e it (i:Nat) old)∧h.IsListIter it a i) where
 mem:=by simp
 obj:=fun i h st b hb=>by
  have hb':b=e∨b=it:=by simpa using hb
  rcases hb' with rfl | rfl
  ·obtain ⟨⟨old,h1⟩,_⟩:=st
   exact ⟨_,h1,fun v z=>by cases z⟩
  ·obtain ⟨_,o,h1,c,d⟩:=st
   exact ⟨o,h1,fun v z=>by rw [d] at z; cases z⟩
 keep:=fun i h h' st k=>⟨let ⟨old,h1⟩:=st.1; ⟨old,k e (by simp) _ h1⟩,st.2.at fun o h1=>k it (by simp) o h1⟩
 item:=by
  intro X hP hw hK hc i pins s σ H E I hf st hg
  subst hP hw hK
  obtain ⟨xs,x,hq,hx⟩:=hg
  obtain ⟨its,rv,p,hz⟩:=I.list hq
  obtain ⟨u,hu,ru⟩:=rv.get hx
  obtain ⟨f0,f1,f2,f3,f4,f5⟩:=hf e (by simp)
  obtain ⟨g0,g1,g2,g3,g4,g5⟩:=hf it (by simp)
  obtain ⟨⟨old,he⟩,hit⟩:=st
  refine wpAny_pyNext_enum_item he hit p.isList (x:=u) (by simpa using hu) hei fun h' heo hit' hT hz' hk=>?_
  have kk:∀ b o,b ∉ [e,it]→s.heap.get? b=some o→h'.get? b=some o:=fun b o hb q=>hk b o (fun z=>hb (by simp [z])) (fun z=>hb (by simp [z])) q
  have nit:∀ b v,H b=some v→b ∉ [e,it]:=fun b v q z=>by
   have z':b=e∨b=it:=by simpa using z
   rcases z' with rfl | rfl
   ·rw [f0] at q; cases q
   ·rw [g0] at q; cases q
  have I1:Inv X pins σ H { s with heap:=h',toks:=s.toks+1 }:=by
   refine I.step (g':=s.gens) (d':=s.drawn) (ch:=[e,it]) (fun b hb=>?_) (fun b o _ _ hb q _=>kk b o hb q) (fun b o _ _ hb q _=>⟨o.slots,kk b o hb q⟩) (fun _ _ _ _ n=>n)
    (fun b o hb q=>⟨o,kk b o hb q⟩) (fun _ _ q=>q) (fun _ _ _ q=>q) (fun b ps q=>⟨#[],by rw [q]; simp⟩) (fun m hm=>?_) (fun b v q=>?_) I.bare
   ·have z':b=e∨b=it:=by simpa using hb
    rcases z' with rfl | rfl
    ·exact ⟨f3,f1,f4,f5⟩
    ·exact ⟨g3,g1,g4,g5⟩
   ·obtain ⟨o,es,ep,ho,r⟩:=hm
    exact ⟨o,es,ep,kk _ o (fun z=>by
     have z':X.env.locals=e∨X.env.locals=it:=by simpa using z
     rcases z' with z' | z'
     ·exact f1 z'.symm
     ·exact g1 z'.symm) ho,r⟩
   ·refine (I.hok b v q).stay (fun c o hc r=>kk c o ?_ r) (fun _ r=>r) fun _ _ r=>r
    rcases hc with rfl | hc
    ·exact nit _ _ q
    ·exact nit _ _ hc
  have hsz:s.heap.objs.size < h'.objs.size:=by rw [hz']; exact Nat.lt_succ_self _
  have hTn:H s.heap.objs.size=none:=I.fresh
  have elt:e < s.heap.objs.size:=Heap.lt_size he
  have I2:Inv X pins σ (upd H s.heap.objs.size (.tup [.int (i:Int),x])) { s with heap:=h',toks:=s.toks+1 }:=by
   refine I1.track hTn I.sz (Nat.ne_of_gt I.lt) (fun y c q=>?_) (fun p hp=>?_) ⟨by show 2≤sizeLine; decide,[.int i s.toks,u],.cons ⟨_,rfl⟩ (.cons ru .nil),⟨_,hT,rfl,_,rfl⟩⟩
   ·obtain ⟨v,q2⟩:=I.cell y c q
    exact Nat.ne_of_lt q2.lt
   ·exact Nat.ne_of_lt (Heap.lt_size (I.pin p hp).1)
  refine ⟨_,rfl,wpAny_letOwnedTupleGo_enum (s:={ s with heap:=h',toks:=s.toks+1 }) heo fun h'' he'' hs''=>?_⟩
  have I3:Inv X pins σ (upd H s.heap.objs.size (.tup [.int (i:Int),x])) { s with heap:=h'',toks:=s.toks+1 }:=Inv.turned (s:={ s with heap:=h',toks:=s.toks+1 }) (h':=h'') (t':=s.toks+1) (it:=e) I2 (fun b o hb q=>(hs''.2 b hb).trans q) (by rw [upd_ne (Nat.ne_of_lt elt)]; exact f0) f1 f3 f4 f5
  refine ⟨.ref s.heap.objs.size,_,I3,rfl,⟨_,hTn,rfl,fun ys y hy hy2=>?_⟩,⟨⟨_,he''⟩,?_⟩,fun b hb=>?_⟩
  ·rw [I.list_inj hy hq,hx] at hy2
   cases hy2
   rfl
  ·exact hit'.at fun o h1=>(hs''.2 it (Ne.symm hei)).trans h1
  ·have z':b=e∨b=it:=by simpa using hb
   rcases z' with rfl | rfl
   ·rw [upd_ne (Nat.ne_of_lt elt)]; exact f0
   ·have ilt:b < s.heap.objs.size:=by
     obtain ⟨o,h1,_⟩:=hit
     exact Heap.lt_size h1
    rw [upd_ne (Nat.ne_of_lt ilt)]; exact g0
 done:=by
  intro X hP hw hK hc i pins s σ H E I hf st hg
  subst hP hw hK
  obtain ⟨xs,hq,hx⟩:=hg
  obtain ⟨its,rv,p,hz⟩:=I.list hq
  obtain ⟨g0,g1,g2,g3,g4,g5⟩:=hf it (by simp)
  obtain ⟨⟨old,he⟩,hit⟩:=st
  have hl:=rv.length
  exact wpAny_pyNext_enum_end (I.ok.hd hc) he hit p.isList (by simp; omega) fun h' eb=>⟨rfl,I.turned (t':=s.toks) (fun b o hb e=>eb b o hb e) g0 g1 g3 g4 g5⟩
 self:=fun _ _ _ _ _ st h=>by
  obtain ⟨⟨old,he⟩,_⟩:=st
  exact wpAny_pyIter_enum he h
section
variable {X:Cx} {elts:List Expr} {k1:Nat} {tp:Pos}
def iEnum (K:PySem.W.Frag) (tl:TE) : TI:=fun σ H R=>tl σ H fun x H1=>∃ a,x = .ref a∧(∃ xs,SqL K H1 a xs)∧R (Ite K a) H1
theorem pi_enum {l:Expr} {k1} {tl:TE} {p pos:Pos} (hg:Gl X "enumerate") (hm:X.mg "enumerate" = none) (hl:PE X l tl) (hs:starEach [l] X.env=[(false,eval l X.env)]:=by rfl) : PI X (.Tuple elts k1 tp) (.Call (.Name "enumerate" p) [l] [] pos) (iEnum X.K tl):=by
 intro pins s σ H R I h
 have ha:PA X [l] (tCons tl tNil):=pa_cons hl pa_nil hs
 refine Call_ (ld_blt I hg hm (by decide +kernel:bootBuiltins "enumerate" = some (.type "enumerate")) (PyProof.Rows.callWith_type1 (thn (ha pos pins s σ H (fun vs H1=>match vs with | [x]=>∃ a,x = .ref a∧(∃ xs,SqL X.K H1 a xs)∧R (Ite X.K a) H1 | _=>False) I h) fun us s1 ⟨vs,H1,I1,r1,q1⟩=>?_) hs rfl))
 match vs,r1,q1 with
 | [x],r1,q1 =>
 obtain ⟨a,rfl,⟨xs,hq⟩,q⟩:=q1
 obtain ⟨u,rfl,ru⟩:=vals1 r1
 cases ru
 obtain ⟨its,rv,p,hz⟩:=I1.list hq
 refine call_enumerate_list p.isList fun h' he hit hz' hk=>?_
 refine wpAny_pyIter_enum he ?_
 refine ⟨s1.heap.objs.size+1,[s1.heap.objs.size+1,s1.heap.objs.size],_,_,H1,rfl,I1.kept (t':=s1.toks) hk,turn_enum a _ _ (Nat.succ_ne_self _),⟨⟨_,he⟩,hit⟩,fun b hb=>?_,q⟩
 have z':b=s1.heap.objs.size+1∨b=s1.heap.objs.size:=by simpa using hb
 have I2:=I1.kept (h':=h') (t':=s1.toks) hk
 rcases z' with rfl | rfl
 ·exact I1.fpOk (Nat.le_succ _) (I1.hok.fresh (Nat.le_succ _))
 ·exact I1.fpOk (Nat.le_refl _) (I1.hok.fresh (Nat.le_refl _))
end
theorem for_enum {K:PySem.W.Frag} {a:Addr} {xs:List V} {g:TG} {tb:TS} {D:Ends} {σ:St} {H:Hp} (Pv:Nat→St→Hp→Prop) (h0:Pv 0 σ H) (hl:∀ i σ H,i≤xs.length→Pv i σ H→SqL K H a xs)
  (hs:∀ i x σ H p,xs[i]? = some x→Pv i σ H→H p=none→g (.ref p) σ (upd H p (.tup [.int (i:Int),x])) fun σ2 H2=>tb { D with nx:=Pv (i+1),ct:=Pv (i+1),bk:=D.nx } σ2 H2) (hd:∀ σ H,Pv xs.length σ H→D.nx σ H) :
  ∃ W:Nat→Nat→St→Hp→Prop,(∃ m,W 0 m σ H)∧∀ i m σ H,W i m σ H →
   ((Ite K a).stop i H∧D.nx σ H)∨((Ite K a).go i H∧∃ N:St→Hp→Prop,(∀ σ' H',N σ' H'→∃ m',m' < m∧W (i+1) m' σ' H')∧∀ x H',(Ite K a).yld i H x H'→g x σ H' fun σ2 H2=>tb { D with nx:=N,ct:=N,bk:=D.nx } σ2 H2):=by
 refine ⟨fun i m σ H=>m=xs.length - i∧i≤xs.length∧Pv i σ H,⟨xs.length,by simp,Nat.zero_le _,h0⟩,?_⟩
 rintro i m σ H ⟨rfl,hi,p⟩
 have q:=hl i σ H hi p
 by_cases hlt:i < xs.length
 ·refine .inr ⟨⟨xs,xs[i],q,by simp [hlt]⟩,Pv (i+1),fun σ' H' p'=>⟨xs.length - (i+1),by omega,rfl,hlt,p'⟩,fun x H' y=>?_⟩
  obtain ⟨t,ht,e,y⟩:=y
  subst e
  have e2:=y xs xs[i] q (by simp [hlt])
  subst e2
  exact hs i xs[i] σ H t (by simp [hlt]) p ht
 ·have e:i=xs.length:=by omega
  subst e
  exact .inl ⟨⟨xs,q,Nat.le_refl _⟩,hd σ H p⟩

section
variable {X:Cx} {tg:Expr}
end
end L2

namespace L2
open PySem PySem.Spec PyProof.Rows

section
variable {X:Cx}
theorem eqVs_min {xs ys:List V} : ((List.range (min xs.length ys.length)).all (fun j=>eqV ((xs[j]?).getD .non) ((ys[j]?).getD .non)) && (xs.length == ys.length))=eqVs xs ys:=by
 by_cases hl:xs.length=ys.length
 ·rw [← hl,Nat.min_self,eqVs_range hl]
  simp
 ·rw [eqVs_len hl]
  simp [hl]
def rEqT (K:PySem.W.Frag) (neg:Bool) : R2:=fun x y H Q=>∃ a b xs ys,x = .ref a∧y = .ref b∧SqT K H a xs∧SqT K H b ys∧xs.all flatV=true∧ys.all flatV=true∧Q (.bl (if neg then !eqVs xs ys else eqVs xs ys)) H
theorem op_eqT (hu:X.A.units < cLine) : OpR X (compareOp .Eq) (rEqT X.K false):=by
 intro pins s σ H x y v u Q I rx ry h
 obtain ⟨a,b,xs,ys,rfl,rfl,ha,hb,fx,fy,q⟩:=h
 cases rx
 cases ry
 obtain ⟨its,r,p,z⟩:=I.tuple ha
 obtain ⟨its2,r2,p2,z2⟩:=I.tuple hb
 have l1:=r.length
 have l2:=r2.length
 refine SeqAt.eq_tupleAt (e:=fun j=>eqV ((xs[j]?).getD .non) ((ys[j]?).getD .non)) p p2 hu (fun j h1 h2=>items_eq r r2 fx fy j h1 h2) ⟨.bl _,H,I,rfl,?_⟩
 have e1:its.toArray.size=xs.length:=by simp; omega
 have e2:its2.toArray.size=ys.length:=by simp; omega
 rw [e1,e2,eqVs_min]
 exact q
theorem op_neT (hu:X.A.units < cLine) : OpR X (compareOp .NotEq) (rEqT X.K true):=by
 intro pins s σ H x y v u Q I rx ry h
 obtain ⟨a,b,xs,ys,rfl,rfl,ha,hb,fx,fy,q⟩:=h
 cases rx
 cases ry
 obtain ⟨its,r,p,z⟩:=I.tuple ha
 obtain ⟨its2,r2,p2,z2⟩:=I.tuple hb
 have l1:=r.length
 have l2:=r2.length
 refine SeqAt.RcNeAt.tuples (e:=fun j=>eqV ((xs[j]?).getD .non) ((ys[j]?).getD .non)) p p2 hu (fun j h1 h2=>items_eq r r2 fx fy j h1 h2) _ _ _ _ ⟨.bl _,H,I,rfl,?_⟩
 have e1:its.toArray.size=xs.length:=by simp; omega
 have e2:its2.toArray.size=ys.length:=by simp; omega
 rw [e1,e2,eqVs_min]
 exact q
theorem all_true {n:Nat} : (List.range n).all (fun _=>true)=true:=List.all_eq_true.mpr fun _ _=>rfl
theorem same_new {H:Hp} {p:Addr} (h:H p=none) (o:HO) : Same H (upd H p o):=fun b u q=>by rw [upd_ne (ne_of_none q h)]; exact q
theorem Same.tup {K:PySem.W.Frag} {H H':Hp} {a:Addr} {xs:List V} (e:Same H H') (h:SqT K H a xs) : SqT K H' a xs:=by
 rcases h with (h | ⟨o,h⟩) | h
 ·exact .inl (.inl (e _ _ h))
 ·exact .inl (.inr ⟨o,e _ _ h⟩)
 ·exact .inr h
theorem SqT.lst {K:PySem.W.Frag} {H:Hp} {a l:Addr} {xs ys zs:List V} (e:H l=some (.lst ys)) (h:SqT K H a xs) : SqT K (upd H l (.lst zs)) a xs:=by
 rcases h with (h | ⟨o,h⟩) | h
 ·exact .inl (.inl (by rw [upd_ne (ne_of h e (fun z=>nomatch z))]; exact h))
 ·exact .inl (.inr ⟨o,by rw [upd_ne (ne_of h e (fun z=>nomatch z))]; exact h⟩)
 ·exact .inr h
def sp_law (K:PySem.W.Frag) : Sp:=fun vs H Q _=>∃ (a:Addr) (ns:List Int),vs=[.ref a]∧SqL K H a (ns.map V.int)∧ns.length≤63∧∀ H',Q (.bl true) H'
theorem small {n:Nat} (h:n≤1000) : n≤sizeLine:=Nat.le_of_lt (small1000 h)
theorem small2 {n:Nat} (h:n≤1000000) : n≤sizeLine:=Nat.le_trans h (by decide)
theorem le1:1≤sizeLine:=by decide
theorem le2:2≤sizeLine:=by decide
theorem le3:3≤sizeLine:=by decide
theorem le4:4≤sizeLine:=by decide
theorem int_eq {i j:Int} : (decide (V.int i=V.int j)=true)↔i=j:=by simp
theorem int_ne {i j:Int} : (¬ decide (V.int i=V.int j)=true)↔i≠j:=by simp
theorem andG {a:Prop} {_inst:Decidable a} {X A B:Prop} (hb:¬ a→B) (hx:a→X) : if a then X else (if false=true then A else B):=by
 by_cases h:a
 ·rw [if_pos h]; exact hx h
 ·rw [if_neg h]; exact hb h
theorem andN {a:Prop} {_inst:Decidable a} {X A B:Prop} (hb:B) (hx:a→B→X) : if a then X else (if false=true then A else B):=by
 by_cases h:a
 ·rw [if_pos h]; exact hx h hb
 ·rw [if_neg h]; exact hb
theorem orG {a:Prop} {_inst:Decidable a} {X A B:Prop} (ha:a→A) (hx:¬ a→X) : if a then (if true=true then A else B) else X:=by
 by_cases h:a
 ·rw [if_pos h]; exact ha h
 ·rw [if_neg h]; exact hx h
theorem get_int {ns:List Int} {i:Nat} {y:V} (h:(ns.map V.int)[i]? = some y) : ∃ z,y=V.int z∧ns[i]? = some z:=by
 rw [List.getElem?_map] at h
 cases e:ns[i]? with
 | none=>rw [e] at h; cases h
 | some z=>rw [e] at h; exact ⟨z,(Option.some.inj h).symm,rfl⟩
theorem map_snoc (n:Int) (ns:List Int) : (ns.map V.int)++[V.int n]=(ns++[n]).map V.int:=by simp
end
end L2

namespace HT
open PySem PyProof.Rows
section
open PySem.SeqAt
open PySem.AutoSeq1 (wpAny_loadPart')
open PySem.MeetsSeq PySem.MeetsSeq2 PySem.MeetsSeq3

def lexLtE:List Int→List Int→Bool
 | [],[]=>true
 | [],_ :: _=>true
 | _ :: _,[]=>false
 | x :: xs,y :: ys=>if x=y then lexLtE xs ys else decide (x≤y)
theorem rcLtE_int (A:Around) (s:Shared) (a:Int) (t:Tok) (c:Int) (u:Tok) (prog:Program) (w:World) (E:Value→Shared→Prop) (Q:Value→Shared→Prop) (h:Q (.bool (decide (a≤c))) s) :
  wpAny (model prog w) A (richCompare .LtE (.int a t) (.int c u)) Q E s:=
 (PyProof.Rows.le_int h:wpAny (model prog w) A (compareOp .LtE (.int a t) (.int c u)) Q E s)
theorem tuple_le_ints (l b:Addr) (items items2:Array Value) (n n2:Nat) (dd dd2:Option Addr) (sl sl2:Array (Option Value)) (ns ms:List Int) (hi:IntsAre items.toList ns) (hj:IntsAre items2.toList ms) :
  Meets (Builtin.«tuple.__le__» ⟨[.ref l,.ref b],[]⟩)
   (fun _ R s=>s.heap.get? l=some { cls:=.type "tuple",dict:=dd,data:=.seq items n,slots:=sl }∧s.heap.get? b=some { cls:=.type "tuple",dict:=dd2,data:=.seq items2 n2,slots:=sl2 } ∧
    R (.ok (.ret (.bool (lexLtE ns ms)))) s):=
 .of_wp fun prog w A R s h=>by
  obtain ⟨hp,g,d,tk,os⟩:=s; obtain ⟨hl,hb,h⟩:=h
  have f2:=AutoSeq1.sub_tuple_tuple
  have z1:items.size=ns.length:=by rw [← hi.length]; simp
  have z2:items2.size=ms.length:=by rw [← hj.length]; simp
  wp_walk using wpAny_loadPart' hl,wpAny_loadPart' hb,wpAny_forIn_list _ (fun rest b s'=>b.1=none∧s' = ⟨hp,g,d,tk,os⟩∧∃ (vs ws:List Value) (ns' ms':List Int),rest=vs.zip ws ∧
   IntsAre vs ns'∧IntsAre ws ms'∧ns'.length+items2.size=ms'.length+items.size∧R (.ok (.ret (.bool (lexLtE ns' ms')))) ⟨hp,g,d,tk,os⟩) _
  case turn =>
   rintro ⟨y,x⟩ rest b s' ⟨hb',rfl,vs,ws,ns',ms',hz,hvi,hwi,hlen,hR⟩
   cases hvi with
   | nil=>rw [List.zip_nil_left] at hz; cases hz
   | cons a t hvi' =>
    cases hwi with
    | nil=>rw [List.zip_nil_right] at hz; cases hz
    | cons c u hwi' =>
     rw [List.zip_cons_cons] at hz
     injection hz with hyx hrest
     injection hyx with hy hx
     subst hy hx
     rw [lexLtE] at hR
     simp only [List.length_cons] at hlen
     obtain ⟨e,he,hiff⟩:=eqAt_int A.in1 ⟨hp,g,d,tk,os⟩ a t c u
     refine wpAny_bind (he prog w _ _ ?_)
     cases e with
     | true =>
      rw [if_pos (hiff.mp rfl)] at hR
      wp_walk
      exact ⟨rfl,rfl,_,_,_,_,hrest,hvi',hwi',by omega,hR⟩
     | false =>
      rw [if_neg (fun q=>absurd (hiff.mpr q) Bool.false_ne_true)] at hR
      have hri:=rcLtE_int A.in1 ⟨hp,g,d,tk,os⟩ a t c u prog w
      wp_walk using hri
      exact ⟨_,rfl,by simpa using hR⟩
  case fin =>
   rintro ⟨b1,b2⟩ s' ⟨hb',rfl,vs,ws,ns',ms',hz,hvi,hwi,hlen,hR⟩
   simp only at hb'
   subst hb'
   have hv:lexLtE ns' ms' = decide (items.size≤items2.size):=by
    cases hvi with
    | nil =>
     cases hwi with
     | nil =>
      simp only [List.length_nil] at hlen
      show true=_
      exact (decide_eq_true (by omega)).symm
     | cons c u hw =>
      simp only [List.length_nil,List.length_cons] at hlen
      show true=_
      exact (decide_eq_true (by omega)).symm
    | cons a t hv =>
     cases hwi with
     | nil =>
      simp only [List.length_nil,List.length_cons] at hlen
      show false=_
      exact (decide_eq_false (by omega)).symm
     | cons c u hw =>
      rw [List.zip_cons_cons] at hz
      cases hz
   rw [hv] at hR
   wp_walk
   exact ⟨_,rfl,by simpa [Builtin.Tuple.tupleCompareSizes] using hR⟩
  case h =>
   exact ⟨rfl,rfl,items.toList,items2.toList,ns,ms,rfl,hi,hj,by omega,h⟩
theorem le_tupInts {prog:Program} {w:World} {A:Around} {E:Value→Shared→Prop} {s:Shared} {l b:Addr} {items items2:Array Value} {ns ms:List Int} {Q:Value→Shared→Prop} (hl:IsTup s.heap l items) (hb:IsTup s.heap b items2) (hi:IntsAre items.toList ns) (hj:IntsAre items2.toList ms)
  (hu:A.units < cLine) (h:Q (.bool (lexLtE ns ms)) s) : wpAny (model prog w) A (compareOp .LtE (.ref l) (.ref b)) Q E s:=by
 obtain ⟨⟨cls,dd,data,sl⟩,ho,hc,n,hd⟩:=id hl
 obtain ⟨⟨cls2,dd2,data2,sl2⟩,ho2,hc2,n2,hd2⟩:=id hb
 simp only at hc hd hc2 hd2
 subst hc hd hc2 hd2
 exact richCompare_meets_room (op:=.LtE) ⟨_,ho,rfl⟩ ⟨_,ho2,rfl⟩ PySem.F.slot_tuple_le PySem.F.entry_tuple_le (PySem.F.args_tuple_le_2 _ _) (tuple_le_ints l b items items2 n n2 dd dd2 sl sl2 ns ms hi hj)
  ⟨ho,ho2,show Value.bool (lexLtE ns ms)≠Value.notImplemented∧Q (.bool (lexLtE ns ms)) s from ⟨(fun x=>nomatch x),h⟩⟩ hu

def lexGt:List Int→List Int→Bool
 | [],[]=>false
 | [],_ :: _=>false
 | _ :: _,[]=>true
 | x :: xs,y :: ys=>if x=y then lexGt xs ys else decide (y < x)
theorem rcGt_int (A:Around) (s:Shared) (a:Int) (t:Tok) (c:Int) (u:Tok) (prog:Program) (w:World) (E:Value→Shared→Prop) (Q:Value→Shared→Prop) (h:Q (.bool (decide (c < a))) s) :
  wpAny (model prog w) A (richCompare .Gt (.int a t) (.int c u)) Q E s:=
 (PyProof.Rows.gt_int h:wpAny (model prog w) A (compareOp .Gt (.int a t) (.int c u)) Q E s)
theorem tuple_gt_ints (l b:Addr) (items items2:Array Value) (n n2:Nat) (dd dd2:Option Addr) (sl sl2:Array (Option Value)) (ns ms:List Int) (hi:IntsAre items.toList ns) (hj:IntsAre items2.toList ms) :
  Meets (Builtin.«tuple.__gt__» ⟨[.ref l,.ref b],[]⟩)
   (fun _ R s=>s.heap.get? l=some { cls:=.type "tuple",dict:=dd,data:=.seq items n,slots:=sl }∧s.heap.get? b=some { cls:=.type "tuple",dict:=dd2,data:=.seq items2 n2,slots:=sl2 } ∧
    R (.ok (.ret (.bool (lexGt ns ms)))) s):=
 .of_wp fun prog w A R s h=>by
  obtain ⟨hp,g,d,tk,os⟩:=s; obtain ⟨hl,hb,h⟩:=h
  have f2:=AutoSeq1.sub_tuple_tuple
  have z1:items.size=ns.length:=by rw [← hi.length]; simp
  have z2:items2.size=ms.length:=by rw [← hj.length]; simp
  wp_walk using wpAny_loadPart' hl,wpAny_loadPart' hb,wpAny_forIn_list _ (fun rest b s'=>b.1=none∧s' = ⟨hp,g,d,tk,os⟩∧∃ (vs ws:List Value) (ns' ms':List Int),rest=vs.zip ws ∧
   IntsAre vs ns'∧IntsAre ws ms'∧ns'.length+items2.size=ms'.length+items.size∧R (.ok (.ret (.bool (lexGt ns' ms')))) ⟨hp,g,d,tk,os⟩) _
  case turn =>
   rintro ⟨y,x⟩ rest b s' ⟨hb',rfl,vs,ws,ns',ms',hz,hvi,hwi,hlen,hR⟩
   cases hvi with
   | nil=>rw [List.zip_nil_left] at hz; cases hz
   | cons a t hvi' =>
    cases hwi with
    | nil=>rw [List.zip_nil_right] at hz; cases hz
    | cons c u hwi' =>
     rw [List.zip_cons_cons] at hz
     injection hz with hyx hrest
     injection hyx with hy hx
     subst hy hx
     rw [lexGt] at hR
     simp only [List.length_cons] at hlen
     obtain ⟨e,he,hiff⟩:=eqAt_int A.in1 ⟨hp,g,d,tk,os⟩ a t c u
     refine wpAny_bind (he prog w _ _ ?_)
     cases e with
     | true =>
      rw [if_pos (hiff.mp rfl)] at hR
      wp_walk
      exact ⟨rfl,rfl,_,_,_,_,hrest,hvi',hwi',by omega,hR⟩
     | false =>
      rw [if_neg (fun q=>absurd (hiff.mpr q) Bool.false_ne_true)] at hR
      have hri:=rcGt_int A.in1 ⟨hp,g,d,tk,os⟩ a t c u prog w
      wp_walk using hri
      exact ⟨_,rfl,by simpa using hR⟩
  case fin =>
   rintro ⟨b1,b2⟩ s' ⟨hb',rfl,vs,ws,ns',ms',hz,hvi,hwi,hlen,hR⟩
   simp only at hb'
   subst hb'
   have hv:lexGt ns' ms' = decide (items2.size < items.size):=by
    cases hvi with
    | nil =>
     cases hwi with
     | nil =>
      simp only [List.length_nil] at hlen
      show false=_
      exact (decide_eq_false (by omega)).symm
     | cons c u hw =>
      simp only [List.length_nil,List.length_cons] at hlen
      show false=_
      exact (decide_eq_false (by omega)).symm
    | cons a t hv =>
     cases hwi with
     | nil =>
      simp only [List.length_nil,List.length_cons] at hlen
      show true=_
      exact (decide_eq_true (by omega)).symm
     | cons c u hw =>
      rw [List.zip_cons_cons] at hz
      cases hz
   rw [hv] at hR
   wp_walk
   exact ⟨_,rfl,by simpa [Builtin.Tuple.tupleCompareSizes] using hR⟩
  case h =>
   exact ⟨rfl,rfl,items.toList,items2.toList,ns,ms,rfl,hi,hj,by omega,h⟩
theorem gt_tupInts {prog:Program} {w:World} {A:Around} {E:Value→Shared→Prop} {s:Shared} {l b:Addr} {items items2:Array Value} {ns ms:List Int} {Q:Value→Shared→Prop} (hl:IsTup s.heap l items) (hb:IsTup s.heap b items2) (hi:IntsAre items.toList ns) (hj:IntsAre items2.toList ms)
  (hu:A.units < cLine) (h:Q (.bool (lexGt ns ms)) s) : wpAny (model prog w) A (compareOp .Gt (.ref l) (.ref b)) Q E s:=by
 obtain ⟨⟨cls,dd,data,sl⟩,ho,hc,n,hd⟩:=id hl
 obtain ⟨⟨cls2,dd2,data2,sl2⟩,ho2,hc2,n2,hd2⟩:=id hb
 simp only at hc hd hc2 hd2
 subst hc hd hc2 hd2
 exact richCompare_meets_room (op:=.Gt) ⟨_,ho,rfl⟩ ⟨_,ho2,rfl⟩ PySem.F.slot_tuple_gt PySem.F.entry_tuple_gt (PySem.F.args_tuple_gt_2 _ _) (tuple_gt_ints l b items items2 n n2 dd dd2 sl sl2 ns ms hi hj)
  ⟨ho,ho2,show Value.bool (lexGt ns ms)≠Value.notImplemented∧Q (.bool (lexGt ns ms)) s from ⟨(fun x=>nomatch x),h⟩⟩ hu

end
end HT

namespace L2
open PySem PySem.Spec PyProof.Rows
section
variable {X:Cx}

def rLtET (K:PySem.W.Frag) : R2:=fun x y H Q=>∃ a b ns ms,x = .ref a∧y = .ref b∧SqT K H a (ns.map V.int)∧SqT K H b (ms.map V.int)∧Q (.bl (HT.lexLtE ns ms)) H
theorem op_leT (hu:X.A.units < cLine) : OpR X (compareOp .LtE) (rLtET X.K):=by
 intro pins s σ H x y v u Q I rx ry h
 obtain ⟨a,b,ns,ms,rfl,rfl,ha,hb,q⟩:=h
 cases rx
 cases ry
 obtain ⟨its,r1,p1,_⟩:=I.tuple ha
 obtain ⟨its2,r2,p2,_⟩:=I.tuple hb
 have i1:IntsAre its.toArray.toList ns:=intsAre_of r1
 have i2:IntsAre its2.toArray.toList ms:=intsAre_of r2
 exact HT.le_tupInts p1 p2 i1 i2 hu ⟨.bl (HT.lexLtE ns ms),H,I,rfl,q⟩

end
end L2

set_option maxHeartbeats 4000000
namespace L2
open PySem PySem.Spec PyProof.Rows Tl
def figs (n:Nat) : List Nat:=(Nat.toDigits 10 n).map Char.toNat
theorem str_figs (n:Nat) : (PySem.Str.ofString (toString ((n:Nat) : Int)))=tx (figs n):=by
 have e:=PySem.W.KIN.signs_num n
 rw [tx_of (PySem.Str.ofString _),e]
 rfl
theorem digit_char:∀ d:Nat,d < 10→(Nat.digitChar d).toNat=d+48:=by decide
theorem figs_small {n:Nat} (h:n < 10) : figs n=[n+48]:=by
 unfold figs
 rw [Nat.toDigits_of_lt_base h,List.map_singleton,digit_char n h]
theorem figs_step {n:Nat} (h:10≤n) : figs n=figs (n / 10)++[n % 10+48]:=by
 have hm:n % 10 < 10:=Nat.mod_lt n (by decide)
 have t:Nat.toDigits 10 (n / 10)++Nat.toDigits 10 (n % 10)=Nat.toDigits 10 (10 * (n / 10)+n % 10):=Nat.toDigits_append_toDigits (by decide) (by omega) hm
 rw [Nat.div_add_mod] at t
 unfold figs
 rw [← t,List.map_append,Nat.toDigits_of_lt_base hm,List.map_singleton,digit_char _ hm]
theorem figs_len:∀ (k n:Nat),n < 10 ^ (k+1)→(figs n).length≤k+1
 | 0,n,h=>by
  rw [figs_small (by simpa using h)]
  simp
 | k+1,n,h=>by
  by_cases hn:n < 10
  ·rw [figs_small hn]; simp
  ·rw [figs_step (by omega),List.length_append,List.length_singleton]
   have:=figs_len k (n / 10) (by
    rw [Nat.pow_succ] at h
    omega)
   omega
theorem figs_in:∀ (n c:Nat),c ∈ figs n→48≤c∧c≤57:=by
 intro n
 induction n using Nat.strongRecOn with
 | _ n ih =>
  intro c hc
  by_cases h:n < 10
  ·rw [figs_small h] at hc
   have:c=n+48:=by simpa using hc
   omega
  ·rw [figs_step (by omega)] at hc
   rcases List.mem_append.mp hc with hc | hc
   ·exact ih (n / 10) (by omega) c hc
   ·have:c=n % 10+48:=by simpa using hc
    omega
theorem figs_pos (n:Nat) : 1≤(figs n).length:=by
 by_cases h:n < 10
 ·rw [figs_small h]; simp
 ·rw [figs_step (by omega),List.length_append,List.length_singleton]
  omega
theorem figs_mono:∀ (m n:Nat),n≤m→(figs n).length≤(figs m).length:=by
 intro m
 induction m using Nat.strongRecOn with
 | _ m ih =>
  intro n h
  by_cases hn:n < 10
  ·rw [figs_small hn]
   exact figs_pos m
  ·rw [figs_step (n:=n) (by omega),figs_step (n:=m) (by omega),List.length_append,List.length_append,List.length_singleton,List.length_singleton]
   have:=ih (m / 10) (by omega) (n / 10) (by omega)
   omega
theorem log_small {n:Nat} (h:n < 10 ^ 100) : n.log2 < 1920:=by
 by_cases e:n=0
 ·subst e; decide
 ·refine (Nat.log2_lt e).mpr (Nat.lt_trans h ?_)
  decide +kernel
abbrev pl (x:Int × Int) : List V:=[.int x.1,.int x.2]
abbrev fm (w h f m:Int) : List V:=[.int w,.int h,.int f,.int m]
structure FormOk (w h f m:Int) : Prop where
 w1:1≤w
 w2:w≤4000
 h1:1≤h
 h2:h≤60
 f1:0≤f
 f2:f≤10 ^ 60
 m1:1≤m
 m2:m≤60
def nextTop (x:Int × Int) : Int × Int:=(x.1+1,0)
def rowsOn (h:Int) (x:Int × Int) (k:Int) : Int × Int:=if h≤x.2+k then nextTop x else (x.1,x.2+k)
def firstFrom (f:Int) (x:Int × Int) (l:Int) : Int × Int:=if l=4∧(f+x.1) % 2=0 then nextTop x else x
def behindI (h f:Int) (x:Int × Int) (l:Int) : Int × Int:=if l=0 then x else if l=1 then rowsOn h x 1 else if l=2 then rowsOn h x 2 else firstFrom f (nextTop x) l
def sooner (x y:Int × Int) : Bool:=decide (x.1 < y.1) || (decide (x.1=y.1) && decide (x.2 < y.2))
theorem sooner_iff {x y:Int × Int} : sooner x y=true↔x.1 < y.1∨(x.1=y.1∧x.2 < y.2):=by simp [sooner]
theorem not_sooner {x y:Int × Int} : sooner x y=false↔¬ (x.1 < y.1∨(x.1=y.1∧x.2 < y.2)):=by rw [← sooner_iff]; simp
structure RowIn (h:Int) (x:Int × Int) : Prop where
 p1:0≤x.1
 r1:0≤x.2
 r2:x.2 < h
theorem behind_desc (h f l p r:Int) (h0:0≤l) (h1:l≤4) : ∃ q s,behindI h f (p,r) l=(q,s)∧(l=0∧q=p∧s=r∨l=1∧(h≤r+1∧q=p+1∧s=0∨r+1 < h∧q=p∧s=r+1) ∨
  l=2∧(h≤r+2∧q=p+1∧s=0∨r+2 < h∧q=p∧s=r+2)∨l=3∧q=p+1∧s=0∨l=4∧s=0∧((f+p) % 2=1∧q=p+2∨(f+p) % 2=0∧q=p+1)):=by
 have hc:l=0∨l=1∨l=2∨l=3∨l=4:=by omega
 rcases hc with rfl | rfl | rfl | rfl | rfl
 ·exact ⟨p,r,rfl,.inl ⟨rfl,rfl,rfl⟩⟩
 ·by_cases c:h≤r+1
  ·exact ⟨p+1,0,by show (if h≤r+1 then (p+1,(0:Int)) else (p,r+1))=_; rw [if_pos c],.inr (.inl ⟨rfl,.inl ⟨c,rfl,rfl⟩⟩)⟩
  ·exact ⟨p,r+1,by show (if h≤r+1 then (p+1,(0:Int)) else (p,r+1))=_; rw [if_neg c],.inr (.inl ⟨rfl,.inr ⟨Int.not_le.mp c,rfl,rfl⟩⟩)⟩
 ·by_cases c:h≤r+2
  ·exact ⟨p+1,0,by show (if h≤r+2 then (p+1,(0:Int)) else (p,r+2))=_; rw [if_pos c],.inr (.inr (.inl ⟨rfl,.inl ⟨c,rfl,rfl⟩⟩))⟩
  ·exact ⟨p,r+2,by show (if h≤r+2 then (p+1,(0:Int)) else (p,r+2))=_; rw [if_neg c],.inr (.inr (.inl ⟨rfl,.inr ⟨Int.not_le.mp c,rfl,rfl⟩⟩))⟩
 ·exact ⟨p+1,0,by show (if (3:Int)=4∧(f+(p+1)) % 2=0 then (p+1+1,(0:Int)) else (p+1,0))=_; rw [if_neg (fun z=>absurd z.1 (by decide))],.inr (.inr (.inr (.inl ⟨rfl,rfl,rfl⟩)))⟩
 ·by_cases c:(f+(p+1)) % 2=0
  ·exact ⟨p+1+1,0,by show (if (4:Int)=4∧(f+(p+1)) % 2=0 then (p+1+1,(0:Int)) else (p+1,0))=_; rw [if_pos ⟨rfl,c⟩],.inr (.inr (.inr (.inr ⟨rfl,rfl,.inl ⟨by omega,by omega⟩⟩)))⟩
  ·exact ⟨p+1,0,by show (if (4:Int)=4∧(f+(p+1)) % 2=0 then (p+1+1,(0:Int)) else (p+1,0))=_; rw [if_neg (fun z=>c z.2)],.inr (.inr (.inr (.inr ⟨rfl,rfl,.inr ⟨by omega,rfl⟩⟩)))⟩
theorem first_desc (f l p r:Int) : ∃ q s,firstFrom f (p,r) l=(q,s)∧(l=4∧(f+p) % 2=0∧q=p+1∧s=0∨(l≠4∨(f+p) % 2=1)∧q=p∧s=r):=by
 unfold firstFrom nextTop
 dsimp only
 split
 all_goals exact ⟨_,_,rfl,by omega⟩
theorem behind_in {h f l:Int} {x:Int × Int} (i:RowIn h x) (h0:0≤l) (h1:l≤4) : RowIn h (behindI h f x l):=by
 obtain ⟨p,r⟩:=x
 obtain ⟨a,b,c⟩:=i
 simp only at a b c
 obtain ⟨q,s,e,d⟩:=behind_desc h f l p r h0 h1
 rw [e]
 constructor <;> simp only <;> omega
theorem first_in {h f l:Int} {x:Int × Int} (i:RowIn h x) : RowIn h (firstFrom f x l):=by
 obtain ⟨p,r⟩:=x
 obtain ⟨a,b,c⟩:=i
 simp only at a b c
 obtain ⟨q,s,e,d⟩:=first_desc f l p r
 rw [e]
 constructor <;> simp only <;> omega
theorem behind_self {h f l:Int} {x:Int × Int} (i:RowIn h x) (h0:0≤l) (h1:l≤4) : sooner (behindI h f x l) x=false:=by
 obtain ⟨p,r⟩:=x
 obtain ⟨a,b,c⟩:=i
 simp only at a b c
 obtain ⟨q,s,e,d⟩:=behind_desc h f l p r h0 h1
 rw [e,not_sooner]
 simp only
 omega
theorem behind_grows {h f l k:Int} {x y:Int × Int} (i:RowIn h x) (j:RowIn h y) (le:sooner y x=false) (h0:0≤l) (h1:l≤k) (h2:k≤4) : sooner (behindI h f y k) (behindI h f x l)=false:=by
 obtain ⟨p,r⟩:=x
 obtain ⟨p',r'⟩:=y
 obtain ⟨a,b,c⟩:=i
 obtain ⟨a',b',c'⟩:=j
 rw [not_sooner] at le ⊢
 simp only at a b c a' b' c' le
 obtain ⟨q,s,e,d⟩:=behind_desc h f l p r h0 (by omega)
 obtain ⟨q',s',e',d'⟩:=behind_desc h f k p' r' (by omega) h2
 rw [e,e']
 simp only
 rcases d with d | d | d | d | d <;> rcases d' with d' | d' | d' | d' | d' <;> omega
theorem first_self {f l h:Int} {x:Int × Int} (i:RowIn h x) : sooner (firstFrom f x l) x=false:=by
 obtain ⟨p,r⟩:=x
 obtain ⟨q,s,e,d⟩:=first_desc f l p r
 rw [e,not_sooner]
 simp only
 omega
theorem first_grows {h f l k:Int} {x y:Int × Int} (i:RowIn h x) (j:RowIn h y) (le:sooner y x=false) (h1:l≤k) (h2:k≤4) : sooner (firstFrom f y k) (firstFrom f x l)=false:=by
 obtain ⟨p,r⟩:=x
 obtain ⟨p',r'⟩:=y
 obtain ⟨a,b,c⟩:=i
 obtain ⟨a',b',c'⟩:=j
 rw [not_sooner] at le ⊢
 simp only at a b c a' b' c' le
 obtain ⟨q,s,e,d⟩:=first_desc f l p r
 obtain ⟨q',s',e',d'⟩:=first_desc f k p' r'
 rw [e,e']
 simp only
 rcases d with d | d <;> rcases d' with d' | d' <;> omega
theorem sooner_refl (x:Int × Int) : sooner x x=false:=by rw [not_sooner]; omega
inductive Say where
 | text (l:List Nat)
 | page (k:Nat)
 | row (k:Nat)
def sayV:Say→List V
 | .text l=>[.str (PySem.Str.ofString "text"),.str (tx l)]
 | .page k=>[.str (PySem.Str.ofString "page"),.int (k:Int)]
 | .row k=>[.str (PySem.Str.ofString "row"),.int (k:Int)]
def saidL (h f:Int) (xs:List (Int × Int)) : Say→List Nat
 | .text l=>l
 | .page k=>figs (f+(xs.getD k (0,0)).1).toNat
 | .row k=>figs ((xs.getD k (0,0)).1 * h+(xs.getD k (0,0)).2+1).toNat
def SayOk (n:Nat) : Say→Prop
 | .text l=>1≤l.length∧l.length≤60∧∀ c ∈ l,33≤c∧c < 127
 | .page k=>k < n
 | .row k=>k < n
def PlsOk (h:Int) (xs:List (Int × Int)) : Prop:=∀ x ∈ xs,RowIn h x∧x.1 < 10 ^ 60
def PlsA (K:PySem.W.Frag) (H:Hp) (as:List Addr) (xs:List (Int × Int)) : Prop:=as.length=xs.length∧∀ (i:Nat) a x,as[i]? = some a→xs[i]? = some x→SqT K H a (pl x)
theorem PlsA.same {K:PySem.W.Frag} {H H':Hp} {as:List Addr} {xs:List (Int × Int)} (s:Same H H') (h:PlsA K H as xs) : PlsA K H' as xs:=⟨h.1,fun i a x e e'=>s.tup (h.2 i a x e e')⟩
theorem PlsA.lst {K:PySem.W.Frag} {H:Hp} {l:Addr} {ys zs:List V} {as:List Addr} {xs:List (Int × Int)} (e:H l=some (.lst ys)) (h:PlsA K H as xs) : PlsA K (upd H l (.lst zs)) as xs:=⟨h.1,fun i a x e1 e'=>SqT.lst e (h.2 i a x e1 e')⟩
theorem PlsA.nil {K:PySem.W.Frag} {H:Hp} : PlsA K H [] []:=⟨rfl,fun i a x e _=>by simp at e⟩
theorem PlsA.snoc {K:PySem.W.Frag} {H:Hp} {as:List Addr} {xs:List (Int × Int)} {a:Addr} {x:Int × Int} (h:PlsA K H as xs) (hx:SqT K H a (pl x)) : PlsA K H (as++[a]) (xs++[x]):=by
 refine ⟨by simp [h.1],fun i b y e e'=>?_⟩
 by_cases hi:i < as.length
 ·rw [List.getElem?_append_left hi] at e
  rw [List.getElem?_append_left (by rw [← h.1]; exact hi)] at e'
  exact h.2 i b y e e'
 ·rw [List.getElem?_append_right (by omega)] at e
  rw [List.getElem?_append_right (by rw [← h.1]; omega)] at e'
  have:i - as.length=0:=by
   rcases Nat.eq_zero_or_pos (i - as.length) with z | z
   ·exact z
   ·rw [List.getElem?_eq_none (by simp; omega)] at e; cases e
  rw [this] at e
  rw [← h.1,this] at e'
  cases e
  cases e'
  exact hx
theorem PlsA.get {K:PySem.W.Frag} {H:Hp} {as:List Addr} {xs:List (Int × Int)} (h:PlsA K H as xs) {k:Nat} (hk:k < xs.length) : ∃ a,atI (as.map V.ref) (k:Int)=some (V.ref a)∧SqT K H a (pl (xs.getD k (0,0))):=by
 have hk2:k < as.length:=by rw [h.1]; exact hk
 refine ⟨as[k],atI_nat (by rw [List.getElem?_map,List.getElem?_eq_getElem hk2]; rfl),?_⟩
 rw [List.getD_eq_getElem?_getD,List.getElem?_eq_getElem hk]
 exact h.2 k _ _ (List.getElem?_eq_getElem hk2) (List.getElem?_eq_getElem hk)
theorem PlsOk.get {h:Int} {xs:List (Int × Int)} (o:PlsOk h xs) {k:Nat} (hk:k < xs.length) : RowIn h (xs.getD k (0,0))∧(xs.getD k (0,0)).1 < 10 ^ 60:=by
 rw [List.getD_eq_getElem?_getD,List.getElem?_eq_getElem hk]
 exact o _ (List.getElem_mem hk)
theorem page_num {f p:Int} (f1:0≤f) (f2:f≤10 ^ 60) (p1:0≤p) (p2:p < 10 ^ 60) : ∃ n:Nat,f+p=(n:Int)∧n < 10 ^ 62:=by
 obtain ⟨n,hn⟩:=Int.eq_ofNat_of_zero_le (show 0≤f+p by omega)
 exact ⟨n,hn,by omega⟩
theorem row_num {h p r:Int} (h1:1≤h) (h2:h≤60) (p1:0≤p) (p2:p < 10 ^ 60) (r1:0≤r) (r2:r < h) : ∃ n:Nat,p * h+r+1=(n:Int)∧n < 10 ^ 62:=by
 have a:0≤p * h:=Int.mul_nonneg p1 (by omega)
 have b:p * h≤p * 60:=Int.mul_le_mul_of_nonneg_left h2 p1
 obtain ⟨n,hn⟩:=Int.eq_ofNat_of_zero_le (show 0≤p * h+r+1 by omega)
 exact ⟨n,hn,by omega⟩
theorem lt_100 {n:Nat} (h:n < 10 ^ 62) : n < 10 ^ 100:=Nat.lt_trans h (Nat.pow_lt_pow_right (by decide) (by decide))
theorem said_len {w h f m:Int} {xs:List (Int × Int)} {s:Say} (fo:FormOk w h f m) (po:PlsOk h xs) (so:SayOk xs.length s) : 1≤(saidL h f xs s).length∧(saidL h f xs s).length≤62∧∀ c ∈ saidL h f xs s,33≤c∧c < 127:=by
 cases s with
 | text l=>exact ⟨so.1,by have:=so.2.1; show l.length≤62; omega,so.2.2⟩
 | page k =>
  obtain ⟨i,b⟩:=po.get so
  obtain ⟨n,e,hn⟩:=page_num fo.f1 fo.f2 i.p1 b
  simp only [saidL]
  rw [e]
  exact ⟨figs_pos _,figs_len 61 n hn,fun c hc=>by have:=figs_in n c hc; omega⟩
 | row k =>
  obtain ⟨i,b⟩:=po.get so
  obtain ⟨n,e,hn⟩:=row_num fo.h1 fo.h2 i.p1 b i.r1 i.r2
  simp only [saidL]
  rw [e]
  exact ⟨figs_pos _,figs_len 61 n hn,fun c hc=>by have:=figs_in n c hc; omega⟩
theorem ne_page:decide (V.str (PySem.Str.ofString "page")=V.str (PySem.Str.ofString "text"))=false:=by decide +kernel
theorem ne_row:decide (V.str (PySem.Str.ofString "row")=V.str (PySem.Str.ofString "text"))=false:=by decide +kernel
theorem ne_row_page:decide (V.str (PySem.Str.ofString "row")=V.str (PySem.Str.ofString "page"))=false:=by decide +kernel
theorem refs_snoc (as:List Addr) (a:Addr) : as.map V.ref++[V.ref a]=(as++[a]).map V.ref:=by simp
theorem join_one:∀ cs:List Nat,joinL [] (cs.map fun c=>[c])=cs
 | []=>rfl
 | [c]=>rfl
 | c :: d :: r=>by
  show [c]++[]++joinL [] ((d :: r).map fun c=>[c])=_
  rw [join_one (d :: r)]
  rfl
theorem sum_one:∀ cs:List Nat,((cs.map fun c=>tx [c]).map (·.length)).sum=cs.length
 | []=>rfl
 | c :: r=>by
  rw [List.map_cons,List.map_cons,List.sum_cons,sum_one r,tx_len]
  simp only [List.length_cons,List.length_nil]
  omega
theorem at_last {α:Type} (xs:List α) (x:α) : atI (xs++[x]) (-1)=some x:=by
 unfold atI ixN
 rw [if_neg (by decide),if_pos (by simp; omega)]
 have e:(-1+((xs++[x]).length:Int)).toNat=xs.length:=by simp; omega
 show (xs++[x])[(-1+((xs++[x]).length:Int)).toNat]? = some x
 rw [e]
 simp
def PlsLe (xs ys:List (Int × Int)) : Prop:=xs.length=ys.length∧∀ k,k < xs.length→sooner (ys.getD k (0,0)) (xs.getD k (0,0))=false
theorem getD_app {α:Type} (xs ys:List α) (d:α) (k:Nat) : (xs++ys).getD k d=if k < xs.length then xs.getD k d else ys.getD (k - xs.length) d:=by
 rw [List.getD_eq_getElem?_getD]
 by_cases e:k < xs.length
 ·rw [if_pos e,List.getElem?_append_left e,List.getD_eq_getElem?_getD]
 ·rw [if_neg e,List.getElem?_append_right (by omega),List.getD_eq_getElem?_getD]
theorem row_le {h:Int} {x y:Int × Int} (i:RowIn h x) (j:RowIn h y) (le:sooner y x=false) : x.1 * h+x.2≤y.1 * h+y.2:=by
 rw [not_sooner] at le
 obtain ⟨p,r⟩:=x
 obtain ⟨p',r'⟩:=y
 obtain ⟨a,b,c⟩:=i
 obtain ⟨a',b',c'⟩:=j
 simp only at *
 by_cases e:p=p'
 ·subst e
  omega
 ·have h1:(p+1) * h≤p' * h:=Int.mul_le_mul_of_nonneg_right (by omega) (by omega)
  rw [Int.add_mul] at h1
  omega
theorem said_grows {w h f m:Int} {xs ys:List (Int × Int)} {s:Say} (fo:FormOk w h f m) (po:PlsOk h xs) (qo:PlsOk h ys) (le:PlsLe xs ys) (so:SayOk xs.length s) : (saidL h f xs s).length≤(saidL h f ys s).length:=by
 cases s with
 | text l=>exact Nat.le_refl _
 | page k =>
  have lk:=le.2 k so
  rw [not_sooner] at lk
  exact figs_mono _ _ (Int.toNat_le_toNat (by omega))
 | row k =>
  have:=row_le (po.get so).1 (qo.get (le.1 ▸ so)).1 (le.2 k so)
  exact figs_mono _ _ (Int.toNat_le_toNat (by omega))
def Dq (K:PySem.W.Frag) (H:Hp) : Nat→V→V→Prop
 | 0,x,y=>(flatV x=true∧flatV y=true∧eqV x y=true)∨∃ a,x = .ref a∧y = .ref a
 | n+1,x,y=>((flatV x=true∧flatV y=true∧eqV x y=true)∨∃ a,x = .ref a∧y = .ref a) ∨
   ∃ a b xs ys,x = .ref a∧y = .ref b∧((SqL K H a xs∧SqL K H b ys)∨(SqT K H a xs∧SqT K H b ys))∧xs.length=ys.length∧∀ (i:Nat) x y,xs[i]? = some x→ys[i]? = some y→Dq K H n x y
theorem items_deep {X:Cx} {pins:List (Addr × Obj)} {σ:St} {H:Hp} {s:Shared} {xs ys:List V} {its its2:List Value} {n:Nat} {A:Around} (r:Vals xs its) (r2:Vals ys its2)
  (d:∀ (i:Nat) x y,xs[i]? = some x→ys[i]? = some y→∀ u v,RelV x u→RelV y v→SeqAt.EqAt A s u v true) (j:Nat) (h1:j < its.toArray.size) (h2:j < its2.toArray.size) : SeqAt.EqAt A s its.toArray[j] its2.toArray[j] true:=by
 have l1:=r.length
 have l2:=r2.length
 have h1':j < its.length:=by simpa using h1
 have h2':j < its2.length:=by simpa using h2
 have hx:j < xs.length:=by omega
 have hy:j < ys.length:=by omega
 have e1:xs[j]? = some xs[j]:=List.getElem?_eq_getElem hx
 have e2:ys[j]? = some ys[j]:=List.getElem?_eq_getElem hy
 obtain ⟨u,hu,ru⟩:=r.get e1
 obtain ⟨v,hv,rv⟩:=r2.get e2
 have eu:its.toArray[j]=u:=by
  have:its[j]? = some its[j]:=List.getElem?_eq_getElem h1'
  rw [hu] at this
  simpa using this.symm
 have ev:its2.toArray[j]=v:=by
  have:its2[j]? = some its2[j]:=List.getElem?_eq_getElem h2'
  rw [hv] at this
  simpa using this.symm
 rw [eu,ev]
 exact d j _ _ e1 e2 u v ru rv
theorem min_true {n m:Nat} (h:n=m) : ((List.range (min n m)).all (fun _=>true) && (n == m))=true:=by
 rw [all_true,h]
 simp
theorem deep_eq {X:Cx} {pins:List (Addr × Obj)} {σ:St} {H:Hp} {s:Shared} (I:Inv X pins σ H s) : ∀ (n:Nat) (A:Around) (x y:V) (u v:Value),Dq X.K H n x y→RelV x u→RelV y v→A.units+n < cLine→SeqAt.EqAt A s u v true
 | 0,A,x,y,u,v,d,ru,rv,hu=>by
  rcases d with ⟨f,g,e⟩ | ⟨a,rfl,rfl⟩
  ·have:=eqAt_V (A:=A) (s:=s) ru rv f g
   rw [e] at this
   exact this
  ·cases ru
   cases rv
   exact SeqAt.EqAt.same _
 | n+1,A,x,y,u,v,d,ru,rv,hu=>by
  rcases d with (⟨f,g,e⟩ | ⟨a,rfl,rfl⟩) | ⟨a,b,xs,ys,rfl,rfl,hab,hl,hd⟩
  ·have:=eqAt_V (A:=A) (s:=s) ru rv f g
   rw [e] at this
   exact this
  ·cases ru
   cases rv
   exact SeqAt.EqAt.same _
  ·cases ru
   cases rv
   by_cases e:a=b
   ·subst e
    exact SeqAt.EqAt.same _
   have hrec:=fun i x y (e1:xs[i]? = some x) (e2:ys[i]? = some y) u v (ru:RelV x u) (rv:RelV y v)=>deep_eq I n A.in1 x y u v (hd i x y e1 e2) ru rv (by show A.units+1+n < cLine; omega)
   rcases hab with ⟨ha,hb⟩ | ⟨ha,hb⟩
   ·obtain ⟨its,r,p,z⟩:=I.list ha
    obtain ⟨its2,r2,p2,z2⟩:=I.list hb
    have l1:=r.length
    have l2:=r2.length
    have:=SeqAt.RcAt.lists (A:=A) (e:=fun _=>true) p.isList p2.isList (by simp; omega) (by omega) (fun j h1 h2=>items_deep (X:=X) (pins:=pins) (σ:=σ) (H:=H) (n:=n) r r2 hrec j h1 h2)
    rw [all_true] at this
    exact SeqAt.EqAt.of_refs e this
   ·obtain ⟨its,r,p,z⟩:=I.tuple ha
    obtain ⟨its2,r2,p2,z2⟩:=I.tuple hb
    have l1:=r.length
    have l2:=r2.length
    have:=SeqAt.RcAt.tuples (A:=A) (e:=fun _=>true) p p2 (by omega) (fun j h1 h2=>items_deep (X:=X) (pins:=pins) (σ:=σ) (H:=H) (n:=n) r r2 hrec j h1 h2)
    rw [min_true (by simp; omega)] at this
    exact SeqAt.EqAt.of_refs e this
section
variable {X:Cx}
def rEqQ (K:PySem.W.Frag) (neg:Bool) : R2:=fun x y H Q=>∃ n a b xs ys,n≤90∧x = .ref a∧y = .ref b∧((SqL K H a xs∧SqL K H b ys)∨(SqT K H a xs∧SqT K H b ys))∧xs.length=ys.length∧(∀ (i:Nat) x y,xs[i]? = some x→ys[i]? = some y→Dq K H n x y)∧Q (.bl (!neg)) H
theorem op_neQ (hu:X.A.units+100 < cLine) : OpR X (compareOp .NotEq) (rEqQ X.K true):=by
 intro pins s σ H x y v u Q I rx ry h
 obtain ⟨n,a,b,xs,ys,hn,rfl,rfl,hab,hl,hd,q⟩:=h
 cases rx
 cases ry
 have hrec:=fun i x y (e1:xs[i]? = some x) (e2:ys[i]? = some y) u v (ru:RelV x u) (rv:RelV y v)=>deep_eq I n X.A.in1 x y u v (hd i x y e1 e2) ru rv (by show X.A.units+1+n < cLine; omega)
 rcases hab with ⟨ha,hb⟩ | ⟨ha,hb⟩
 ·obtain ⟨its,r,p,z⟩:=I.list ha
  obtain ⟨its2,r2,p2,z2⟩:=I.list hb
  have l1:=r.length
  have l2:=r2.length
  refine SeqAt.RcNeAt.lists (e:=fun _=>true) p.isList p2.isList (by simp; omega) (by omega) (fun j h1 h2=>items_deep (X:=X) (pins:=pins) (σ:=σ) (H:=H) (n:=n) r r2 hrec j h1 h2) _ _ _ _ ⟨.bl _,H,I,rfl,?_⟩
  rw [all_true]
  exact q
 ·obtain ⟨its,r,p,z⟩:=I.tuple ha
  obtain ⟨its2,r2,p2,z2⟩:=I.tuple hb
  have l1:=r.length
  have l2:=r2.length
  refine SeqAt.RcNeAt.tuples (e:=fun _=>true) p p2 (by omega) (fun j h1 h2=>items_deep (X:=X) (pins:=pins) (σ:=σ) (H:=H) (n:=n) r r2 hrec j h1 h2) _ _ _ _ ⟨.bl _,H,I,rfl,?_⟩
  rw [min_true (by simp; omega)]
  exact q
theorem call_any (hc:X.calm=true) : CallR X (.builtin "any") (fun xs H Q=>∃ (l:Addr) (bs:List Bool),xs=[.ref l]∧SqL X.K H l (bs.map V.bl)∧Q (.bl (bs.any id)) H):=by
 intro pins s σ H xs us Q I r h
 obtain ⟨l,bs,rfl,hl,q⟩:=h
 obtain ⟨u,rfl,ru⟩:=vals1 r
 cases ru
 obtain ⟨its,rv,p,z⟩:=I.list hl
 have hlt:l < s.heap.objs.size:=by obtain ⟨_,_,e,_⟩:=p; exact Heap.lt_size e
 have len:=rv.length
 refine call_any_walk (wpAny_pyIter_list p.isList ?_)
 refine ⟨s.heap.objs.size,[s.heap.objs.size,l],[s.heap.objs.size],its.toArray.size,_,_,fun i=>(bs[i]?).getD false,rfl,Walks.list (A:=X.A.in1) (I.ok.hd hc) _ l (Nat.ne_of_lt hlt) its.toArray,
  ⟨⟨_,Heap.get?_push_size _ rfl,rfl,rfl⟩,p.isList.push _⟩,fun i v s' Q' E' hP hQ=>?_,fun h' tk hk=>?_⟩
 ·have hi:its[i]? = some v:=by simpa using hP
  have hlt2:i < bs.length:=by
   have:=(List.getElem?_eq_some_iff.mp hi).1
   rw [List.length_map] at len
   omega
  have eb:(bs.map V.bl)[i]? = some (V.bl bs[i]):=by rw [List.getElem?_map,List.getElem?_eq_getElem hlt2]; rfl
  obtain ⟨w',hw,rw'⟩:=rv.get eb
  rw [hi] at hw
  cases hw
  cases rw'
  have e2:(bs[i]?).getD false=bs[i]:=by rw [List.getElem?_eq_getElem hlt2]; rfl
  have hQ2:Q' ((bs[i]?).getD false) s':=hQ
  rw [e2] at hQ2
  exact wpAny_truthy_bool hQ2
 ·have e:((List.range its.toArray.size).any fun i=>(bs[i]?).getD false)=bs.any id:=by
   have:its.toArray.size=bs.length:=by rw [List.length_map] at len; simp; omega
   rw [this]
   exact LSm.range_any bs
  rw [e]
  exact ⟨.bl _,H,I.kept fun b x e=>hk b x (fun hm=>by rw [List.mem_singleton.mp hm] at e; exact Nat.lt_irrefl _ (Heap.lt_size e)) (Heap.get?_push_of_some _ e),rfl,q⟩
theorem pre_sum (ns:List Int) : ∀ k,k≤ns.length→preSum (fun i=>(ns[i]?).getD 0) k=(ns.take k).sum
 | 0,_=>by simp [preSum]
 | k+1,h=>by
  rw [preSum,pre_sum ns k (by omega),List.take_add_one,List.getElem?_eq_getElem (by omega),List.sum_append]
  show _+ns[k]=_+(ns[k]+0)
  rw [Int.add_zero]
theorem call_sum (hc:X.calm=true) : CallR X (.builtin "sum") (fun xs H Q=>∃ (l:Addr) (ns:List Int),xs=[.ref l]∧SqL X.K H l (ns.map V.int)∧Q (.int ns.sum) H):=by
 intro pins s σ H xs us Q I r h
 obtain ⟨l,ns,rfl,hl,q⟩:=h
 obtain ⟨u,rfl,ru⟩:=vals1 r
 cases ru
 obtain ⟨its,rv,p,z⟩:=I.list hl
 have hlt:l < s.heap.objs.size:=by obtain ⟨_,_,e,_⟩:=p; exact Heap.lt_size e
 have len:=rv.length
 rw [List.length_map] at len
 refine call_sum_walkG (wpAny_pyIter_list p.isList ?_)
 refine ⟨s.heap.objs.size,[s.heap.objs.size,l],[s.heap.objs.size],its.toArray.size,_,_,fun i=>(ns[i]?).getD 0,rfl,Walks.list (A:=X.A.in1) (I.ok.hd hc) _ l (Nat.ne_of_lt hlt) its.toArray,
  ⟨⟨_,Heap.get?_push_size _ rfl,rfl,rfl⟩,p.isList.push _⟩,fun b hb=>?_,fun i v hP=>?_,fun h' tk t' hk=>?_⟩
 ·show b < (s.heap.push _).objs.size
  rw [Heap.size_push]
  rcases List.mem_cons.mp hb with rfl | hb
  ·exact Nat.lt_succ_self _
  ·rw [List.mem_singleton.mp hb]
   exact Nat.lt_succ_of_lt hlt
 ·have hi:its[i]? = some v:=by simpa using hP
  have hlt2:i < ns.length:=by
   have:=(List.getElem?_eq_some_iff.mp hi).1
   omega
  have eb:(ns.map V.int)[i]? = some (V.int ns[i]):=by rw [List.getElem?_map,List.getElem?_eq_getElem hlt2]; rfl
  obtain ⟨w',hw,t,ht⟩:=rv.get eb
  rw [hi] at hw
  cases hw
  refine ⟨t,?_⟩
  have e2:(ns[i]?).getD 0=ns[i]:=by rw [List.getElem?_eq_getElem hlt2]; rfl
  show v=Value.int ((ns[i]?).getD 0) t
  rw [e2]
  exact ht
 ·have e1:its.toArray.size=ns.length:=by simp; omega
  have e:preSum (fun i=>(ns[i]?).getD 0) its.toArray.size=ns.sum:=by
   rw [e1,pre_sum ns _ (Nat.le_refl _),List.take_length]
  rw [e]
  exact ⟨.int _,H,I.kept fun b x e=>hk b x (fun hm=>by rw [List.mem_singleton.mp hm] at e; exact Nat.lt_irrefl _ (Heap.lt_size e)) (Heap.get?_push_of_some _ e),⟨_,rfl⟩,q⟩
end
def fillStep (w:Int) (rows:List (List Nat)) (t:List Nat) : List (List Nat):=
 match rows.getLast? with
 | none=>[t]
 | some l=>if (l.length:Int)+1+t.length≤w then rows.dropLast++[l++32 :: t] else rows++[t]
theorem fillStep_nil (w:Int) (t:List Nat) : fillStep w [] t=[t]:=rfl
theorem fillStep_snoc (w:Int) (rs:List (List Nat)) (l t:List Nat) : fillStep w (rs++[l]) t=if (l.length:Int)+1+t.length≤w then rs++[l++32 :: t] else rs++[l]++[t]:=by simp [fillStep]
def fillW (w:Int) (ts:List (List Nat)) : List (List Nat):=ts.foldl (fillStep w) []
theorem fillW_snoc (w:Int) (ts:List (List Nat)) (t:List Nat) : fillW w (ts++[t])=fillStep w (fillW w ts) t:=by simp [fillW,List.foldl_append]
theorem list_snoc {α:Type} (l:List α) : l=[]∨∃ r c,l=r++[c]:=by
 by_cases h:l=[]
 ·exact .inl h
 ·exact .inr ⟨l.dropLast,l.getLast h,(List.dropLast_concat_getLast h).symm⟩
theorem snoc_ind {α:Type} {P:List α→Prop} (h0:P []) (h1:∀ l a,P l→P (l++[a])) : ∀ l,P l:=by
 intro l
 have:∀ n (l:List α),l.length=n→P l:=by
  intro n
  induction n with
  | zero=>intro l hl; rw [List.eq_nil_of_length_eq_zero hl]; exact h0
  | succ n ih =>
   intro l hl
   rcases list_snoc l with rfl | ⟨r,c,rfl⟩
   ·exact h0
   ·exact h1 r c (ih r (by simp at hl; exact hl))
 exact this _ l rfl
def numStep (w:Int) (x:Int × Int) (t:Int) : Int × Int:=if 0 < x.1∧x.2+1+t≤w then (x.1,x.2+1+t) else (x.1+1,t)
def numW (w:Int) (ts:List Int) : Int × Int:=ts.foldl (numStep w) (0,0)
theorem numW_snoc (w:Int) (ts:List Int) (t:Int) : numW w (ts++[t])=numStep w (numW w ts) t:=by simp [numW,List.foldl_append]
theorem fill_num (w:Int) (ts:List (List Nat)) : (numW w (ts.map fun t=>(t.length:Int))).1=(fillW w ts).length∧((fillW w ts=[]∧ts=[])∨∃ rs l,fillW w ts=rs++[l]∧(numW w (ts.map fun t=>(t.length:Int))).2=l.length):=by
 refine snoc_ind (P:=fun ts=>(numW w (ts.map fun t=>(t.length:Int))).1=(fillW w ts).length∧((fillW w ts=[]∧ts=[])∨∃ rs l,fillW w ts=rs++[l]∧(numW w (ts.map fun t=>(t.length:Int))).2=l.length)) ⟨rfl,.inl ⟨rfl,rfl⟩⟩ ?_ ts
 intro ts t ih
 rw [List.map_append,List.map_singleton,numW_snoc,fillW_snoc]
 obtain ⟨h1,h2⟩:=ih
 rcases h2 with ⟨h2,h3⟩ | ⟨rs,l,h2,h3⟩
 ·rw [h2] at h1 ⊢
  rw [fillStep_nil,numStep,if_neg (by simp at h1; omega)]
  exact ⟨by simp at h1 ⊢; omega,.inr ⟨[],t,rfl,rfl⟩⟩
 ·rw [h2] at h1 ⊢
  rw [fillStep_snoc,numStep]
  by_cases e:(l.length:Int)+1+t.length≤w
  ·rw [if_pos e,if_pos ⟨by simp at h1; omega,by rw [h3]; exact e⟩]
   refine ⟨by simp at h1 ⊢; omega,.inr ⟨rs,_,rfl,?_⟩⟩
   simp
   omega
  ·rw [if_neg e,if_neg (by rw [h3]; omega)]
   exact ⟨by simp at h1 ⊢; omega,.inr ⟨rs++[l],t,rfl,rfl⟩⟩
theorem fill_small {w:Int} (hw:w≤4000) (ts:List (List Nat)) (h:∀ t ∈ ts,t.length≤62) : (∀ r ∈ fillW w ts,r.length≤4000)∧(fillW w ts).length≤ts.length:=by
 revert h
 refine snoc_ind (P:=fun ts=>(∀ t ∈ ts,t.length≤62)→(∀ r ∈ fillW w ts,r.length≤4000)∧(fillW w ts).length≤ts.length) (fun _=>⟨fun r hr=>(by cases hr),Nat.le_refl _⟩) ?_ ts
 intro ts t ih h
 obtain ⟨i1,i2⟩:=ih fun u hu=>h u (List.mem_append_left _ hu)
 have ht:=h t (by simp)
 rw [fillW_snoc]
 rcases list_snoc (fillW w ts) with e | ⟨rs,l,e⟩
 ·rw [e,fillStep_nil]
  exact ⟨fun r hr=>by rw [List.mem_singleton.mp hr]; omega,by simp⟩
 ·rw [e] at i1 i2 ⊢
  rw [fillStep_snoc]
  by_cases c:(l.length:Int)+1+t.length≤w
  ·rw [if_pos c]
   refine ⟨fun r hr=>?_,by simp at i2 ⊢; omega⟩
   rcases List.mem_append.mp hr with hr | hr
   ·exact i1 r (List.mem_append_left _ hr)
   ·rw [List.mem_singleton.mp hr]
    simp
    omega
  ·rw [if_neg c]
   refine ⟨fun r hr=>?_,by simp at i2 ⊢; omega⟩
   rcases List.mem_append.mp hr with hr | hr
   ·exact i1 r hr
   ·rw [List.mem_singleton.mp hr]; omega
theorem fill_wide (w:Int) (ts:List (List Nat)) : (fillW w ts).any (fun r=>decide (w < r.length))=ts.any (fun t=>decide (w < t.length)):=by
 refine snoc_ind (P:=fun ts=>(fillW w ts).any (fun r=>decide (w < r.length))=ts.any (fun t=>decide (w < t.length))) rfl ?_ ts
 intro ts t ih
 rw [fillW_snoc,List.any_append,← ih]
 rcases list_snoc (fillW w ts) with e | ⟨rs,l,e⟩
 ·rw [e,fillStep_nil]
  rfl
 ·rw [e,fillStep_snoc]
  by_cases c:(l.length:Int)+1+t.length≤w
  ·rw [if_pos c,List.any_append,List.any_append]
   have c1:¬ w < ((l++32 :: t).length:Int):=by simp; omega
   have c2:¬ w < (l.length:Int):=by omega
   have c3:¬ w < (t.length:Int):=by omega
   simp [c2,c3]
   all_goals omega
  ·rw [if_neg c,List.any_append]
def highF (w h:Int) (ts:List (List Nat)) : Int:=if (fillW w ts).any (fun r=>decide (w < r.length)) then h else if h < (fillW w ts).length then h else (fillW w ts).length
def highN (w h:Int) (ts:List Int) : Int:=if ts.any (fun t=>decide (w < t)) then h else if h < (numW w ts).1 then h else (numW w ts).1
theorem high_eq (w h:Int) (ts:List (List Nat)) : highF w h ts=highN w h (ts.map fun t=>(t.length:Int)):=by
 unfold highF highN
 rw [fill_wide,(fill_num w ts).1,List.any_map]
 rfl
def lexLe (x y:Int × Int) : Prop:=x.1 < y.1∨(x.1=y.1∧x.2≤y.2)
theorem step_grows {w t u:Int} {x y:Int × Int} (h:lexLe x y) (hx:0≤x.1) (hx2:0≤x.2) (hy2:0≤y.2) (ht:t≤u) (t0:0≤t) : lexLe (numStep w x t) (numStep w y u):=by
 obtain ⟨a,b⟩:=x
 obtain ⟨c,d⟩:=y
 unfold lexLe numStep at *
 simp only at *
 repeat' split
 all_goals (simp only; omega)
theorem step_more {w t:Int} {x:Int × Int} (hx:0≤x.2) (t0:0≤t) : lexLe x (numStep w x t):=by
 obtain ⟨a,b⟩:=x
 unfold numStep
 simp only at hx
 split
 ·refine .inr ⟨rfl,?_⟩
  simp only
  omega
 ·refine .inl ?_
  simp only
  omega
theorem lexLe.refl (x:Int × Int) : lexLe x x:=.inr ⟨rfl,Int.le_refl _⟩
theorem num_nonneg {w:Int} : ∀ {ts:List Int} {x:Int × Int},(∀ t ∈ ts,0≤t)→0≤x.1→0≤x.2→0≤(ts.foldl (numStep w) x).1∧0≤(ts.foldl (numStep w) x).2
 | [],x,_,a,b=>⟨a,b⟩
 | t :: r,x,h,a,b=>by
  have t0:=h t (by simp)
  rw [List.foldl_cons]
  refine num_nonneg (fun u hu=>h u (List.mem_cons_of_mem _ hu)) ?_ ?_
  ·unfold numStep; split <;> simp only <;> omega
  ·unfold numStep; split <;> simp only <;> omega
theorem fold_grows {w:Int} : ∀ {ts us:List Int} {x y:Int × Int},ts.length=us.length→(∀ k,k < ts.length→ts.getD k 0≤us.getD k 0)→(∀ t ∈ ts,0≤t)→lexLe x y→0≤x.1→0≤x.2→0≤y.2→lexLe (ts.foldl (numStep w) x) (us.foldl (numStep w) y)
 | [],[],x,y,_,_,_,h,_,_,_=>h
 | [],_ :: _,_,_,e,_,_,_,_,_,_=>by simp at e
 | _ :: _,[],_,_,e,_,_,_,_,_,_=>by simp at e
 | t :: ts,u :: us,x,y,e,hk,h0,h,a,b,c=>by
  have t0:=h0 t (by simp)
  have tu:t≤u:=hk 0 (by simp)
  rw [List.foldl_cons,List.foldl_cons]
  refine fold_grows (by simpa using e) (fun k hk2=>?_) (fun v hv=>h0 v (List.mem_cons_of_mem _ hv)) (step_grows h a b c tu t0) ?_ ?_ ?_
  ·have:=hk (k+1) (by simp; omega)
   simpa using this
  ·unfold numStep; split <;> simp only <;> omega
  ·unfold numStep; split <;> simp only <;> omega
  ·unfold numStep; split <;> simp only <;> omega
theorem any_grows {w:Int} : ∀ {ts us:List Int},ts.length=us.length→(∀ k,k < ts.length→ts.getD k 0≤us.getD k 0)→ts.any (fun t=>decide (w < t))=true→us.any (fun t=>decide (w < t))=true
 | [],[],_,_,h=>h
 | [],_ :: _,e,_,_=>by simp at e
 | _ :: _,[],e,_,_=>by simp at e
 | t :: ts,u :: us,e,hk,h=>by
  have tu:t≤u:=hk 0 (by simp)
  rw [List.any_cons,Bool.or_eq_true] at h ⊢
  rcases h with h | h
  ·exact .inl (decide_eq_true (by have:=of_decide_eq_true h; omega))
  ·exact .inr (any_grows (by simpa using e) (fun k hk2=>by have:=hk (k+1) (by simp; omega); simpa using this) h)
theorem high_grows {w h:Int} {ts us:List Int} (e:ts.length=us.length) (hk:∀ k,k < ts.length→ts.getD k 0≤us.getD k 0) (h0:∀ t ∈ ts,0≤t) : highN w h ts≤highN w h us:=by
 have a:=fold_grows (w:=w) e hk h0 (lexLe.refl (0,0)) (by decide) (by decide) (by decide)
 have b:=any_grows (w:=w) e hk
 have c:lexLe (numW w ts) (numW w us):=a
 unfold highN
 by_cases x:ts.any (fun t=>decide (w < t))=true
 ·rw [if_pos x,if_pos (b x)]
  exact Int.le_refl _
 ·rw [if_neg x]
  unfold lexLe at c
  repeat' split
  all_goals omega
theorem high_more {w h:Int} (ts us:List Int) (t:Int) (h0:∀ v ∈ ts,0≤v) (h1:∀ v ∈ us,0≤v) (t0:0≤t) : highN w h (ts++us)≤highN w h (ts++[t]++us):=by
 have n0:=num_nonneg (w:=w) (x:=(0,0)) h0 (by decide) (by decide)
 have c:lexLe (numW w (ts++us)) (numW w (ts++[t]++us)):=by
  unfold numW
  rw [List.foldl_append,List.foldl_append,List.foldl_append]
  refine fold_grows rfl (fun k _=>Int.le_refl _) h1 (step_more n0.2 t0) n0.1 n0.2 ?_
  have gen:∀ x:Int × Int,0≤x.2→0≤(numStep w x t).2:=fun x hx=>by unfold numStep; split <;> simp only <;> omega
  exact gen _ n0.2
 unfold highN
 rw [List.any_append,List.any_append,List.any_append]
 by_cases x:(ts.any (fun t=>decide (w < t)) || us.any (fun t=>decide (w < t)))=true
 ·rw [if_pos x,if_pos (by
   rw [Bool.or_eq_true] at x ⊢
   rcases x with x | x
   ·exact .inl (by rw [x]; rfl)
   ·exact .inr x)]
  exact Int.le_refl _
 ·rw [if_neg x]
  unfold lexLe at c
  repeat' split
  all_goals omega
def rowsV (rows:List (List Nat)) : List V:=rows.map fun t=>V.str (tx t)
def SaysA (K:PySem.W.Frag) (H:Hp) (bs:List Addr) (ss:List Say) : Prop:=bs.length=ss.length∧∀ (i:Nat) b s,bs[i]? = some b→ss[i]? = some s→SqT K H b (sayV s)
theorem SaysA.same {K:PySem.W.Frag} {H H':Hp} {bs:List Addr} {ss:List Say} (s:Same H H') (h:SaysA K H bs ss) : SaysA K H' bs ss:=⟨h.1,fun i a x e e'=>s.tup (h.2 i a x e e')⟩
theorem SaysA.nil {K:PySem.W.Frag} {H:Hp} : SaysA K H [] []:=⟨rfl,fun i a x e _=>by simp at e⟩
theorem SaysA.app {K:PySem.W.Frag} {H:Hp} {bs cs:List Addr} {ss ts:List Say} (h:SaysA K H bs ss) (g:SaysA K H cs ts) : SaysA K H (bs++cs) (ss++ts):=by
 refine ⟨by simp [h.1,g.1],fun i b y e e'=>?_⟩
 by_cases hi:i < bs.length
 ·rw [List.getElem?_append_left hi] at e
  rw [List.getElem?_append_left (by rw [← h.1]; exact hi)] at e'
  exact h.2 i b y e e'
 ·rw [List.getElem?_append_right (by omega)] at e
  rw [List.getElem?_append_right (by rw [← h.1]; omega),← h.1] at e'
  exact g.2 _ b y e e'
theorem SaysA.one {K:PySem.W.Frag} {H:Hp} {b:Addr} {s:Say} (h:SqT K H b (sayV s)) : SaysA K H [b] [s]:=by
 refine ⟨rfl,fun i a x e e'=>?_⟩
 match i,e,e' with
 | 0,e,e' =>
  cases e
  cases e'
  exact h
theorem Same.put {H H2:Hp} {r:Addr} {o:HO} (s:Same H H2) (hr:H r=none) : Same H (upd H2 r o):=fun b u q=>by rw [upd_ne (ne_of_none q hr)]; exact s b u q
theorem ix_last (n:Nat) (h:0 < n) : ixN n (-1)=some (n - 1):=by
 unfold ixN
 rw [if_neg (by decide),if_pos (by omega)]
 congr 1
 omega
theorem set_last (rs:List V) (l x:V) : (rs++[l]).set ((rs++[l]).length - 1) x=rs++[x]:=by
 rw [List.length_append,List.length_singleton,Nat.add_sub_cancel,List.set_append_right _ _ (Nat.le_refl _),Nat.sub_self]
 rfl
theorem rowsV_snoc (rs:List (List Nat)) (t:List Nat) : rowsV (rs++[t])=rowsV rs++[V.str (tx t)]:=by simp [rowsV]
theorem flat_rows (rs:List (List Nat)) : (rowsV rs).all flatV=true:=by
 unfold rowsV
 rw [List.all_map]
 exact List.all_eq_true.mpr fun _ _=>rfl
theorem cbl:(PySem.Str.ofString " ")=tx [32]:=by decide +kernel
theorem rows_nil (rs:List (List Nat)) : eqVs (rowsV rs) []=rs.isEmpty:=by
 cases rs with
 | nil=>rfl
 | cons a r=>rfl
theorem foot_at {bs:List Addr} {ss:List Say} (e:bs.length=ss.length) {i:Nat} {y:V} (h:(bs.map V.ref)[i]? = some y) : ∃ b s,y=V.ref b∧bs[i]? = some b∧ss[i]? = some s:=by
 rw [List.getElem?_map] at h
 cases eb:bs[i]? with
 | none=>rw [eb] at h; cases h
 | some b =>
  rw [eb] at h
  have hi:i < ss.length:=by rw [← e]; exact (List.getElem?_eq_some_iff.mp eb).1
  exact ⟨b,ss[i],(Option.some.inj h).symm,rfl,List.getElem?_eq_getElem hi⟩
theorem take_snoc {α:Type} {l:List α} {i:Nat} {a:α} (h:l[i]? = some a) : l.take (i+1)=l.take i++[a]:=by rw [List.take_add_one,h]; rfl
theorem rows_at {rs:List (List Nat)} {i:Nat} {y:V} (h:(rowsV rs)[i]? = some y) : ∃ t,y=V.str (tx t)∧rs[i]? = some t:=by
 unfold rowsV at h
 rw [List.getElem?_map] at h
 cases e:rs[i]? with
 | none=>rw [e] at h; cases h
 | some t=>rw [e] at h; exact ⟨t,(Option.some.inj h).symm,rfl⟩
theorem cutV_map {α:Type} (f:α→V) (ns:List α) (lo hi:Option Int) : cutV (ns.map f) lo hi=(cutL ns lo hi).map f:=by
 unfold cutV cutL
 rw [List.length_map,List.map_take,List.map_drop]
theorem pick {α:Type} (xs:List α) (m k:Int) (h:m=(xs.length:Int)) (h0:0 < m) : ∃ z,z ∈ xs∧atI xs (k % m)=some z:=by
 have b1:=Int.emod_nonneg k (show m≠0 by omega)
 have b2:=Int.emod_lt_of_pos k h0
 obtain ⟨d,hd⟩:=Int.eq_ofNat_of_zero_le b1
 have hl:d < xs.length:=by omega
 refine ⟨xs[d],List.getElem_mem hl,?_⟩
 rw [hd]
 exact atI_nat (List.getElem?_eq_getElem hl)
theorem at_int {xs:List Int} (k:Nat) (h:k < xs.length) : atI (xs.map V.int) (k:Int)=some (V.int (xs.getD k 0)):=by
 refine atI_nat ?_
 rw [List.getElem?_map,List.getD_eq_getElem?_getD,List.getElem?_eq_getElem h]
 rfl
theorem at_ref {xs:List Addr} (k:Nat) (h:k < xs.length) : atI (xs.map V.ref) (k:Int)=some (V.ref (xs.getD k 0)):=by
 refine atI_nat ?_
 rw [List.getElem?_map,List.getD_eq_getElem?_getD,List.getElem?_eq_getElem h]
 rfl
def StrOk (n:Nat) (xs:List Int) : Prop:=xs.length=n∧∀ x ∈ xs,0≤x∧x < 2147483647
theorem StrOk.get {n k:Nat} {xs:List Int} (h:StrOk n xs) (hk:k < n) : 0≤xs.getD k 0∧xs.getD k 0 < 2147483647:=by
 have hk2:k < xs.length:=by rw [h.1]; exact hk
 rw [List.getD_eq_getElem?_getD,List.getElem?_eq_getElem hk2]
 exact h.2 _ (List.getElem_mem hk2)
theorem StrOk.at {n k:Nat} {xs:List Int} (h:StrOk n xs) (hk:k < n) : atI (xs.map V.int) (k:Int)=some (V.int (xs.getD k 0)):=at_int k (by rw [h.1]; exact hk)
def sgnB:List Nat:=[33,34,35,36,38,39,40,41,42,43,44,45,46,47,48,49,50,51,52,53,54,55,56,57,58,59,60,61,62,63,64,65,66,67,68,69,70,71,72,73,74,75,76,77,78,79,80,81,82,83,84,85,86,87,88,89,90,91,92,93,94,95,97,98,99,100,101,102,103,104,105,106,107,108,109,110,111,112,113,114,115,116,117,118,119,120,121,122,123,124,125,126,96]
theorem sgnB_in:∀ c ∈ sgnB,33≤c∧c < 127:=by decide +kernel
structure Wd where
 lead:Int
 kept:Bool
 say:Say
 foot:List Say
structure WdOk (n:Nat) (d:Wd) : Prop where
 l0:0≤d.lead
 l1:d.lead≤4
 s:SayOk n d.say
 f:∀ s ∈ d.foot,SayOk n s
 n:d.foot.length≤40
def WdAt (K:PySem.W.Frag) (H:Hp) (a:Addr) (d:Wd) : Prop:=∃ (sa fo:Addr) (bs:List Addr),SqT K H a [.int d.lead,.bl d.kept,.ref sa,.ref fo]∧SqT K H sa (sayV d.say)∧SqL K H fo (bs.map V.ref)∧SaysA K H bs d.foot
theorem WdAt.same {K:PySem.W.Frag} {H H':Hp} {a:Addr} {d:Wd} (s:Same H H') (h:WdAt K H a d) : WdAt K H' a d:=by
 obtain ⟨sa,fo,bs,h1,h2,h3,h4⟩:=h
 exact ⟨sa,fo,bs,s.tup h1,s.tup h2,s.seq h3,h4.same s⟩
def WdsA (K:PySem.W.Frag) (H:Hp) (as:List Addr) (ds:List Wd) : Prop:=as.length=ds.length∧∀ (i:Nat) a d,as[i]? = some a→ds[i]? = some d→WdAt K H a d
theorem WdsA.same {K:PySem.W.Frag} {H H':Hp} {as:List Addr} {ds:List Wd} (s:Same H H') (h:WdsA K H as ds) : WdsA K H' as ds:=⟨h.1,fun i a d e e'=>(h.2 i a d e e').same s⟩
theorem WdsA.nil {K:PySem.W.Frag} {H:Hp} : WdsA K H [] []:=⟨rfl,fun i a x e _=>by simp at e⟩
theorem WdsA.snoc {K:PySem.W.Frag} {H:Hp} {as:List Addr} {ds:List Wd} {a:Addr} {d:Wd} (h:WdsA K H as ds) (hx:WdAt K H a d) : WdsA K H (as++[a]) (ds++[d]):=by
 refine ⟨by simp [h.1],fun i b y e e'=>?_⟩
 by_cases hi:i < as.length
 ·rw [List.getElem?_append_left hi] at e
  rw [List.getElem?_append_left (by rw [← h.1]; exact hi)] at e'
  exact h.2 i b y e e'
 ·rw [List.getElem?_append_right (by omega)] at e
  rw [List.getElem?_append_right (by rw [← h.1]; omega)] at e'
  have:i - as.length=0:=by
   rcases Nat.eq_zero_or_pos (i - as.length) with z | z
   ·exact z
   ·rw [List.getElem?_eq_none (by simp; omega)] at e; cases e
  rw [this] at e
  rw [← h.1,this] at e'
  cases e
  cases e'
  exact hx
def BkAt (K:PySem.W.Frag) (H:Hp) (b:Addr) (w h f m:Int) (ds:List Wd) : Prop:=∃ (fa wa:Addr) (as:List Addr),SqT K H b [.ref fa,.ref wa]∧SqT K H fa (fm w h f m)∧SqL K H wa (as.map V.ref)∧WdsA K H as ds
theorem BkAt.same {K:PySem.W.Frag} {H H':Hp} {b:Addr} {w h f m:Int} {ds:List Wd} (s:Same H H') (g:BkAt K H b w h f m ds) : BkAt K H' b w h f m ds:=by
 obtain ⟨fa,wa,as,h1,h2,h3,h4⟩:=g
 exact ⟨fa,wa,as,s.tup h1,s.tup h2,s.seq h3,h4.same s⟩
def LwAt (K:PySem.W.Frag) (H:Hp) (a:Addr) (xs:List (Int × Int)) : Prop:=∃ as:List Addr,SqL K H a (as.map V.ref)∧PlsA K H as xs
theorem LwAt.same {K:PySem.W.Frag} {H H':Hp} {a:Addr} {xs:List (Int × Int)} (s:Same H H') (h:LwAt K H a xs) : LwAt K H' a xs:=by
 obtain ⟨as,h1,h2⟩:=h
 exact ⟨as,s.seq h1,h2.same s⟩
theorem cut_nat {α:Type} (xs:List α) (a b:Nat) : cutL xs (some (a:Int)) (some (b:Int))=(xs.drop a).take (b - a):=by
 unfold cutL HT.sIx
 have h1:¬ ((a:Int) < 0):=by omega
 have h2:¬ ((b:Int) < 0):=by omega
 simp only [if_neg h1,if_neg h2,Int.toNat_natCast]
 by_cases h:a≤xs.length
 ·rw [Nat.min_eq_left h]
  by_cases g:b≤xs.length
  ·rw [Nat.min_eq_left g]
  ·rw [Nat.min_eq_right (by omega),List.take_of_length_le (by simp),List.take_of_length_le (by simp; omega)]
 ·rw [List.drop_of_length_le (by omega),List.drop_of_length_le (by omega)]
  simp
theorem StrOk.cut {n a:Nat} {xs:List Int} (h:StrOk n xs) (b:Nat) (hb:a+b≤n) : StrOk b ((xs.drop a).take b):=by
 refine ⟨by simp [h.1]; omega,fun x hx=>h.2 x (List.mem_of_mem_drop (List.mem_of_mem_take hx))⟩

section
variable {prog:Program} {w:World} {A:Around} {R:Result→Shared→Prop} {I:Addr} {fp wr:List Addr} {P:Nat→Value→Prop} {St:Nat→Heap→Prop}
theorem max_out (W:Walks prog w A.in1 I fp wr 2 P St) (S:Addr) (hSf:S ∉ fp) (s:Shared) (v:Value) (c:Nat) (hst:St 2 s.heap) (hS:s.heap.get? S=some { cls:=.type "list",dict:=none,data:=.seq #[v,v] c,slots:=#[] })
  (hR:∀ h' tk,(∀ b o,b ∉ wr→b≠S→s.heap.get? b=some o→h'.get? b=some o)→R (.ok (.ret v)) { s with heap:=h',toks:=tk }) : codeAny (model prog w) A (.builtin "max.loop" ⟨[.ref I,.none,.ref S],[]⟩) R s:=by
 have n1:S ∉ wr:=fun z=>hSf (W.sub _ z)
 refine codeAny_builtin F.entry_max_loop (by
  rw [Around.under_plainId F.plain_max_loop _]; exact wpAny_bind (m:=seqItems? (.ref S)) (wpAny_seqItems hS rfl (wpAny_bind (m:=tryCatch (pyNext (.ref I)) _) (wpAny_tryCatch (W.done s _ _ hst fun h' tk k =>
   wpAny_bind (m:=updateSeq S (fun _=>#[])) (wpAny_updateSeq (k S _ n1 hS) rfl (wpAny_bind (wpAny_letGo (wpAny_pure (hR _ tk fun b o b1 b2 e=>(Heap.get?_update_other _ _ (Ne.symm b2)).trans (k b o b1 e)))))))))))
theorem max_one (W:Walks prog w A.in1 I fp wr 2 P St) (S:Addr) (hSf:S ∉ fp) (s:Shared) (v:Value) (c:Nat) (hst:St 1 s.heap) (hS:s.heap.get? S=some { cls:=.type "list",dict:=none,data:=.seq #[v,v] c,slots:=#[] }) (k:Bool)
  (hc:∀ u h' tk (Q:Value→Shared→Prop) (E:Value→Shared→Prop),P 1 u→(∀ b o,b ∉ wr→b≠S→s.heap.get? b=some o→h'.get? b=some o)→Q (.bool k) { s with heap:=h',toks:=tk }→wpAny (model prog w) A.in1 (richCompare .Gt u v) Q E { s with heap:=h',toks:=tk })
  (hR:∀ u h' tk,P 1 u→(∀ b o,b ∉ wr→b≠S→s.heap.get? b=some o→h'.get? b=some o)→R (.ok (.ret (if k then u else v))) { s with heap:=h',toks:=tk }) : codeAny (model prog w) A (.builtin "max.loop" ⟨[.ref I,.none,.ref S],[]⟩) R s:=by
 have n1:S ∉ wr:=fun z=>hSf (W.sub _ z)
 have nmd:(toString "max"++toString ".loop" : String) = "max.loop":=(by decide)
 refine codeAny_builtin F.entry_max_loop (by
  rw [Around.under_plainId F.plain_max_loop _]; refine wpAny_bind (m:=seqItems? (.ref S)) (wpAny_seqItems hS rfl (wpAny_bind (m:=tryCatch (pyNext (.ref I)) _) (wpAny_tryCatch (W.item 1 s _ _ (by decide) hst fun u h' tk hP hst' kp=>?_)))); skip
  have hS':=kp S _ n1 hS; refine wpAny_bind (m:=tryCatch (holding [u,u] (richCompare .Gt u v >>= _)) _) (wpAny_tryCatch (wpAny_holding (wpAny_bind (hc u h' tk _ _ hP (fun b o b1 _ e=>kp b o b1 e) ?_)))); skip
  refine wpAny_bind (wpAny_holding (wpAny_truthy_bool (wpAny_bind (wpAny_letGo (wpAny_pure ?_))))); skip
  cases k with
  | true =>
   simp only [if_true]; refine wpAny_bind (wpAny_updateSeq hS' rfl (wpAny_bind (wpAny_letGo ?_))); skip
   rw [nmd]; refine wpAny_pure ⟨plainId_quiet F.plain_max_loop _,max_out W S hSf _ u _ (W.frame _ _ _ hst' fun b bf o e=>(Heap.get?_update_other _ _ (fun z:S=b=>hSf (z ▸ bf))).trans e) (Heap.get?_update_self _ hS' rfl) fun h2 tk2 k2=>?_⟩
   exact hR u h2 tk2 hP fun b o b1 b2 e=>k2 b o b1 b2 ((Heap.get?_update_other _ _ (Ne.symm b2)).trans (kp b o b1 e))
  | false =>
   simp only [Bool.false_eq_true,if_false]; refine wpAny_bind (wpAny_letGo ?_); skip
   rw [nmd]; refine wpAny_pure ⟨plainId_quiet F.plain_max_loop _,max_out W S hSf _ v c hst' hS' fun h2 tk2 k2=>?_⟩
   exact hR u h2 tk2 hP fun b o b1 b2 e=>k2 b o b1 b2 (kp b o b1 e))
theorem max_none (W:Walks prog w A.in1 I fp wr 2 P St) (S:Addr) (hSf:S ∉ fp) (s:Shared) (c:Nat) (hst:St 0 s.heap) (hS:s.heap.get? S=some { cls:=.type "list",dict:=none,data:=.seq #[] c,slots:=#[] }) (k:Bool)
  (hc:∀ v u h' tk (Q:Value→Shared→Prop) (E:Value→Shared→Prop),P 0 v→P 1 u→(∀ b o,b ∉ wr→b≠S→s.heap.get? b=some o→h'.get? b=some o)→Q (.bool k) { s with heap:=h',toks:=tk }→wpAny (model prog w) A.in1 (richCompare .Gt u v) Q E { s with heap:=h',toks:=tk })
  (hR:∀ v u h' tk,P 0 v→P 1 u→(∀ b o,b ∉ wr→b≠S→s.heap.get? b=some o→h'.get? b=some o)→R (.ok (.ret (if k then u else v))) { s with heap:=h',toks:=tk }) : codeAny (model prog w) A (.builtin "max.loop" ⟨[.ref I,.none,.ref S],[]⟩) R s:=by
 have n1:S ∉ wr:=fun z=>hSf (W.sub _ z)
 have nmd:(toString "max"++toString ".loop" : String) = "max.loop":=(by decide)
 refine codeAny_builtin F.entry_max_loop (by
  rw [Around.under_plainId F.plain_max_loop _]; refine wpAny_bind (m:=seqItems? (.ref S)) (wpAny_seqItems hS rfl (wpAny_bind (m:=tryCatch (pyNext (.ref I)) _) (wpAny_tryCatch (W.item 0 s _ _ (by decide) hst fun v h' tk hP hst' kp=>?_)))); skip
  have hS':=kp S _ n1 hS; refine wpAny_bind (m:=updateSeq S (fun _=>#[v,v])) (wpAny_updateSeq hS' rfl ?_); rw [nmd]
  refine wpAny_pure ⟨plainId_quiet F.plain_max_loop _,max_one W S hSf _ v _ (W.frame _ _ _ hst' fun b bf o e=>(Heap.get?_update_other _ _ (fun z:S=b=>hSf (z ▸ bf))).trans e) (Heap.get?_update_self _ hS' rfl) k (fun u h2 tk2 Q E hu k2 hq=>?_) fun u h2 tk2 hu k2=>?_⟩
  ·exact hc v u h2 tk2 Q E hP hu (fun b o b1 b2 e=>k2 b o b1 b2 ((Heap.get?_update_other _ _ (Ne.symm b2)).trans (kp b o b1 e))) hq
  ·exact hR v u h2 tk2 hP hu fun b o b1 b2 e=>k2 b o b1 b2 ((Heap.get?_update_other _ _ (Ne.symm b2)).trans (kp b o b1 e)))
end
theorem max_two_by {prog:Program} {w:World} {A:Around} {E:Value→Shared→Prop} {s:Shared} {x y:Value} {Q:Value→Shared→Prop} (hh:A.handled=none) (k:Bool)
  (hc:∀ h' tk (Q:Value→Shared→Prop) (E:Value→Shared→Prop),(∀ b o,s.heap.get? b=some o→h'.get? b=some o)→Q (.bool k) { s with heap:=h',toks:=tk }→wpAny (model prog w) A.in1 (richCompare .Gt y x) Q E { s with heap:=h',toks:=tk })
  (h:∀ h' tk,(∀ b o,s.heap.get? b=some o→h'.get? b=some o)→Q (if k then y else x) { s with heap:=h',toks:=tk }) : wpAny (model prog w) A (call (.builtin "max") [x,y]) Q E s:=by
 have nmd:(toString "max"++toString ".loop" : String) = "max.loop":=(by decide)
 have tup:(s.heap.push { cls:=.type "tuple",data:=.seq #[x,y] }).IsTuple s.heap.objs.size #[x,y]:=⟨_,Heap.get?_push_size _ rfl,rfl,0,rfl⟩
 have hsz:(s.heap.push { cls:=.type "tuple",data:=.seq #[x,y] }).objs.size=s.heap.objs.size+1:=Heap.size_push ..
 have hsz2:∀ o,((s.heap.push { cls:=.type "tuple",data:=.seq #[x,y] }).push o).objs.size=s.heap.objs.size+2:=fun o=>by rw [Heap.size_push,hsz]
 refine call_function_tree F.kind_max F.plain_max F.entry_max (F.args_max2 x y) (by
  refine wpAny_bind (m:=Builtin.Builtins.bindParams "max" ["key","default"] 0 ⟨[],[]⟩) (wpAny_of_eq (show Builtin.Builtins.bindParams "max" ["key","default"] 0 ⟨[],[]⟩=pure [none,none] from rfl) ?_); skip
  refine wpAny_bind (m:=newTuple [x,y]) (wpAny_newObj_type (wpAny_bind (wpAny_pyIter_tuple tup (wpAny_bind (wpAny_newObj_type ?_))))); rw [nmd]
  refine wpAny_pure ⟨plainId_quiet F.plain_max_loop _,max_none (Walks.tuple (A:=A.in1) hh (s.heap.push { cls:=.type "tuple",data:=.seq #[x,y] }).objs.size s.heap.objs.size (by rw [hsz]; exact Nat.ne_of_lt (Nat.lt_succ_self _)) #[x,y]) _ ?nf _ _ ⟨⟨_,Heap.get?_push_of_some _ (Heap.get?_push_size _ rfl),rfl,rfl⟩,(tup.push _).push _⟩ (Heap.get?_push_size _ rfl) k (fun v u h' tk Q E p0 p1 kp hq=>?hc) fun v u h' tk p0 p1 kp=>?hr⟩
  case nf =>
   intro hm
   have z:((s.heap.push { cls:=.type "tuple",data:=.seq #[x,y] }).push _).objs.size ∈ _:=hm
   rw [hsz2,hsz] at z
   rcases List.mem_cons.mp z with e | z
   ·exact absurd e (by show s.heap.objs.size+2≠s.heap.objs.size+1; simp)
   ·rcases List.mem_cons.mp z with e | z
    ·exact absurd e (by show s.heap.objs.size+2≠s.heap.objs.size; simp)
    ·cases z
  case hc =>
   have ev:v=x:=by simpa using p0.symm
   have eu:u=y:=by simpa using p1.symm
   rw [ev,eu]
   refine hc h' tk Q E (fun b o e=>?_) hq
   have lt:=Heap.lt_size e
   refine kp b o (fun hm=>?_) (fun hm=>?_) (Heap.get?_push_of_some _ (Heap.get?_push_of_some _ (Heap.get?_push_of_some _ e)))
   ·have z:b=(s.heap.push { cls:=.type "tuple",data:=.seq #[x,y] }).objs.size:=List.mem_singleton.mp hm
    rw [hsz] at z
    rw [z] at lt
    exact absurd lt (Nat.not_lt.mpr (Nat.le_add_right _ 1))
   ·have z:b=((s.heap.push { cls:=.type "tuple",data:=.seq #[x,y] }).push _).objs.size:=hm
    rw [hsz2] at z
    rw [z] at lt
    exact absurd lt (Nat.not_lt.mpr (Nat.le_add_right _ 2))
  case hr =>
   have ev:v=x:=by simpa using p0.symm
   have eu:u=y:=by simpa using p1.symm
   rw [ev,eu]
   refine h h' tk fun b o e=>?_
   have lt:=Heap.lt_size e
   refine kp b o (fun hm=>?_) (fun hm=>?_) (Heap.get?_push_of_some _ (Heap.get?_push_of_some _ (Heap.get?_push_of_some _ e)))
   ·have z:b=(s.heap.push { cls:=.type "tuple",data:=.seq #[x,y] }).objs.size:=List.mem_singleton.mp hm
    rw [hsz] at z
    rw [z] at lt
    exact absurd lt (Nat.not_lt.mpr (Nat.le_add_right _ 1))
   ·have z:b=((s.heap.push { cls:=.type "tuple",data:=.seq #[x,y] }).push _).objs.size:=hm
    rw [hsz2] at z
    rw [z] at lt
    exact absurd lt (Nat.not_lt.mpr (Nat.le_add_right _ 2)))
theorem call_maxT {X:Cx} (hc:X.calm=true) (hu:X.A.units+1 < cLine) : CallR X (.builtin "max") (fun xs H Q=>∃ a b ns ms,xs=[.ref a,.ref b]∧SqT X.K H a (ns.map V.int)∧SqT X.K H b (ms.map V.int)∧Q (.ref (if HT.lexGt ms ns then b else a)) H):=by
 intro pins s σ H xs us Q I r h
 obtain ⟨a,b,ns,ms,rfl,ha,hb,q⟩:=h
 obtain ⟨u,w',rfl,ru,rw'⟩:=vals2 r
 cases ru
 cases rw'
 obtain ⟨its,r1,p1,_⟩:=I.tuple ha
 obtain ⟨its2,r2,p2,_⟩:=I.tuple hb
 have i1:IntsAre its.toArray.toList ns:=intsAre_of r1
 have i2:IntsAre its2.toArray.toList ms:=intsAre_of r2
 refine max_two_by (I.ok.hd hc) (HT.lexGt ms ns) (fun h' tk Q E kp hq=>?_) fun h' tk kp=>⟨_,H,I.kept kp,?_,q⟩
 ·obtain ⟨o1,e1,f1⟩:=p1
  obtain ⟨o2,e2,f2⟩:=p2
  exact HT.gt_tupInts ⟨o2,kp _ _ e2,f2⟩ ⟨o1,kp _ _ e1,f1⟩ i2 i1 hu hq
 ·cases HT.lexGt ms ns <;> rfl

section
variable {prog:Program} {w:World} {A:Around} {R:Result→Shared→Prop} {I:Addr} {fp wr:List Addr} {P:Nat→Value→Prop} {St:Nat→Heap→Prop}
end
def laterI (x y:Int × Int) : Int × Int:=if sooner x y then y else x
theorem lex_gt (x y:Int × Int) : HT.lexGt [y.1,y.2] [x.1,x.2]=sooner x y:=by
 unfold HT.lexGt HT.lexGt HT.lexGt
 by_cases e:y.1=x.1
 ·rw [if_pos e]
  by_cases e2:y.2=x.2
  ·rw [if_pos e2]
   exact (not_sooner.mpr (by omega)).symm
  ·rw [if_neg e2]
   by_cases e3:x.2 < y.2
   ·rw [decide_eq_true e3,sooner_iff.mpr (by omega)]
   ·rw [decide_eq_false e3,not_sooner.mpr (by omega)]
 ·rw [if_neg e]
  by_cases e3:x.1 < y.1
  ·rw [decide_eq_true e3,sooner_iff.mpr (by omega)]
  ·rw [decide_eq_false e3,not_sooner.mpr (by omega)]
theorem lex_le (x y:Int × Int) : HT.lexLtE [x.1,x.2] [y.1,y.2] = !sooner y x:=by
 unfold HT.lexLtE HT.lexLtE HT.lexLtE
 by_cases e:x.1=y.1
 ·rw [if_pos e]
  by_cases e2:x.2=y.2
  ·rw [if_pos e2,not_sooner.mpr (by omega)]
   rfl
  ·rw [if_neg e2]
   by_cases e3:x.2≤y.2
   ·rw [decide_eq_true e3,not_sooner.mpr (by omega)]
    rfl
   ·rw [decide_eq_false e3,sooner_iff.mpr (by omega)]
    rfl
 ·rw [if_neg e]
  by_cases e3:x.1≤y.1
  ·rw [decide_eq_true e3,not_sooner.mpr (by omega)]
   rfl
  ·rw [decide_eq_false e3,sooner_iff.mpr (by omega)]
   rfl
structure Frm where
 w:Int
 h:Int
 f:Int
 m:Int
structure BkOk (F:Frm) (ds:List Wd) (xs:List (Int × Int)) : Prop where
 fo:FormOk F.w F.h F.f F.m
 len:ds.length=xs.length
 wd:∀ d ∈ ds,WdOk ds.length d
 po:PlsOk F.h xs
 n:ds.length≤400
def wd0:Wd:=⟨0,false,.text [],[]⟩
abbrev dAt (ds:List Wd) (i:Nat) : Wd:=ds.getD i wd0
abbrev xAt (xs:List (Int × Int)) (i:Nat) : Int × Int:=xs.getD i (0,0)
def wideW (F:Frm) (xs:List (Int × Int)) (d:Wd) : Int:=((saidL F.h F.f xs d.say).length:Int)
def highW (F:Frm) (xs:List (Int × Int)) (d:Wd) : Int:=highF F.w F.h (d.foot.map (saidL F.h F.f xs))
def toldBehind (F:Frm) (ds:List Wd) (xs:List (Int × Int)) (i:Nat) : Int × Int:=
 firstFrom F.f (if 0 < i then laterI (xAt xs i) (behindI F.h F.f (xAt xs (i - 1)) (dAt ds i).lead) else xAt xs i) (dAt ds i).lead
def toldWide (F:Frm) (xs:List (Int × Int)) (j:Nat) (wide:Int) : Option (Int × Int):=if wide≤F.w then none else some (behindI F.h F.f (xAt xs j) 1)
def toldHigh (F:Frm) (xs:List (Int × Int)) (i j:Nat) (high:Int) : Option (Int × Int):=if (xAt xs j).1 < (xAt xs i).1∨(xAt xs i).2+1+high≤F.h then none else some ((xAt xs i).1+1,0)
def toldKept (ds:List Wd) (xs:List (Int × Int)) (i:Nat) : Option (Int × Int):=if i+1=ds.length∨(dAt ds (i+1)).kept=false then none else some ((xAt xs (i+1)).1,0)
def toldNever (F:Frm) (ds:List Wd) (xs:List (Int × Int)) (i:Nat) : Option (Int × Int):=if wideW F xs (dAt ds i)≤F.w∧highW F xs (dAt ds i)+1≤F.h then none else some (F.m,0)
def segD (ds:List Wd) (j i:Nat) : List Wd:=(ds.drop j).take (i+1 - j)
def wides (F:Frm) (ds:List Wd) (xs:List (Int × Int)) (j i:Nat) : List Int:=(segD ds j i).map (wideW F xs)
def highs (F:Frm) (ds:List Wd) (xs:List (Int × Int)) (j i:Nat) : List Int:=(segD ds j i).map (highW F xs)
def together (l:List Int) : Int:=l.sum+l.length - 1
def PlO (K:PySem.W.Frag) (H:Hp) (v:V) : Option (Int × Int)→Prop
 | none=>v = .non
 | some x=>∃ q,v = .ref q∧SqT K H q (pl x)
theorem BkOk.d {F:Frm} {ds:List Wd} {xs:List (Int × Int)} (B:BkOk F ds xs) {i:Nat} (h:i < ds.length) : ds[i]? = some (dAt ds i)∧WdOk xs.length (dAt ds i):=by
 have e:ds[i]? = some ds[i]:=List.getElem?_eq_getElem h
 have e2:dAt ds i=ds[i]:=by show ds.getD i wd0=_; rw [List.getD_eq_getElem?_getD,e]; rfl
 rw [e2]
 exact ⟨e,B.len ▸ B.wd _ (List.getElem_mem h)⟩
theorem BkOk.x {F:Frm} {ds:List Wd} {xs:List (Int × Int)} (B:BkOk F ds xs) {i:Nat} (h:i < ds.length) : RowIn F.h (xAt xs i)∧(xAt xs i).1 < 10 ^ 60:=B.po.get (B.len ▸ h)
theorem WdsA.get {K:PySem.W.Frag} {H:Hp} {as:List Addr} {ds:List Wd} (h:WdsA K H as ds) {k:Nat} (hk:k < ds.length) : ∃ a,atI (as.map V.ref) (k:Int)=some (V.ref a)∧WdAt K H a (dAt ds k):=by
 have hk2:k < as.length:=by rw [h.1]; exact hk
 refine ⟨as[k],atI_nat (by rw [List.getElem?_map,List.getElem?_eq_getElem hk2]; rfl),?_⟩
 have e:ds[k]? = some (dAt ds k):=by
  show _=some (ds.getD k wd0)
  rw [List.getD_eq_getElem?_getD,List.getElem?_eq_getElem hk]
  rfl
 exact h.2 k _ _ (List.getElem?_eq_getElem hk2) e
theorem WdsA.drop {K:PySem.W.Frag} {H:Hp} {as:List Addr} {ds:List Wd} (h:WdsA K H as ds) (n:Nat) : WdsA K H (as.drop n) (ds.drop n):=by
 refine ⟨by simp [h.1],fun i b y e e'=>?_⟩
 rw [List.getElem?_drop] at e e'
 exact h.2 _ b y e e'
theorem WdsA.take {K:PySem.W.Frag} {H:Hp} {as:List Addr} {ds:List Wd} (h:WdsA K H as ds) (n:Nat) : WdsA K H (as.take n) (ds.take n):=by
 refine ⟨by simp [h.1],fun i b y e e'=>?_⟩
 rw [List.getElem?_take] at e e'
 split at e
 ·rename_i c
  rw [if_pos c] at e'
  exact h.2 i b y e e'
 ·cases e
theorem wd_at {as:List Addr} {ds:List Wd} (e:as.length=ds.length) {i:Nat} {y:V} (h:(as.map V.ref)[i]? = some y) : ∃ b d,y=V.ref b∧as[i]? = some b∧ds[i]? = some d:=by
 rw [List.getElem?_map] at h
 cases eb:as[i]? with
 | none=>rw [eb] at h; cases h
 | some b =>
  rw [eb] at h
  have hi:i < ds.length:=by rw [← e]; exact (List.getElem?_eq_some_iff.mp eb).1
  exact ⟨b,ds[i],(Option.some.inj h).symm,rfl,List.getElem?_eq_getElem hi⟩
theorem LwAt.get {K:PySem.W.Frag} {H:Hp} {a:Addr} {xs:List (Int × Int)} {as:List Addr} (h:PlsA K H as xs) {k:Nat} (hk:k < xs.length) : ∃ b,atI (as.map V.ref) (k:Int)=some (V.ref b)∧SqT K H b (pl (xAt xs k)):=h.get hk
def allTold (F:Frm) (ds:List Wd) (xs:List (Int × Int)) (i:Nat) : List (Option (Int × Int)):=
 [some (toldBehind F ds xs i),toldKept ds xs i,toldNever F ds xs i]++(List.range i).map (fun j=>toldWide F xs j (together (wides F ds xs j i)))++(List.range (i+1)).map (fun j=>toldHigh F xs i j (highs F ds xs j i).sum)
def bestOf (b:Int × Int) (os:List (Option (Int × Int))) : Int × Int:=os.foldl (fun b o=>match o with | none=>b | some x=>laterI b x) b
def raisedI (F:Frm) (ds:List Wd) (xs:List (Int × Int)) (i:Nat) : Int × Int:=bestOf (xAt xs i) (allTold F ds xs i)
theorem cut_fr {α:Type} (xs:List α) (a:Nat) : cutL xs (some (a:Int)) none=xs.drop a:=by
 unfold cutL HT.sIx
 have h2:¬ ((a:Int) < 0):=by omega
 simp only [if_neg h2,Int.toNat_natCast]
 rw [List.take_of_length_le (by simp)]
 by_cases g:a≤xs.length
 ·rw [Nat.min_eq_left g]
 ·rw [Nat.min_eq_right (by omega),List.drop_of_length_le (by omega),List.drop_of_length_le (by omega)]
theorem op_neNil {X:Cx} (hu:X.A.units < cLine) : OpR X (compareOp .NotEq) (fun x y H Q=>∃ a b xs,x = .ref a∧y = .ref b∧SqL X.K H a xs∧SqL X.K H b []∧Q (.bl (!xs.isEmpty)) H):=by
 intro pins s σ H x y v u Q I rx ry h
 obtain ⟨a,b,xs,rfl,rfl,ha,hb,q⟩:=h
 cases rx
 cases ry
 obtain ⟨its,r,p,z⟩:=I.list ha
 obtain ⟨its2,r2,p2,z2⟩:=I.list hb
 have l1:=r.length
 have l2:=r2.length
 cases xs with
 | nil =>
  refine SeqAt.RcNeAt.lists (e:=fun _=>true) p.isList p2.isList (by simp at l1 l2 ⊢; omega) hu (fun j h1 h2=>absurd h1 (by simp at l1 ⊢; omega)) _ _ _ _ ⟨.bl _,H,I,rfl,?_⟩
  have e:its.toArray.size=0:=by rw [List.size_toArray]; exact l1.symm
  rw [e]
  exact q
 | cons x r=>exact SeqAt.RcNeAt.lists_lengths p.isList p2.isList (by simp at l1 l2 ⊢; omega) hu _ _ _ _ ⟨.bl true,H,I,rfl,q⟩
theorem PlsA.set {K:PySem.W.Frag} {H:Hp} {as:List Addr} {xs:List (Int × Int)} {a:Addr} {x:Int × Int} (h:PlsA K H as xs) (k:Nat) (hx:SqT K H a (pl x)) : PlsA K H (as.set k a) (xs.set k x):=by
 refine ⟨by simp [h.1],fun i b y e e'=>?_⟩
 rw [List.getElem?_set] at e e'
 by_cases c:k=i
 ·rw [if_pos c] at e e'
  split at e
  ·split at e'
   ·cases e; cases e'; exact hx
   ·cases e'
  ·cases e
 ·rw [if_neg c] at e e'
  exact h.2 i b y e e'
theorem PlsOk.set {h:Int} {xs:List (Int × Int)} {x:Int × Int} (o:PlsOk h xs) (k:Nat) (i:RowIn h x) (b:x.1 < 10 ^ 60) : PlsOk h (xs.set k x):=by
 intro y hy
 rcases List.mem_or_eq_of_mem_set hy with hy | rfl
 ·exact o y hy
 ·exact ⟨i,b⟩
def toldBy (F:Frm) (ds:List Wd) (xs:List (Int × Int)) (k:Str) (i:Nat) (j:Int) : Option (Int × Int):=
 if k=PySem.Str.ofString "behind"∧j=(i:Int) - 1 then some (toldBehind F ds xs i)
 else if k=PySem.Str.ofString "wide"∧(0≤j∧j < (i:Int)) then toldWide F xs j.toNat (together (wides F ds xs j.toNat i))
 else if k=PySem.Str.ofString "high"∧(0≤j∧j≤(i:Int)) then toldHigh F xs i j.toNat (highs F ds xs j.toNat i).sum
 else if k=PySem.Str.ofString "kept"∧j=(i:Int)+1 then toldKept ds xs i
 else if k=PySem.Str.ofString "never"∧j=(i:Int) then toldNever F ds xs i
 else none
def reachI (F:Frm) (ds:List Wd) (xs:List (Int × Int)) (k:Str) (i:Nat) (j:Int) : Option (Int × Int):=match toldBy F ds xs k i j with
 | none=>none
 | some x=>if sooner (xAt xs i) x then some x else none
theorem str_eq {a b:Str} : (decide (V.str a=V.str b)=true)↔a=b:=by simp
inductive CL:List Expr→List V→Prop where
 | nil:CL [] []
 | int {i:Int} {j:Nat} {pos:Pos} {es:List Expr} {vs:List V} (h:CL es vs) : CL (.Constant (.int i) j pos :: es) (.int i :: vs)
 | str {x:Str} {j:Nat} {pos:Pos} {es:List Expr} {vs:List V} (h:CL es vs) : CL (.Constant (.str x) j pos :: es) (.str x :: vs)
def tVs (vs:List V) : TA:=fun _ H Q=>Q vs H
theorem pa_cl {X:Cx} : ∀ {es:List Expr} {vs:List V},CL es vs→PA X es (tVs vs)
 | _,_,.nil=>pa_nil
 | _,_,.int h=>pa_cons pe_int (pa_cl h)
 | _,_,.str h=>pa_cons pe_str (pa_cl h)
theorem ps_pick {X:Cx} {i:Nat} {x:Str} {es:List Expr} {vs:List V} {b:Expr} {tb:TE} {p1 p2 p3 p4:Pos} (hN:X.N.Nodup) (hi:X.N[i]? = some x) (hx:Loc X.env.scope x) (hc:CL es vs) (hb:PE X b tb) (hs:PlainIx b)
  (hf:X.fn x=true∨X.env.scope.names.lookup x=some .local) : PS X (.Assign [.Name x p1] (.Subscript (.List es p2) b p3) p4) (tAsg (tOp (rIxL X.K) (tLst (tVs vs)) tb) (gName i)):=
 ps_set (i:=i) hN hi hx (pe_ix ix_list (pe_lst (pa_cl hc)) hb hs)
def rLen (K:PySem.W.Frag) : List V→Hp→VK→Prop:=fun xs H Q=>∃ p ys,xs=[.ref p]∧(SqL K H p ys∨SqT K H p ys)∧Q (.int (ys.length:Nat)) H
def kB:Str:=PySem.Str.ofString "behind"
def kW:Str:=PySem.Str.ofString "wide"
def kH:Str:=PySem.Str.ofString "high"
def kK:Str:=PySem.Str.ofString "kept"
def kN:Str:=PySem.Str.ofString "never"
section
variable (F:Frm) (ds:List Wd) (xs:List (Int × Int)) (k:Str) (i:Nat) (j:Int)
end
theorem kne:kB≠kW∧kB≠kH∧kB≠kK∧kB≠kN∧kW≠kH∧kW≠kK∧kW≠kN∧kH≠kK∧kH≠kN∧kK≠kN:=by decide +kernel
theorem toldBy_k (F:Frm) (ds:List Wd) (xs:List (Int × Int)) (k:Str) (i:Nat) (j:Int) : toldBy F ds xs k i j=if k=kB∧j=(i:Int) - 1 then some (toldBehind F ds xs i)
 else if k=kW∧(0≤j∧j < (i:Int)) then toldWide F xs j.toNat (together (wides F ds xs j.toNat i))
 else if k=kH∧(0≤j∧j≤(i:Int)) then toldHigh F xs i j.toNat (highs F ds xs j.toNat i).sum
 else if k=kK∧j=(i:Int)+1 then toldKept ds xs i
 else if k=kN∧j=(i:Int) then toldNever F ds xs i
 else none:=rfl
theorem hu100 {A:Around} {k:Nat} (hr:Room k A) : A.units+100 < cLine:=by have:=hr.un; omega
theorem le_tr {x y z:Int × Int} (a:sooner y x=false) (b:sooner z y=false) : sooner z x=false:=by
 rw [not_sooner] at a b ⊢
 omega
theorem le_anti {x y:Int × Int} (a:sooner y x=false) (b:sooner x y=false) : x=y:=by
 rw [not_sooner] at a b
 obtain ⟨p,r⟩:=x
 obtain ⟨p',r'⟩:=y
 simp only at a b
 have:p=p':=by omega
 have:r=r':=by omega
 subst p r
 rfl
theorem later_ge1 (x y:Int × Int) : sooner (laterI x y) x=false:=by
 unfold laterI
 cases e:sooner x y with
 | true =>
  rw [if_pos rfl]
  rw [sooner_iff] at e
  rw [not_sooner]
  omega
 | false=>rw [if_neg (by decide)]; exact sooner_refl x
theorem later_ge2 (x y:Int × Int) : sooner (laterI x y) y=false:=by
 unfold laterI
 cases e:sooner x y with
 | true=>rw [if_pos rfl]; exact sooner_refl y
 | false=>rw [if_neg (by decide)]; exact e
theorem later_le {x y z:Int × Int} (a:sooner z x=false) (b:sooner z y=false) : sooner z (laterI x y)=false:=by
 unfold laterI
 cases e:sooner x y with
 | true=>rw [if_pos rfl]; exact b
 | false=>rw [if_neg (by decide)]; exact a
theorem best_ge:∀ (os:List (Option (Int × Int))) (b:Int × Int),sooner (bestOf b os) b=false∧∀ x,some x ∈ os→sooner (bestOf b os) x=false
 | [],b=>⟨sooner_refl b,fun x h=>by cases h⟩
 | none :: r,b=>by
  obtain ⟨h1,h2⟩:=best_ge r b
  refine ⟨h1,fun x h=>h2 x ?_⟩
  rcases List.mem_cons.mp h with h | h
  ·cases h
  ·exact h
 | some y :: r,b=>by
  obtain ⟨h1,h2⟩:=best_ge r (laterI b y)
  refine ⟨le_tr (later_ge1 b y) h1,fun x h=>?_⟩
  rcases List.mem_cons.mp h with h | h
  ·have e:x=y:=by cases h; rfl
   rw [e]
   exact le_tr (later_ge2 b y) h1
  ·exact h2 x h
theorem best_le:∀ (os:List (Option (Int × Int))) (b z:Int × Int),sooner z b=false→(∀ x,some x ∈ os→sooner z x=false)→sooner z (bestOf b os)=false
 | [],b,z,h,_=>h
 | none :: r,b,z,h,h2=>best_le r b z h fun x hx=>h2 x (List.mem_cons_of_mem _ hx)
 | some y :: r,b,z,h,h2=>best_le r (laterI b y) z (later_le h (h2 y List.mem_cons_self)) fun x hx=>h2 x (List.mem_cons_of_mem _ hx)
theorem sum_le {α:Type} {f g:α→Int} : ∀ (l:List α),(∀ d ∈ l,f d≤g d)→(l.map f).sum≤(l.map g).sum
 | [],_=>Int.le_refl _
 | a :: r,h=>by
  have h1:=h a List.mem_cons_self
  have h2:=sum_le r fun d hd=>h d (List.mem_cons_of_mem _ hd)
  rw [List.map_cons,List.map_cons,List.sum_cons,List.sum_cons]
  omega
section
variable {F:Frm} {ds:List Wd} {xs ys:List (Int × Int)}
theorem wide_grows (B:BkOk F ds xs) (C:BkOk F ds ys) (le:PlsLe xs ys) {d:Wd} (hd:d ∈ ds) : wideW F xs d≤wideW F ys d:=by
 have wk:=B.wd d hd
 rw [B.len] at wk
 have:=said_grows B.fo B.po C.po le wk.s
 unfold wideW
 omega
theorem foot_grows (B:BkOk F ds xs) (C:BkOk F ds ys) (le:PlsLe xs ys) {d:Wd} (hd:d ∈ ds) : highW F xs d≤highW F ys d:=by
 have wk:=B.wd d hd
 rw [B.len] at wk
 unfold highW
 rw [high_eq,high_eq]
 refine high_grows (by simp) (fun k hk=>?_) (fun t ht=>?_)
 ·rw [List.length_map,List.length_map] at hk
  have hs:=wk.f (d.foot[k]) (List.getElem_mem hk)
  have:=said_grows B.fo B.po C.po le hs
  simp only [List.getD_eq_getElem?_getD,List.getElem?_map,List.getElem?_eq_getElem hk,Option.map_some,Option.getD_some]
  omega
 ·obtain ⟨u,_,rfl⟩:=List.mem_map.mp ht
  omega
theorem seg_mem {j i:Nat} {d:Wd} (h:d ∈ segD ds j i) : d ∈ ds:=List.mem_of_mem_drop (List.mem_of_mem_take h)
theorem wides_grow (B:BkOk F ds xs) (C:BkOk F ds ys) (le:PlsLe xs ys) (j i:Nat) : together (wides F ds xs j i)≤together (wides F ds ys j i):=by
 have:=sum_le (f:=wideW F xs) (g:=wideW F ys) (segD ds j i) fun d hd=>wide_grows B C le (seg_mem hd)
 unfold together wides
 rw [List.length_map,List.length_map]
 omega
theorem highs_grow (B:BkOk F ds xs) (C:BkOk F ds ys) (le:PlsLe xs ys) (j i:Nat) : (highs F ds xs j i).sum≤(highs F ds ys j i).sum:=
 sum_le (segD ds j i) fun d hd=>foot_grows B C le (seg_mem hd)
theorem all_mem {i:Nat} {x:Int × Int} : some x ∈ allTold F ds xs i↔(x=toldBehind F ds xs i∨toldKept ds xs i=some x∨toldNever F ds xs i=some x∨(∃ j,j < i∧toldWide F xs j (together (wides F ds xs j i))=some x)∨∃ j,j < i+1∧toldHigh F xs i j (highs F ds xs j i).sum=some x):=by
 unfold allTold
 simp only [List.mem_append,List.mem_cons,List.mem_map,List.mem_range,List.not_mem_nil,or_false,Option.some.injEq]
 constructor
 ·rintro (((h | h | h) | ⟨j,h1,h2⟩) | ⟨j,h1,h2⟩)
  ·exact .inl h
  ·exact .inr (.inl h.symm)
  ·exact .inr (.inr (.inl h.symm))
  ·exact .inr (.inr (.inr (.inl ⟨j,h1,h2⟩)))
  ·exact .inr (.inr (.inr (.inr ⟨j,h1,h2⟩)))
 ·rintro (h | h | h | ⟨j,h1,h2⟩ | ⟨j,h1,h2⟩)
  ·exact .inl (.inl (.inl h))
  ·exact .inl (.inl (.inr (.inl h.symm)))
  ·exact .inl (.inl (.inr (.inr h.symm)))
  ·exact .inl (.inr ⟨j,h1,h2⟩)
  ·exact .inr ⟨j,h1,h2⟩
theorem behind_told_grows (B:BkOk F ds xs) (C:BkOk F ds ys) (le:PlsLe xs ys) {i:Nat} (hi:i < ds.length) : sooner (toldBehind F ds ys i) (toldBehind F ds xs i)=false:=by
 have wk:=(B.d hi).2
 have rx:=(B.x hi).1
 have ry:=(C.x hi).1
 have l0:sooner (xAt ys i) (xAt xs i)=false:=le.2 i (by rw [← B.len]; exact hi)
 unfold toldBehind
 by_cases c:0 < i
 ·rw [if_pos c,if_pos c]
  have rx1:=(B.x (show i - 1 < ds.length by omega)).1
  have ry1:=(C.x (show i - 1 < ds.length by omega)).1
  have l1:sooner (xAt ys (i - 1)) (xAt xs (i - 1))=false:=le.2 (i - 1) (by rw [← B.len]; omega)
  have g:=behind_grows (f:=F.f) rx1 ry1 l1 wk.l0 (Int.le_refl _) wk.l1
  have bx:=behind_in (f:=F.f) rx1 wk.l0 wk.l1
  have byy:=behind_in (f:=F.f) ry1 wk.l0 wk.l1
  have li:∀ {a b:Int × Int},RowIn F.h a→RowIn F.h b→RowIn F.h (laterI a b):=fun {a b} ha hb=>by
   unfold laterI
   split
   ·exact hb
   ·exact ha
  refine first_grows (li rx bx) (li ry byy) ?_ (Int.le_refl _) wk.l1
  exact later_le (le_tr l0 (later_ge1 _ _)) (le_tr g (later_ge2 _ _))
 ·rw [if_neg c,if_neg c]
  exact first_grows rx ry l0 (Int.le_refl _) wk.l1
theorem raised_grows (B:BkOk F ds xs) (C:BkOk F ds ys) (le:PlsLe xs ys) {i:Nat} (hi:i < ds.length) : sooner (raisedI F ds ys i) (raisedI F ds xs i)=false:=by
 have l0:sooner (xAt ys i) (xAt xs i)=false:=le.2 i (by rw [← B.len]; exact hi)
 obtain ⟨g1,g2⟩:=best_ge (allTold F ds ys i) (xAt ys i)
 have gi:sooner (raisedI F ds ys i) (xAt ys i)=false:=g1
 have gm:∀ x,some x ∈ allTold F ds ys i→sooner (raisedI F ds ys i) x=false:=g2
 have hmem:dAt ds i ∈ ds:=List.mem_of_getElem? (B.d hi).1
 refine best_le _ _ _ (le_tr l0 gi) fun x hx=>?_
 rcases all_mem.mp hx with h | h | h | ⟨j,hj,h⟩ | ⟨j,hj,h⟩
 ·rw [h]
  exact le_tr (behind_told_grows B C le hi) (gm _ (all_mem.mpr (.inl rfl)))
 ·unfold toldKept at h
  split at h
  ·cases h
  ·rename_i c
   cases h
   have hi1:i+1 < ds.length:=by omega
   refine le_tr (y:=((xAt ys (i+1)).1,0)) ?_ (gm _ (all_mem.mpr (.inr (.inl ?_))))
   ·have l1:sooner (xAt ys (i+1)) (xAt xs (i+1))=false:=le.2 (i+1) (by rw [← B.len]; exact hi1)
    rw [not_sooner] at l1 ⊢
    simp only
    omega
   ·unfold toldKept
    rw [if_neg c]
 ·unfold toldNever at h
  split at h
  ·cases h
  ·rename_i c
   cases h
   refine gm _ (all_mem.mpr (.inr (.inr (.inl ?_))))
   unfold toldNever
   have w1:=wide_grows B C le hmem
   have w2:=foot_grows B C le hmem
   rw [if_neg (by omega)]
 ·unfold toldWide at h
  split at h
  ·cases h
  ·rename_i c
   cases h
   have w1:=wides_grow B C le j i
   have hj2:j < ds.length:=by omega
   have l1:sooner (xAt ys j) (xAt xs j)=false:=le.2 j (by rw [← B.len]; exact hj2)
   refine le_tr (behind_grows (f:=F.f) (B.x hj2).1 (C.x hj2).1 l1 (by decide) (Int.le_refl _) (by decide)) (gm _ (all_mem.mpr (.inr (.inr (.inr (.inl ⟨j,hj,?_⟩))))))
   unfold toldWide
   rw [if_neg (by omega)]
 ·unfold toldHigh at h
  split at h
  ·cases h
  ·rename_i c
   cases h
   have w1:=highs_grow B C le j i
   have hj2:j < ds.length:=by omega
   have l1:sooner (xAt ys j) (xAt xs j)=false:=le.2 j (by rw [← B.len]; exact hj2)
   have rx:=(C.x hi).1.r1
   by_cases c2:(xAt xs i).1 < (xAt ys i).1
   ·refine le_tr ?_ gi
    rw [not_sooner]
    simp only
    omega
   ·rw [not_sooner] at l0 l1
    have e1:(xAt ys i).1=(xAt xs i).1:=by omega
    refine gm _ (all_mem.mpr (.inr (.inr (.inr (.inr ⟨j,hj,?_⟩)))))
    unfold toldHigh
    rw [if_neg (by omega),e1]
end
section
variable {F:Frm} {ds:List Wd} {xs ys:List (Int × Int)} {i:Nat}
def Fixd (F:Frm) (ds:List Wd) (xs:List (Int × Int)) : Prop:=∀ i,i < ds.length→raisedI F ds xs i=xAt xs i
def Pages (m:Int) (xs:List (Int × Int)) : Prop:=∀ x ∈ xs,x.1 < m
def LowX (F:Frm) (ds:List Wd) (xs:List (Int × Int)) : Prop:=∀ X,BkOk F ds X→Fixd F ds X→PlsLe xs X
theorem later_in {h:Int} {a b:Int × Int} (ha:RowIn h a) (hb:RowIn h b) : RowIn h (laterI a b):=by
 unfold laterI
 split
 ·exact hb
 ·exact ha
theorem later_pg {n:Int} {a b:Int × Int} (ha:a.1≤n) (hb:b.1≤n) : (laterI a b).1≤n:=by
 unfold laterI
 split
 ·exact hb
 ·exact ha
theorem behind_pg {h f l:Int} {x:Int × Int} (h0:0≤l) (h1:l≤4) : (behindI h f x l).1≤x.1+2:=by
 obtain ⟨q,s,e,d⟩:=behind_desc h f l x.1 x.2 h0 h1
 rw [show x=(x.1,x.2) from rfl,e]
 simp only
 omega
theorem first_pg {f l:Int} {x:Int × Int} : (firstFrom f x l).1≤x.1+1:=by
 obtain ⟨q,s,e,d⟩:=first_desc f l x.1 x.2
 rw [show x=(x.1,x.2) from rfl,e]
 simp only
 omega
theorem told_ok (B:BkOk F ds xs) (hi:i < ds.length) {n:Int} (hn:∀ k,k < ds.length→(xAt xs k).1≤n) (hm:F.m≤n+3) {x:Int × Int} (hx:some x ∈ allTold F ds xs i) : RowIn F.h x∧x.1≤n+3:=by
 have wk:=(B.d hi).2
 have rx:=(B.x hi).1
 have h1:=B.fo.h1
 rcases all_mem.mp hx with e | e | e | ⟨j,hj,e⟩ | ⟨j,hj,e⟩
 ·rw [e]
  unfold toldBehind
  by_cases c:0 < i
  ·rw [if_pos c]
   have rx1:=(B.x (show i - 1 < ds.length by omega)).1
   have bx:=behind_in (f:=F.f) rx1 wk.l0 wk.l1
   have p1:=behind_pg (h:=F.h) (f:=F.f) (x:=xAt xs (i - 1)) wk.l0 wk.l1
   have p2:=hn (i - 1) (by omega)
   have p3:=hn i hi
   have p4:=later_pg (n:=n+2) (a:=xAt xs i) (b:=behindI F.h F.f (xAt xs (i - 1)) (dAt ds i).lead) (by omega) (by omega)
   have p5:=first_pg (f:=F.f) (l:=(dAt ds i).lead) (x:=laterI (xAt xs i) (behindI F.h F.f (xAt xs (i - 1)) (dAt ds i).lead))
   exact ⟨first_in (later_in rx bx),by omega⟩
  ·rw [if_neg c]
   have p3:=hn i hi
   have p5:=first_pg (f:=F.f) (l:=(dAt ds i).lead) (x:=xAt xs i)
   exact ⟨first_in rx,by omega⟩
 ·unfold toldKept at e
  split at e
  ·cases e
  ·rename_i c
   cases e
   have hi1:i+1 < ds.length:=by omega
   have p:=hn (i+1) hi1
   have r:=(B.x hi1).1
   exact ⟨⟨r.p1,Int.le_refl 0,by show (0:Int) < F.h; omega⟩,by show (xAt xs (i+1)).1≤_; omega⟩
 ·unfold toldNever at e
  split at e
  ·cases e
  ·cases e
   have m1:=B.fo.m1
   exact ⟨⟨by show 0≤F.m; omega,Int.le_refl 0,by show (0:Int) < F.h; omega⟩,hm⟩
 ·unfold toldWide at e
  split at e
  ·cases e
  ·cases e
   have hj2:j < ds.length:=by omega
   have p:=hn j hj2
   have p1:=behind_pg (h:=F.h) (f:=F.f) (l:=1) (x:=xAt xs j) (by decide) (by decide)
   exact ⟨behind_in (B.x hj2).1 (by decide) (by decide),by omega⟩
 ·unfold toldHigh at e
  split at e
  ·cases e
  ·cases e
   have p:=hn i hi
   have r:=rx.p1
   exact ⟨⟨by show 0≤(xAt xs i).1+1; omega,Int.le_refl 0,by show (0:Int) < F.h; omega⟩,by show (xAt xs i).1+1≤_; omega⟩
theorem raised_up:sooner (raisedI F ds xs i) (xAt xs i)=false:=(best_ge _ _).1
theorem xAt_set {k:Nat} {y:Int × Int} (hi:i < xs.length) : xAt (xs.set i y) k=if k=i then y else xAt xs k:=by
 show (xs.set i y).getD k (0,0)=if k=i then y else xs.getD k (0,0)
 rw [List.getD_eq_getElem?_getD,List.getElem?_set]
 by_cases c:i=k
 ·subst c
  rw [if_pos rfl,if_pos rfl,if_pos hi]
  rfl
 ·rw [if_neg c,if_neg (Ne.symm c),← List.getD_eq_getElem?_getD]
theorem xAt_mem {k:Nat} (hk:k < xs.length) : xAt xs k ∈ xs:=by
 show xs.getD k (0,0) ∈ xs
 rw [List.getD_eq_getElem?_getD,List.getElem?_eq_getElem hk]
 exact List.getElem_mem hk
theorem BkOk.set (B:BkOk F ds xs) {y:Int × Int} (r:RowIn F.h y) (b:y.1 < 10 ^ 60) : BkOk F ds (xs.set i y):=⟨B.fo,by rw [List.length_set]; exact B.len,B.wd,B.po.set i r b,B.n⟩
theorem LowX.zero (e:xs.length=ds.length) (z:∀ x ∈ xs,x=(0,0)) : LowX F ds xs:=by
 intro X C _
 refine ⟨by rw [e,C.len],fun k hk=>?_⟩
 have h1:=z _ (xAt_mem hk)
 show sooner (xAt X k) (xAt xs k)=false
 rw [h1]
 have r:=(C.x (i:=k) (by omega)).1
 have p:=r.p1
 have q:=r.r1
 rw [not_sooner]
 simp only
 omega
theorem places_eq (e:xs.length=ys.length) (h:∀ k,k < xs.length→xAt xs k=xAt ys k) : xs=ys:=by
 refine List.ext_getElem e fun k h1 h2=>?_
 have:=h k h1
 simp only [xAt,List.getD_eq_getElem?_getD,List.getElem?_eq_getElem h1,List.getElem?_eq_getElem h2,Option.getD_some] at this
 exact this
theorem fix_not (B:BkOk F ds xs) (C:BkOk F ds ys) (f2:Fixd F ds ys) (L1:LowX F ds xs) (pg:Pages F.m ys) {k:Nat} (hk:k < ds.length) (h:F.m≤(xAt xs k).1) : False:=by
 have a:=(L1 ys C f2).2 k (by rw [← B.len]; exact hk)
 have p:=pg _ (xAt_mem (show k < ys.length by rw [← C.len]; exact hk))
 have a':sooner (xAt ys k) (xAt xs k)=false:=a
 rw [not_sooner] at a'
 omega
def rank (h:Int) (x:Int × Int) : Int:=x.1 * h+x.2
theorem rank_lt {h:Int} {x y:Int × Int} (rx:RowIn h x) (ry:RowIn h y) (s:sooner x y=true) : rank h x+1≤rank h y:=by
 rw [sooner_iff] at s
 unfold rank
 have h0:0 < h:=by have:=rx.r1; have:=rx.r2; omega
 have a:=rx.r2
 have b:=ry.r1
 rcases s with s | ⟨s1,s2⟩
 ·have:(x.1+1) * h≤y.1 * h:=Int.mul_le_mul_of_nonneg_right (by omega) (by omega)
  rw [Int.add_mul] at this
  omega
 ·rw [s1]
  omega
theorem sum_set {f:Int × Int→Int} {y:Int × Int} : ∀ {xs:List (Int × Int)} {i:Nat},i < xs.length→((xs.set i y).map f).sum=(xs.map f).sum - f (xAt xs i)+f y
 | [],i,h=>absurd h (Nat.not_lt_zero _)
 | x :: r,0,h=>by
  show (f y :: r.map f).sum=(f x :: r.map f).sum - f x+f y
  rw [List.sum_cons,List.sum_cons]
  omega
 | x :: r,i+1,h=>by
  have:=sum_set (f:=f) (y:=y) (xs:=r) (i:=i) (by simpa using h)
  show (f x :: (r.set i y).map f).sum=(f x :: r.map f).sum - f (xAt r i)+f y
  rw [List.sum_cons,List.sum_cons,this]
  omega
theorem sum_bound {f:Int × Int→Int} {c:Int} : ∀ (xs:List (Int × Int)),(∀ x ∈ xs,f x≤c)→(xs.map f).sum≤xs.length * c
 | [],_=>by simp
 | x :: r,h=>by
  have h1:=h x List.mem_cons_self
  have h2:=sum_bound r fun y hy=>h y (List.mem_cons_of_mem _ hy)
  rw [List.map_cons,List.sum_cons,List.length_cons,Int.natCast_succ,Int.add_mul]
  omega
theorem rank_small {h m:Int} {x:Int × Int} (r:RowIn h x) (p:x.1 < m) : rank h x≤h * m:=by
 unfold rank
 have h0:0≤h:=by have:=r.r1; have:=r.r2; omega
 have:=Int.mul_le_mul_of_nonneg_right (show x.1+1≤m by omega) h0
 rw [Int.add_mul] at this
 have e:=Int.mul_comm m h
 have a:=r.r2
 omega
theorem fix_told (fx:Fixd F ds xs) (hi:i < ds.length) {x:Int × Int} (h:some x ∈ allTold F ds xs i) : sooner (xAt xs i) x=false:=by
 have:=(best_ge (allTold F ds xs i) (xAt xs i)).2 x h
 have e:bestOf (xAt xs i) (allTold F ds xs i)=xAt xs i:=fx i hi
 rw [e] at this
 exact this
theorem fix_lead (B:BkOk F ds xs) (fx:Fixd F ds xs) (hi:i < ds.length) : firstFrom F.f (xAt xs i) (dAt ds i).lead=xAt xs i∧(0 < i→sooner (xAt xs i) (behindI F.h F.f (xAt xs (i - 1)) (dAt ds i).lead)=false):=by
 have t:=fix_told fx hi (all_mem.mpr (.inl rfl))
 have wk:=(B.d hi).2
 have rx:=(B.x hi).1
 unfold toldBehind at t
 by_cases c:0 < i
 ·rw [if_pos c] at t
  have rx1:=(B.x (show i - 1 < ds.length by omega)).1
  have bx:=behind_in (f:=F.f) rx1 wk.l0 wk.l1
  have lb:=later_in rx bx
  have t2:=le_tr (first_self (f:=F.f) (l:=(dAt ds i).lead) lb) t
  have t3:=later_ge1 (xAt xs i) (behindI F.h F.f (xAt xs (i - 1)) (dAt ds i).lead)
  have e:=le_anti t2 t3
  rw [e] at t
  refine ⟨le_anti t (first_self rx),fun _=>?_⟩
  rw [← e]
  exact later_ge2 _ _
 ·rw [if_neg c] at t
  exact ⟨le_anti t (first_self rx),fun z=>absurd z c⟩
theorem fix_kept (B:BkOk F ds xs) (fx:Fixd F ds xs) (hi:i+1 < ds.length) (k:(dAt ds (i+1)).kept=true) : (xAt xs i).1=(xAt xs (i+1)).1:=by
 have t:=fix_told fx (show i < ds.length by omega) (x:=((xAt xs (i+1)).1,0)) (all_mem.mpr (.inr (.inl (by
  unfold toldKept
  rw [if_neg (by rw [k]; intro z; rcases z with z | z; omega; cases z)]))))
 have wk:=(B.d hi).2
 have l:=(fix_lead B fx hi).2 (Nat.succ_pos _)
 have l2:=le_tr (behind_self (f:=F.f) (B.x (show i < ds.length by omega)).1 wk.l0 wk.l1) l
 rw [not_sooner] at t l2
 simp only at t
 omega
theorem fix_never (fx:Fixd F ds xs) (pg:(xAt xs i).1 < F.m) (hi:i < ds.length) : wideW F xs (dAt ds i)≤F.w∧highW F xs (dAt ds i)+1≤F.h:=by
 by_cases c:wideW F xs (dAt ds i)≤F.w∧highW F xs (dAt ds i)+1≤F.h
 ·exact c
 ·have t:=fix_told fx hi (x:=(F.m,0)) (all_mem.mpr (.inr (.inr (.inl (by unfold toldNever; rw [if_neg c])))))
  rw [not_sooner] at t
  simp only at t
  omega
theorem fix_wide (B:BkOk F ds xs) (fx:Fixd F ds xs) (pg:(xAt xs i).1 < F.m) (hi:i < ds.length) {j:Nat} (hj:j≤i) (e:xAt xs j=xAt xs i) : together (wides F ds xs j i)≤F.w:=by
 by_cases c:j=i
 ·subst c
  have h:=(fix_never fx pg hi).1
  have:together (wides F ds xs j j)=wideW F xs (dAt ds j):=by
   have hs:segD ds j j=[dAt ds j]:=by
    unfold segD
    have hj2:j < ds.length:=hi
    rw [show j+1 - j=1 by omega,List.drop_eq_getElem_cons hj2,List.take_succ_cons,List.take_zero]
    congr 1
    show ds[j]=ds.getD j wd0
    rw [List.getD_eq_getElem?_getD,List.getElem?_eq_getElem hj2]
    rfl
   unfold together wides
   rw [hs]
   simp
  omega
 ·by_cases c2:together (wides F ds xs j i)≤F.w
  ·exact c2
  ·have t:=fix_told fx hi (x:=behindI F.h F.f (xAt xs j) 1) (all_mem.mpr (.inr (.inr (.inr (.inl ⟨j,by omega,by unfold toldWide; rw [if_neg c2]⟩)))))
   have r:=(B.x hi).1
   have r1:=r.r1
   obtain ⟨q,s,e1,d⟩:=behind_desc F.h F.f 1 (xAt xs i).1 (xAt xs i).2 (by decide) (by decide)
   rw [e,show xAt xs i=((xAt xs i).1,(xAt xs i).2) from rfl,e1,not_sooner] at t
   simp only at t
   omega
theorem fix_high (fx:Fixd F ds xs) (hi:i < ds.length) {j:Nat} (hj:j≤i) (e:(xAt xs j).1=(xAt xs i).1) : (xAt xs i).2+1+(highs F ds xs j i).sum≤F.h:=by
 by_cases c:(xAt xs i).2+1+(highs F ds xs j i).sum≤F.h
 ·exact c
 ·have t:=fix_told fx hi (x:=((xAt xs i).1+1,0)) (all_mem.mpr (.inr (.inr (.inr (.inr ⟨j,by omega,by unfold toldHigh; rw [if_neg (by omega)]⟩)))))
  rw [not_sooner] at t
  simp only at t
  omega
def segP (ds:List Wd) (j k:Nat) : List Wd:=(ds.drop j).take (k - j)
theorem segP_self (k:Nat) : segP ds k k=[]:=by unfold segP; simp
theorem segP_snoc {j k:Nat} (hj:j≤k) (hk:k < ds.length) : segD ds j k=segP ds j k++[dAt ds k]:=by
 unfold segD segP
 have e:(ds.drop j)[k - j]? = some (dAt ds k):=by
  rw [List.getElem?_drop,show j+(k - j)=k by omega]
  show _=some (ds.getD k wd0)
  rw [List.getD_eq_getElem?_getD,List.getElem?_eq_getElem hk]
  rfl
 rw [show k+1 - j=(k - j)+1 by omega,take_snoc e]
theorem wide_snoc {j k:Nat} (hj:j≤k) (hk:k < ds.length) : together ((segP ds j k).map (wideW F xs))+1+wideW F xs (dAt ds k)=together (wides F ds xs j k):=by
 unfold together wides
 rw [segP_snoc hj hk,List.map_append,List.sum_append,List.length_append]
 simp
 omega
end
theorem eq_pl2 (x y:Int × Int) : eqVs (pl x) (pl y)=decide (x=y):=by
 obtain ⟨a,b⟩:=x
 obtain ⟨c,d⟩:=y
 show ((a == c) && ((b == d) && true))=decide ((a,b)=(c,d))
 by_cases h1:a=c
 ·by_cases h2:b=d
  ·simp [h1,h2]
  ·simp [h1,h2]
 ·simp [h1]
theorem PlsA.dq {K:PySem.W.Frag} {H:Hp} {as bs:List Addr} {xs:List (Int × Int)} (h1:PlsA K H as xs) (h2:PlsA K H bs xs) : ∀ (i:Nat) x y,(as.map V.ref)[i]? = some x→(bs.map V.ref)[i]? = some y→Dq K H 1 x y:=by
 intro i x y e e'
 rw [List.getElem?_map] at e e'
 cases ea:as[i]? with
 | none=>rw [ea] at e; cases e
 | some a =>
  cases eb:bs[i]? with
  | none=>rw [eb] at e'; cases e'
  | some b =>
   rw [ea] at e
   rw [eb] at e'
   cases e
   cases e'
   have hi:i < xs.length:=by rw [← h1.1]; exact (List.getElem?_eq_some_iff.mp ea).1
   refine .inr ⟨a,b,_,_,rfl,rfl,.inr ⟨h1.2 i a xs[i] ea (List.getElem?_eq_getElem hi),h2.2 i b xs[i] eb (List.getElem?_eq_getElem hi)⟩,rfl,fun j u v eu ev=>?_⟩
   rw [eu] at ev
   cases ev
   match j,eu with
   | 0,eu=>cases eu; exact .inl ⟨rfl,rfl,eqV_refl rfl⟩
   | 1,eu=>cases eu; exact .inl ⟨rfl,rfl,eqV_refl rfl⟩
theorem rep1 {α:Type} (x:α) : ∀ n:Nat,(List.replicate n [x]).flatten=List.replicate n x
 | 0=>rfl
 | n+1=>by rw [List.replicate_succ,List.flatten_cons,rep1 x n]; rfl
theorem PlsA.rep {K:PySem.W.Frag} {H:Hp} {a:Addr} {x:Int × Int} (n:Nat) (h:SqT K H a (pl x)) : PlsA K H (List.replicate n a) (List.replicate n x):=by
 refine ⟨by simp,fun i b y e e'=>?_⟩
 rw [List.getElem?_replicate] at e e'
 split at e
 ·rename_i c
  rw [if_pos c] at e'
  cases e
  cases e'
  exact h
 ·cases e
section
variable {X:Cx} {elts:List Expr} {k1:Nat} {tp:Pos}
end
end L2

set_option maxHeartbeats 4000000
namespace PySem
abbrev IsZ2 (h:Heap) (z TI TO:Addr) (f0 f1:Value) : Prop:=
 h.get? z=some { cls:=.type "zip",dict:=none,data:=.fields #[f0,f1,.bool false,.ref TI,.ref TO],slots:=#[] }
section
variable {prog:Program} {w:World} {A:Around} {E:Value→Shared→Prop} {s:Shared}
theorem wpAny_alive {M:Model} {a:Addr} {o:Obj} {Q:Option Obj→Shared→Prop} (ho:s.heap.get? a=some o) (h:Q (some o) s) : wpAny M A (loadIfAlive a) Q E s:=fun Γ p _=>by
 unfold loadIfAlive
 rw [Sem.wp_loadIfAlive,ho]
 exact h
theorem zip_again {z TI TO i1 i2 l1 l2 T:Addr} {k1 k2:Nat} {xs ys:Array Value} {x y:Value} {b:Bool} {oT:Obj} {Q:Value→Shared→Prop} (D:ZipApart z TI TO i1 i2 l1 l2)
  (hz:IsZ2 s.heap z TI TO (rawInt T) (.bool b)) (hT:s.heap.get? T=some oT) (hTI:IsPair s.heap TI (.ref i1) (.ref i2))
  (h1:s.heap.IsListIter i1 l1 k1) (h2:s.heap.IsListIter i2 l2 k2) (hl1:s.heap.IsList l1 xs) (hl2:s.heap.IsList l2 ys) (hx:xs[k1]? = some x) (hy:ys[k2]? = some y)
  (hQ:∀ h',IsZ2 h' z TI TO (rawInt T) (.bool true)→h'.IsListIter i1 l1 (k1+1)→h'.IsListIter i2 l2 (k2+1)→IsPair h' s.heap.objs.size x y→h'.objs.size=s.heap.objs.size+1 →
   (∀ c o,c≠z→c≠i1→c≠i2→s.heap.get? c=some o→h'.get? c=some o)→Q (.ref s.heap.objs.size) { s with heap:=h' }) :
  wpAny (model prog w) A (Builtin.«zip.__next__» ⟨[.ref z],[]⟩) (fun fin s'=>∃ v,fin = .done (.ret v)∧Q v s') E s:=by
 show wpAny _ _ (field (.ref z) 2 >>= _) _ _ _
 refine wpAny_bind (wpAny_field hz rfl (x:=.bool false) rfl ?_); skip
 show wpAny _ _ (field (.ref z) 3 >>= _) _ _ _
 refine wpAny_bind (wpAny_field hz rfl (x:=.ref TI) rfl (wpAny_bind (wpAny_seqItems hTI rfl ?_)))
 show wpAny _ _ (Builtin.SmallTypes.ownedTupleIsFree (.ref z) >>= _) _ _ _
 have step:∀ (Q':Bool→Shared→Prop) (E':Value→Shared→Prop),(∀ h',IsZ2 h' z TI TO (rawInt T) (.bool true)→Heap.SameBut z s.heap h'→Q' false { s with heap:=h' })→wpAny (model prog w) A (Builtin.SmallTypes.ownedTupleIsFree (.ref z)) Q' E' s:=by
  intro Q' E' h
  unfold Builtin.SmallTypes.ownedTupleIsFree
  refine wpAny_bind (wpAny_field hz rfl (x:=rawInt T) rfl ?_); skip
  show wpAny _ _ (loadIfAlive (T:Int).toNat >>= _) _ _ _
  refine wpAny_bind (wpAny_alive (by rw [Int.toNat_natCast]; exact hT) ?_); skip
  show wpAny _ _ (field (.ref z) 1 >>= _) _ _ _
  refine wpAny_bind (wpAny_field hz rfl (x:=.bool b) rfl ?_); skip
  cases b with
  | true=>exact wpAny_pure (h s.heap hz (Heap.SameBut.refl ..))
  | false =>
   refine wpAny_bind (wpAny_setField_rec hz (by simp) fun h' hz' hs'=>wpAny_pure (h h' hz' hs'))
 refine wpAny_bind (step _ _ fun h₁ hz₁ hs₁=>?_)
 simp only [Bool.false_eq_true,if_false]
 rw [← Array.forIn_toList]
 simp only [List.forIn_cons,List.forIn_nil]
 refine wpAny_bind (wpAny_bind (wpAny_bind (wpAny_holding ?_)))
 show wpAny _ _ (Builtin.SmallTypes.nextOf (.ref i1) >>= _) _ _ _
 refine wpAny_bind (wpAny_nextOf_list_item (h1.extBut hs₁.extBut D.i1z) (hl1.extBut hs₁.extBut D.l1z) hx fun h₂ h1₂ hs₂=>wpAny_pure (wpAny_pure ?_))
 refine wpAny_bind (wpAny_bind (wpAny_holding ?_))
 show wpAny _ _ (Builtin.SmallTypes.nextOf (.ref i2) >>= _) _ _ _
 refine wpAny_bind (wpAny_nextOf_list_item ((h2.extBut hs₁.extBut D.i2z).extBut hs₂.extBut D.i12.symm) ((hl2.extBut hs₁.extBut D.l2z).extBut hs₂.extBut D.l2i1) hy fun h₄ h2₄ hs₄=>wpAny_pure (wpAny_pure (wpAny_pure ?_)))
 have hsz:h₄.objs.size=s.heap.objs.size:=by rw [hs₄.1,hs₂.1,hs₁.1]
 have hz₄:IsZ2 h₄ z TI TO (rawInt T) (.bool true):=hs₄.extBut _ _ D.i2z.symm (hs₂.extBut _ _ D.i1z.symm hz₁)
 have hk:∀ c o,c≠z→c≠i1→c≠i2→s.heap.get? c=some o→h₄.get? c=some o:=fun c o c1 c2 c3 e=>hs₄.extBut _ _ c3 (hs₂.extBut _ _ c2 (hs₁.extBut _ _ c1 e))
 refine wpAny_bind (wpAny_newTuple (hsz:=(show 2≤sizeLine by decide)) (wpAny_pure ⟨_,rfl,?_⟩))
 show Q (.ref h₄.objs.size) _
 have hp:IsPair (h₄.push { cls:=.type "tuple",data:=.seq #[x,y] }) h₄.objs.size x y:=Heap.get?_push_size _ rfl
 have hps:(h₄.push { cls:=.type "tuple",data:=.seq #[x,y] }).objs.size=h₄.objs.size+1:=Heap.size_push ..
 rw [hsz] at hp hps ⊢
 exact hQ _ (Heap.get?_push_of_some _ hz₄) (((h1₂.extBut hs₄.extBut D.i12)).at fun o e=>Heap.get?_push_of_some _ e) (h2₄.at fun o e=>Heap.get?_push_of_some _ e) hp hps fun c o c1 c2 c3 e=>Heap.get?_push_of_some _ (hk c o c1 c2 c3 e)
theorem next_again {z TI TO i1 i2 l1 l2 T:Addr} {k1 k2:Nat} {xs ys:Array Value} {x y:Value} {b:Bool} {oT:Obj} {Q:Option Value→Shared→Prop} (D:ZipApart z TI TO i1 i2 l1 l2)
  (hz:IsZ2 s.heap z TI TO (rawInt T) (.bool b)) (hT:s.heap.get? T=some oT) (hTI:IsPair s.heap TI (.ref i1) (.ref i2))
  (h1:s.heap.IsListIter i1 l1 k1) (h2:s.heap.IsListIter i2 l2 k2) (hl1:s.heap.IsList l1 xs) (hl2:s.heap.IsList l2 ys) (hx:xs[k1]? = some x) (hy:ys[k2]? = some y)
  (hQ:∀ h',IsZ2 h' z TI TO (rawInt T) (.bool true)→h'.IsListIter i1 l1 (k1+1)→h'.IsListIter i2 l2 (k2+1)→IsPair h' s.heap.objs.size x y→h'.objs.size=s.heap.objs.size+1 →
   (∀ c o,c≠z→c≠i1→c≠i2→s.heap.get? c=some o→h'.get? c=some o)→Q (some (.ref s.heap.objs.size)) { s with heap:=h' }) :
  wpAny (model prog w) A (pyNext (.ref z)) Q E s:=by
 have hTy:s.TypeIs (.ref z) "zip":=⟨_,hz,rfl⟩
 unfold pyNext
 exact wpAny_bind (wpAny_attempt (wpAny_callSpecial?_slot (name:=Str.ofString "__next__") hTy F.slot_zip_next
  (wpAny_call_entry F.slot_zip_next hTy F.entry_zip_next (zip_again D hz hT hTI h1 h2 hl1 hl2 hx hy fun h' a1 a2 a3 a4 a5 a6=>wpAny_pure (hQ h' a1 a2 a3 a4 a5 a6)) (F.args_zip_next_1 _))))
theorem zip_end2 {z TI TO i1 i2 l1 l2 T:Addr} {k1:Nat} {xs:Array Value} {b:Bool} {oT:Obj} {Q:Fin→Shared→Prop} (hh:A.handled=none) (D:ZipApart z TI TO i1 i2 l1 l2)
  (hz:IsZ2 s.heap z TI TO (rawInt T) (.bool b)) (hT:s.heap.get? T=some oT) (hTI:IsPair s.heap TI (.ref i1) (.ref i2))
  (h1:s.heap.IsListIter i1 l1 k1) (hl1:s.heap.IsList l1 xs) (hend:xs[k1]? = none)
  (hE:∀ h' e,(∀ c o,c≠z→c≠i1→s.heap.get? c=some o→h'.get? c=some o)→(∃ o,h'.get? e=some o∧o.cls = .type "StopIteration")→E (.ref e) { s with heap:=h' }) :
  wpAny (model prog w) A (Builtin.«zip.__next__» ⟨[.ref z],[]⟩) Q E s:=by
 show wpAny _ _ (field (.ref z) 2 >>= _) _ _ _
 refine wpAny_bind (wpAny_field hz rfl (x:=.bool false) rfl ?_); skip
 show wpAny _ _ (field (.ref z) 3 >>= _) _ _ _
 refine wpAny_bind (wpAny_field hz rfl (x:=.ref TI) rfl (wpAny_bind (wpAny_seqItems hTI rfl ?_)))
 show wpAny _ _ (Builtin.SmallTypes.ownedTupleIsFree (.ref z) >>= _) _ _ _
 have step:∀ (Q':Bool→Shared→Prop) (E':Value→Shared→Prop),(∀ h',IsZ2 h' z TI TO (rawInt T) (.bool true)→Heap.SameBut z s.heap h'→Q' false { s with heap:=h' })→wpAny (model prog w) A (Builtin.SmallTypes.ownedTupleIsFree (.ref z)) Q' E' s:=by
  intro Q' E' h
  unfold Builtin.SmallTypes.ownedTupleIsFree
  refine wpAny_bind (wpAny_field hz rfl (x:=rawInt T) rfl ?_); skip
  show wpAny _ _ (loadIfAlive (T:Int).toNat >>= _) _ _ _
  refine wpAny_bind (wpAny_alive (by rw [Int.toNat_natCast]; exact hT) ?_); skip
  show wpAny _ _ (field (.ref z) 1 >>= _) _ _ _
  refine wpAny_bind (wpAny_field hz rfl (x:=.bool b) rfl ?_); skip
  cases b with
  | true=>exact wpAny_pure (h s.heap hz (Heap.SameBut.refl ..))
  | false =>
   refine wpAny_bind (wpAny_setField_rec hz (by simp) fun h' hz' hs'=>wpAny_pure (h h' hz' hs'))
 refine wpAny_bind (step _ _ fun h₁ hz₁ hs₁=>?_)
 simp only [Bool.false_eq_true,if_false]
 rw [← Array.forIn_toList]
 simp only [List.forIn_cons,List.forIn_nil]
 refine wpAny_bind (wpAny_bind (wpAny_bind (wpAny_holding ?_)))
 show wpAny _ _ (Builtin.SmallTypes.nextOf (.ref i1) >>= _) _ _ _
 exact wpAny_bind (wpAny_nextOf_list_end hh (h1.extBut hs₁.extBut D.i1z) (hl1.extBut hs₁.extBut D.l1z) hend fun h₂ e hs₂ he=>hE h₂ e (fun c o c1 c2 x=>hs₂ _ _ c2 (hs₁.extBut _ _ c1 x)) he)
theorem next_end2 {z TI TO i1 i2 l1 l2 T:Addr} {k1:Nat} {xs:Array Value} {b:Bool} {oT:Obj} {Q:Option Value→Shared→Prop} (hh:A.handled=none) (D:ZipApart z TI TO i1 i2 l1 l2)
  (hz:IsZ2 s.heap z TI TO (rawInt T) (.bool b)) (hT:s.heap.get? T=some oT) (hTI:IsPair s.heap TI (.ref i1) (.ref i2)) (h1:s.heap.IsListIter i1 l1 k1) (hl1:s.heap.IsList l1 xs) (hend:xs[k1]? = none)
  (hQ:∀ h',(∀ c o,c≠z→c≠i1→s.heap.get? c=some o→h'.get? c=some o)→Q none { s with heap:=h' }) : wpAny (model prog w) A (pyNext (.ref z)) Q E s:=by
 have hTy:s.TypeIs (.ref z) "zip":=⟨_,hz,rfl⟩
 unfold pyNext
 refine wpAny_bind (wpAny_attempt (wpAny_callSpecial?_slot (name:=Str.ofString "__next__") hTy F.slot_zip_next
  (wpAny_call_entry F.slot_zip_next hTy F.entry_zip_next (zip_end2 hh D hz hT hTI h1 hl1 hend fun h' e hk he=>?_) (F.args_zip_next_1 _))))
 obtain ⟨o,ho,hc⟩:=he
 exact wpAny_bind (wpAny_isInstance (T := "StopIteration") (b:=true) ⟨o,ho,hc⟩ isSubtype_stop (wpAny_pure (hQ _ hk)))
def ZAt (z TI TO:Addr) (i:Nat) (h:Heap) : Prop:=(i=0∧IsZip h z TI TO .none)∨(0 < i∧∃ (T:Addr) (b:Bool) (oT:Obj),IsZ2 h z TI TO (rawInt T) (.bool b)∧h.get? T=some oT∧T ∉ [z,TO]∧oT.cls = .type "tuple")
theorem next_at {z TI TO i1 i2 l1 l2:Addr} {i:Nat} {xs ys:Array Value} {x y:Value} {Q:Option Value→Shared→Prop} (D:ZipApart z TI TO i1 i2 l1 l2) (hz:ZAt z TI TO i s.heap) (hTI:IsPair s.heap TI (.ref i1) (.ref i2)) (hTO:∃ u v,IsPair s.heap TO u v) (h1:s.heap.IsListIter i1 l1 i) (h2:s.heap.IsListIter i2 l2 i) (hl1:s.heap.IsList l1 xs) (hl2:s.heap.IsList l2 ys) (hx:xs[i]? = some x) (hy:ys[i]? = some y)
  (hQ:∀ h',ZAt z TI TO (i+1) h'→(∃ u v,IsPair h' TO u v)→h'.IsListIter i1 l1 (i+1)→h'.IsListIter i2 l2 (i+1)→IsPair h' s.heap.objs.size x y→h'.objs.size=s.heap.objs.size+1→(∀ c o,c≠z→c≠TO→c≠i1→c≠i2→s.heap.get? c=some o→h'.get? c=some o)→Q (some (.ref s.heap.objs.size)) { s with heap:=h' }) :
  wpAny (model prog w) A (pyNext (.ref z)) Q E s:=by
 obtain ⟨u,v,hTO⟩:=hTO
 rcases hz with ⟨i0,hz⟩ | ⟨i0,T,b,oT,hz,hT,nT,cT⟩
 ·refine wpAny_pyNext_zip_item D hz hTI hTO h1 h2 hl1 hl2 hx hy fun h' a1 a2 a3 a4 a5 a6 a7=>hQ h' (.inr ⟨Nat.succ_pos _,s.heap.objs.size,false,_,a1,a5,?_,rfl⟩) ⟨_,_,a2⟩ a3 a4 a5 a6 a7
  intro hm
  rcases List.mem_cons.mp hm with e | e
  ·exact absurd (Heap.lt_size hz) (by rw [← e]; exact Nat.lt_irrefl _)
  ·exact absurd (Heap.lt_size hTO) (by rw [← List.mem_singleton.mp e]; exact Nat.lt_irrefl _)
 ·have ni:∀ {j l:Addr} {k:Nat},s.heap.IsListIter j l k→T≠j:=fun hj e=>by
   obtain ⟨o,ho,hc,_⟩:=hj
   rw [← e,hT] at ho
   cases ho
   rw [cT] at hc
   simp at hc
  refine next_again D hz hT hTI h1 h2 hl1 hl2 hx hy fun h' a1 a2 a3 a4 a5 a6=>hQ h' (.inr ⟨Nat.succ_pos _,T,true,oT,a1,a6 T oT (fun e=>nT (by simp [e])) (ni h1) (ni h2) hT,nT,cT⟩) ⟨u,v,a6 TO _ D.TOz D.TOi1 D.TOi2 hTO⟩ a2 a3 a4 a5 fun c o c1 _ c3 c4 e=>a6 c o c1 c3 c4 e
theorem done_at {z TI TO i1 i2 l1 l2:Addr} {i:Nat} {xs ys:Array Value} {Q:Option Value→Shared→Prop} (hh:A.handled=none) (D:ZipApart z TI TO i1 i2 l1 l2) (hz:ZAt z TI TO i s.heap) (hTI:IsPair s.heap TI (.ref i1) (.ref i2)) (hTO:∃ u v,IsPair s.heap TO u v) (h1:s.heap.IsListIter i1 l1 i) (h2:s.heap.IsListIter i2 l2 i) (hl1:s.heap.IsList l1 xs) (hl2:s.heap.IsList l2 ys) (hx:xs[i]? = none)
  (hQ:∀ h',(∀ c o,c≠z→c≠TO→c≠i1→c≠i2→s.heap.get? c=some o→h'.get? c=some o)→Q none { s with heap:=h' }) : wpAny (model prog w) A (pyNext (.ref z)) Q E s:=by
 obtain ⟨u,v,hTO⟩:=hTO
 rcases hz with ⟨i0,hz⟩ | ⟨i0,T,b,oT,hz,hT,nT,cT⟩
 ·exact wpAny_pyNext_zip_end hh D hz hTI hTO h1 h2 hl1 hl2 (.inl hx) hQ
 ·exact next_end2 hh D hz hT hTI h1 hl1 hx fun h' hk=>hQ h' fun c o c1 _ c3 _ e=>hk c o c1 c3 e
end
section
variable {prog:Program} {w:World} {A:Around} {R:Result→Shared→Prop}
theorem ZAt.keep {z TI TO S:Addr} {i:Nat} {h h':Heap} {acc:Array Value} {c:Nat} (hz:ZAt z TI TO i h) (nz:S≠z) (hS:h.get? S=some { cls:=.type "list",dict:=none,data:=.seq acc c,slots:=#[] }) (k:∀ b o,b≠S→h.get? b=some o→h'.get? b=some o) : ZAt z TI TO i h':=by
 rcases hz with ⟨i0,hz⟩ | ⟨i0,T,b,oT,hz,hT,nT,cT⟩
 ·exact .inl ⟨i0,k z _ (Ne.symm nz) hz⟩
 ·refine .inr ⟨i0,T,b,oT,k z _ (Ne.symm nz) hz,k T _ (fun e=>?_) hT,nT,cT⟩
  rw [e,hS] at hT
  cases hT
  simp at cT
theorem zip_loop {z TI TO i1 i2 l1 l2 S:Addr} (hh:A.in1.handled=none) (D:ZipApart z TI TO i1 i2 l1 l2) (xs ys:Array Value) (el:xs.size=ys.size) (hn:xs.size≤sizeLine) (res:Value) (nS:S ∉ [z,TI,TO,i1,i2,l1,l2]) :
  ∀ (k i:Nat) (s:Shared) (acc:Array Value) (c:Nat),xs.size - i=k→i≤xs.size→ZAt z TI TO i s.heap→IsPair s.heap TI (.ref i1) (.ref i2)→(∃ u v,IsPair s.heap TO u v)→s.heap.IsListIter i1 l1 i→s.heap.IsListIter i2 l2 i→s.heap.IsList l1 xs→s.heap.IsList l2 ys →
  s.heap.get? S=some { cls:=.type "list",dict:=none,data:=.seq acc c,slots:=#[] }→acc.size=i →
  (∀ h' acc' c',(∀ b o,b ∉ [z,TO,i1,i2,S]→s.heap.get? b=some o→h'.get? b=some o)→h'.get? S=some { cls:=.type "list",dict:=none,data:=.seq acc' c',slots:=#[] }→acc'.size=xs.size→(∀ (j:Nat) v,acc'[j]? = some v→acc[j]? = some v∨(i≤j∧v = .ref (s.heap.objs.size+(j - i))∧∃ x y,xs[j]? = some x∧ys[j]? = some y∧IsPair h' (s.heap.objs.size+(j - i)) x y))→R (.ok (.ret res)) { s with heap:=h' }) →
  codeAny (model prog w) A (.builtin "list.extend.loop" ⟨[.ref S,.ref z,res],[]⟩) R s:=by
 have ns:∀ {b:Addr},b ∈ [z,TI,TO,i1,i2,l1,l2]→S≠b:=fun hb e=>nS (e ▸ hb)
 intro k
 induction k with
 | zero =>
  intro i s acc c e hi hz hTI hTO h1 h2 hl1 hl2 hS hacc hR
  refine codeAny_builtin F.entry_extend_loop (by
   rw [Around.under_plainId F.plain_extend_loop _]; refine wpAny_bind (m:=pyNext (.ref z)) (done_at hh D hz hTI hTO h1 h2 hl1 hl2 (Array.getElem?_eq_none (by omega)) fun h' hk=>wpAny_pure ?_); skip
   have kk:∀ b o,b ∉ [z,TO,i1,i2,S]→s.heap.get? b=some o→h'.get? b=some o:=fun b o hb q=>hk b o (fun e=>hb (by simp [e])) (fun e=>hb (by simp [e])) (fun e=>hb (by simp [e])) (fun e=>hb (by simp [e])) q
   exact hR h' acc c kk (hk S _ (ns (by simp)) (ns (by simp)) (ns (by simp)) (ns (by simp)) hS) (by omega) fun j v ev=>.inl ev)
 | succ k ih =>
  intro i s acc c e hi hz hTI hTO h1 h2 hl1 hl2 hS hacc hR
  have hlt:i < xs.size:=by omega
  have hlt2:i < ys.size:=by omega
  refine codeAny_builtin F.entry_extend_loop (by
   rw [Around.under_plainId F.plain_extend_loop _]; refine wpAny_bind (m:=pyNext (.ref z)) (next_at D hz hTI hTO h1 h2 hl1 hl2 (Array.getElem?_eq_getElem hlt) (Array.getElem?_eq_getElem hlt2) fun h' a1 a2 a3 a4 a5 a6 a7=>?_); skip
   have hS':=a7 S _ (ns (by simp)) (ns (by simp)) (ns (by simp)) (ns (by simp)) hS
   have oth:∀ b o,b≠S→h'.get? b=some o→(h'.update S (Obj.mapSeq (·.push (.ref s.heap.objs.size)))).get? b=some o:=fun b o hb q=>(Heap.get?_update_other _ _ (Ne.symm hb)).trans q
   have lt:∀ {b:Addr} {o:Obj},s.heap.get? b=some o→s.heap.objs.size≠b:=fun q=>Nat.ne_of_gt (Heap.lt_size q)
   have szl:s.heap.objs.size ∉ [z,TO,i1,i2,S]:=fun hm=>by
    have z':s.heap.objs.size=z∨s.heap.objs.size=TO∨s.heap.objs.size=i1∨s.heap.objs.size=i2∨s.heap.objs.size=S:=by simpa using hm
    rcases z' with z' | z' | z' | z' | z'
    ·rcases hz with ⟨_,q⟩ | ⟨_,_,_,_,q,_⟩
     ·exact lt q z'
     ·exact lt q z'
    ·obtain ⟨_,_,q⟩:=hTO; exact lt q z'
    ·obtain ⟨_,q,_⟩:=h1; exact lt q z'
    ·obtain ⟨_,q,_⟩:=h2; exact lt q z'
    ·exact lt hS z'
   have kl:∀ {b:Addr} {o:Obj},b≠z→b≠TO→b≠i1→b≠i2→b≠S→s.heap.get? b=some o→(h'.update S (Obj.mapSeq (·.push (.ref s.heap.objs.size)))).get? b=some o:=fun n1 n2 n3 n4 n5 q=>oth _ _ n5 (a7 _ _ n1 n2 n3 n4 q)
   have hsz:(h'.update S (Obj.mapSeq (·.push (.ref s.heap.objs.size)))).objs.size=s.heap.objs.size+1:=by rw [Heap.size_update]; exact a6
   refine wpAny_bind (m:=updateSeq S (·.push (.ref s.heap.objs.size))) (wpAny_updateSeq hS' rfl (wpAny_pure ⟨plainId_quiet F.plain_extend_loop _,ih (i+1) _ (acc.push (.ref s.heap.objs.size)) _ (by omega) hlt (a1.keep (ns (by simp)) hS' oth) (kl D.TIz D.TITO D.TIi1 D.TIi2 (Ne.symm (ns (by simp))) hTI) (let ⟨u,v,q⟩:=a2; ⟨u,v,oth _ _ (Ne.symm (ns (by simp))) q⟩) (a3.at fun o q=>oth _ o (Ne.symm (ns (by simp))) q) (a4.at fun o q=>oth _ o (Ne.symm (ns (by simp))) q) (hl1.at fun o q=>kl D.l1z D.l1TO D.l1i1 D.l1i2 (Ne.symm (ns (by simp))) q) (hl2.at fun o q=>kl D.l2z D.l2TO D.l2i1 D.l2i2 (Ne.symm (ns (by simp))) q) (Heap.get?_update_self _ hS' rfl) (by rw [Array.size_push,hacc]) fun h3 acc3 c3 k3 hS3 sz3 it3=>?_⟩) (by rw [hacc]; omega) (by show (acc.push _).size≤sizeLine+1; rw [Array.size_push,hacc]; omega)); skip
   refine hR h3 acc3 c3 (fun b o hb q=>k3 b o hb (kl (fun e=>hb (by simp [e])) (fun e=>hb (by simp [e])) (fun e=>hb (by simp [e])) (fun e=>hb (by simp [e])) (fun e=>hb (by simp [e])) q)) hS3 sz3 fun j v ev=>?_
   rcases it3 j v ev with q | ⟨q1,q2,x,y,q3,q4,q5⟩
   ·rw [Array.getElem?_push] at q
    split at q
    ·rename_i ej
     cases q
     have ej2:j=i:=by omega
     subst ej2
     refine .inr ⟨Nat.le_refl _,congrArg Value.ref (by rw [Nat.sub_self,Nat.add_zero]),_,_,Array.getElem?_eq_getElem hlt,Array.getElem?_eq_getElem hlt2,?_⟩
     rw [Nat.sub_self,Nat.add_zero]
     exact k3 _ _ szl (oth _ _ (fun e=>szl (by rw [e]; simp)) a5)
    ·exact .inl q
   ·have e2:s.heap.objs.size+1+(j - (i+1))=s.heap.objs.size+(j - i):=by omega
    have q2':v = .ref ((h'.update S (Obj.mapSeq (·.push (.ref s.heap.objs.size)))).objs.size+(j - (i+1))):=q2
    have q5':IsPair h3 ((h'.update S (Obj.mapSeq (·.push (.ref s.heap.objs.size)))).objs.size+(j - (i+1))) x y:=q5
    rw [hsz,e2] at q2' q5'
    exact .inr ⟨by omega,q2',x,y,q3,q4,q5'⟩)
end
namespace F
theorem zip_no_len:typeLookup (.type "zip") "__len__" = pure none:=by rw [typeLookup_type,builtinLookup_eq_fast]; kernel_rfl
theorem zip_no_hint:typeLookup (.type "zip") "__length_hint__" = pure none:=by rw [typeLookup_type,builtinLookup_eq_fast]; kernel_rfl
end F
section
variable {prog:Program} {w:World} {A:Around} {s:Shared} {R:Result→Shared→Prop}
theorem zip_extend {z TI TO i1 i2 l1 l2 S:Addr} {c₀:Nat} (hh:A.in1.handled=none) (D:ZipApart z TI TO i1 i2 l1 l2) {xs ys:Array Value} (el:xs.size=ys.size) (hn:xs.size≤sizeLine) (res:Value) (nS:S ∉ [z,TI,TO,i1,i2,l1,l2])
  (hz:IsZip s.heap z TI TO .none) (hTI:IsPair s.heap TI (.ref i1) (.ref i2)) (hTO:∃ u v,IsPair s.heap TO u v) (h1:s.heap.IsListIter i1 l1 0) (h2:s.heap.IsListIter i2 l2 0) (hl1:s.heap.IsList l1 xs) (hl2:s.heap.IsList l2 ys)
  (hS:s.heap.get? S=some { cls:=.type "list",data:=.seq #[] c₀ })
  (hR:∀ h' acc' c',(∀ b o,b ∉ [z,TO,i1,i2,S]→s.heap.get? b=some o→h'.get? b=some o)→h'.get? S=some { cls:=.type "list",dict:=none,data:=.seq acc' c',slots:=#[] }→acc'.size=xs.size→(∀ (j:Nat) v,acc'[j]? = some v→v = .ref (s.heap.objs.size+j)∧∃ x y,xs[j]? = some x∧ys[j]? = some y∧IsPair h' (s.heap.objs.size+j) x y)→R (.ok (.ret res)) { s with heap:=h' }) :
  wpAny (model prog w) A.in1 (Builtin.List.listExtendWith (.ref S) (.ref z) res)
   (fun fin s'=>match fin with | .done f=>R (.ok f) s' | .again c'=>c'.quiet=true∧codeAny (model prog w) A c' R s') (fun e s'=>R (.error e) s') s:=by
 have ns:∀ {b:Addr},b ∈ [z,TI,TO,i1,i2,l1,l2]→S≠b:=fun hb e=>nS (e ▸ hb)
 have hT:s.TypeIs (.ref z) "zip":=⟨_,hz,rfl⟩
 unfold Builtin.List.listExtendWith
 refine wpAny_bind (wpAny_typeOf hT ?_)
 have e1:Builtin.List.listSameRef (.ref S) (.ref z)=false:=by simp [Builtin.List.listSameRef,ns (b:=z) (by simp)]
 have e2:(Value.type "zip" == Value.type "list")=false:=by decide
 have e3:(Value.type "zip" == Value.type "tuple")=false:=by decide
 simp only [e1,e2,e3,Bool.or_false,Bool.false_eq_true,if_false]
 refine wpAny_bind (wpAny_pyIter_zip hz ?_)
 refine wpAny_bind (wpAny_holding ?_); skip
 unfold Builtin.List.listLengthHint
 refine wpAny_bind (wpAny_specialOf hT F.zip_no_len ?_)
 show wpAny _ A.in1 (specialOf (Value.ref z) (Str.ofString "__length_hint__") >>= _) _ _ _
 refine wpAny_bind (wpAny_specialOf hT F.zip_no_hint ?_)
 refine wpAny_pure ?_
 show wpAny _ A.in1 (rule "list.extend.makes-room" >>= fun _=>Builtin.List.listTouch (.ref S) >>= fun _=>again (.builtin "list.extend.loop" ⟨[.ref S,.ref z,res],[]⟩)) _ _ _
 refine wpAny_bind (wpAny_rule ?_)
 refine wpAny_bind ?_
 show wpAny _ A.in1 (updateSeq S (·.push .none) >>= fun _=>updateSeq S (·.pop)) _ _ s
 refine wpAny_bind (wpAny_updateSeq hS rfl ?_); skip
 have hS₂:=Heap.get?_update_self (Obj.mapSeq (·.push Value.none)) hS rfl
 refine wpAny_updateSeq (hz:=by seq_fits) hS₂ rfl ?_; skip
 have hS₃:=Heap.get?_update_self (Obj.mapSeq (·.pop)) hS₂ rfl
 have oth:∀ b o,b≠S→s.heap.get? b=some o→((s.heap.update S (Obj.mapSeq (·.push Value.none))).update S (Obj.mapSeq (·.pop))).get? b=some o:=fun b o hb e=>(Heap.get?_update_other _ _ (Ne.symm hb)).trans ((Heap.get?_update_other _ _ (Ne.symm hb)).trans e)
 have hsz:((s.heap.update S (Obj.mapSeq (·.push Value.none))).update S (Obj.mapSeq (·.pop))).objs.size=s.heap.objs.size:=by rw [Heap.size_update,Heap.size_update]
 refine wpAny_pure ⟨plainId_quiet F.plain_extend_loop _,zip_loop hh D xs ys el hn res nS xs.size 0 _ #[] _ rfl (Nat.zero_le _) (.inl ⟨rfl,oth _ _ (Ne.symm (ns (by simp))) hz⟩) (oth _ _ (Ne.symm (ns (by simp))) hTI) (let ⟨u,v,q⟩:=hTO; ⟨u,v,oth _ _ (Ne.symm (ns (by simp))) q⟩) (h1.at fun o q=>oth _ o (Ne.symm (ns (by simp))) q) (h2.at fun o q=>oth _ o (Ne.symm (ns (by simp))) q) (hl1.at fun o q=>oth _ o (Ne.symm (ns (by simp))) q) (hl2.at fun o q=>oth _ o (Ne.symm (ns (by simp))) q) hS₃ rfl fun h' acc' c' k hS' sz it=>?_⟩
 refine hR h' acc' c' (fun b o hb q=>k b o hb (oth b o (fun e=>hb (by simp [e])) q)) hS' sz fun j v ev=>?_
 rcases it j v ev with q | ⟨_,q2,x,y,q3,q4,q5⟩
 ·simp at q
 ·have q2':v = .ref (((s.heap.update S (Obj.mapSeq (·.push Value.none))).update S (Obj.mapSeq (·.pop))).objs.size+(j - 0)):=q2
  have q5':IsPair h' (((s.heap.update S (Obj.mapSeq (·.push Value.none))).update S (Obj.mapSeq (·.pop))).objs.size+(j - 0)) x y:=q5
  rw [hsz,Nat.sub_zero] at q2' q5'
  exact ⟨q2',x,y,q3,q4,q5'⟩
theorem zip_init {z TI TO i1 i2 l1 l2 S:Addr} (hh:A.in1.handled=none) (D:ZipApart z TI TO i1 i2 l1 l2) {xs ys:Array Value} (el:xs.size=ys.size) (hn:xs.size≤sizeLine) (nS:S ∉ [z,TI,TO,i1,i2,l1,l2])
  (hz:IsZip s.heap z TI TO .none) (hTI:IsPair s.heap TI (.ref i1) (.ref i2)) (hTO:∃ u v,IsPair s.heap TO u v) (h1:s.heap.IsListIter i1 l1 0) (h2:s.heap.IsListIter i2 l2 0) (hl1:s.heap.IsList l1 xs) (hl2:s.heap.IsList l2 ys)
  (hS:s.heap.get? S=some { cls:=.type "list",data:=.seq #[] })
  (hR:∀ h' acc' c',(∀ b o,b ∉ [z,TO,i1,i2,S]→s.heap.get? b=some o→h'.get? b=some o)→h'.get? S=some { cls:=.type "list",dict:=none,data:=.seq acc' c',slots:=#[] }→acc'.size=xs.size→(∀ (j:Nat) v,acc'[j]? = some v→v = .ref (s.heap.objs.size+j)∧∃ x y,xs[j]? = some x∧ys[j]? = some y∧IsPair h' (s.heap.objs.size+j) x y)→R (.ok (.ret .none)) { s with heap:=h' }) :
  wpAny (model prog w) A.in1 (Builtin.«list.__init__» ⟨[.ref S,.ref z],[]⟩)
   (fun fin s'=>match fin with | .done f=>R (.ok f) s' | .again c'=>c'.quiet=true∧codeAny (model prog w) A c' R s') (fun e s'=>R (.error e) s') s:=by
 have ns:∀ {b:Addr},b ∈ [z,TI,TO,i1,i2,l1,l2]→S≠b:=fun hb e=>nS (e ▸ hb)
 show wpAny _ A.in1 (do let old ← Builtin.List.listItems (.ref S); Builtin.List.listUpdate (.ref S) (fun _=>#[]); letGo old.toList.reverse; Builtin.List.listExtendWith (.ref S) (.ref z) .none) _ _ s
 refine wpAny_bind ?_
 unfold Builtin.List.listItems
 refine wpAny_bind (wpAny_seqItems hS rfl (wpAny_pure ?_)); skip
 show wpAny _ A.in1 (updateSeq S (fun _=>#[]) >>= fun _=>letGo (#[] : Array Value).toList.reverse >>= fun _=>Builtin.List.listExtendWith (.ref S) (.ref z) .none) _ _ s
 refine wpAny_bind (wpAny_updateSeq hS rfl ?_); skip
 have hS₂:=Heap.get?_update_self (Obj.mapSeq (fun _=>(#[] : Array Value))) hS rfl
 have oth:∀ b o,b≠S→s.heap.get? b=some o→(s.heap.update S (Obj.mapSeq (fun _=>(#[] : Array Value)))).get? b=some o:=fun b o hb e=>(Heap.get?_update_other _ _ (Ne.symm hb)).trans e
 have hsz:(s.heap.update S (Obj.mapSeq (fun _=>(#[] : Array Value)))).objs.size=s.heap.objs.size:=Heap.size_update ..
 refine wpAny_bind (wpAny_letGo ?_)
 refine zip_extend hh D el hn .none nS (oth _ _ (Ne.symm (ns (by simp))) hz) (oth _ _ (Ne.symm (ns (by simp))) hTI) (let ⟨u,v,q⟩:=hTO; ⟨u,v,oth _ _ (Ne.symm (ns (by simp))) q⟩) (h1.at fun o q=>oth _ o (Ne.symm (ns (by simp))) q) (h2.at fun o q=>oth _ o (Ne.symm (ns (by simp))) q) (hl1.at fun o q=>oth _ o (Ne.symm (ns (by simp))) q) (hl2.at fun o q=>oth _ o (Ne.symm (ns (by simp))) q) hS₂ fun h' acc' c' k hS' sz it=>?_
 refine hR h' acc' c' (fun b o hb q=>k b o hb (oth b o (fun e=>hb (by simp [e])) q)) hS' sz fun j v ev=>?_
 obtain ⟨q2,x,y,q3,q4,q5⟩:=it j v ev
 have q2':v = .ref ((s.heap.update S (Obj.mapSeq (fun _=>(#[] : Array Value)))).objs.size+j):=q2
 have q5':IsPair h' ((s.heap.update S (Obj.mapSeq (fun _=>(#[] : Array Value)))).objs.size+j) x y:=q5
 rw [hsz] at q2' q5'
 exact ⟨q2',x,y,q3,q4,q5'⟩
end
section
variable {prog:Program} {w:World} {A:Around} {E:Value→Shared→Prop} {s:Shared}
theorem call_list_zip {z TI TO i1 i2 l1 l2:Addr} {Q:Value→Shared→Prop} (hh:A.handled=none) (D:ZipApart z TI TO i1 i2 l1 l2) {xs ys:Array Value} (el:xs.size=ys.size) (hn:xs.size≤sizeLine)
  (hz:IsZip s.heap z TI TO .none) (hTI:IsPair s.heap TI (.ref i1) (.ref i2)) (hTO:∃ u v,IsPair s.heap TO u v) (h1:s.heap.IsListIter i1 l1 0) (h2:s.heap.IsListIter i2 l2 0) (hl1:s.heap.IsList l1 xs) (hl2:s.heap.IsList l2 ys)
  (hQ:∀ h',((∀ b o,b ∉ [z,TO,i1,i2]→s.heap.get? b=some o→h'.get? b=some o)∧∃ acc c,h'.get? s.heap.objs.size=some { cls:=.type "list",dict:=none,data:=.seq acc c,slots:=#[] }∧acc.size=xs.size∧∀ (j:Nat) v,acc[j]? = some v→v = .ref (s.heap.objs.size+1+j)∧∃ x y,xs[j]? = some x∧ys[j]? = some y∧IsPair h' (s.heap.objs.size+1+j) x y)→Q (.ref s.heap.objs.size) { s with heap:=h' }) :
  wpAny (model prog w) A (call (.type "list") [.ref z]) Q E s:=by
 have lt:∀ {b:Addr} {o:Obj},s.heap.get? b=some o→s.heap.objs.size≠b:=fun q=>Nat.ne_of_gt (Heap.lt_size q)
 have nS:s.heap.objs.size ∉ [z,TI,TO,i1,i2,l1,l2]:=fun hm=>by
  have z':s.heap.objs.size=z∨s.heap.objs.size=TI∨s.heap.objs.size=TO∨s.heap.objs.size=i1∨s.heap.objs.size=i2∨s.heap.objs.size=l1∨s.heap.objs.size=l2:=by simpa using hm
  rcases z' with z' | z' | z' | z' | z' | z' | z'
  ·exact lt hz z'
  ·exact lt hTI z'
  ·obtain ⟨_,_,q⟩:=hTO; exact lt q z'
  ·obtain ⟨_,q,_⟩:=h1; exact lt q z'
  ·obtain ⟨_,q,_⟩:=h2; exact lt q z'
  ·obtain ⟨_,q,_⟩:=hl1; exact lt q z'
  ·obtain ⟨_,q,_⟩:=hl2; exact lt q z'
 refine callType_codes (Q₁:=fun obj s₁=>obj = .ref s.heap.objs.size∧s₁={ s with heap:=s.heap.push { cls:=.type "list",data:=.seq #[] } }) F.called_list (F.typeCall_list_1 _) F.entry_list_init (code_list_new _ ⟨rfl,rfl⟩) fun obj s₁ q₁=>?_
 obtain ⟨rfl,rfl⟩:=q₁
 have hS:(s.heap.push { cls:=.type "list",data:=.seq #[] }).get? s.heap.objs.size=some { cls:=.type "list",data:=.seq #[] }:=Heap.get?_push_size _ rfl
 have up:∀ {b:Addr} {o:Obj},s.heap.get? b=some o→(s.heap.push { cls:=.type "list",data:=.seq #[] }).get? b=some o:=fun e=>Heap.get?_push_of_some _ e
 have hsz:(s.heap.push { cls:=.type "list",data:=.seq #[] }).objs.size=s.heap.objs.size+1:=Heap.size_push ..
 refine ⟨⟨_,hS,rfl⟩,F.args_list_init_2 _ _,zip_init hh D el hn nS (up hz) (up hTI) (let ⟨u,v,q⟩:=hTO; ⟨u,v,up q⟩) (h1.at fun o q=>up q) (h2.at fun o q=>up q) (hl1.at fun o q=>up q) (hl2.at fun o q=>up q) hS fun h' acc' c' k hS' sz it=>?_⟩
 refine ⟨rfl,hQ h' ⟨fun b o hb q=>k b o (fun hm=>?_) (up q),acc',c',hS',sz,fun j v ev=>?_⟩⟩
 ·have z':b=z∨b=TO∨b=i1∨b=i2∨b=s.heap.objs.size:=by simpa using hm
  rcases z' with z' | z' | z' | z' | z'
  ·exact hb (by simp [z'])
  ·exact hb (by simp [z'])
  ·exact hb (by simp [z'])
  ·exact hb (by simp [z'])
  ·exact lt q z'.symm
 ·obtain ⟨q2,x,y,q3,q4,q5⟩:=it j v ev
  have q2':v = .ref ((s.heap.push { cls:=.type "list",data:=.seq #[] }).objs.size+j):=q2
  have q5':IsPair h' ((s.heap.push { cls:=.type "list",data:=.seq #[] }).objs.size+j) x y:=q5
  rw [hsz] at q2' q5'
  exact ⟨q2',x,y,q3,q4,q5'⟩
end
end PySem

set_option maxHeartbeats 4000000
namespace L2
open PySem PySem.Spec PyProof.Rows Tl
def trkP (H:Hp) (N:Nat) : List (V × V)→Hp
 | []=>H
 | p :: r=>trkP (upd H N (.tup [p.1,p.2])) (N+1) r
theorem trkP_out {a:Addr} : ∀ {ps:List (V × V)} {H:Hp} {N:Nat},(a < N∨N+ps.length≤a)→trkP H N ps a=H a
 | [],H,N,_=>rfl
 | p :: r,H,N,h=>by
  show trkP (upd H N (.tup [p.1,p.2])) (N+1) r a=H a
  rw [List.length_cons] at h
  have ne:a≠N:=fun e=>by
   subst e
   rcases h with h | h
   ·exact absurd h (Nat.lt_irrefl _)
   ·exact absurd h (Nat.not_le.mpr (Nat.lt_add_of_pos_right (Nat.succ_pos _)))
  rw [trkP_out (by
   rcases h with h | h
   ·exact .inl (Nat.lt_succ_of_lt h)
   ·exact .inr (by show N+1+r.length≤a; rw [Nat.add_assoc,Nat.add_comm 1]; exact h)),upd_ne ne]
theorem trkP_at:∀ {ps:List (V × V)} {H:Hp} {N j:Nat} {p:V × V},ps[j]? = some p→trkP H N ps (N+j)=some (.tup [p.1,p.2])
 | [],H,N,j,p,h=>by simp at h
 | q :: r,H,N,0,p,h=>by
  have e:q=p:=by simpa using h
  subst e
  show trkP (upd H N (.tup [q.1,q.2])) (N+1) r N=_
  rw [trkP_out (.inl (Nat.lt_succ_self _))]
  exact upd_same
 | q :: r,H,N,j+1,p,h=>by
  have:=trkP_at (ps:=r) (H:=upd H N (.tup [q.1,q.2])) (N:=N+1) (j:=j) (p:=p) (by simpa using h)
  show trkP (upd H N (.tup [q.1,q.2])) (N+1) r (N+(j+1))=_
  rw [show N+(j+1)=N+1+j by rw [Nat.add_assoc,Nat.add_comm 1]]
  exact this
theorem Inv.tups {X:Cx} {pins:List (Addr × Obj)} {σ:St} {s:Shared} : ∀ {ps:List (V × V)} {H:Hp} {N:Nat},Inv X pins σ H s→(∀ a,N≤a→H a=none)→X.s₀.heap.objs.size≤N→X.env.locals < N→(∀ x c,X.env.cells.lookup x=some c→c < N)→(∀ p ∈ X.pn++pins,p.1 < N) →
  (∀ (j:Nat) p,ps[j]? = some p→∃ u v,RelV p.1 u∧RelV p.2 v∧IsPair s.heap (N+j) u v)→Inv X pins σ (trkP H N ps) s
 | [],H,N,I,_,_,_,_,_,_=>I
 | p :: r,H,N,I,hf,h0,h1,h2,h3,ok=>by
  obtain ⟨u,v,ru,rv,hp⟩:=ok 0 p rfl
  have I1:Inv X pins σ (upd H N (.tup [p.1,p.2])) s:=I.track (hf N (Nat.le_refl _)) h0 (Nat.ne_of_gt h1) (fun x c q=>Nat.ne_of_lt (h2 x c q)) (fun p hp=>Nat.ne_of_lt (h3 p hp)) ⟨by show 2≤sizeLine; decide,[u,v],.cons ru (.cons rv .nil),⟨_,hp,rfl,_,rfl⟩⟩
  refine Inv.tups (ps:=r) (N:=N+1) I1 (fun a ha=>?_) (Nat.le_succ_of_le h0) (Nat.lt_succ_of_lt h1) (fun x c q=>Nat.lt_succ_of_lt (h2 x c q)) (fun p hp=>Nat.lt_succ_of_lt (h3 p hp)) (fun j q e=>?_)
  ·rw [upd_ne (Nat.ne_of_gt ha)]
   exact hf a (Nat.le_of_succ_le ha)
  ·have:=ok (j+1) q (by simpa using e)
   rw [show N+(j+1)=N+1+j by rw [Nat.add_assoc,Nat.add_comm 1]] at this
   exact this
theorem vals_refs:∀ l:List Addr,Vals (l.map V.ref) (l.map Value.ref)
 | []=>.nil
 | a :: r=>.cons rfl (vals_refs r)
def tLZ (K:PySem.W.Frag) (tl tm:TE) : TE:=fun σ H Q=>tl σ H fun x H1=>tm σ H1 fun y H2=>∃ a b xs ys,x = .ref a∧y = .ref b∧SqL K H2 a xs∧SqL K H2 b ys∧xs.length=ys.length∧∀ (p:Addr) (as:List Addr) (H3:Hp),Same H2 H3→H2 p=none→H3 p=some (.lst (as.map V.ref))→as.length=xs.length→(∀ (j:Nat) c x y,as[j]? = some c→xs[j]? = some x→ys[j]? = some y→H3 c=some (.tup [x,y]))→Q (.ref p) H3
theorem pe_lz {X:Cx} {l m:Expr} {tl tm:TE} {p p2 pos pos2:Pos} (hcalm:X.calm=true) (hg:Gl X "list") (hm:X.mg "list" = none) (hg2:Gl X "zip") (hm2:X.mg "zip" = none) (hl:PE X l tl) (hl2:PE X m tm) (hs:starEach [l,m] X.env=(false,eval l X.env) :: starEach [m] X.env:=by rfl) (hs1:starEach [m] X.env=(false,eval m X.env) :: starEach [] X.env:=by rfl)
  (hs2:starEach [.Call (.Name "zip" p2) [l,m] [] pos2] X.env=(false,eval (.Call (.Name "zip" p2) [l,m] [] pos2) X.env) :: starEach [] X.env:=by rfl) : PE X (.Call (.Name "list" p) [.Call (.Name "zip" p2) [l,m] [] pos2] [] pos) (tLZ X.K tl tm):=by
 intro pins s σ H Q I h
 have ha:PA X [l,m] (tCons tl (tCons tm tNil)):=pa_cons hl (pa_cons hl2 pa_nil hs1) hs
 refine wpAny_Call_Name_kw (ld_blt I hg hm PyProof.Rows.boot_list ?_ (by decide) (by decide))
 refine PyProof.Rows.callWith_type1 ?_ hs2 rfl
 rw [hs2]
 show wpAny _ _ (spliced ((false,eval (.Call (.Name "zip" p2) [l,m] [] pos2) X.env) :: backTo pos (starEach [] X.env))) _ _ s
 refine Calls.spliced_cons ?_
 refine wpAny_Call_Name_kw (ld_blt I hg2 hm2 (by decide +kernel:bootBuiltins "zip" = some (.type "zip")) ?_ (by decide) (by decide))
 refine PyProof.Rows.callWith_type1 (thn (ha pos2 pins s σ H (fun vs H1=>match vs with | [x,y]=>∃ a b xs ys,x = .ref a∧y = .ref b∧SqL X.K H1 a xs∧SqL X.K H1 b ys∧xs.length=ys.length∧∀ (p:Addr) (as:List Addr) (H3:Hp),Same H1 H3→H1 p=none→H3 p=some (.lst (as.map V.ref))→as.length=xs.length→(∀ (j:Nat) c x y,as[j]? = some c→xs[j]? = some x→ys[j]? = some y→H3 c=some (.tup [x,y]))→Q (.ref p) H3 | _=>False) I h) fun us s1 ⟨vs,H1,I1,r1,q1⟩=>?_) hs (by rw [hs1]; rfl)
 match vs,r1,q1 with
 | [x,y],r1,q1 =>
 obtain ⟨a,b,xs,ys,rfl,rfl,hqx,hqy,el,q⟩:=q1
 obtain ⟨u,v,rfl,ru,rv0⟩:=vals2 r1
 cases ru
 cases rv0
 obtain ⟨its,rv,p,hz⟩:=I1.list hqx
 obtain ⟨its2,rv2,p2,hz2⟩:=I1.list hqy
 have alt:a < s1.heap.objs.size:=by obtain ⟨_,_,e,_⟩:=p; exact Heap.lt_size e
 have blt:b < s1.heap.objs.size:=by obtain ⟨_,_,e,_⟩:=p2; exact Heap.lt_size e
 have len1:=rv.length
 have len2:=rv2.length
 refine call_zip_2 p.isList p2.isList fun h' g1 g2 g3 g4 g5 hz' hk=>?_
 have ne:∀ {m n:Nat} {N:Nat},m≠n→N+m≠N+n:=fun h e=>h (Nat.add_left_cancel e)
 have nl:∀ {c:Addr} (k:Nat),c < s1.heap.objs.size→c≠s1.heap.objs.size+k:=fun k h e=>absurd h (by rw [e]; exact Nat.not_lt.mpr (Nat.le_add_right _ _))
 have D:ZipApart (s1.heap.objs.size+4) (s1.heap.objs.size+2) (s1.heap.objs.size+3) s1.heap.objs.size (s1.heap.objs.size+1) a b:=
  ⟨ne (by decide),ne (by decide),ne (m:=0) (by decide),ne (by decide),ne (by decide),ne (n:=0) (by decide),ne (by decide),ne (n:=0) (by decide),ne (by decide),ne (m:=0) (by decide),nl 4 alt,nl 3 alt,nl 0 alt,nl 1 alt,nl 4 blt,nl 3 blt,nl 0 blt,nl 1 blt⟩
 refine Calls.spliced_nil ?_
 refine call_list_zip (I1.ok.hd hcalm) D (by rw [List.size_toArray,List.size_toArray]; omega) (by rw [List.size_toArray]; omega) g1 g2 ⟨_,_,g3⟩ g4 g5 (p.isList.at fun o q=>hk _ o q) (p2.isList.at fun o q=>hk _ o q) fun h2 ⟨kk,acc,c,q1,q2,q3⟩=>?_
 have sM:h'.objs.size=s1.heap.objs.size+5:=hz'
 have old:∀ b o,s1.heap.get? b=some o→h2.get? b=some o:=fun b o e=>by
  have lt:=Heap.lt_size e
  refine kk b o (fun hm=>?_) (hk b o e)
  have z':b=s1.heap.objs.size+4∨b=s1.heap.objs.size+3∨b=s1.heap.objs.size∨b=s1.heap.objs.size+1:=by simpa using hm
  rcases z' with z' | z' | z' | z'
  ·exact nl 4 lt z'
  ·exact nl 3 lt z'
  ·exact nl 0 lt z'
  ·exact nl 1 lt z'
 have I2:Inv X pins σ H1 { s1 with heap:=h2,toks:=s1.toks }:=I1.kept (t':=s1.toks) old
 have MN:s1.heap.objs.size≤h'.objs.size+1:=by rw [sM,Nat.add_assoc]; exact Nat.le_add_right _ _
 have fr:∀ a,h'.objs.size+1≤a→H1 a=none:=fun a ha=>I1.hok.fresh (Nat.le_trans MN ha)
 have I3:Inv X pins σ (trkP H1 (h'.objs.size+1) (xs.zip ys)) { s1 with heap:=h2,toks:=s1.toks }:=by
  refine I2.tups fr (Nat.le_trans I1.sz MN) (Nat.lt_of_lt_of_le I1.lt MN) (fun x c q=>?_) (fun p hp=>Nat.lt_of_lt_of_le (Heap.lt_size (I1.pin p hp).1) MN) (fun j p e=>?_)
  ·obtain ⟨v,q2⟩:=I1.cell x c q
   exact Nat.lt_of_lt_of_le q2.lt MN
  ·obtain ⟨e1,e2⟩:=List.getElem?_zip_eq_some.mp e
   obtain ⟨u,hu,ru⟩:=rv.get e1
   obtain ⟨v,hv,rv'⟩:=rv2.get e2
   have hj:j < acc.size:=by
    rw [q2,List.size_toArray]
    exact (List.getElem?_eq_some_iff.mp hu).1
   obtain ⟨_,x,y,ex,ey,hp⟩:=q3 j acc[j] (Array.getElem?_eq_getElem hj)
   have ex':its[j]? = some x:=by simpa using ex
   have ey':its2[j]? = some y:=by simpa using ey
   rw [hu] at ex'
   rw [hv] at ey'
   cases ex'
   cases ey'
   exact ⟨u,v,ru,rv',hp⟩
 have zl:(xs.zip ys).length=xs.length:=by rw [List.length_zip,el,Nat.min_self]
 have hSn:H1 h'.objs.size=none:=I1.hok.fresh (by rw [sM]; exact Nat.le_add_right _ _)
 have hS4:trkP H1 (h'.objs.size+1) (xs.zip ys) h'.objs.size=none:=by
  rw [trkP_out (.inl (Nat.lt_succ_self _))]
  exact hSn
 have eac:acc.toList=((List.range xs.length).map fun j=>h'.objs.size+1+j).map Value.ref:=by
  refine List.ext_getElem? fun j=>?_
  rw [List.getElem?_map,List.getElem?_map]
  by_cases hj:j < acc.size
  ·have hj2:j < xs.length:=by rw [q2,List.size_toArray] at hj; omega
   obtain ⟨e1,_⟩:=q3 j acc[j] (Array.getElem?_eq_getElem hj)
   rw [List.getElem?_range hj2,Array.getElem?_toList,Array.getElem?_eq_getElem hj,e1]
   rfl
  ·have hj2:xs.length≤j:=by rw [q2,List.size_toArray] at hj; omega
   rw [Array.getElem?_toList,Array.getElem?_eq_none (by omega),List.getElem?_eq_none (by rw [List.length_range]; exact hj2)]
   rfl
 have I4:Inv X pins σ (upd (trkP H1 (h'.objs.size+1) (xs.zip ys)) h'.objs.size (.lst (((List.range xs.length).map fun j=>h'.objs.size+1+j).map V.ref))) { s1 with heap:=h2,toks:=s1.toks }:=by
  have MS:s1.heap.objs.size≤h'.objs.size:=by rw [sM]; exact Nat.le_add_right _ _
  refine I3.track hS4 (Nat.le_trans I1.sz MS) (Nat.ne_of_gt (Nat.lt_of_lt_of_le I1.lt MS)) (fun x c q=>?_) (fun p hp=>Nat.ne_of_lt (Nat.lt_of_lt_of_le (Heap.lt_size (I1.pin p hp).1) MS)) ⟨by rw [List.length_map,List.length_map,List.length_range]; omega,acc.toList,c,by rw [eac]; exact vals_refs _,q1⟩
  obtain ⟨v,q2⟩:=I1.cell x c q
  exact Nat.ne_of_lt (Nat.lt_of_lt_of_le q2.lt MS)
 refine ⟨.ref h'.objs.size,_,I4,rfl,q _ _ _ (fun b o e=>?_) hSn upd_same (by rw [List.length_map,List.length_range]) fun j c x y ec ex ey=>?_⟩
 ·have nb:¬ s1.heap.objs.size≤b:=fun hb=>by
   have:=I1.hok.fresh hb
   rw [e] at this
   cases this
  have lb:=Nat.lt_of_not_le nb
  rw [upd_ne (fun z=>nb (by rw [z,sM]; exact Nat.le_add_right _ _)),trkP_out (.inl (Nat.lt_of_lt_of_le lb MN))]
  exact e
 ·have hj:j < xs.length:=(List.getElem?_eq_some_iff.mp ex).1
  rw [List.getElem?_map,List.getElem?_range hj] at ec
  cases ec
  rw [upd_ne (Nat.ne_of_gt (Nat.lt_of_lt_of_le (Nat.lt_succ_self _) (Nat.le_add_right _ _))),trkP_at (p:=(x,y)) (List.getElem?_zip_eq_some.mpr ⟨ex,ey⟩)]
structure FunV (K:PySem.W.Frag) (x qual:Str) (st:Stmt) (f:Addr) (fd:FuncData) : Prop where
 ex:∃ (oc:Value) (od:Option Addr) (dV kV doc pm:Value) (an:Option Addr) (cdv ct:Value) (osl:Array (Option Value)),fd=PySem.W.fnOf x qual (defArgs st) (defBody st) (defScope st) dV kV doc pm an cdv ct∧K.lookup f=some ⟨oc,od,.func fd,osl⟩∧PySem.W.codeIn K cdv qual=true
 kp:PySem.W.keepIn K (.ref f)=true
theorem FunV.ok {P:Program} {w:World} {K:PySem.W.Frag} {mg:Str→Option Value} {base:Heap} {x qual:Str} {st:Stmt} {f:Addr} {fd:FuncData} {N ps:List Str} {k:Nat} {sp:Sp} (F:FunV K x qual st f fd) (S:FnScope N ps (defScope st)) (len:∀ vs H Q E,sp vs H Q E→vs.length=ps.length) (hbody:∀ (cdv:Value) (A:Around) (outer:List Env) (s:Shared) (H:Hp) (vs:List V) (Q:VK) (E:XK),Room k (A.deeper (envOfC qual (defScope st) s.heap.objs.size f cdv))→sp vs H Q E →
   ∃ t,PSs (cxOf CX0 P w K mg base N qual (defScope st) f cdv A outer s H E).nox (defBody st) t∧t { nx:=fun _ H'=>Q .non H',rt:=Q } (start N vs) H) : FnOk P w K mg base CX0 (k+1) f fd ps sp:=by
 obtain ⟨oc,od,dV,kV,doc,pm,an,cdv,ct,osl,rfl,lk,hcd⟩:=F.ex
 exact fn_of lk hcd S len fun A outer s H vs Q E hr hsp=>let ⟨t,h,q⟩:=hbody cdv A outer s H vs Q E hr hsp; ⟨t,h.nox,q⟩
structure DefOkV (K:PySem.W.Frag) (mg:Str→Option Value) (x:Str) (st:Stmt) (ps:List Str) (f:Addr) (fd:FuncData) (dv:Value) : Prop where
 fn:FunV K x x st f fd
 bd:Binds K fd ps []
 bd1:Binds K fd ps [dv]
 mg:mg x=some (.ref f)
section
variable {X:Cx} {x:Str} {st:Stmt} {ps:List Str} {f:Addr} {fd:FuncData} {dv:Value} {k:Nat} {sp:Sp} {e:Expr} {es:List Expr} {t:TA} {p pos:Pos}
theorem pe_callV (D:DefOkV X.K X.mg x st ps f fd dv) (G:FnOk X.prog X.w X.K X.mg X.base CX0 k f fd ps sp) (hr:Room k X.A) (hg:Gl X x) (ha:PA X (e :: es) t) (hd:(x == ("__debug__" : Str))=false:=by decide)
  (he:starEach (e :: es) X.env=(false,eval e X.env) :: starEach es X.env:=by rfl) (hpl:(backTo pos (starEach es X.env)).any (·.1)=false:=by rfl) : PE X (.Call (.Name x p) (e :: es) [] pos) (tCall sp [] E0 t):=(pe_call G hr hg D.mg D.fn.kp D.bd .nil pass0 ha hd he hpl)
theorem pe_callV1 {dx:V} (D:DefOkV X.K X.mg x st ps f fd dv) (hdx:RelV dx dv) (G:FnOk X.prog X.w X.K X.mg X.base CX0 k f fd ps sp) (hr:Room k X.A) (hg:Gl X x) (ha:PA X (e :: es) t) (hd:(x == ("__debug__" : Str))=false:=by decide)
  (he:starEach (e :: es) X.env=(false,eval e X.env) :: starEach es X.env:=by rfl) (hpl:(backTo pos (starEach es X.env)).any (·.1)=false:=by rfl) : PE X (.Call (.Name x p) (e :: es) [] pos) (tCall sp [dx] E0 t):=pe_call G hr hg D.mg D.fn.kp D.bd1 (.cons hdx .nil) pass0 ha hd he hpl
theorem defokV_mk {K:PySem.W.Frag} {h:Heap} {mg:Str→Option Value} (KX:K.In h) (G:h.Ns mainGlobals mg) {od an od2:Option Addr} {sl sl2:Array (Option Value)} {oc oc2 kV dc pm cd ct:Value} {T:Addr} {n2:Nat} (a:PySem.W.nsIn K mainGlobals x=some (some (.ref f)))
  (l:K.lookup f=some ⟨oc,od,.func (PySem.W.fnOf x x (defArgs st) (defBody st) (defScope st) (.ref T) kV dc pm an cd ct),sl⟩) (c:PySem.W.codeIn K cd x=true) (k:PySem.W.keepIn K (.ref f)=true) (lt:K.lookup T=some ⟨oc2,od2,.seq #[dv] n2,sl2⟩)
  (b:∀ (kV doc pm:Value) (an:Option Addr) (cdv ct:Value) (us:List Value),us.length=ps.length→∃ k,bindArgs (PySem.W.fnOf x x (defArgs st) (defBody st) (defScope st) (.ref T) kV doc pm an cdv ct) ⟨us,[]⟩=seqItems? (.ref T) >>= k∧k (some #[dv])=pure (ps.zip us))
  (b1:∀ (kV doc pm:Value) (an:Option Addr) (cdv ct:Value) (us:List Value),us.length+1=ps.length→∃ k,bindArgs (PySem.W.fnOf x x (defArgs st) (defBody st) (defScope st) (.ref T) kV doc pm an cdv ct) ⟨us,[]⟩=seqItems? (.ref T) >>= k∧k (some #[dv])=pure (ps.zip (us++[dv]))) :
  DefOkV K mg x st ps f (PySem.W.fnOf x x (defArgs st) (defBody st) (defScope st) (.ref T) kV dc pm an cd ct) dv:=by
 refine ⟨⟨⟨oc,od,.ref T,kV,dc,pm,an,cd,ct,sl,rfl,l,c⟩,k⟩,fun s us kin hl=>?_,fun s us kin hl=>?_,PySem.W.mg_of KX G a⟩
 ·rw [List.append_nil] at hl ⊢
  obtain ⟨k',e1,e2⟩:=b kV dc pm an cd ct us hl
  exact .of_defaults (T:=T) rfl (kin T _ lt) rfl e1 e2
 ·rw [List.length_append,List.length_singleton] at hl
  obtain ⟨k',e1,e2⟩:=b1 kV dc pm an cd ct us hl
  exact .of_defaults (T:=T) rfl (kin T _ lt) rfl e1 e2
end
def segZ (zs:List (Int × Int)) (j i:Nat) : List (Int × Int):=(zs.drop j).take (i+1 - j)
def togS (zs:List (Int × Int)) (j i:Nat) : Int:=((segZ zs j i).map (·.1)).sum+(segZ zs j i).length - 1
def sumS (zs:List (Int × Int)) (j i:Nat) : Int:=((segZ zs j i).map (·.2)).sum
theorem segZ_cons {zs:List (Int × Int)} {j i:Nat} (hj:j≤i) (hi:i < zs.length) : segZ zs j i=xAt zs j :: segZ zs (j+1) i:=by
 unfold segZ
 have hj2:j < zs.length:=by omega
 have e:xAt zs j=zs[j]:=by
  show zs.getD j (0,0)=_
  rw [List.getD_eq_getElem?_getD,List.getElem?_eq_getElem hj2]
  rfl
 rw [List.drop_eq_getElem_cons hj2,show i+1 - j=(i+1 - (j+1))+1 by omega,List.take_succ_cons,e]
theorem segZ_out {zs:List (Int × Int)} {i:Nat} : segZ zs (i+1) i=[]:=by unfold segZ; simp
theorem togS_cons {zs:List (Int × Int)} {j i:Nat} (hj:j≤i) (hi:i < zs.length) : togS zs j i=togS zs (j+1) i+1+(xAt zs j).1:=by
 unfold togS
 rw [segZ_cons hj hi,List.map_cons,List.sum_cons,List.length_cons]
 omega
theorem sumS_cons {zs:List (Int × Int)} {j i:Nat} (hj:j≤i) (hi:i < zs.length) : sumS zs j i=sumS zs (j+1) i+(xAt zs j).2:=by
 unfold sumS
 rw [segZ_cons hj hi,List.map_cons,List.sum_cons]
 omega
theorem togS_self {zs:List (Int × Int)} {i:Nat} (hi:i < zs.length) : togS zs i i=(xAt zs i).1:=by
 rw [togS_cons (Nat.le_refl _) hi]
 unfold togS
 rw [segZ_out]
 simp
theorem sumS_out {zs:List (Int × Int)} {i:Nat} : sumS zs (i+1) i=0:=by
 unfold sumS
 rw [segZ_out]
 rfl
def sizesL (F:Frm) (ds:List Wd) (xs:List (Int × Int)) : List (Int × Int):=ds.map fun d=>(wideW F xs d,highW F xs d)
theorem sizes_len (F:Frm) (ds:List Wd) (xs:List (Int × Int)) : (sizesL F ds xs).length=ds.length:=by unfold sizesL; rw [List.length_map]
theorem sizes_at (F:Frm) (ds:List Wd) (xs:List (Int × Int)) {k:Nat} (hk:k < ds.length) : xAt (sizesL F ds xs) k=(wideW F xs (dAt ds k),highW F xs (dAt ds k)):=by
 show (sizesL F ds xs).getD k (0,0)=_
 have e:dAt ds k=ds[k]:=by
  show ds.getD k wd0=_
  rw [List.getD_eq_getElem?_getD,List.getElem?_eq_getElem hk]
  rfl
 rw [List.getD_eq_getElem?_getD,sizesL,List.getElem?_map,List.getElem?_eq_getElem hk,e]
 rfl
theorem segP_all (ds:List Wd) : segP ds 0 ds.length=ds:=by unfold segP; simp
theorem togS_sizes (F:Frm) (ds:List Wd) (xs:List (Int × Int)) (j i:Nat) : togS (sizesL F ds xs) j i=together (wides F ds xs j i):=by
 unfold togS segZ together wides segD sizesL
 rw [← List.map_drop,← List.map_take,List.map_map,List.length_map,List.length_map]
 rfl
theorem sumS_sizes (F:Frm) (ds:List Wd) (xs:List (Int × Int)) (j i:Nat) : sumS (sizesL F ds xs) j i=(highs F ds xs j i).sum:=by
 unfold sumS segZ highs segD sizesL
 rw [← List.map_drop,← List.map_take,List.map_map]
 rfl
def LeZ (zs ys:List (Int × Int)) : Prop:=zs.length=ys.length∧∀ k,k < zs.length→(xAt zs k).1≤(xAt ys k).1∧(xAt zs k).2≤(xAt ys k).2
theorem LeZ.tog {zs ys:List (Int × Int)} (h:LeZ zs ys) {i:Nat} (hi:i < zs.length) : ∀ (d j:Nat),i+1 - j=d→togS zs j i≤togS ys j i∧sumS zs j i≤sumS ys j i
 | 0,j,e=>by
  have z:∀ zs:List (Int × Int),segZ zs j i=[]:=fun zs=>by unfold segZ; rw [e]; simp
  unfold togS sumS
  rw [z,z]
  exact ⟨Int.le_refl _,Int.le_refl _⟩
 | d+1,j,e=>by
  have hj:j≤i:=by omega
  have ih:=h.tog hi d (j+1) (by omega)
  have hk:=h.2 j (by omega)
  rw [togS_cons hj hi,togS_cons hj (by rw [← h.1]; exact hi),sumS_cons hj hi,sumS_cons hj (by rw [← h.1]; exact hi)]
  omega
section
variable {F:Frm} {ds:List Wd} {xs ys zs:List (Int × Int)} {i j:Nat}
theorem sizes_grow (B:BkOk F ds xs) (C:BkOk F ds ys) (le:PlsLe xs ys) : LeZ (sizesL F ds xs) (sizesL F ds ys):=by
 refine ⟨by rw [sizes_len,sizes_len],fun k hk=>?_⟩
 rw [sizes_len] at hk
 have hm:dAt ds k ∈ ds:=List.mem_of_getElem? (B.d hk).1
 rw [sizes_at F ds xs hk,sizes_at F ds ys hk]
 exact ⟨wide_grows B C le hm,foot_grows B C le hm⟩
structure NoR (F:Frm) (ds:List Wd) (xs zs:List (Int × Int)) (i:Nat) : Prop where
 w:(xAt zs i).1≤F.w
 h:(xAt zs i).2+1≤F.h
 b:sooner (xAt xs i) (toldBehind F ds xs i)=false
 wide:∀ j,j < i→(∀ n,j≤n→n≤i→xAt xs n=xAt xs i)→togS zs j i≤F.w
 high:∀ j,j≤i→(∀ n,j≤n→n≤i→(xAt xs n).1=(xAt xs i).1)→(xAt xs i).2+1+sumS zs j i≤F.h
theorem segZ_congr {zs ys:List (Int × Int)} (e:zs.length=ys.length) (h:∀ k,k≤i→xAt zs k=xAt ys k) (hi:i < zs.length) : ∀ (d j:Nat),i+1 - j=d→segZ zs j i=segZ ys j i
 | 0,j,e=>by unfold segZ; rw [e]; simp
 | d+1,j,e2=>by
  rw [segZ_cons (zs:=zs) (j:=j) (by omega) hi,segZ_cons (zs:=ys) (j:=j) (by omega) (by rw [← e]; exact hi),h j (by omega),segZ_congr e h hi d (j+1) (by omega)]
theorem NoR.congr {xs' zs':List (Int × Int)} (N:NoR F ds xs zs i) (hx:∀ k,k≤i→xAt xs' k=xAt xs k) (hz:∀ k,k≤i→xAt zs' k=xAt zs k) (e:zs'.length=zs.length) (hi:i < zs.length) : NoR F ds xs' zs' i:=by
 have tb:toldBehind F ds xs' i=toldBehind F ds xs i:=by
  unfold toldBehind
  rw [hx i (Nat.le_refl _),hx (i - 1) (Nat.sub_le _ _)]
 have sg:∀ j,segZ zs' j i=segZ zs j i:=fun j=>segZ_congr e hz (by rw [e]; exact hi) _ j rfl
 refine ⟨by rw [hz i (Nat.le_refl _)]; exact N.w,by rw [hz i (Nat.le_refl _)]; exact N.h,by rw [hx i (Nat.le_refl _),tb]; exact N.b,fun j hj hn=>?_,fun j hj hn=>?_⟩
 ·have:=N.wide j hj (fun n a b=>by have:=hn n a b; rw [hx n b,hx i (Nat.le_refl _)] at this; exact this)
  unfold togS at this ⊢
  rw [sg]
  exact this
 ·have:=N.high j hj (fun n a b=>by have:=hn n a b; rw [hx n b,hx i (Nat.le_refl _)] at this; exact this)
  unfold sumS at this ⊢
  rw [sg,hx i (Nat.le_refl _)]
  exact this
theorem behind_le (B:BkOk F ds xs) (hi:i < ds.length) (h:sooner (xAt xs i) (toldBehind F ds xs i)=false) (h0:0 < i) : sooner (xAt xs i) (xAt xs (i - 1))=false:=by
 have wk:=(B.d hi).2
 have rx:=(B.x hi).1
 have rx1:=(B.x (show i - 1 < ds.length by omega)).1
 have bx:=behind_in (f:=F.f) rx1 wk.l0 wk.l1
 unfold toldBehind at h
 rw [if_pos h0] at h
 exact le_tr (behind_self (f:=F.f) rx1 wk.l0 wk.l1) (le_tr (later_ge2 (xAt xs i) _) (le_tr (first_self (f:=F.f) (l:=(dAt ds i).lead) (later_in rx bx)) h))
theorem chain_le (h:∀ k,0 < k→k≤i→sooner (xAt xs k) (xAt xs (k - 1))=false) : ∀ (d n:Nat),n+d≤i→sooner (xAt xs (n+d)) (xAt xs n)=false
 | 0,n,_=>sooner_refl _
 | d+1,n,e=>le_tr (chain_le h d n (by omega)) (h (n+(d+1)) (by omega) e)
theorem row_next {h f:Int} {x y:Int × Int} (rx:RowIn h x) (ry:RowIn h y) (s:sooner x y=true) : sooner y (behindI h f x 1)=false:=by
 rw [sooner_iff] at s
 obtain ⟨q,r,e,d⟩:=behind_desc h f 1 x.1 x.2 (by decide) (by decide)
 have a:=rx.r2
 have b:=ry.r1
 have c:=ry.r2
 rw [show x=(x.1,x.2) from rfl,e,not_sooner]
 simp only
 omega
theorem fix_of0 (B:BkOk F ds xs) (N:∀ i,i < ds.length→NoR F ds xs (sizesL F ds xs) i) (kp:∀ i y,i < ds.length→toldKept ds xs i=some y→sooner (xAt xs i) y=false) : Fixd F ds xs:=by
 intro i hi
 have ch:∀ k,0 < k→k≤i→sooner (xAt xs k) (xAt xs (k - 1))=false:=fun k k0 k1=>behind_le B (by omega) (N k (by omega)).b k0
 have Ni:=N i hi
 refine le_anti (best_le _ _ _ (sooner_refl _) fun x hx=>?_) raised_up |>.symm ▸ rfl
 rcases all_mem.mp hx with e | e | e | ⟨j,hj,e⟩ | ⟨j,hj,e⟩
 ·rw [e]; exact Ni.b
 ·exact kp i x hi e
 ·unfold toldNever at e
  have w:=Ni.w
  have h:=Ni.h
  rw [sizes_at F ds xs hi] at w h
  rw [if_pos ⟨w,h⟩] at e
  cases e
 ·unfold toldWide at e
  split at e
  ·cases e
  ·rename_i c
   cases e
   have le:sooner (xAt xs i) (xAt xs j)=false:=by
    have:=chain_le ch (i - j) j (by omega)
    rwa [show j+(i - j)=i by omega] at this
   by_cases eq:xAt xs j=xAt xs i
   ·exfalso
    have:=Ni.wide j hj (fun n a b=>by
     have l1:=chain_le ch (n - j) j (by omega)
     rw [show j+(n - j)=n by omega] at l1
     have l2:=chain_le ch (i - n) n (by omega)
     rw [show n+(i - n)=i by omega] at l2
     rw [eq] at l1
     exact le_anti l2 l1)
    rw [togS_sizes] at this
    omega
   ·refine row_next (B.x (show j < ds.length by omega)).1 (B.x hi).1 ?_
    cases s:sooner (xAt xs j) (xAt xs i) with
    | true=>rfl
    | false=>exact absurd (le_anti le s) eq
 ·unfold toldHigh at e
  split at e
  ·cases e
  ·rename_i c
   exfalso
   have pgl:∀ n,j≤n→n≤i→(xAt xs n).1=(xAt xs i).1:=fun n a b=>by
    have l1:=chain_le ch (n - j) j (by omega)
    rw [show j+(n - j)=n by omega] at l1
    have l2:=chain_le ch (i - n) n (by omega)
    rw [show n+(i - n)=i by omega] at l2
    rw [not_sooner] at l1 l2
    omega
   have:=Ni.high j (by omega) pgl
   rw [sumS_sizes] at this
   omega
theorem fix_of (B:BkOk F ds xs) (pg:Pages F.m xs) (N:∀ i,i < ds.length→NoR F ds xs (sizesL F ds xs) i) (kp:∀ i y,i < ds.length→toldKept ds xs i=some y→sooner (xAt xs i) y=false) : Fixd F ds xs:=fix_of0 B N kp
theorem told_in {k:Str} {j:Int} {y:Int × Int} (hi:i < ds.length) (h:toldBy F ds xs k i j=some y) : some y ∈ allTold F ds xs i:=by
 rw [toldBy_k] at h
 rw [all_mem]
 split at h
 ·exact .inl (Option.some.inj h).symm
 ·split at h
  ·rename_i c
   exact .inr (.inr (.inr (.inl ⟨j.toNat,by omega,h⟩)))
  ·split at h
   ·rename_i c
    exact .inr (.inr (.inr (.inr ⟨j.toNat,by omega,h⟩)))
   ·split at h
    ·exact .inr (.inl h)
    ·split at h
     ·exact .inr (.inr (.inl h))
     ·cases h
theorem reach_told {k:Str} {j:Int} {y:Int × Int} (h:reachI F ds xs k i j=some y) : toldBy F ds xs k i j=some y∧sooner (xAt xs i) y=true:=by
 unfold reachI at h
 split at h
 ·cases h
 ·rename_i x e
  split at h
  ·rename_i c
   cases h
   exact ⟨e,c⟩
  ·cases h
theorem reach_of {k:Str} {j:Int} {y:Int × Int} (h:toldBy F ds xs k i j=some y) (s:sooner (xAt xs i) y=true) : reachI F ds xs k i j=some y:=by
 unfold reachI
 rw [h]
 simp only
 rw [if_pos s]
def LowF (F:Frm) (ds:List Wd) (x0 xs:List (Int × Int)) : Prop:=∀ X,BkOk F ds X→Fixd F ds X→PlsLe x0 X→PlsLe xs X
theorem LowF.set {x0:List (Int × Int)} {y:Int × Int} (L:LowF F ds x0 xs) (B:BkOk F ds xs) (hi:i < ds.length) (hy:some y ∈ allTold F ds xs i) : LowF F ds x0 (xs.set i y):=by
 intro X C fx l0
 have le:=L X C fx l0
 refine ⟨by rw [List.length_set]; exact le.1,fun k hk=>?_⟩
 rw [List.length_set] at hk
 have e:=xAt_set (k:=k) (y:=y) (show i < xs.length by rw [← B.len]; exact hi)
 show sooner (xAt X k) (xAt (xs.set i y) k)=false
 rw [e]
 by_cases c:k=i
 ·rw [if_pos c,c]
  have g:=raised_grows B C le hi
  rw [fx i hi] at g
  exact le_tr ((best_ge _ _).2 y hy) g
 ·rw [if_neg c]
  exact le.2 k hk
theorem wide_reach (B:BkOk F ds xs) (lz:LeZ zs (sizesL F ds xs)) (hi:i < ds.length) (hj:j < i) (e:xAt xs j=xAt xs i) (h:F.w < togS zs j i) : ∃ y,reachI F ds xs kW i (j:Int)=some y:=by
 have zl:zs.length=ds.length:=by rw [lz.1,sizes_len]
 have t:=(lz.tog (by rw [zl]; exact hi) _ j rfl).1
 rw [togS_sizes] at t
 obtain ⟨n1,n2,n3,n4,n5,n6,n7,n8,n9,n10⟩:=kne
 refine ⟨behindI F.h F.f (xAt xs j) 1,reach_of ?_ ?_⟩
 ·rw [toldBy_k,if_neg (fun z=>n1 z.1.symm),if_pos ⟨rfl,by omega,by omega⟩,Int.toNat_natCast,toldWide,if_neg (by omega)]
 ·rw [e]
  have r:=(B.x hi).1
  have a:=r.r1
  obtain ⟨q,s,e1,d⟩:=behind_desc F.h F.f 1 (xAt xs i).1 (xAt xs i).2 (by decide) (by decide)
  rw [show behindI F.h F.f (xAt xs i) 1=(q,s) from e1,sooner_iff]
  simp only
  omega
theorem high_reach (lz:LeZ zs (sizesL F ds xs)) (hi:i < ds.length) (hj:j≤i) (e:(xAt xs j).1=(xAt xs i).1) (h:F.h < (xAt xs i).2+1+sumS zs j i) : ∃ y,reachI F ds xs kH i (j:Int)=some y:=by
 have zl:zs.length=ds.length:=by rw [lz.1,sizes_len]
 have t:=(lz.tog (by rw [zl]; exact hi) _ j rfl).2
 rw [sumS_sizes] at t
 obtain ⟨n1,n2,n3,n4,n5,n6,n7,n8,n9,n10⟩:=kne
 refine ⟨((xAt xs i).1+1,0),reach_of ?_ ?_⟩
 ·rw [toldBy_k,if_neg (fun z=>n2 z.1.symm),if_neg (fun z=>n5 z.1.symm),if_pos ⟨rfl,by omega,by omega⟩,Int.toNat_natCast,toldHigh,if_neg (by omega)]
 ·rw [sooner_iff]
  simp only
  omega
theorem never_reach (lz:LeZ zs (sizesL F ds xs)) (hi:i < ds.length) (pg:(xAt xs i).1 < F.m) (h:F.w < (xAt zs i).1∨F.h < (xAt zs i).2+1) : ∃ y,reachI F ds xs kN i (i:Int)=some y:=by
 have zl:zs.length=ds.length:=by rw [lz.1,sizes_len]
 have t:=lz.2 i (by rw [zl]; exact hi)
 rw [sizes_at F ds xs hi] at t
 simp only at t
 obtain ⟨n1,n2,n3,n4,n5,n6,n7,n8,n9,n10⟩:=kne
 refine ⟨(F.m,0),reach_of ?_ ?_⟩
 ·rw [toldBy_k,if_neg (fun z=>n4 z.1.symm),if_neg (fun z=>n7 z.1.symm),if_neg (fun z=>n9 z.1.symm),if_neg (fun z=>n10 z.1.symm),if_pos ⟨rfl,rfl⟩,toldNever,if_neg (by omega)]
 ·rw [sooner_iff]
  simp only
  omega
end
theorem LeZ.trans {a b c:List (Int × Int)} (h:LeZ a b) (g:LeZ b c) : LeZ a c:=⟨h.1.trans g.1,fun k hk=>by
 have h1:=h.2 k hk
 have h2:=g.2 k (by rw [← h.1]; exact hk)
 omega⟩
theorem PlsLe.trans {a b c:List (Int × Int)} (h:PlsLe a b) (g:PlsLe b c) : PlsLe a c:=⟨h.1.trans g.1,fun k hk=>le_tr (h.2 k hk) (g.2 k (by rw [← h.1]; exact hk))⟩
theorem PlsLe.refl (a:List (Int × Int)) : PlsLe a a:=⟨rfl,fun k _=>sooner_refl _⟩
theorem le_set {xs:List (Int × Int)} {i:Nat} {y:Int × Int} (hi:i < xs.length) (h:sooner (xAt xs i) y=true) : PlsLe xs (xs.set i y):=by
 refine ⟨by rw [List.length_set],fun k hk=>?_⟩
 show sooner (xAt (xs.set i y) k) (xAt xs k)=false
 rw [xAt_set hi]
 by_cases c:k=i
 ·rw [if_pos c,c,not_sooner]
  rw [sooner_iff] at h
  omega
 ·rw [if_neg c]
  exact sooner_refl _
structure RunOk (F:Frm) (ds:List Wd) (x0 zs xs:List (Int × Int)) (np:Nat) : Prop where
 B:BkOk F ds xs
 low:LowF F ds x0 xs
 le0:PlsLe x0 xs
 lz:LeZ zs (sizesL F ds xs)
 pg:∀ k,k < ds.length→(xAt xs k).1≤F.m+2
 ps:(np:Int)≤(xs.map (rank F.h)).sum
section
variable {F:Frm} {ds:List Wd} {x0 xs zs:List (Int × Int)} {np i:Nat}
theorem RunOk.sum_le (R:RunOk F ds x0 zs xs np) : (xs.map (rank F.h)).sum≤1512000:=by
 have h1:=R.B.fo.h1
 have h2:=R.B.fo.h2
 have m1:=R.B.fo.m1
 have m2:=R.B.fo.m2
 have n:=R.B.n
 have b:=sum_bound (f:=rank F.h) (c:=3780) xs (fun x hx=>by
  obtain ⟨k,hk,rfl⟩:=List.mem_iff_getElem.mp hx
  have hk2:k < ds.length:=by rw [R.B.len]; exact hk
  have p:=R.pg k hk2
  have r:=(R.B.x hk2).1
  have e:xAt xs k=xs[k]:=by
   show xs.getD k (0,0)=_
   rw [List.getD_eq_getElem?_getD,List.getElem?_eq_getElem hk]
   rfl
  rw [e] at p r
  have s:=rank_small (m:=F.m+3) r (by omega)
  have t:F.h * (F.m+3)≤60 * 63:=Int.mul_le_mul h2 (by omega) (by omega) (by decide)
  omega)
 have l:(xs.length:Int)≤400:=by rw [← R.B.len]; omega
 have t:(xs.length:Int) * 3780≤400 * 3780:=Int.mul_le_mul_of_nonneg_right l (by decide)
 omega
theorem RunOk.raise {k:Str} {j:Int} {y:Int × Int} (R:RunOk F ds x0 zs xs np) (all:∀ k,k < ds.length→(xAt xs k).1 < F.m) (hi:i < ds.length) (hy:reachI F ds xs k i j=some y) :
  RunOk F ds x0 zs (xs.set i y) (np+1)∧(xs.map (rank F.h)).sum+1≤((xs.set i y).map (rank F.h)).sum:=by
 obtain ⟨ht,hs⟩:=reach_told hy
 have hm:=told_in hi ht
 have ok:=told_ok (n:=F.m - 1) R.B hi (fun k hk=>by have:=all k hk; omega) (by omega) hm
 have hil:i < xs.length:=by rw [← R.B.len]; exact hi
 have m2:=R.B.fo.m2
 have B2:=R.B.set (i:=i) ok.1 (by have:=ok.2; omega)
 have le:=le_set hil hs
 have sm:=rank_lt (R.B.x hi).1 ok.1 hs
 have ss:=sum_set (f:=rank F.h) (y:=y) hil
 refine ⟨⟨B2,R.low.set R.B hi hm,R.le0.trans le,R.lz.trans (sizes_grow R.B B2 le),fun k hk=>?_,?_⟩,by omega⟩
 ·rw [xAt_set hil]
  by_cases c:k=i
  ·rw [if_pos c]
   have:=ok.2
   omega
  ·rw [if_neg c]
   exact R.pg k hk
 ·have:=R.ps
  omega
theorem RunOk.np_le (R:RunOk F ds x0 zs xs np) : np≤2000000:=by
 have:=R.sum_le
 have:=R.ps
 omega
end
theorem op_orE {X:Cx} {f:Value→Value→Sem Value} {r1 r2:R2} (h1:OpR X f r1) (h2:OpR X f r2) : OpR X f (fun x y H Q=>r1 x y H Q∨r2 x y H Q):=by
 intro pins s σ H x y v u Q I rx ry h
 rcases h with h | h
 ·exact h1 pins s σ H x y v u Q I rx ry h
 ·exact h2 pins s σ H x y v u Q I rx ry h
theorem low_zero {F:Frm} {ds:List Wd} {xs:List (Int × Int)} (h:LowF F ds (List.replicate ds.length (0,0)) xs) : LowX F ds xs:=fun X C fx =>
 h X C fx (LowX.zero (F:=F) (ds:=ds) (by rw [List.length_replicate]) (fun x hx=>List.eq_of_mem_replicate hx) X C fx)
theorem zero_ok {F:Frm} {ds:List Wd} (fo:FormOk F.w F.h F.f F.m) (wd:∀ d ∈ ds,WdOk ds.length d) (n:ds.length≤400) : BkOk F ds (List.replicate ds.length (0,0)):=
 ⟨fo,by rw [List.length_replicate],wd,fun x hx=>by rw [List.eq_of_mem_replicate hx]; exact ⟨⟨Int.le_refl 0,Int.le_refl 0,by have:=fo.h1; show (0:Int) < F.h; omega⟩,by decide⟩,n⟩
section
variable {prog:Program} {w:World} {A:Around} {R:Result→Shared→Prop} {I:Addr} {fp wr:List Addr} {n:Nat} {P:Nat→Value→Prop} {St:Nat→Heap→Prop}
theorem maxl_rest (W:Walks prog w A.in1 I fp wr n P St) (bt:Nat→Nat→Bool) (S:Addr) (hSf:S ∉ fp) (G:Heap→Prop) (hG:∀ h h':Heap,G h→(∀ b o,b ∉ wr→b≠S→h.get? b=some o→h'.get? b=some o)→G h')
  (hc:∀ i j vi vj (s:Shared) (Q:Value→Shared→Prop) (E:Value→Shared→Prop),G s.heap→P i vi→P j vj→Q (.bool (bt i j)) s→wpAny (model prog w) A.in1 (richCompare .Gt vi vj) Q E s) :
  ∀ (k j:Nat) (s:Shared) (v:Value) (c:Nat),n - (j+1)=k→j+1≤n→St (j+1) s.heap→G s.heap→P (argBest bt j) v→s.heap.get? S=some { cls:=.type "list",dict:=none,data:=.seq #[v,v] c,slots:=#[] } →
  (∀ v h' tk,P (argBest bt (n - 1)) v→(∀ b o,b ∉ wr→b≠S→s.heap.get? b=some o→h'.get? b=some o)→R (.ok (.ret v)) { s with heap:=h',toks:=tk })→codeAny (model prog w) A (.builtin "max.loop" ⟨[.ref I,.none,.ref S],[]⟩) R s:=by
 have n1:S ∉ wr:=fun z=>hSf (W.sub _ z)
 have nmd:(toString "max"++toString ".loop" : String) = "max.loop":=(by decide)
 intro k; induction k with
 | zero =>
  intro j s v c e hj hst hg hP hS hR; have hn:j+1=n:=(by omega)
  refine codeAny_builtin F.entry_max_loop (by
   rw [Around.under_plainId F.plain_max_loop _]; exact wpAny_bind (m:=seqItems? (.ref S)) (wpAny_seqItems hS rfl (wpAny_bind (m:=tryCatch (pyNext (.ref I)) _) (wpAny_tryCatch (W.done s _ _ (hn ▸ hst) fun h' tk kp =>
    wpAny_bind (m:=updateSeq S (fun _=>#[])) (wpAny_updateSeq (kp S _ n1 hS) rfl (wpAny_bind (wpAny_letGo (wpAny_pure (hR v _ tk (hn ▸ hP) fun b o b1 b2 e=>(Heap.get?_update_other _ _ (Ne.symm b2)).trans (kp b o b1 e)))))))))))
 | succ k ih =>
  intro j s v c e hj hst hg hP hS hR; have hn:j+1 < n:=(by omega)
  refine codeAny_builtin F.entry_max_loop (by
   rw [Around.under_plainId F.plain_max_loop _]; refine wpAny_bind (m:=seqItems? (.ref S)) (wpAny_seqItems hS rfl (wpAny_bind (m:=tryCatch (pyNext (.ref I)) _) (wpAny_tryCatch (W.item (j+1) s _ _ hn hst fun u h' tk hu hst' kp=>?_)))); skip
   have hS':=kp S _ n1 hS; have hg':=hG _ _ hg (fun b o b1 _ e=>kp b o b1 e); skip
   refine wpAny_bind (m:=tryCatch (holding [u,u] (richCompare .Gt u v >>= _)) _) (wpAny_tryCatch (wpAny_holding (wpAny_bind (hc (j+1) (argBest bt j) u v { s with heap:=h',toks:=tk } _ _ hg' hu hP ?_)))); skip
   refine wpAny_bind (wpAny_holding (wpAny_truthy_bool (wpAny_bind (wpAny_letGo (wpAny_pure ?_))))); skip
   cases hb:bt (j+1) (argBest bt j) with
   | true =>
    simp only [if_true]; refine wpAny_bind (wpAny_updateSeq hS' rfl (wpAny_bind (wpAny_letGo ?_))); skip
    rw [nmd]; refine wpAny_pure ⟨plainId_quiet F.plain_max_loop _,ih (j+1) _ u _ (by omega) hn (W.frame _ _ _ hst' fun b bf o e=>(Heap.get?_update_other _ _ (fun z:S=b=>hSf (z ▸ bf))).trans e) (hG _ _ hg' fun b o _ b2 e=>(Heap.get?_update_other _ _ (Ne.symm b2)).trans e) (by simp only [argBest,hb,if_true]; exact hu) (Heap.get?_update_self _ hS' rfl) fun v2 h2 tk2 p2 k2=>?_⟩
    exact hR v2 h2 tk2 p2 fun b o b1 b2 e=>k2 b o b1 b2 ((Heap.get?_update_other _ _ (Ne.symm b2)).trans (kp b o b1 e))
   | false =>
    simp only [Bool.false_eq_true,if_false]; refine wpAny_bind (wpAny_letGo ?_); skip
    rw [nmd]; refine wpAny_pure ⟨plainId_quiet F.plain_max_loop _,ih (j+1) _ v c (by omega) hn hst' hg' (by simp only [argBest,hb,Bool.false_eq_true,if_false]; exact hP) hS' fun v2 h2 tk2 p2 k2=>?_⟩
    exact hR v2 h2 tk2 p2 fun b o b1 b2 e=>k2 b o b1 b2 (kp b o b1 e))
theorem maxl_first (W:Walks prog w A.in1 I fp wr n P St) (bt:Nat→Nat→Bool) (S:Addr) (hSf:S ∉ fp) (G:Heap→Prop) (hG:∀ h h':Heap,G h→(∀ b o,b ∉ wr→b≠S→h.get? b=some o→h'.get? b=some o)→G h')
  (hc:∀ i j vi vj (s:Shared) (Q:Value→Shared→Prop) (E:Value→Shared→Prop),G s.heap→P i vi→P j vj→Q (.bool (bt i j)) s→wpAny (model prog w) A.in1 (richCompare .Gt vi vj) Q E s) (hn:0 < n) {s:Shared} {c:Nat} (hst:St 0 s.heap) (hg:G s.heap)
  (hS:s.heap.get? S=some { cls:=.type "list",dict:=none,data:=.seq #[] c,slots:=#[] }) (hR:∀ v h' tk,P (argBest bt (n - 1)) v→(∀ b o,b ∉ wr→b≠S→s.heap.get? b=some o→h'.get? b=some o)→R (.ok (.ret v)) { s with heap:=h',toks:=tk }) :
  codeAny (model prog w) A (.builtin "max.loop" ⟨[.ref I,.none,.ref S],[]⟩) R s:=by
 have n1:S ∉ wr:=fun z=>hSf (W.sub _ z)
 have nmd:(toString "max"++toString ".loop" : String) = "max.loop":=(by decide)
 refine codeAny_builtin F.entry_max_loop (by
  rw [Around.under_plainId F.plain_max_loop _]; refine wpAny_bind (m:=seqItems? (.ref S)) (wpAny_seqItems hS rfl (wpAny_bind (m:=tryCatch (pyNext (.ref I)) _) (wpAny_tryCatch (W.item 0 s _ _ hn hst fun v h' tk hP hst' kp=>?_)))); skip
  have hS':=kp S _ n1 hS; have hg':=hG _ _ hg (fun b o b1 _ e=>kp b o b1 e); refine wpAny_bind (m:=updateSeq S (fun _=>#[v,v])) (wpAny_updateSeq hS' rfl ?_); rw [nmd]
  refine wpAny_pure ⟨plainId_quiet F.plain_max_loop _,maxl_rest W bt S hSf G hG hc _ 0 _ v _ rfl hn (W.frame _ _ _ hst' fun b bf o e=>(Heap.get?_update_other _ _ (fun z:S=b=>hSf (z ▸ bf))).trans e) (hG _ _ hg' fun b o _ b2 e=>(Heap.get?_update_other _ _ (Ne.symm b2)).trans e) hP (Heap.get?_update_self _ hS' rfl) fun v2 h2 tk2 p2 k2=>?_⟩
  exact hR v2 h2 tk2 p2 fun b o b1 b2 e=>k2 b o b1 b2 ((Heap.get?_update_other _ _ (Ne.symm b2)).trans (kp b o b1 e)))
end
section
variable {F:Frm} {ds:List Wd} {xs:List (Int × Int)} {i:Nat}
end
theorem argBest_int (f:Nat→Int) : ∀ k,argBest (fun i j=>decide (f j < f i)) k≤k∧∀ i,i≤k→f i≤f (argBest (fun i j=>decide (f j < f i)) k)
 | 0=>⟨Nat.le_refl _,fun i hi=>by have:i=0:=(by omega); subst this; exact Int.le_refl _⟩
 | k+1=>by
  obtain ⟨h1,h2⟩:=argBest_int f k
  rw [argBest]
  by_cases e:f (argBest (fun i j=>decide (f j < f i)) k) < f (k+1)
  ·rw [if_pos (decide_eq_true e)]
   refine ⟨Nat.le_refl _,fun i hi=>?_⟩
   by_cases c:i=k+1
   ·subst c; exact Int.le_refl _
   ·have h3:=h2 i (by omega)
    omega
  ·rw [if_neg (fun z=>e (of_decide_eq_true z))]
   refine ⟨Nat.le_succ_of_le h1,fun i hi=>?_⟩
   by_cases c:i=k+1
   ·subst c; omega
   ·exact h2 i (by omega)
theorem call_maxI {X:Cx} (hc:X.calm=true) : CallR X (.builtin "max") (fun xs H Q=>∃ (l:Addr) (ns:List Int),xs=[.ref l]∧SqL X.K H l (ns.map V.int)∧0 < ns.length∧∀ m,m ∈ ns→(∀ x ∈ ns,x≤m)→Q (.int m) H):=by
 intro pins s σ H xs us Q I r h
 obtain ⟨l,ns,rfl,hl,pos,q⟩:=h
 obtain ⟨u,rfl,ru⟩:=vals1 r
 cases ru
 obtain ⟨its,rv,p,z⟩:=I.list hl
 have hlt:l < s.heap.objs.size:=by obtain ⟨_,_,e,_⟩:=p; exact Heap.lt_size e
 have len:=rv.length
 rw [List.length_map] at len
 have nmd:(toString "max"++toString ".loop" : String) = "max.loop":=(by decide)
 have isz:its.toArray.size=ns.length:=by rw [List.size_toArray]; omega
 have hv:∀ i v,its[i]? = some v→∃ n t,ns[i]? = some n∧v=Value.int n t:=fun i v e=>by
  have hi:i < ns.length:=by have:=(List.getElem?_eq_some_iff.mp e).1; omega
  have eb:(ns.map V.int)[i]? = some (V.int ns[i]):=by rw [List.getElem?_map,List.getElem?_eq_getElem hi]; rfl
  obtain ⟨w',hw,rw'⟩:=rv.get eb
  rw [e] at hw
  cases hw
  obtain ⟨t,rfl⟩:=rw'
  exact ⟨_,t,List.getElem?_eq_getElem hi,rfl⟩
 have gd:∀ {i n},ns[i]? = some n→ns.getD i 0=n:=fun {i n} e=>by rw [List.getD_eq_getElem?_getD,e]; rfl
 refine call_function_tree F.kind_max F.plain_max F.entry_max (F.args_max1 _) (by
  refine wpAny_bind (m:=Builtin.Builtins.bindParams "max" ["key","default"] 0 ⟨[],[]⟩) (wpAny_of_eq (show Builtin.Builtins.bindParams "max" ["key","default"] 0 ⟨[],[]⟩=pure [none,none] from rfl) ?_); skip
  refine wpAny_bind (wpAny_pure (wpAny_bind (wpAny_pyIter_list p.isList (wpAny_bind (wpAny_newObj_type ?_))))); rw [nmd]
  refine wpAny_pure ⟨plainId_quiet F.plain_max_loop _,maxl_first (Walks.list (A:=X.A.in1) (I.ok.hd hc) s.heap.objs.size l (Nat.ne_of_lt hlt) its.toArray) (fun i j=>decide (ns.getD j 0 < ns.getD i 0)) _ ?nf (fun h=>∀ b o,s.heap.get? b=some o→h.get? b=some o) ?hG ?hc (by omega) ⟨⟨_,Heap.get?_push_of_some _ (Heap.get?_push_size _ rfl),rfl,rfl⟩,(p.isList.push _).push _⟩ (fun b o e=>Heap.get?_push_of_some _ (Heap.get?_push_of_some _ e)) (Heap.get?_push_size _ rfl) fun v h' tk p0 kp=>?hr⟩
  case nf =>
   intro hm
   rcases List.mem_cons.mp hm with e | e
   ·rw [Heap.size_push] at e
    exact absurd e (Nat.succ_ne_self _)
   ·rw [List.mem_singleton,Heap.size_push] at e
    rw [← e] at hlt
    exact absurd hlt (Nat.not_lt.mpr (Nat.le_succ _))
  case hG =>
   intro h h' g kp b o e
   have lt:=Heap.lt_size e
   refine kp b o (fun hm=>?_) (fun hm=>?_) (g b o e)
   ·rw [List.mem_singleton.mp hm] at lt
    exact Nat.lt_irrefl _ lt
   ·rw [hm,Heap.size_push] at lt
    exact absurd lt (Nat.not_lt.mpr (Nat.le_succ _))
  case hc =>
   intro i j vi vj s' Q' E' g hi hj hq
   obtain ⟨a,t,ea,rfl⟩:=hv i vi (by simpa using hi)
   obtain ⟨b,t',eb,rfl⟩:=hv j vj (by simpa using hj)
   rw [gd ea,gd eb] at hq
   exact gt_int hq
  case hr =>
   obtain ⟨a,t,ea,rfl⟩:=hv _ v (by simpa using p0)
   have sp:=argBest_int (fun i=>ns.getD i 0) (its.toArray.size - 1)
   refine ⟨.int a,H,I.kept fun b o e=>?_,⟨t,rfl⟩,q a (List.mem_of_getElem? ea) fun x hx=>?_⟩
   ·have lt:=Heap.lt_size e
    refine kp b o (fun hm=>?_) (fun hm=>?_) (Heap.get?_push_of_some _ (Heap.get?_push_of_some _ e))
    ·rw [List.mem_singleton.mp hm] at lt
     exact Nat.lt_irrefl _ lt
    ·rw [hm,Heap.size_push] at lt
     exact absurd lt (Nat.not_lt.mpr (Nat.le_succ _))
   ·obtain ⟨k,hk,rfl⟩:=List.mem_iff_getElem.mp hx
    have:=sp.2 k (by omega)
    have e2:ns.getD (argBest (fun i j=>decide (ns.getD j 0 < ns.getD i 0)) (its.toArray.size - 1)) 0=a:=gd ea
    rw [e2,gd (List.getElem?_eq_getElem hk)] at this
    exact this)
structure SpotsOk (h f:Int) (xs:List (Int × Int)) (ls:List Int) : Prop where
 len:xs.length=ls.length
 l:∀ i,i < xs.length→0≤ls.getD i 0∧ls.getD i 0≤4
 r:∀ i,i < xs.length→RowIn h (xAt xs i)
 ff:∀ i,i < xs.length→firstFrom f (xAt xs i) (ls.getD i 0)=xAt xs i
 bh:∀ i,0 < i→i < xs.length→sooner (xAt xs i) (behindI h f (xAt xs (i - 1)) (ls.getD i 0))=false
theorem SpotsOk.nil {h f:Int} : SpotsOk h f [] []:=⟨rfl,fun i hi=>absurd hi (Nat.not_lt_zero _),fun i hi=>absurd hi (Nat.not_lt_zero _),fun i hi=>absurd hi (Nat.not_lt_zero _),fun i _ hi=>absurd hi (Nat.not_lt_zero _)⟩
theorem getD_snoc {α:Type} (xs:List α) (x d:α) (k:Nat) : (xs++[x]).getD k d=if k < xs.length then xs.getD k d else if k=xs.length then x else d:=by
 rw [getD_app]
 split
 ·rfl
 ·rename_i c
  split
  ·rename_i e
   rw [e,Nat.sub_self]
   rfl
  ·rename_i e
   obtain ⟨m,hm⟩ : ∃ m,k - xs.length=m+1:=⟨k - xs.length - 1,by omega⟩
   rw [hm]
   rfl
theorem SpotsOk.snoc {h f l:Int} {xs:List (Int × Int)} {ls:List Int} {x:Int × Int} (S:SpotsOk h f xs ls) (l0:0≤l) (l1:l≤4) (r:RowIn h x) (ff:firstFrom f x l=x) (bh:0 < xs.length→sooner x (behindI h f (xAt xs (xs.length - 1)) l)=false) : SpotsOk h f (xs++[x]) (ls++[l]):=by
 have ex:∀ k,xAt (xs++[x]) k=if k < xs.length then xAt xs k else if k=xs.length then x else (0,0):=fun k=>getD_snoc xs x (0,0) k
 have el:∀ k,(ls++[l]).getD k 0=if k < xs.length then ls.getD k 0 else if k=xs.length then l else 0:=fun k=>by rw [getD_snoc,S.len]
 have cs:∀ i,i < (xs++[x]).length→i < xs.length∨i=xs.length:=fun i hi=>by
  rw [List.length_append] at hi
  simp at hi
  omega
 refine ⟨by simp [S.len],fun i hi=>?_,fun i hi=>?_,fun i hi=>?_,fun i i0 hi=>?_⟩
 ·rw [el]
  rcases cs i hi with c | c
  ·rw [if_pos c]; exact S.l i c
  ·rw [if_neg (by omega),if_pos c]; exact ⟨l0,l1⟩
 ·rw [ex]
  rcases cs i hi with c | c
  ·rw [if_pos c]; exact S.r i c
  ·rw [if_neg (by omega),if_pos c]; exact r
 ·rw [ex,el]
  rcases cs i hi with c | c
  ·rw [if_pos c,if_pos c]; exact S.ff i c
  ·rw [if_neg (by omega),if_pos c,if_neg (by omega),if_pos c]; exact ff
 ·rcases cs i hi with c | c
  ·have e1:xAt (xs++[x]) i=xAt xs i:=by rw [ex,if_pos c]
   have e2:(ls++[l]).getD i 0=ls.getD i 0:=by rw [el,if_pos c]
   have e3:xAt (xs++[x]) (i - 1)=xAt xs (i - 1):=by rw [ex,if_pos (by omega)]
   rw [e1,e2,e3]
   exact S.bh i i0 c
  ·have e1:xAt (xs++[x]) i=x:=by rw [ex,if_neg (by omega),if_pos c]
   have e2:(ls++[l]).getD i 0=l:=by rw [el,if_neg (by omega),if_pos c]
   have e3:xAt (xs++[x]) (i - 1)=xAt xs (i - 1):=by rw [ex,if_pos (by omega)]
   rw [e1,e2,e3,c]
   exact bh (by omega)
theorem SpotsOk.mono {h f:Int} {xs:List (Int × Int)} {ls:List Int} (S:SpotsOk h f xs ls) : ∀ k,0 < k→k < xs.length→sooner (xAt xs k) (xAt xs (k - 1))=false:=fun k k0 hk =>
 le_tr (behind_self (f:=f) (S.r (k - 1) (by omega)) (S.l k hk).1 (S.l k hk).2) (S.bh k k0 hk)
theorem SpotsOk.le {h f:Int} {xs:List (Int × Int)} {ls:List Int} (S:SpotsOk h f xs ls) {j i:Nat} (hj:j≤i) (hi:i < xs.length) : sooner (xAt xs i) (xAt xs j)=false:=by
 have:=chain_le (i:=i) (xs:=xs) (fun k k0 k1=>S.mono k k0 (by omega)) (i - j) j (by omega)
 rwa [show j+(i - j)=i by omega] at this
def pgS (xs:List (Int × Int)) (ds:List Wd) (p:Int) : Nat→Int
 | 0=>0
 | k+1=>pgS xs ds p k+if (xAt xs k).1=p then ((dAt ds k).foot.length:Int) else 0
theorem pgS_congr {xs:List (Int × Int)} {ds es:List Wd} {p:Int} : ∀ {k:Nat},(∀ j,j < k→dAt ds j=dAt es j)→pgS xs ds p k=pgS xs es p k
 | 0,_=>rfl
 | k+1,h=>by
  unfold pgS
  rw [pgS_congr (k:=k) fun j hj=>h j (by omega),h k (by omega)]
theorem pgS_snoc {xs:List (Int × Int)} {ds:List Wd} {d:Wd} {p:Int} : pgS xs (ds++[d]) p (ds.length+1)=pgS xs ds p ds.length+if (xAt xs ds.length).1=p then (d.foot.length:Int) else 0:=by
 have e:∀ j,j < ds.length→dAt (ds++[d]) j=dAt ds j:=fun j hj=>by
  show (ds++[d]).getD j wd0=_
  rw [getD_snoc,if_pos hj]
 have e2:dAt (ds++[d]) ds.length=d:=by
  show (ds++[d]).getD ds.length wd0=_
  rw [getD_snoc,if_neg (Nat.lt_irrefl _),if_pos rfl]
 rw [show pgS xs (ds++[d]) p (ds.length+1)=pgS xs (ds++[d]) p ds.length+if (xAt xs ds.length).1=p then ((dAt (ds++[d]) ds.length).foot.length:Int) else 0 from rfl,pgS_congr e,e2]
theorem pgS_nonneg {xs:List (Int × Int)} {ds:List Wd} {p:Int} : ∀ k,0≤pgS xs ds p k
 | 0=>Int.le_refl _
 | k+1=>by
  have:=pgS_nonneg (xs:=xs) (ds:=ds) (p:=p) k
  unfold pgS
  split <;> omega
theorem pgS_mono {xs:List (Int × Int)} {ds:List Wd} {p:Int} {k:Nat} : ∀ d,pgS xs ds p k≤pgS xs ds p (k+d)
 | 0=>Int.le_refl _
 | d+1=>by
  have:=pgS_mono (xs:=xs) (ds:=ds) (p:=p) (k:=k) d
  show _≤pgS xs ds p (k+d)+_
  split <;> omega
section
variable {F:Frm} {ds:List Wd} {xs:List (Int × Int)} {i j:Nat}
theorem high_few {d:Wd} (B:BkOk F ds xs) (hd:d ∈ ds) (ft:∀ s ∈ d.foot,((saidL F.h F.f xs s).length:Int)≤F.w) : highW F xs d≤d.foot.length:=by
 have wk:=B.wd d hd
 rw [B.len] at wk
 have sm:=fill_small B.fo.w2 (d.foot.map (saidL F.h F.f xs)) fun t ht=>by
  obtain ⟨s,hs,rfl⟩:=List.mem_map.mp ht
  exact (said_len B.fo B.po (wk.f s hs)).2.1
 have an:(fillW F.w (d.foot.map (saidL F.h F.f xs))).any (fun r=>decide (F.w < r.length))=false:=by
  rw [fill_wide,List.any_eq_false]
  intro t ht
  obtain ⟨s,hs,rfl⟩:=List.mem_map.mp ht
  have:=ft s hs
  exact fun z=>absurd (of_decide_eq_true z) (by omega)
 have s2:=sm.2
 rw [List.length_map] at s2
 unfold highW highF
 rw [an,if_neg (by decide)]
 split <;> omega
theorem seg_pgS {p:Int} (hz:∀ k,k < ds.length→highW F xs (dAt ds k)≤(dAt ds k).foot.length) (hi:i < ds.length) : ∀ (d j:Nat),i+1 - j=d→j≤i+1→(∀ n,j≤n→n≤i→(xAt xs n).1=p)→sumS (sizesL F ds xs) j i+pgS xs ds p j≤pgS xs ds p (i+1)
 | 0,j,e,hj,_=>by
  have:j=i+1:=by omega
  subst this
  rw [sumS_out]
  omega
 | d+1,j,e,hj,hp=>by
  have ih:=seg_pgS (p:=p) hz hi d (j+1) (by omega) (by omega) fun n a b=>hp n (by omega) b
  have hk:=hz j (by omega)
  have hjp:=hp j (Nat.le_refl _) (by omega)
  rw [sumS_cons (by omega) (by rw [sizes_len]; exact hi),sizes_at F ds xs (by omega)]
  have e2:pgS xs ds p (j+1)=pgS xs ds p j+if (xAt xs j).1=p then ((dAt ds j).foot.length:Int) else 0:=rfl
  rw [e2,if_pos hjp] at ih
  simp only
  omega
theorem borne_fix {ls:List Int} (B:BkOk F ds xs) (pg:Pages F.m xs) (S:SpotsOk F.h F.f xs ls) (hl:∀ i,i < ds.length→(dAt ds i).lead=ls.getD i 0)
  (wd:∀ i j,i < ds.length→j≤i→(∀ n,j≤n→n≤i→xAt xs n=xAt xs i)→together (wides F ds xs j i)≤F.w)
  (ft:∀ i,i < ds.length→∀ s ∈ (dAt ds i).foot,((saidL F.h F.f xs s).length:Int)≤F.w)
  (rm:∀ i,i < ds.length→(xAt xs i).2+1+pgS xs ds (xAt xs i).1 ds.length≤F.h)
  (kp:∀ i,i+1 < ds.length→(dAt ds (i+1)).kept=true→(xAt xs (i+1)).1=(xAt xs i).1) : Fixd F ds xs:=by
 have mem:∀ k,k < ds.length→dAt ds k ∈ ds:=fun k hk=>List.mem_of_getElem? (B.d hk).1
 have hz:∀ k,k < ds.length→highW F xs (dAt ds k)≤(dAt ds k).foot.length:=fun k hk=>high_few B (mem k hk) (ft k hk)
 have hh:∀ i j,i < ds.length→j≤i→(∀ n,j≤n→n≤i→(xAt xs n).1=(xAt xs i).1)→(xAt xs i).2+1+sumS (sizesL F ds xs) j i≤F.h:=fun i j hi hj hp=>by
  have a:=seg_pgS (p:=(xAt xs i).1) hz hi (i+1 - j) j rfl (by omega) hp
  have b:=pgS_nonneg (xs:=xs) (ds:=ds) (p:=(xAt xs i).1) j
  have c:=pgS_mono (xs:=xs) (ds:=ds) (p:=(xAt xs i).1) (k:=i+1) (ds.length - (i+1))
  rw [show i+1+(ds.length - (i+1))=ds.length by omega] at c
  have d:=rm i hi
  omega
 refine fix_of B pg (fun i hi=>?_) (fun i y hi e=>?_)
 ·have hix:i < xs.length:=by rw [← B.len]; exact hi
  have lz:i < (sizesL F ds xs).length:=by rw [sizes_len]; exact hi
  refine ⟨?_,?_,?_,fun j hj hn=>?_,fun j hj hn=>hh i j hi hj hn⟩
  ·have:=wd i i hi (Nat.le_refl _) (fun n a b=>by rw [show n=i by omega])
   rw [← togS_sizes,togS_self lz] at this
   exact this
  ·have:=hh i i hi (Nat.le_refl _) (fun n a b=>by rw [show n=i by omega])
   rw [sumS_cons (Nat.le_refl _) lz,sumS_out] at this
   have r:=(S.r i hix).r1
   omega
  ·have fx:=S.ff i hix
   rw [← hl i hi] at fx
   unfold toldBehind
   by_cases c:0 < i
   ·have b:=S.bh i c hix
    rw [← hl i hi] at b
    rw [if_pos c,laterI,if_neg (by rw [b]; decide),fx]
    exact sooner_refl _
   ·rw [if_neg c,fx]
    exact sooner_refl _
  ·rw [togS_sizes]
   exact wd i j hi (by omega) hn
 ·unfold toldKept at e
  split at e
  ·cases e
  ·rename_i c
   cases e
   have hi2:i+1 < ds.length:=by
    rcases Nat.lt_or_ge (i+1) ds.length with z | z
    ·exact z
    ·exact absurd (.inl (by omega)) c
   have k:(dAt ds (i+1)).kept=true:=by
    cases e:(dAt ds (i+1)).kept with
    | true=>rfl
    | false=>exact absurd (.inr e) c
   have:=kp i hi2 k
   have r:=(B.x hi).1.r1
   rw [not_sooner]
   simp only
   omega
theorem tog_mono (hi:i < ds.length) : ∀ (d j:Nat),j+d≤i→together (wides F ds xs (j+d) i)≤together (wides F ds xs j i)
 | 0,j,_=>Int.le_refl _
 | d+1,j,e=>by
  have ih:=tog_mono hi d (j+1) (by omega)
  rw [show j+1+d=j+(d+1) by omega] at ih
  refine Int.le_trans ih ?_
  rw [← togS_sizes,← togS_sizes,togS_cons (j:=j) (by omega) (by rw [sizes_len]; exact hi),sizes_at F ds xs (by omega)]
  have:0≤wideW F xs (dAt ds j):=Int.natCast_nonneg _
  simp only
  omega
end
theorem first_first {f l:Int} {x:Int × Int} (l0:0≤l) : firstFrom f (firstFrom f x l) l=firstFrom f x l:=by
 unfold firstFrom
 by_cases c:l=4∧(f+x.1) % 2=0
 ·rw [if_pos c,if_neg (by intro z; have:=z.2; simp only [nextTop] at this; omega)]
 ·rw [if_neg c,if_neg c]
theorem first_two {f l:Int} {x:Int × Int} (e:firstFrom f x l=x) : firstFrom f (x.1+2,x.2) l=(x.1+2,x.2):=by
 unfold firstFrom at e ⊢
 by_cases c:l=4∧(f+x.1) % 2=0
 ·rw [if_pos c] at e
  have:=congrArg Prod.fst e
  simp only [nextTop] at this
  omega
 ·rw [if_neg (by intro z; exact c ⟨z.1,by have:=z.2; simp only at this; omega⟩)]
theorem first_behind {h f l:Int} {x:Int × Int} (l0:0≤l) (l1:l≤4) : firstFrom f (behindI h f x l) l=behindI h f x l:=by
 by_cases c:l=4
 ·subst c
  have:behindI h f x 4=firstFrom f (nextTop x) 4:=by unfold behindI; rw [if_neg (by decide),if_neg (by decide),if_neg (by decide)]
  rw [this]
  exact first_first (by decide)
 ·unfold firstFrom
  rw [if_neg (fun z=>c z.1)]
theorem behind_pg1 {h f l:Int} {x:Int × Int} (h0:0≤l) (h1:l≤2) : (behindI h f x l).1≤x.1+1:=by
 obtain ⟨q,s,e,d⟩:=behind_desc h f l x.1 x.2 h0 (by omega)
 rw [show x=(x.1,x.2) from rfl,e]
 simp only
 omega
def pgM (f:Int) (i:Nat) : Int:=if 99999 < f then 47+((i+2) / 3:Nat) else 47+((i+19) / 20:Nat)
theorem pgM_le {f:Int} {i:Nat} (h:i≤59) (g:99999 < f→i≤24) : pgM f i≤55:=by
 unfold pgM
 split
 ·rename_i c
  have:=g c
  omega
 ·omega
theorem pgM_ge {f:Int} {i:Nat} : 47≤pgM f i:=by
 unfold pgM
 split <;> omega
theorem pgM_up {f:Int} {i:Nat} : pgM f i≤pgM f (i+1):=by
 unfold pgM
 split <;> omega
theorem pgM_forced {f:Int} {i:Nat} (h:(i:Int) % (if 99999 < f then 3 else 20)=0) : pgM f i+1≤pgM f (i+1):=by
 unfold pgM
 split at h
 ·rename_i c
  rw [if_pos c,if_pos c]
  omega
 ·rename_i c
  rw [if_neg c,if_neg c]
  omega
def StsA (K:PySem.W.Frag) (H:Hp) (bs:List Addr) : Prop:=∀ b ∈ bs,∃ xs:List Int,SqL K H b (xs.map V.int)∧StrOk 18 xs
theorem StsA.same {K:PySem.W.Frag} {H H':Hp} {bs:List Addr} (s:Same H H') (h:StsA K H bs) : StsA K H' bs:=fun b hb=>by
 obtain ⟨xs,h1,h2⟩:=h b hb
 exact ⟨xs,s.seq h1,h2⟩
theorem ref_at {bs:List Addr} {i:Nat} {y:V} (h:(bs.map V.ref)[i]? = some y) : ∃ b,y=V.ref b∧bs[i]? = some b:=by
 rw [List.getElem?_map] at h
 cases e:bs[i]? with
 | none=>rw [e] at h; cases h
 | some b=>rw [e] at h; cases h; exact ⟨b,rfl,rfl⟩
theorem pick_lead10 (k:Int) : ∃ z:Int,0≤z∧z≤4∧atI [V.int 0,V.int 0,V.int 1,V.int 0,V.int 2,V.int 0,V.int 3,V.int 0,V.int 4,V.int 1] (k % 10)=some (V.int z):=by
 obtain ⟨u,m,e⟩:=pick [V.int 0,V.int 0,V.int 1,V.int 0,V.int 2,V.int 0,V.int 3,V.int 0,V.int 4,V.int 1] 10 k rfl (by decide)
 simp only [List.mem_cons,List.not_mem_nil,or_false] at m
 rcases m with rfl | rfl | rfl | rfl | rfl | rfl | rfl | rfl | rfl | rfl <;> exact ⟨_,by decide,by decide,e⟩
def erD (H:Hp) (ra wa:Addr) : Hp:=fun b=>if b=ra∨b=wa then none else H b
theorem erD_same (H:Hp) (ra wa:Addr) : Same (erD H ra wa) H:=fun b o h=>by
 unfold erD at h
 split at h
 ·cases h
 ·exact h
theorem erD_at {H:Hp} {ra wa b:Addr} (n1:b≠ra) (n2:b≠wa) : erD H ra wa b=H b:=by
 unfold erD
 rw [if_neg (by intro z; rcases z with z | z; exact n1 z; exact n2 z)]
theorem erD_mono {H H':Hp} {ra wa:Addr} (s:Same H H') : Same (erD H ra wa) (erD H' ra wa):=fun b o h=>by
 unfold erD at h ⊢
 split at h
 ·cases h
 ·rename_i c
  rw [if_neg c]
  exact s b o h
theorem erD_put1 {H:Hp} {ra wa:Addr} {o:HO} : erD (upd H ra o) ra wa=erD H ra wa:=by
 funext b
 unfold erD
 by_cases c:b=ra∨b=wa
 ·rw [if_pos c,if_pos c]
 ·rw [if_neg c,if_neg c,upd_ne (fun e=>c (.inl e))]
theorem erD_put2 {H:Hp} {ra wa:Addr} {o:HO} : erD (upd H wa o) ra wa=erD H ra wa:=by
 funext b
 unfold erD
 by_cases c:b=ra∨b=wa
 ·rw [if_pos c,if_pos c]
 ·rw [if_neg c,if_neg c,upd_ne (fun e=>c (.inr e))]
theorem erD_tup {K:PySem.W.Frag} {H:Hp} {ra wa a:Addr} {kvs:List (Key × V)} {xs zs:List V} (h1:H ra=some (.dK kvs)) (h2:H wa=some (.lst zs)) (h:SqT K H a xs) : SqT K (erD H ra wa) a xs:=by
 have ne:∀ o,H a=some o→(∀ l,o≠.lst l)→(∀ l,o≠.dK l)→erD H ra wa a=some o:=fun o e n m=>by
  rw [erD_at (fun z=>by rw [z,h1] at e; cases e; exact m _ rfl) (fun z=>by rw [z,h2] at e; cases e; exact n _ rfl)]
  exact e
 rcases h with (h | ⟨o,h⟩) | h
 ·exact .inl (.inl (ne _ h (fun l z=>by cases z) (fun l z=>by cases z)))
 ·exact .inl (.inr ⟨o,ne _ h (fun l z=>by cases z) (fun l z=>by cases z)⟩)
 ·exact .inr h
theorem SaysA.erD {K:PySem.W.Frag} {H:Hp} {ra wa:Addr} {kvs:List (Key × V)} {zs:List V} {bs:List Addr} {ss:List Say} (h1:H ra=some (.dK kvs)) (h2:H wa=some (.lst zs)) (h:SaysA K H bs ss) : SaysA K (L2.erD H ra wa) bs ss:=⟨h.1,fun i b s e e'=>erD_tup h1 h2 (h.2 i b s e e')⟩
theorem pick_many (k:Int) : ∃ z:Int,0≤z∧z≤3∧atI [V.int 0,V.int 1,V.int 0,V.int 2,V.int 0,V.int 3] (k % 6)=some (V.int z):=by
 obtain ⟨u,m,e⟩:=pick [V.int 0,V.int 1,V.int 0,V.int 2,V.int 0,V.int 3] 6 k rfl (by decide)
 simp only [List.mem_cons,List.not_mem_nil,or_false] at m
 rcases m with rfl | rfl | rfl | rfl | rfl | rfl <;> exact ⟨_,by decide,by decide,e⟩
theorem dAt_snoc {ds:List Wd} {d:Wd} {k:Nat} : dAt (ds++[d]) k=if k < ds.length then dAt ds k else if k=ds.length then d else wd0:=getD_snoc ds d wd0 k
theorem xAt_of {xs:List (Int × Int)} {x:Int × Int} {k:Nat} (e:xs[k]? = some x) : xAt xs k=x:=by
 show xs.getD k (0,0)=x
 rw [List.getD_eq_getElem?_getD,e]
 rfl
structure TrueAt (F:Frm) (ds:List Wd) (xs:List (Int × Int)) (k:Nat) : Prop where
 ff:firstFrom F.f (xAt xs k) (dAt ds k).lead=xAt xs k
 bh:0 < k→sooner (xAt xs k) (behindI F.h F.f (xAt xs (k - 1)) (dAt ds k).lead)=false
 wide:∀ j,j≤k→(∀ n,j≤n→n≤k→xAt xs n=xAt xs k)→together (wides F ds xs j k)≤F.w
 high:∀ j,j≤k→(∀ n,j≤n→n≤k→(xAt xs n).1=(xAt xs k).1)→(xAt xs k).2+1+(highs F ds xs j k).sum≤F.h
 kept:0 < k→(dAt ds k).kept=true→(xAt xs (k - 1)).1=(xAt xs k).1
section
variable {F:Frm} {ds:List Wd} {xs:List (Int × Int)} {i j:Nat}
theorem fix_true (B:BkOk F ds xs) (fx:Fixd F ds xs) (pg:Pages F.m xs) (hi:i < ds.length) : TrueAt F ds xs i:=by
 have pk:(xAt xs i).1 < F.m:=pg _ (xAt_mem (by rw [← B.len]; exact hi))
 obtain ⟨fl,fb⟩:=fix_lead B fx hi
 refine ⟨fl,fb,fun j hj hn=>fix_wide B fx pk hi hj (hn j (Nat.le_refl _) hj),fun j hj hn=>fix_high fx hi hj (hn j (Nat.le_refl _) hj),fun k0 hk=>?_⟩
 have:=fix_kept B fx (i:=i - 1) (by omega) (by rw [show i - 1+1=i by omega]; exact hk)
 rw [show i - 1+1=i by omega] at this
 exact this
theorem highW_nonneg (h1:1≤F.h) (d:Wd) : 0≤highW F xs d:=by
 unfold highW highF
 split
 ·omega
 ·split <;> omega
theorem true_fix (B:BkOk F ds xs) (t:∀ k,k < ds.length→TrueAt F ds xs k) : Fixd F ds xs:=by
 have h1:=B.fo.h1
 refine fix_of0 B (fun i hi=>?_) (fun i y hi e=>?_)
 ·have hix:i < xs.length:=by rw [← B.len]; exact hi
  have lz:i < (sizesL F ds xs).length:=by rw [sizes_len]; exact hi
  have T:=t i hi
  refine ⟨?_,?_,?_,fun j hj hn=>?_,fun j hj hn=>?_⟩
  ·have:=T.wide i (Nat.le_refl _) (fun n a b=>by rw [show n=i by omega])
   rw [← togS_sizes,togS_self lz] at this
   exact this
  ·have:=T.high i (Nat.le_refl _) (fun n a b=>by rw [show n=i by omega])
   rw [← sumS_sizes,sumS_cons (Nat.le_refl _) lz,sumS_out] at this
   have r:=(B.x hi).1.r1
   omega
  ·unfold toldBehind
   by_cases c:0 < i
   ·have b:=T.bh c
    rw [if_pos c,laterI,if_neg (by rw [b]; decide),T.ff]
    exact sooner_refl _
   ·rw [if_neg c,T.ff]
    exact sooner_refl _
  ·rw [togS_sizes]
   exact T.wide j (by omega) hn
  ·rw [sumS_sizes]
   exact T.high j hj hn
 ·unfold toldKept at e
  split at e
  ·cases e
  ·rename_i c
   cases e
   have hi2:i+1 < ds.length:=by
    rcases Nat.lt_or_ge (i+1) ds.length with z | z
    ·exact z
    ·exact absurd (.inl (by omega)) c
   have k:(dAt ds (i+1)).kept=true:=by
    cases e:(dAt ds (i+1)).kept with
    | true=>rfl
    | false=>exact absurd (.inr e) c
   have:=(t (i+1) hi2).kept (Nat.succ_pos _) k
   rw [Nat.add_sub_cancel] at this
   have r:=(B.x hi).1.r1
   rw [not_sooner]
   simp only
   omega
theorem hig_mono (h1:1≤F.h) (hi:i < ds.length) : ∀ (d j:Nat),j+d≤i→(highs F ds xs (j+d) i).sum≤(highs F ds xs j i).sum
 | 0,j,_=>Int.le_refl _
 | d+1,j,e=>by
  have ih:=hig_mono h1 hi d (j+1) (by omega)
  rw [show j+1+d=j+(d+1) by omega] at ih
  refine Int.le_trans ih ?_
  rw [← sumS_sizes,← sumS_sizes,sumS_cons (j:=j) (by omega) (by rw [sizes_len]; exact hi),sizes_at F ds xs (by omega)]
  have:=highW_nonneg (F:=F) (xs:=xs) h1 (dAt ds j)
  simp only
  omega
end
theorem PlsA.take {K:PySem.W.Frag} {H:Hp} {as:List Addr} {xs:List (Int × Int)} (h:PlsA K H as xs) (n:Nat) : PlsA K H (as.take n) (xs.take n):=by
 refine ⟨by simp [h.1],fun i a x e e'=>?_⟩
 rw [List.getElem?_take] at e e'
 split at e
 ·rename_i c
  rw [if_pos c] at e'
  exact h.2 i a x e e'
 ·cases e
theorem PlsA.drop {K:PySem.W.Frag} {H:Hp} {as:List Addr} {xs:List (Int × Int)} (h:PlsA K H as xs) (n:Nat) : PlsA K H (as.drop n) (xs.drop n):=by
 refine ⟨by simp [h.1],fun i a x e e'=>?_⟩
 rw [List.getElem?_drop] at e e'
 exact h.2 _ a x e e'
theorem PlsA.app {K:PySem.W.Frag} {H:Hp} {as bs:List Addr} {xs ys:List (Int × Int)} (h:PlsA K H as xs) (g:PlsA K H bs ys) : PlsA K H (as++bs) (xs++ys):=by
 refine ⟨by simp [h.1,g.1],fun i a x e e'=>?_⟩
 by_cases c:i < as.length
 ·rw [List.getElem?_append_left c] at e
  rw [List.getElem?_append_left (by rw [← h.1]; exact c)] at e'
  exact h.2 i a x e e'
 ·rw [List.getElem?_append_right (by omega)] at e
  rw [List.getElem?_append_right (by rw [← h.1]; omega),← h.1] at e'
  exact g.2 _ a x e e'
def gI (a r k:Nat) : Nat:=if k < a then k else k+r
structure Rst (F:Frm) (ds es:List Wd) (xs ys:List (Int × Int)) (a r:Nat) : Prop where
 len:es.length=ds.length+r
 at1:a≤ds.length
 x:∀ k,k < ds.length→xAt xs k=xAt ys (gI a r k)
 lead:∀ k,k < ds.length→(dAt ds k).lead≤(dAt es (gI a r k)).lead
 kept:∀ k,k < ds.length→(dAt ds k).kept=true→(dAt es (gI a r k)).kept=true
 wide:∀ k,k < ds.length→wideW F xs (dAt ds k)≤wideW F ys (dAt es (gI a r k))
 high:∀ k,k < ds.length→highW F xs (dAt ds k)≤highW F ys (dAt es (gI a r k))
 ins:a < ds.length→(dAt ds a).kept=true→∀ q,a≤q→q < a+r→(dAt es q).kept=true
section
variable {F:Frm} {ds es:List Wd} {xs ys:List (Int × Int)} {a r:Nat}
theorem gI_lt (h:es.length=ds.length+r) {k:Nat} (hk:k < ds.length) : gI a r k < es.length:=by
 unfold gI
 split <;> omega
theorem gI_mono {j k:Nat} (h:j≤k) : gI a r j≤gI a r k:=by
 unfold gI
 split <;> split <;> omega
theorem gI_succ {j:Nat} : gI a r j+1≤gI a r (j+1):=by
 unfold gI
 split <;> split <;> omega
theorem rst_fix (R:Rst F ds es xs ys a r) (B:BkOk F ds xs) (C:BkOk F es ys) (fy:Fixd F es ys) (py:Pages F.m ys) : Fixd F ds xs:=by
 have h1:=B.fo.h1
 have T:∀ q,q < es.length→TrueAt F es ys q:=fun q hq=>fix_true C fy py hq
 have mono:∀ k,0 < k→k < es.length→sooner (xAt ys k) (xAt ys (k - 1))=false:=fun k k0 hk=>by
  have wk:=(C.d hk).2
  exact le_tr (behind_self (f:=F.f) (C.x (show k - 1 < es.length by omega)).1 wk.l0 wk.l1) ((T k hk).bh k0)
 have le:∀ p q,p≤q→q < es.length→sooner (xAt ys q) (xAt ys p)=false:=fun p q hp hq=>by
  have:=chain_le (i:=q) (xs:=ys) (fun k k0 k1=>mono k k0 (by omega)) (q - p) p (by omega)
  rwa [show p+(q - p)=q by omega] at this
 refine true_fix B fun k hk=>?_
 have gk:=gI_lt (a:=a) R.len hk
 have Tk:=T _ gk
 have ek:=R.x k hk
 refine ⟨?_,fun k0=>?_,fun j hj hn=>?_,fun j hj hn=>?_,fun k0 kt=>?_⟩
 ·rw [ek]
  by_cases c:(dAt ds k).lead=4
  ·have l4:(dAt es (gI a r k)).lead=4:=by
    have:=R.lead k hk
    have:=(C.d gk).2.l1
    omega
   rw [c,← l4]
   exact Tk.ff
  ·unfold firstFrom
   rw [if_neg (fun z=>c z.1)]
 ·have hk1:k - 1 < ds.length:=by omega
  have gs:gI a r (k - 1)≤gI a r k - 1:=by
   have:=gI_succ (a:=a) (r:=r) (j:=k - 1)
   rw [show k - 1+1=k by omega] at this
   omega
  have g0:0 < gI a r k:=by
   have:=gI_succ (a:=a) (r:=r) (j:=k - 1)
   rw [show k - 1+1=k by omega] at this
   omega
  rw [ek,R.x (k - 1) hk1]
  have b:=Tk.bh g0
  have wd:=(B.d hk).2
  have we:=(C.d gk).2
  exact le_tr (behind_grows (C.x (gI_lt R.len hk1)).1 (C.x (show gI a r k - 1 < es.length by omega)).1 (le _ _ gs (by omega)) wd.l0 (R.lead k hk) we.l1) b
 ·have eq:∀ n,gI a r j≤n→n≤gI a r k→xAt ys n=xAt ys (gI a r k):=fun n n1 n2=>by
   have e0:=hn j (Nat.le_refl _) hj
   rw [ek,R.x j (by omega)] at e0
   have l1:=le _ _ n1 (by omega)
   have l2:=le _ _ n2 gk
   rw [e0] at l1
   exact le_anti l2 l1
  have w:=Tk.wide (gI a r j) (gI_mono hj) eq
  have key:∀ (d j:Nat),k - j=d→j≤k→togS (sizesL F ds xs) j k≤togS (sizesL F es ys) (gI a r j) (gI a r k):=by
   intro d
   induction d with
   | zero =>
    intro j e hj
    have:j=k:=by omega
    subst this
    rw [togS_self (by rw [sizes_len]; exact hk),togS_self (by rw [sizes_len]; exact gk),sizes_at F ds xs hk,sizes_at F es ys gk]
    exact R.wide j hk
   | succ d ih =>
    intro j e hj
    have i1:=ih (j+1) (by omega) (by omega)
    have gj:gI a r j < es.length:=gI_lt R.len (by omega)
    have gjk:gI a r j < gI a r k:=Nat.lt_of_lt_of_le (gI_succ (a:=a) (r:=r) (j:=j)) (gI_mono (by omega))
    rw [togS_cons (j:=j) (by omega) (by rw [sizes_len]; exact hk),togS_cons (j:=gI a r j) (by omega) (by rw [sizes_len]; exact gk),sizes_at F ds xs (by omega),sizes_at F es ys gj]
    have w1:=R.wide j (by omega)
    have m1:=tog_mono (F:=F) (ds:=es) (xs:=ys) gk (gI a r (j+1) - (gI a r j+1)) (gI a r j+1) (by
     have:=gI_succ (a:=a) (r:=r) (j:=j)
     have:=gI_mono (a:=a) (r:=r) (show j+1≤k by omega)
     omega)
    have e3:gI a r j+1+(gI a r (j+1) - (gI a r j+1))=gI a r (j+1):=by
     have:=gI_succ (a:=a) (r:=r) (j:=j)
     omega
    rw [e3,← togS_sizes,← togS_sizes] at m1
    simp only
    omega
  have:=key _ j rfl hj
  rw [togS_sizes,togS_sizes] at this
  omega
 ·have eq:∀ n,gI a r j≤n→n≤gI a r k→(xAt ys n).1=(xAt ys (gI a r k)).1:=fun n n1 n2=>by
   have e0:=hn j (Nat.le_refl _) hj
   rw [ek,R.x j (by omega)] at e0
   have l1:=le _ _ n1 (by omega)
   have l2:=le _ _ n2 gk
   rw [not_sooner] at l1 l2
   omega
  have w:=Tk.high (gI a r j) (gI_mono hj) eq
  have key:∀ (d j:Nat),k - j=d→j≤k→sumS (sizesL F ds xs) j k≤sumS (sizesL F es ys) (gI a r j) (gI a r k):=by
   intro d
   induction d with
   | zero =>
    intro j e hj
    have:j=k:=by omega
    subst this
    rw [sumS_cons (Nat.le_refl _) (by rw [sizes_len]; exact hk),sumS_cons (Nat.le_refl _) (by rw [sizes_len]; exact gk),sumS_out,sumS_out,sizes_at F ds xs hk,sizes_at F es ys gk]
    have:=R.high j hk
    simp only
    omega
   | succ d ih =>
    intro j e hj
    have i1:=ih (j+1) (by omega) (by omega)
    have gj:gI a r j < es.length:=gI_lt R.len (by omega)
    have gjk:gI a r j < gI a r k:=Nat.lt_of_lt_of_le (gI_succ (a:=a) (r:=r) (j:=j)) (gI_mono (by omega))
    rw [sumS_cons (j:=j) (by omega) (by rw [sizes_len]; exact hk),sumS_cons (j:=gI a r j) (by omega) (by rw [sizes_len]; exact gk),sizes_at F ds xs (by omega),sizes_at F es ys gj]
    have w1:=R.high j (by omega)
    have m1:=hig_mono (F:=F) (ds:=es) (xs:=ys) h1 gk (gI a r (j+1) - (gI a r j+1)) (gI a r j+1) (by
     have:=gI_succ (a:=a) (r:=r) (j:=j)
     have:=gI_mono (a:=a) (r:=r) (show j+1≤k by omega)
     omega)
    have e3:gI a r j+1+(gI a r (j+1) - (gI a r j+1))=gI a r (j+1):=by
     have:=gI_succ (a:=a) (r:=r) (j:=j)
     omega
    rw [e3,← sumS_sizes,← sumS_sizes] at m1
    simp only
    omega
  have:=key _ j rfl hj
  rw [sumS_sizes,sumS_sizes] at this
  rw [ek]
  omega
 ·have hk1:k - 1 < ds.length:=by omega
  have ke:=R.kept k hk kt
  have g0:0 < gI a r k:=by
   have:=gI_succ (a:=a) (r:=r) (j:=k - 1)
   rw [show k - 1+1=k by omega] at this
   omega
  have p0:=Tk.kept g0 ke
  rw [ek,R.x (k - 1) hk1]
  by_cases c:k=a
  ·subst c
   have ga:gI k r k=k+r:=by unfold gI; rw [if_neg (Nat.lt_irrefl _)]
   have gb:gI k r (k - 1)=k - 1:=by unfold gI; rw [if_pos (by omega)]
   rw [ga] at p0 gk
   rw [ga,gb]
   have chain:∀ q,q≤r→(xAt ys (k - 1)).1=(xAt ys (k+q - 1)).1:=by
    intro q
    induction q with
    | zero=>intro _; rfl
    | succ q ih =>
     intro hq
     have:=(T (k+q) (by omega)).kept (by omega) (R.ins hk kt (k+q) (by omega) (by omega))
     rw [ih (by omega),this]
     rfl
   rw [chain r (Nat.le_refl _),p0]
  ·have:gI a r k - 1=gI a r (k - 1):=by
    unfold gI
    split <;> split <;> omega
   rw [this] at p0
   exact p0
theorem rst_pages (R:Rst F ds es xs ys a r) (B:BkOk F ds xs) (C:BkOk F es ys) (py:Pages F.m ys) : Pages F.m xs:=fun x hx=>by
 obtain ⟨k,hk,rfl⟩:=List.mem_iff_getElem.mp hx
 have hkd:k < ds.length:=by rw [B.len]; exact hk
 have e:=R.x k hkd
 rw [xAt_of (List.getElem?_eq_getElem hk)] at e
 rw [e]
 exact py _ (xAt_mem (by rw [← C.len]; exact gI_lt R.len hkd))
end
def mvSay (a r:Nat) : Say→Say
 | .text l=>.text l
 | .page k=>.page (gI a r k)
 | .row k=>.row (gI a r k)
def mvW (a r:Nat) (d:Wd) : Wd:=⟨d.lead,d.kept,mvSay a r d.say,d.foot.map (mvSay a r)⟩
theorem mv_said {h f:Int} {xs ys:List (Int × Int)} {a r n:Nat} {s:Say} (so:SayOk n s) (hx:∀ k,k < n→xAt xs k=xAt ys (gI a r k)) : saidL h f ys (mvSay a r s)=saidL h f xs s:=by
 cases s with
 | text l=>rfl
 | page k =>
  have e:=hx k so
  show figs (f+(xAt ys (gI a r k)).1).toNat=figs (f+(xAt xs k).1).toNat
  rw [e]
 | row k =>
  have e:=hx k so
  show figs ((xAt ys (gI a r k)).1 * h+(xAt ys (gI a r k)).2+1).toNat=figs ((xAt xs k).1 * h+(xAt xs k).2+1).toNat
  rw [e]
theorem mv_ok {a r n:Nat} {s:Say} (h:a≤n) (so:SayOk n s) : SayOk (n+r) (mvSay a r s):=by
 cases s with
 | text l=>exact so
 | page k=>have:k < n:=so; show gI a r k < n+r; unfold gI; split <;> omega
 | row k=>have:k < n:=so; show gI a r k < n+r; unfold gI; split <;> omega
structure Stg (d e:Wd) : Prop where
 lead:d.lead≤e.lead
 kept:d.kept=true→e.kept=true
 say:e.say=d.say∨∃ t u,d.say = .text t∧e.say = .text u∧t.length≤u.length
 foot:e.foot=d.foot∨∃ s,e.foot=d.foot++[s]
theorem Stg.refl (d:Wd) : Stg d d:=⟨Int.le_refl _,fun h=>h,.inl rfl,.inl rfl⟩
theorem stg_wide {F:Frm} {xs ys:List (Int × Int)} {a r n:Nat} {d e:Wd} (S:Stg d e) (so:SayOk n d.say) (hx:∀ k,k < n→xAt xs k=xAt ys (gI a r k)) : wideW F xs d≤wideW F ys (mvW a r e):=by
 unfold wideW mvW
 simp only
 rcases S.say with z | ⟨t,u,z1,z2,l⟩
 ·rw [z,mv_said so hx]
  exact Int.le_refl _
 ·rw [z1,z2]
  show (t.length:Int)≤(u.length:Int)
  omega
theorem stg_high {F:Frm} {xs ys:List (Int × Int)} {a r n:Nat} {d e:Wd} (S:Stg d e) (so:∀ s ∈ d.foot,SayOk n s) (hx:∀ k,k < n→xAt xs k=xAt ys (gI a r k)) : highW F xs d≤highW F ys (mvW a r e):=by
 have em:(d.foot.map (mvSay a r)).map (saidL F.h F.f ys)=d.foot.map (saidL F.h F.f xs):=by
  rw [List.map_map]
  exact List.map_congr_left fun s hs=>mv_said (so s hs) hx
 unfold highW mvW
 simp only
 rcases S.foot with z | ⟨s,z⟩
 ·rw [z,em]
  exact Int.le_refl _
 ·rw [z,List.map_append,List.map_append,em,high_eq,high_eq,List.map_append]
  have:=high_more (w:=F.w) (h:=F.h) ((d.foot.map (saidL F.h F.f xs)).map fun t=>(t.length:Int)) [] (((saidL F.h F.f ys (mvSay a r s)).length:Int)) (fun v hv=>by
   obtain ⟨t,_,rfl⟩:=List.mem_map.mp hv
   omega) (fun v hv=>(by cases hv)) (by omega)
  rw [List.append_nil,List.append_nil] at this
  exact this
def kpW (b:Bool) (d:Wd) : Wd:=⟨d.lead,d.kept || b,d.say,d.foot⟩
def putIn (a:Nat) (ds rs:List Wd) : List Wd:=(ds.map (mvW a rs.length)).take a++(rs.map (kpW (decide (a < ds.length) && (dAt ds a).kept)))++(ds.map (mvW a rs.length)).drop a
section
variable {a:Nat} {ds rs:List Wd}
theorem put_len (h:a≤ds.length) : (putIn a ds rs).length=ds.length+rs.length:=by
 unfold putIn
 simp only [List.length_append,List.length_take,List.length_drop,List.length_map]
 omega
theorem put_at (h:a≤ds.length) {k:Nat} (hk:k < ds.length) : dAt (putIn a ds rs) (gI a rs.length k)=mvW a rs.length (dAt ds k):=by
 have e:dAt (ds.map (mvW a rs.length)) k=mvW a rs.length (dAt ds k):=by
  show (ds.map (mvW a rs.length)).getD k wd0=mvW a rs.length (ds.getD k wd0)
  rw [List.getD_eq_getElem?_getD,List.getElem?_map,List.getElem?_eq_getElem hk,List.getD_eq_getElem?_getD,List.getElem?_eq_getElem hk]
  rfl
 rw [← e]
 show (putIn a ds rs).getD _ wd0=(ds.map (mvW a rs.length)).getD k wd0
 unfold putIn gI
 have lt:((ds.map (mvW a rs.length)).take a).length=a:=by rw [List.length_take,List.length_map]; omega
 rw [List.append_assoc,getD_app,lt]
 split
 ·rename_i c
  rw [List.getD_eq_getElem?_getD,List.getElem?_take,if_pos c,List.getD_eq_getElem?_getD]
 ·rename_i c
  rw [if_neg (by omega),getD_app,List.length_map,if_neg (by omega),List.getD_eq_getElem?_getD,List.getElem?_drop,List.getD_eq_getElem?_getD,show a+(k+rs.length - a - rs.length)=k by omega]
theorem put_run (h:a≤ds.length) {q:Nat} (h1:a≤q) (h2:q < a+rs.length) : dAt (putIn a ds rs) q=kpW (decide (a < ds.length) && (dAt ds a).kept) (dAt rs (q - a)):=by
 show (putIn a ds rs).getD _ wd0=_
 unfold putIn
 have lt:((ds.map (mvW a rs.length)).take a).length=a:=by rw [List.length_take,List.length_map]; omega
 have hq:q - a < rs.length:=by omega
 rw [List.append_assoc,getD_app,lt,if_neg (by omega),getD_app,List.length_map,if_pos hq,List.getD_eq_getElem?_getD,List.getElem?_map,List.getElem?_eq_getElem hq]
 have:dAt rs (q - a)=rs[q - a]:=by
  show rs.getD (q - a) wd0=_
  rw [List.getD_eq_getElem?_getD,List.getElem?_eq_getElem hq]
  rfl
 rw [this]
 rfl
theorem put_ok {n:Nat} (h:a≤ds.length) (hn:n=ds.length+rs.length) (wd:∀ d ∈ ds,WdOk ds.length d) (wr:∀ d ∈ rs,WdOk n d) : ∀ d ∈ putIn a ds rs,WdOk n d:=fun d hd=>by
 have mv:∀ d ∈ ds.map (mvW a rs.length),WdOk n d:=fun d hd=>by
  obtain ⟨e,he,rfl⟩:=List.mem_map.mp hd
  have w:=wd e he
  rw [hn]
  refine ⟨w.l0,w.l1,mv_ok h w.s,fun s hs=>?_,by show (e.foot.map _).length≤40; rw [List.length_map]; exact w.n⟩
  obtain ⟨t,ht,rfl⟩:=List.mem_map.mp hs
  exact mv_ok h (w.f t ht)
 unfold putIn at hd
 rcases List.mem_append.mp hd with hd | hd
 ·rcases List.mem_append.mp hd with hd | hd
  ·exact mv d (List.mem_of_mem_take hd)
  ·obtain ⟨e,he,rfl⟩:=List.mem_map.mp hd
   have w:=wr e he
   exact ⟨w.l0,w.l1,w.s,w.f,w.n⟩
 ·exact mv d (List.mem_of_mem_drop hd)
end
theorem WdsA.app {K:PySem.W.Frag} {H:Hp} {as bs:List Addr} {ds es:List Wd} (h:WdsA K H as ds) (g:WdsA K H bs es) : WdsA K H (as++bs) (ds++es):=by
 refine ⟨by simp [h.1,g.1],fun i a x e e'=>?_⟩
 by_cases c:i < as.length
 ·rw [List.getElem?_append_left c] at e
  rw [List.getElem?_append_left (by rw [← h.1]; exact c)] at e'
  exact h.2 i a x e e'
 ·rw [List.getElem?_append_right (by omega)] at e
  rw [List.getElem?_append_right (by rw [← h.1]; omega),← h.1] at e'
  exact g.2 _ a x e e'
theorem ne_tp:(PySem.Str.ofString "page")≠(PySem.Str.ofString "text"):=by decide +kernel
theorem ne_tr:(PySem.Str.ofString "row")≠(PySem.Str.ofString "text"):=by decide +kernel
theorem cut_out {ys:List (Int × Int)} {a r n:Nat} (hn:ys.length=n+r) (ha:a≤n) : (ys.take a++ys.drop (a+r)).length=n∧∀ k,k < n→xAt (ys.take a++ys.drop (a+r)) k=xAt ys (gI a r k):=by
 refine ⟨by rw [List.length_append,List.length_take,List.length_drop]; omega,fun k hk=>?_⟩
 show (ys.take a++ys.drop (a+r)).getD k (0,0)=ys.getD (gI a r k) (0,0)
 have lt:(ys.take a).length=a:=by rw [List.length_take]; omega
 unfold gI
 by_cases c:k < a
 ·rw [getD_app,lt,if_pos c,if_pos c,List.getD_eq_getElem?_getD,List.getElem?_take,if_pos c,List.getD_eq_getElem?_getD]
 ·rw [getD_app,lt,if_neg c,if_neg c,List.getD_eq_getElem?_getD,List.getElem?_drop,List.getD_eq_getElem?_getD,show a+r+(k - a)=k+r by omega]
theorem cut_ok {F:Frm} {ds es:List Wd} {ys:List (Int × Int)} {a r:Nat} (fo:FormOk F.w F.h F.f F.m) (wd:∀ d ∈ ds,WdOk ds.length d) (n:ds.length≤400) (C:BkOk F es ys) (hn:es.length=ds.length+r) (ha:a≤ds.length) : BkOk F ds (ys.take a++ys.drop (a+r)):=
 ⟨fo,(cut_out (by rw [← C.len]; exact hn) ha).1.symm,wd,fun x hx=>by
  rcases List.mem_append.mp hx with hx | hx
  ·exact C.po x (List.mem_of_mem_take hx)
  ·exact C.po x (List.mem_of_mem_drop hx),n⟩
def Db (K:PySem.W.Frag) (H:Hp) : Nat→V→V→Bool→Prop
 | 0,x,y,b=>flatV x=true∧flatV y=true∧eqV x y=b
 | n+1,x,y,b=>(flatV x=true∧flatV y=true∧eqV x y=b) ∨
   ∃ a c xs ys e,x = .ref a∧y = .ref c∧((SqL K H a xs∧SqL K H c ys)∨(SqT K H a xs∧SqT K H c ys))∧(∀ (i:Nat) x y,xs[i]? = some x→ys[i]? = some y→Db K H n x y (e i))∧b=(decide (xs.length=ys.length) && (List.range xs.length).all e)
theorem db_self {X:Cx} {pins:List (Addr × Obj)} {σ:St} {H:Hp} {s:Shared} (I:Inv X pins σ H s) : ∀ (n:Nat) (x:V) (b:Bool),Db X.K H n x x b→b=true
 | 0,x,b,h=>by
  obtain ⟨f,_,e⟩:=h
  rw [← e]
  exact eqV_refl f
 | n+1,x,b,h=>by
  rcases h with ⟨f,_,e⟩ | ⟨a,c,xs,ys,e,rfl,ey,hab,hd,rfl⟩
  ·rw [← e]
   exact eqV_refl f
  ·cases ey
   have:xs=ys:=by
    rcases hab with ⟨h1,h2⟩ | ⟨h1,h2⟩
    ·exact I.list_inj h1 h2
    ·exact I.tuple_inj h1 h2
   subst this
   rw [decide_eq_true rfl,Bool.true_and,List.all_eq_true]
   intro i hi
   have hi:=List.mem_range.mp hi
   exact db_self I n _ _ (hd i _ _ (List.getElem?_eq_getElem hi) (List.getElem?_eq_getElem hi))
theorem items_db {s:Shared} {xs ys:List V} {its its2:List Value} {e:Nat→Bool} {A:Around} (r:Vals xs its) (r2:Vals ys its2)
  (d:∀ (i:Nat) x y,xs[i]? = some x→ys[i]? = some y→∀ u v,RelV x u→RelV y v→SeqAt.EqAt A s u v (e i)) (j:Nat) (h1:j < its.toArray.size) (h2:j < its2.toArray.size) : SeqAt.EqAt A s its.toArray[j] its2.toArray[j] (e j):=by
 have l1:=r.length
 have l2:=r2.length
 have h1':j < its.length:=by simpa using h1
 have h2':j < its2.length:=by simpa using h2
 have hx:j < xs.length:=by omega
 have hy:j < ys.length:=by omega
 have e1:xs[j]? = some xs[j]:=List.getElem?_eq_getElem hx
 have e2:ys[j]? = some ys[j]:=List.getElem?_eq_getElem hy
 obtain ⟨u,hu,ru⟩:=r.get e1
 obtain ⟨v,hv,rv⟩:=r2.get e2
 have eu:its.toArray[j]=u:=by
  have:its[j]? = some its[j]:=List.getElem?_eq_getElem h1'
  rw [hu] at this
  simpa using this.symm
 have ev:its2.toArray[j]=v:=by
  have:its2[j]? = some its2[j]:=List.getElem?_eq_getElem h2'
  rw [hv] at this
  simpa using this.symm
 rw [eu,ev]
 exact d j _ _ e1 e2 u v ru rv
theorem all_min (n m:Nat) (e:Nat→Bool) : ((List.range (min n m)).all e && (n == m))=(decide (n=m) && (List.range n).all e):=by
 by_cases h:n=m
 ·subst h
  rw [Nat.min_self,decide_eq_true rfl,Bool.true_and,beq_self_eq_true,Bool.and_true]
 ·rw [decide_eq_false h,Bool.false_and,beq_eq_false_iff_ne.mpr h,Bool.and_false]
theorem db_eq {X:Cx} {pins:List (Addr × Obj)} {σ:St} {H:Hp} {s:Shared} (I:Inv X pins σ H s) : ∀ (n:Nat) (A:Around) (x y:V) (b:Bool) (u v:Value),Db X.K H n x y b→RelV x u→RelV y v→A.units+n < cLine→SeqAt.EqAt A s u v b
 | 0,A,x,y,b,u,v,d,ru,rv,hu=>by
  obtain ⟨f,g,e⟩:=d
  have:=eqAt_V (A:=A) (s:=s) ru rv f g
  rw [e] at this
  exact this
 | n+1,A,x,y,b,u,v,d0,ru,rv,hu=>by
  rcases id d0 with ⟨f,g,e⟩ | ⟨a,c,xs,ys,e,rfl,rfl,hab,hd,rfl⟩
  ·have:=eqAt_V (A:=A) (s:=s) ru rv f g
   rw [e] at this
   exact this
  ·cases ru
   cases rv
   by_cases z:a=c
   ·subst z
    rw [db_self I _ _ _ d0]
    exact SeqAt.EqAt.same _
   have hrec:=fun i x y (e1:xs[i]? = some x) (e2:ys[i]? = some y) u v (ru:RelV x u) (rv:RelV y v)=>db_eq I n A.in1 x y (e i) u v (hd i x y e1 e2) ru rv (by show A.units+1+n < cLine; omega)
   rcases hab with ⟨ha,hb⟩ | ⟨ha,hb⟩
   ·obtain ⟨its,r,p,_⟩:=I.list ha
    obtain ⟨its2,r2,p2,_⟩:=I.list hb
    have l1:=r.length
    have l2:=r2.length
    by_cases hl:xs.length=ys.length
    ·have:=SeqAt.RcAt.lists (A:=A) (e:=e) p.isList p2.isList (by simp; omega) (by omega) (fun j h1 h2=>items_db r r2 hrec j h1 h2)
     rw [show its.toArray.size=xs.length by simp; omega] at this
     rw [decide_eq_true hl,Bool.true_and]
     exact SeqAt.EqAt.of_refs z this
    ·rw [decide_eq_false hl,Bool.false_and]
     exact SeqAt.EqAt.of_refs z (SeqAt.RcAt.lists_lengths (A:=A) p.isList p2.isList (by simp; omega) (by omega))
   ·obtain ⟨its,r,p,_⟩:=I.tuple ha
    obtain ⟨its2,r2,p2,_⟩:=I.tuple hb
    have l1:=r.length
    have l2:=r2.length
    have:=SeqAt.RcAt.tuples (A:=A) (e:=e) p p2 (by omega) (fun j h1 h2=>items_db r r2 hrec j h1 h2)
    rw [all_min,show its.toArray.size=xs.length by simp; omega,show its2.toArray.size=ys.length by simp; omega] at this
    exact SeqAt.EqAt.of_refs z this
section
variable {X:Cx}
def rEqB (K:PySem.W.Frag) (neg:Bool) : R2:=fun x y H Q=>∃ n a c xs ys e,n≤90∧x = .ref a∧y = .ref c∧((SqL K H a xs∧SqL K H c ys)∨(SqT K H a xs∧SqT K H c ys))∧(∀ (i:Nat) x y,xs[i]? = some x→ys[i]? = some y→Db K H n x y (e i))∧Q (.bl (if neg then !(decide (xs.length=ys.length) && (List.range xs.length).all e) else (decide (xs.length=ys.length) && (List.range xs.length).all e))) H
theorem op_neB (hu:X.A.units+100 < cLine) : OpR X (compareOp .NotEq) (rEqB X.K true):=by
 intro pins s σ H x y v u Q I rx ry h
 obtain ⟨n,a,c,xs,ys,e,hn,rfl,rfl,hab,hd,q⟩:=h
 rw [if_pos rfl] at q
 cases rx
 cases ry
 have hrec:=fun i x y (e1:xs[i]? = some x) (e2:ys[i]? = some y) u v (ru:RelV x u) (rv:RelV y v)=>db_eq I n X.A.in1 x y (e i) u v (hd i x y e1 e2) ru rv (by show X.A.units+1+n < cLine; omega)
 rcases hab with ⟨ha,hb⟩ | ⟨ha,hb⟩
 ·obtain ⟨its,r,p,_⟩:=I.list ha
  obtain ⟨its2,r2,p2,_⟩:=I.list hb
  have l1:=r.length
  have l2:=r2.length
  by_cases hl:xs.length=ys.length
  ·refine SeqAt.RcNeAt.lists (e:=e) p.isList p2.isList (by simp; omega) (by omega) (fun j h1 h2=>items_db r r2 hrec j h1 h2) _ _ _ _ ⟨.bl _,H,I,rfl,?_⟩
   rw [decide_eq_true hl,Bool.true_and] at q
   rw [show its.toArray.size=xs.length by simp; omega]
   exact q
  ·rw [decide_eq_false hl,Bool.false_and] at q
   exact SeqAt.RcNeAt.lists_lengths p.isList p2.isList (by simp; omega) (by omega) _ _ _ _ ⟨.bl _,H,I,rfl,q⟩
 ·obtain ⟨its,r,p,_⟩:=I.tuple ha
  obtain ⟨its2,r2,p2,_⟩:=I.tuple hb
  have l1:=r.length
  have l2:=r2.length
  refine SeqAt.RcNeAt.tuples (e:=e) p p2 (by omega) (fun j h1 h2=>items_db r r2 hrec j h1 h2) _ _ _ _ ⟨.bl _,H,I,rfl,?_⟩
  rw [all_min,show its.toArray.size=xs.length by simp; omega,show its2.toArray.size=ys.length by simp; omega]
  exact q
end
def sayE:Say→Say→Bool
 | .text l,.text m=>decide (l=m)
 | .page k,.page n=>decide (k=n)
 | .row k,.row n=>decide (k=n)
 | _,_=>false
theorem sayE_iff {s t:Say} : sayE s t=true↔s=t:=by
 cases s <;> cases t <;> simp [sayE]
def saysE (ss ts:List Say) : Bool:=decide (ss.length=ts.length) && (List.range ss.length).all fun i=>sayE (ss.getD i (.page 0)) (ts.getD i (.page 0))
theorem saysE_iff {ss ts:List Say} : saysE ss ts=true↔ss=ts:=by
 unfold saysE
 rw [Bool.and_eq_true,decide_eq_true_iff,List.all_eq_true]
 constructor
 ·rintro ⟨l,h⟩
  refine List.ext_getElem l fun i h1 h2=>?_
  have:=sayE_iff.mp (h i (List.mem_range.mpr h1))
  rw [List.getD_eq_getElem?_getD,List.getElem?_eq_getElem h1,List.getD_eq_getElem?_getD,List.getElem?_eq_getElem h2] at this
  exact this
 ·rintro rfl
  exact ⟨rfl,fun i _=>sayE_iff.mpr rfl⟩
def wdE (d e:Wd) : Nat→Bool
 | 0=>decide (d.lead=e.lead)
 | 1=>d.kept == e.kept
 | 2=>sayE d.say e.say
 | _=>saysE d.foot e.foot
theorem wdE_iff {d e:Wd} : (decide ((4:Nat)=4) && (List.range 4).all (wdE d e))=true↔d=e:=by
 have:(decide ((4:Nat)=4) && (List.range 4).all (wdE d e))=(wdE d e 0 && (wdE d e 1 && (wdE d e 2 && wdE d e 3))):=by
  show (true && (wdE d e 0 && (wdE d e 1 && (wdE d e 2 && (wdE d e 3 && true)))))=_
  rw [Bool.true_and,Bool.and_true]
 rw [this,Bool.and_eq_true,Bool.and_eq_true,Bool.and_eq_true]
 show decide (d.lead=e.lead)=true∧(d.kept == e.kept)=true∧sayE d.say e.say=true∧saysE d.foot e.foot=true↔_
 rw [decide_eq_true_iff,beq_iff_eq,sayE_iff,saysE_iff]
 cases d
 cases e
 simp
theorem say_db {K:PySem.W.Frag} {H:Hp} {p q:Addr} {s t:Say} {n:Nat} (h:SqT K H p (sayV s)) (g:SqT K H q (sayV t)) : Db K H (n+1) (.ref p) (.ref q) (sayE s t):=by
 have fl:∀ (m:Nat) (x y:V) (b:Bool),flatV x=true→flatV y=true→eqV x y=b→Db K H m x y b:=fun m x y b f1 f2 e=>by
  cases m with
  | zero=>exact ⟨f1,f2,e⟩
  | succ m=>exact .inl ⟨f1,f2,e⟩
 have two:∀ (a b:V) (c d:V),sayV s=[a,b]→sayV t=[c,d]→flatV a=true→flatV b=true→flatV c=true→flatV d=true→sayE s t=(eqV a c && eqV b d)→Db K H (n+1) (.ref p) (.ref q) (sayE s t):=fun a b c d es et f1 f2 f3 f4 e=>by
  rw [es] at h
  rw [et] at g
  refine .inr ⟨p,q,_,_,fun i=>if i=0 then eqV a c else eqV b d,rfl,rfl,.inr ⟨h,g⟩,fun i x y e1 e2=>?_,?_⟩
  ·match i,e1,e2 with
   | 0,e1,e2=>cases e1; cases e2; exact fl _ _ _ _ f1 f3 rfl
   | 1,e1,e2=>cases e1; cases e2; exact fl _ _ _ _ f2 f4 rfl
   | i+2,e1,_=>exact absurd e1 (by simp)
  ·rw [e]
   show _=(true && (eqV a c && (eqV b d && true)))
   rw [Bool.true_and,Bool.and_true]
 have st:∀ a b:PySem.Str,eqV (.str a) (.str b)=(a == b):=fun _ _=>rfl
 have it:∀ a b:Nat,eqV (.int (a:Int)) (.int (b:Int))=decide (a=b):=fun a b=>by
  show ((a:Int) == (b:Int))=_
  by_cases c:a=b
  ·subst c; simp
  ·rw [decide_eq_false c,beq_eq_false_iff_ne.mpr (by omega)]
 cases s with
 | text l =>
  cases t with
  | text m =>
   refine two _ _ _ _ rfl rfl rfl rfl rfl rfl ?_
   rw [st,beq_self_eq_true,Bool.true_and,st]
   show decide (l=m)=_
   by_cases c:l=m
   ·subst c; simp
   ·rw [decide_eq_false c,beq_eq_false_iff_ne.mpr fun z=>c (tx_inj z)]
  | page k=>exact two _ _ _ _ rfl rfl rfl rfl rfl rfl (by show false=(eqV _ _ && false); rw [Bool.and_false])
  | row k=>exact two _ _ _ _ rfl rfl rfl rfl rfl rfl (by show false=(eqV _ _ && false); rw [Bool.and_false])
 | page k =>
  cases t with
  | text m=>exact two _ _ _ _ rfl rfl rfl rfl rfl rfl (by show false=(eqV _ _ && false); rw [Bool.and_false])
  | page m=>exact two _ _ _ _ rfl rfl rfl rfl rfl rfl (by rw [st,beq_self_eq_true,Bool.true_and,it]; rfl)
  | row m=>exact two _ _ _ _ rfl rfl rfl rfl rfl rfl (by rw [st,beq_eq_false_iff_ne.mpr (by decide +kernel:PySem.Str.ofString "page"≠PySem.Str.ofString "row")]; rfl)
 | row k =>
  cases t with
  | text m=>exact two _ _ _ _ rfl rfl rfl rfl rfl rfl (by show false=(eqV _ _ && false); rw [Bool.and_false])
  | page m=>exact two _ _ _ _ rfl rfl rfl rfl rfl rfl (by rw [st,beq_eq_false_iff_ne.mpr (by decide +kernel:PySem.Str.ofString "row"≠PySem.Str.ofString "page")]; rfl)
  | row m=>exact two _ _ _ _ rfl rfl rfl rfl rfl rfl (by rw [st,beq_self_eq_true,Bool.true_and,it]; rfl)
theorem says_db {K:PySem.W.Frag} {H:Hp} {p q:Addr} {bs cs:List Addr} {ss ts:List Say} {n:Nat} (h:SqL K H p (bs.map V.ref)) (hs:SaysA K H bs ss) (g:SqL K H q (cs.map V.ref)) (gs:SaysA K H cs ts) : Db K H (n+2) (.ref p) (.ref q) (saysE ss ts):=by
 refine .inr ⟨p,q,_,_,fun i=>sayE (ss.getD i (.page 0)) (ts.getD i (.page 0)),rfl,rfl,.inl ⟨h,g⟩,fun i x y e1 e2=>?_,?_⟩
 ·rw [List.getElem?_map] at e1 e2
  obtain ⟨b,eb,rfl⟩:=Option.map_eq_some_iff.mp e1
  obtain ⟨c,ec,rfl⟩:=Option.map_eq_some_iff.mp e2
  have h1:i < ss.length:=by rw [← hs.1]; exact (List.getElem?_eq_some_iff.mp eb).1
  have h2:i < ts.length:=by rw [← gs.1]; exact (List.getElem?_eq_some_iff.mp ec).1
  show Db K H (n+1) _ _ (sayE (ss.getD i (.page 0)) (ts.getD i (.page 0)))
  rw [List.getD_eq_getElem?_getD,List.getElem?_eq_getElem h1,List.getD_eq_getElem?_getD,List.getElem?_eq_getElem h2]
  exact say_db (hs.2 i b _ eb (List.getElem?_eq_getElem h1)) (gs.2 i c _ ec (List.getElem?_eq_getElem h2))
 ·unfold saysE
  rw [List.length_map,List.length_map,hs.1,gs.1]
theorem wd_db {K:PySem.W.Frag} {H:Hp} {p q:Addr} {d e:Wd} (h:WdAt K H p d) (g:WdAt K H q e) : ∃ xs ys,xs.length=4∧ys.length=4∧SqT K H p xs∧SqT K H q ys∧∀ (i:Nat) x y,xs[i]? = some x→ys[i]? = some y→Db K H 2 x y (wdE d e i):=by
 obtain ⟨sa,fo,bs,h1,h2,h3,h4⟩:=h
 obtain ⟨sb,fp,cs,g1,g2,g3,g4⟩:=g
 refine ⟨_,_,rfl,rfl,h1,g1,fun i x y e1 e2=>?_⟩
 match i,e1,e2 with
 | 0,e1,e2 =>
  cases e1; cases e2
  refine .inl ⟨rfl,rfl,?_⟩
  show (d.lead == e.lead)=decide (d.lead=e.lead)
  by_cases c:d.lead=e.lead
  ·rw [c]; simp
  ·rw [decide_eq_false c,beq_eq_false_iff_ne.mpr c]
 | 1,e1,e2=>cases e1; cases e2; exact .inl ⟨rfl,rfl,rfl⟩
 | 2,e1,e2=>cases e1; cases e2; exact say_db h2 g2
 | 3,e1,e2=>cases e1; cases e2; exact says_db h3 h4 g3 g4
 | i+4,e1,_=>exact absurd e1 (by simp)
structure Grown (ds ns:List Wd) (a r:Nat) : Prop where
 len:ns.length=ds.length+r
 at1:a≤ds.length
 w:∀ k,k < ds.length→mvW a r (dAt ds k)=dAt ns (gI a r k)
 kept:a < ds.length→(dAt ds a).kept=true→∀ q,a≤q→q < a+r→(dAt ns q).kept=true
theorem put_grown {a:Nat} {ds rs:List Wd} (h:a≤ds.length) : Grown ds (putIn a ds rs) a rs.length:=by
 refine ⟨put_len h,h,fun k hk=>(put_at h hk).symm,fun ha kt q q1 q2=>?_⟩
 rw [put_run h q1 q2]
 show ((dAt rs (q - a)).kept || (decide (a < ds.length) && (dAt ds a).kept))=true
 rw [kt,decide_eq_true ha]
 simp
theorem grown_rst {F:Frm} {a r:Nat} {ds ns:List Wd} {xs ys:List (Int × Int)} (G:Grown ds ns a r) (B:BkOk F ds xs) (hx:∀ k,k < ds.length→xAt xs k=xAt ys (gI a r k)) : Rst F ds ns xs ys a r:=by
 have B':∀ k,k < ds.length→SayOk ds.length (dAt ds k).say∧∀ s ∈ (dAt ds k).foot,SayOk ds.length s:=fun k hk=>by
  have w:=(B.d hk).2
  rw [← B.len] at w
  exact ⟨w.s,w.f⟩
 refine ⟨G.len,G.at1,hx,fun k hk=>?_,fun k hk kt=>?_,fun k hk=>?_,fun k hk=>?_,G.kept⟩
 ·rw [← G.w k hk]
  exact Int.le_refl _
 ·rw [← G.w k hk]
  exact kt
 ·rw [← G.w k hk]
  exact stg_wide (Stg.refl _) (B' k hk).1 hx
 ·rw [← G.w k hk]
  exact stg_high (Stg.refl _) (B' k hk).2 hx
theorem kept_all {ns:List Wd} {a r:Nat} (h:a+r≤ns.length) : ((((ns.drop a).take r).map fun d=>d.kept).all id=true)↔∀ q,a≤q→q < a+r→(dAt ns q).kept=true:=by
 have e:∀ q,q < ns.length→ns[q]? = some (dAt ns q):=fun q hq=>by
  show _=some (ns.getD q wd0)
  rw [List.getD_eq_getElem?_getD,List.getElem?_eq_getElem hq]
  rfl
 rw [List.all_eq_true]
 constructor
 ·intro h1 q q1 q2
  refine h1 _ (List.mem_map.mpr ⟨dAt ns q,List.mem_of_getElem? (i:=q - a) ?_,rfl⟩)
  rw [List.getElem?_take,if_pos (by omega),List.getElem?_drop,show a+(q - a)=q by omega]
  exact e q (by omega)
 ·intro h1 b hb
  obtain ⟨d,hd,rfl⟩:=List.mem_map.mp hb
  obtain ⟨i,hi,ed⟩:=List.mem_iff_getElem.mp hd
  have hi2:i < r:=by rw [List.length_take] at hi; omega
  have e2:=List.getElem?_eq_getElem hi
  rw [ed,List.getElem?_take,if_pos hi2,List.getElem?_drop,e _ (by omega)] at e2
  cases e2
  exact h1 _ (by omega) (by omega)
theorem getD_take {α:Type} {l:List α} {t k:Nat} {d:α} (h:k < t) : (l.take t).getD k d=l.getD k d:=by
 rw [List.getD_eq_getElem?_getD,List.getElem?_take,if_pos h,← List.getD_eq_getElem?_getD]
theorem getD_drop {α:Type} {l:List α} {t k:Nat} {d:α} : (l.drop t).getD k d=l.getD (t+k) d:=by
 rw [List.getD_eq_getElem?_getD,List.getElem?_drop,← List.getD_eq_getElem?_getD]
theorem getD_rep {α:Type} {n k:Nat} {d:α} : (List.replicate n d).getD k d=d:=by
 rw [List.getD_eq_getElem?_getD,List.getElem?_replicate]
 split <;> rfl
def carry (t r:Nat) (xs:List (Int × Int)) : List (Int × Int):=xs.take t++List.replicate r (0,0)++xs.drop t
theorem carry_len {t r:Nat} {xs:List (Int × Int)} (h:t≤xs.length) : (carry t r xs).length=xs.length+r:=by
 unfold carry
 rw [List.length_append,List.length_append,List.length_take,List.length_replicate,List.length_drop]
 omega
theorem carry_ok {F:Frm} {t r:Nat} {ds ns:List Wd} {xs:List (Int × Int)} (B:BkOk F ds xs) (h:t≤ds.length) (C:BkOk F ns (List.replicate ns.length (0,0))) (hn:ns.length=ds.length+r) : BkOk F ns (carry t r xs):=by
 refine ⟨C.fo,by rw [carry_len (by rw [← B.len]; exact h),hn,B.len],C.wd,fun x hx=>?_,C.n⟩
 unfold carry at hx
 rcases List.mem_append.mp hx with hx | hx
 ·rcases List.mem_append.mp hx with hx | hx
  ·exact B.po x (List.mem_of_mem_take hx)
  ·rw [List.eq_of_mem_replicate hx]
   have:=C.fo.h1
   exact ⟨⟨Int.le_refl 0,Int.le_refl 0,by show (0:Int) < F.h; omega⟩,by decide⟩
 ·exact B.po x (List.mem_of_mem_drop hx)
theorem carry_le {F:Frm} {t r:Nat} {ds ns:List Wd} {xs ys:List (Int × Int)} (B:BkOk F ds xs) (h:t≤ds.length) (C:BkOk F ns ys) (hn:ns.length=ds.length+r) (le:PlsLe xs (ys.take t++ys.drop (t+r))) : PlsLe (carry t r xs) ys:=by
 have lx:=B.len
 have ly:=C.len
 have cl:=carry_len (r:=r) (show t≤xs.length by omega)
 have co:=(cut_out (ys:=ys) (a:=t) (r:=r) (n:=ds.length) (by omega) h).2
 refine ⟨by omega,fun k hk=>?_⟩
 have lt:(xs.take t).length=t:=by rw [List.length_take]; omega
 show sooner (ys.getD k (0,0)) ((carry t r xs).getD k (0,0))=false
 unfold carry
 rw [List.append_assoc,getD_app,lt]
 by_cases c:k < t
 ·rw [if_pos c,getD_take c]
  have l:sooner (xAt (ys.take t++ys.drop (t+r)) k) (xAt xs k)=false:=le.2 k (by omega)
  rw [co k (by omega)] at l
  unfold gI at l
  rw [if_pos c] at l
  exact l
 ·rw [if_neg c,getD_app,List.length_replicate]
  by_cases c2:k - t < r
  ·rw [if_pos c2,getD_rep]
   have p:=(C.x (show k < ns.length by omega)).1
   have p1:=p.p1
   have p2:=p.r1
   rw [not_sooner]
   show ¬ ((xAt ys k).1 < 0∨(xAt ys k).1=0∧(xAt ys k).2 < 0)
   omega
  ·rw [if_neg c2,getD_drop]
   have l:sooner (xAt (ys.take t++ys.drop (t+r)) (k - r)) (xAt xs (k - r))=false:=le.2 (k - r) (by omega)
   rw [co (k - r) (by omega)] at l
   unfold gI at l
   rw [if_neg (by omega),show k - r+r=k by omega] at l
   rw [show t+(k - t - r)=k - r by omega]
   exact l
end L2

namespace K52
open PySem PySem.Spec L2 Tl

noncomputable abbrev s_l_cell_at:Stmt:=top 48
noncomputable abbrev s_l_first:Stmt:=top 53
noncomputable abbrev s_l_form:Stmt:=top 54
noncomputable abbrev s_l_text:Stmt:=top 52
noncomputable abbrev s_l_saying:Stmt:=top 55
noncomputable abbrev s_l_stream:Stmt:=top 49
noncomputable abbrev s_l_word:Stmt:=top 56
noncomputable abbrev s_l_book:Stmt:=top 57
noncomputable abbrev s_l_short:Stmt:=top 63
noncomputable abbrev s_l_behind:Stmt:=top 60
noncomputable abbrev s_l_from:Stmt:=top 61
noncomputable abbrev s_l_spots:Stmt:=top 62
noncomputable abbrev s_l_said:Stmt:=top 58
noncomputable abbrev s_l_widest:Stmt:=top 64
noncomputable abbrev s_l_borne:Stmt:=top 65
noncomputable abbrev s_l_elder:Stmt:=top 70
noncomputable abbrev s_l_whole:Stmt:=top 50
noncomputable abbrev s_l_place:Stmt:=top 51
noncomputable abbrev s_l_laid:Stmt:=top 69
noncomputable abbrev s_l_moved_saying:Stmt:=top 66
noncomputable abbrev s_l_moved:Stmt:=top 67
noncomputable abbrev s_l_put_in:Stmt:=top 68
noncomputable abbrev s_shifted:Stmt:=top 7
noncomputable abbrev s_saying_shifted:Stmt:=top 9
noncomputable abbrev s_word_shifted:Stmt:=top 8
noncomputable abbrev s_grown_at:Stmt:=top 6
noncomputable abbrev s_growth:Stmt:=top 4
noncomputable abbrev s_carried:Stmt:=top 5
noncomputable abbrev s_first_bounds:Stmt:=top 25
noncomputable abbrev s_first_unlike:Stmt:=top 39
noncomputable abbrev s_figures_of:Stmt:=top 17
noncomputable abbrev s_said:Stmt:=top 19
noncomputable abbrev s_foot_rows:Stmt:=top 22
noncomputable abbrev s_foot_high:Stmt:=top 23
noncomputable abbrev s_highs_of:Stmt:=top 29
noncomputable abbrev s_together:Stmt:=top 21
noncomputable abbrev s_next_top:Stmt:=top 15
noncomputable abbrev s_first_from:Stmt:=top 13
noncomputable abbrev s_rows_on:Stmt:=top 14
noncomputable abbrev s_behind:Stmt:=top 12
noncomputable abbrev s_later:Stmt:=top 11
noncomputable abbrev s_told_behind:Stmt:=top 30
noncomputable abbrev s_told_high:Stmt:=top 32
noncomputable abbrev s_told_kept:Stmt:=top 33
noncomputable abbrev s_wide_of:Stmt:=top 20
noncomputable abbrev s_told_never:Stmt:=top 34
noncomputable abbrev s_told_wide:Stmt:=top 31
noncomputable abbrev s_wides_of:Stmt:=top 28
noncomputable abbrev s_told_by_kind:Stmt:=top 27
noncomputable abbrev s_reach:Stmt:=top 26
noncomputable abbrev s_raise_by:Stmt:=top 42
noncomputable abbrev s_raise_kept:Stmt:=top 43
noncomputable abbrev s_stands_beyond:Stmt:=top 37
noncomputable abbrev s_too_high_from:Stmt:=top 46
noncomputable abbrev s_too_wide_from:Stmt:=top 45
noncomputable abbrev s_reason_for:Stmt:=top 44
noncomputable abbrev s_raise_word:Stmt:=top 41
noncomputable abbrev s_raise_from:Stmt:=top 40
noncomputable abbrev s_sizes_under:Stmt:=top 38
noncomputable abbrev s_settle:Stmt:=top 36
noncomputable abbrev s_law:Stmt:=top 71
set_option genInjectivity false in
structure Adr where
 f_l_cell_at:Addr
 fd_l_cell_at:FuncData
 f_l_first:Addr
 fd_l_first:FuncData
 f_l_form:Addr
 fd_l_form:FuncData
 f_l_text:Addr
 fd_l_text:FuncData
 f_l_saying:Addr
 fd_l_saying:FuncData
 f_l_stream:Addr
 fd_l_stream:FuncData
 f_l_word:Addr
 fd_l_word:FuncData
 f_l_book:Addr
 fd_l_book:FuncData
 f_l_short:Addr
 fd_l_short:FuncData
 f_l_behind:Addr
 fd_l_behind:FuncData
 f_l_from:Addr
 fd_l_from:FuncData
 f_l_spots:Addr
 fd_l_spots:FuncData
 f_l_said:Addr
 fd_l_said:FuncData
 f_l_widest:Addr
 fd_l_widest:FuncData
 f_l_borne:Addr
 fd_l_borne:FuncData
 f_l_elder:Addr
 fd_l_elder:FuncData
 f_l_whole:Addr
 fd_l_whole:FuncData
 f_l_place:Addr
 fd_l_place:FuncData
 f_l_laid:Addr
 fd_l_laid:FuncData
 f_l_moved_saying:Addr
 fd_l_moved_saying:FuncData
 f_l_moved:Addr
 fd_l_moved:FuncData
 f_l_put_in:Addr
 fd_l_put_in:FuncData
 f_shifted:Addr
 fd_shifted:FuncData
 f_saying_shifted:Addr
 fd_saying_shifted:FuncData
 f_word_shifted:Addr
 fd_word_shifted:FuncData
 f_grown_at:Addr
 fd_grown_at:FuncData
 f_growth:Addr
 fd_growth:FuncData
 f_carried:Addr
 fd_carried:FuncData
 f_first_bounds:Addr
 fd_first_bounds:FuncData
 f_first_unlike:Addr
 fd_first_unlike:FuncData
 f_figures_of:Addr
 fd_figures_of:FuncData
 f_said:Addr
 fd_said:FuncData
 f_foot_rows:Addr
 fd_foot_rows:FuncData
 f_foot_high:Addr
 fd_foot_high:FuncData
 f_highs_of:Addr
 fd_highs_of:FuncData
 f_together:Addr
 fd_together:FuncData
 f_next_top:Addr
 fd_next_top:FuncData
 f_first_from:Addr
 fd_first_from:FuncData
 f_rows_on:Addr
 fd_rows_on:FuncData
 f_behind:Addr
 fd_behind:FuncData
 f_later:Addr
 fd_later:FuncData
 f_told_behind:Addr
 fd_told_behind:FuncData
 f_told_high:Addr
 fd_told_high:FuncData
 f_told_kept:Addr
 fd_told_kept:FuncData
 f_wide_of:Addr
 fd_wide_of:FuncData
 f_told_never:Addr
 fd_told_never:FuncData
 f_told_wide:Addr
 fd_told_wide:FuncData
 f_wides_of:Addr
 fd_wides_of:FuncData
 f_told_by_kind:Addr
 fd_told_by_kind:FuncData
 f_reach:Addr
 fd_reach:FuncData
 f_raise_by:Addr
 fd_raise_by:FuncData
 f_raise_kept:Addr
 fd_raise_kept:FuncData
 f_stands_beyond:Addr
 fd_stands_beyond:FuncData
 f_too_high_from:Addr
 fd_too_high_from:FuncData
 f_too_wide_from:Addr
 fd_too_wide_from:FuncData
 f_reason_for:Addr
 fd_reason_for:FuncData
 f_raise_word:Addr
 fd_raise_word:FuncData
 f_raise_from:Addr
 fd_raise_from:FuncData
 f_sizes_under:Addr
 fd_sizes_under:FuncData
 f_settle:Addr
 fd_settle:FuncData
 f_law:Addr
 fd_law:FuncData
structure Txt (P:Program) (w:World) (K:PySem.W.Frag) (mg:Str→Option Value) (a:Adr) : Prop where
 d_l_cell_at:DefOk K mg "_law_cell_at" s_l_cell_at ["script","k"] a.f_l_cell_at a.fd_l_cell_at
 d_l_first:DefOk K mg "_law_first" s_l_first ["cell"] a.f_l_first a.fd_l_first
 d_l_form:DefOk K mg "_law_form" s_l_form ["script"] a.f_l_form a.fd_l_form
 d_l_text:DefOk K mg "_law_text" s_l_text ["x","y","many"] a.f_l_text a.fd_l_text
 d_l_saying:DefOk K mg "_law_saying" s_l_saying ["xs","count"] a.f_l_saying a.fd_l_saying
 d_l_stream:DefOk K mg "_law_stream" s_l_stream ["cell","many"] a.f_l_stream a.fd_l_stream
 d_l_word:DefOk K mg "_law_word" s_l_word ["cell","count"] a.f_l_word a.fd_l_word
 d_l_book:DefOk K mg "_law_book" s_l_book ["script","most"] a.f_l_book a.fd_l_book
 d_l_short:DefOk K mg "_law_short" s_l_short ["xs","count"] a.f_l_short a.fd_l_short
 d_l_behind:DefOk K mg "_law_behind" s_l_behind ["form","spot","lead"] a.f_l_behind a.fd_l_behind
 d_l_from:DefOk K mg "_law_from" s_l_from ["form","spot","lead"] a.f_l_from a.fd_l_from
 d_l_spots:DefOk K mg "_law_spots" s_l_spots ["xss","high","first"] a.f_l_spots a.fd_l_spots
 d_l_said:DefOk K mg "_law_said" s_l_said ["book","saying","spots"] a.f_l_said a.fd_l_said
 d_l_widest:DefOk K mg "_law_widest" s_l_widest ["book","spots"] a.f_l_widest a.fd_l_widest
 d_l_borne:DefOk K mg "_law_borne" s_l_borne ["script","most"] a.f_l_borne a.fd_l_borne
 d_l_elder:DefOk K mg "_law_elder" s_l_elder ["script"] a.f_l_elder a.fd_l_elder
 d_l_whole:DefOk K mg "_law_whole" s_l_whole ["found"] a.f_l_whole a.fd_l_whole
 d_l_place:DefOk K mg "_law_place" s_l_place ["found"] a.f_l_place a.fd_l_place
 d_l_laid:DefOk K mg "_law_laid" s_l_laid ["found","many"] a.f_l_laid a.fd_l_laid
 d_l_moved_saying:DefOk K mg "_law_moved_saying" s_l_moved_saying ["saying","at","many"] a.f_l_moved_saying a.fd_l_moved_saying
 d_l_moved:DefOk K mg "_law_moved" s_l_moved ["word","at","many"] a.f_l_moved a.fd_l_moved
 d_l_put_in:DefOk K mg "_law_put_in" s_l_put_in ["book","at","run"] a.f_l_put_in a.fd_l_put_in
 d_shifted:DefOk K mg "shifted" s_shifted ["k","at","many"] a.f_shifted a.fd_shifted
 d_saying_shifted:DefOk K mg "saying_shifted" s_saying_shifted ["saying","at","many"] a.f_saying_shifted a.fd_saying_shifted
 d_word_shifted:DefOk K mg "word_shifted" s_word_shifted ["word","at","many"] a.f_word_shifted a.fd_word_shifted
 d_grown_at:DefOk K mg "grown_at" s_grown_at ["words","newer","at","many"] a.f_grown_at a.fd_grown_at
 d_growth:DefOk K mg "growth" s_growth ["old","new"] a.f_growth a.fd_growth
 d_carried:DefOk K mg "carried" s_carried ["old","new","places"] a.f_carried a.fd_carried
 d_first_bounds:DefOk K mg "first_bounds" s_first_bounds ["book"] a.f_first_bounds a.fd_first_bounds
 d_first_unlike:DefOk K mg "first_unlike" s_first_unlike ["sizes","newer"] a.f_first_unlike a.fd_first_unlike
 d_figures_of:DefOk K mg "figures_of" s_figures_of ["number"] a.f_figures_of a.fd_figures_of
 d_said:DefOk K mg "said" s_said ["form","saying","places"] a.f_said a.fd_said
 d_foot_rows:DefOk K mg "foot_rows" s_foot_rows ["form","foot","places"] a.f_foot_rows a.fd_foot_rows
 d_foot_high:DefOk K mg "foot_high" s_foot_high ["form","foot","places"] a.f_foot_high a.fd_foot_high
 d_highs_of:DefOk K mg "highs_of" s_highs_of ["book","low","j","i"] a.f_highs_of a.fd_highs_of
 d_together:DefOk K mg "together" s_together ["wides"] a.f_together a.fd_together
 d_next_top:DefOk K mg "next_top" s_next_top ["place"] a.f_next_top a.fd_next_top
 d_first_from:DefOk K mg "first_from" s_first_from ["form","place","lead"] a.f_first_from a.fd_first_from
 d_rows_on:DefOk K mg "rows_on" s_rows_on ["form","place","rows"] a.f_rows_on a.fd_rows_on
 d_behind:DefOk K mg "behind" s_behind ["form","place","lead"] a.f_behind a.fd_behind
 d_later:DefOk K mg "later" s_later ["one","other"] a.f_later a.fd_later
 d_told_behind:DefOk K mg "told_behind" s_told_behind ["book","low","i"] a.f_told_behind a.fd_told_behind
 d_told_high:DefOk K mg "told_high" s_told_high ["book","low","i","j","high"] a.f_told_high a.fd_told_high
 d_told_kept:DefOk K mg "told_kept" s_told_kept ["book","low","i"] a.f_told_kept a.fd_told_kept
 d_wide_of:DefOk K mg "wide_of" s_wide_of ["form","saying","places"] a.f_wide_of a.fd_wide_of
 d_told_never:DefOk K mg "told_never" s_told_never ["book","low","i"] a.f_told_never a.fd_told_never
 d_told_wide:DefOk K mg "told_wide" s_told_wide ["book","low","j","wide"] a.f_told_wide a.fd_told_wide
 d_wides_of:DefOk K mg "wides_of" s_wides_of ["book","low","j","i"] a.f_wides_of a.fd_wides_of
 d_told_by_kind:DefOk K mg "told_by_kind" s_told_by_kind ["book","low","kind","i","j"] a.f_told_by_kind a.fd_told_by_kind
 d_reach:DefOk K mg "reach" s_reach ["book","low","kind","i","j"] a.f_reach a.fd_reach
 d_raise_by:DefOk K mg "raise_by" s_raise_by ["book","bounds","paper","kind","i","j"] a.f_raise_by a.fd_raise_by
 d_raise_kept:DefOk K mg "raise_kept" s_raise_kept ["book","bounds","paper","i"] a.f_raise_kept a.fd_raise_kept
 d_stands_beyond:DefOk K mg "stands_beyond" s_stands_beyond ["book","place"] a.f_stands_beyond a.fd_stands_beyond
 d_too_high_from:DefOk K mg "too_high_from" s_too_high_from ["form","sizes","bounds","i"] a.f_too_high_from a.fd_too_high_from
 d_too_wide_from:DefOk K mg "too_wide_from" s_too_wide_from ["form","sizes","bounds","i"] a.f_too_wide_from a.fd_too_wide_from
 d_reason_for:DefOk K mg "reason_for" s_reason_for ["book","sizes","bounds","i"] a.f_reason_for a.fd_reason_for
 d_raise_word:DefOk K mg "raise_word" s_raise_word ["book","sizes","bounds","paper","i"] a.f_raise_word a.fd_raise_word
 d_raise_from:DefOk K mg "raise_from" s_raise_from ["book","sizes","bounds","paper","start"] a.f_raise_from a.fd_raise_from
 d_sizes_under:DefOk K mg "sizes_under" s_sizes_under ["book","bounds"] a.f_sizes_under a.fd_sizes_under
 d_settle:DefOkV K mg "settle" s_settle ["book","low"] a.f_settle a.fd_settle .none
 d_law:DefOk K mg "law" s_law ["script"] a.f_law a.fd_law
 z_all:mg "all" = none
 z_any:mg "any" = none
 z_bool:mg "bool" = none
 z_enumerate:mg "enumerate" = none
 z_int:mg "int" = none
 z_isinstance:mg "isinstance" = none
 z_len:mg "len" = none
 z_list:mg "list" = none
 z_max:mg "max" = none
 z_min:mg "min" = none
 z_range:mg "range" = none
 z_str:mg "str" = none
 z_sum:mg "sum" = none
 z_tuple:mg "tuple" = none
 z_zip:mg "zip" = none
section
variable {P:Program} {w:World} {K:PySem.W.Frag} {mg:Str→Option Value} {base:Heap} {a:Adr}

def sp_l_cell_at (K:PySem.W.Frag) : Sp:=fun vs H Q _=>∃ (b:Addr) (ns:List Int) (k:Nat),vs=[.ref b,.int (k:Int)]∧SqL K H b (ns.map V.int)∧Q (.int (ns.getD k 0)) H
theorem sc_l_cell_at:FnScope ["script","k"] ["script","k"] (defScope s_l_cell_at):=⟨rfl,rfl,rfl,by decide +kernel,rfl,by decide +kernel,by decide +kernel⟩
theorem ok_l_cell_at (T:Txt P w K mg a) : FnOk P w K mg base CX0 1 a.f_l_cell_at a.fd_l_cell_at ["script","k"] (sp_l_cell_at K):=by
 have z_len:=T.z_len
 refine T.d_l_cell_at.fn.ok sc_l_cell_at (fun vs H Q E h=>?_) (fun cdv A outer s H vs Q E hr h=>?_)
 ·obtain ⟨b,ns,k,rfl,_⟩:=h
  rfl
 obtain ⟨b,ns,k,rfl,hS,q⟩:=h
 have hu:=Nat.lt_of_succ_lt (hu_of hr)
 refine ⟨_,(pss_cons (ps_if (pt_cmpR op_lt (pv 1) (pe_callB call_len_seq rfl z_len PySem.boot_len (pa_cons (pv 0) pa_nil)) (nomark _)) (pss_one (ps_ret (pe_ix ix_list (pv 0) (pv 1) (fun _ _=>rfl)))) pss_nil)
   (pss_one (ps_ret pe_int))),?_⟩
 refine ⟨_,rfl,_,rfl,_,_,rfl,.inl hS,_,_,rfl,rfl,_,rfl,?_⟩
 refine ite2 (fun c=>?_) (fun c=>?_)
 ·have hk:k < ns.length:=by
   have:=of_decide_eq_true c
   rw [List.length_map] at this
   omega
  refine ⟨_,rfl,_,rfl,_,_,_,_,rfl,rfl,hS,atI_nat (j:=k) (v:=.int (ns.getD k 0)) ?_,q⟩
  rw [List.getElem?_map,List.getElem?_eq_getElem hk,List.getD_eq_getElem?_getD,List.getElem?_eq_getElem hk]
  rfl
 ·have hk:ns.length≤k:=by
   refine Nat.le_of_not_lt fun hk=>c (decide_eq_true ?_)
   rw [List.length_map]
   omega
  have e:ns.getD k 0=0:=by rw [List.getD_eq_getElem?_getD,List.getElem?_eq_none hk]; rfl
  rw [e] at q
  exact q
theorem p60:(10:Int) ^ (60:Int).toNat=10 ^ 60:=by decide +kernel
theorem pow_le {k:Nat} (h:k≤60) : (10:Int) ^ k≤10 ^ 60:=by
 have:=Nat.pow_le_pow_right (n:=10) (by (first | decide | (show (0:Int) < _; first | decide | omega))) h
 have e1:((10 ^ k:Nat) : Int)=(10:Int) ^ k:=by push_cast; rfl
 have e2:((10 ^ 60:Nat) : Int)=(10:Int) ^ 60:=by decide +kernel
 rw [← e1,← e2]
 exact Int.ofNat_le.mpr this
theorem pow_ge (k:Nat) : (10:Int)≤10 ^ (k+1):=by
 have:=Nat.pow_le_pow_right (n:=10) (by (first | decide | (show (0:Int) < _; first | decide | omega))) (show 1≤k+1 by omega)
 have e1:((10 ^ (k+1) : Nat) : Int)=(10:Int) ^ (k+1):=by push_cast; rfl
 rw [← e1]
 exact Int.ofNat_le.mpr this
def sp_l_first:Sp:=fun vs H Q _=>∃ c:Int,vs=[.int c]∧∀ (n:Int) (H':Hp),Same H H'→0≤n→n≤10 ^ 60→Q (.int n) H'
theorem sc_l_first:FnScope ["cell","way","number","k"] ["cell"] (defScope s_l_first):=⟨rfl,rfl,rfl,by decide +kernel,rfl,by decide +kernel,by decide +kernel⟩
theorem ok_l_first (T:Txt P w K mg a) : FnOk P w K mg base CX0 1 a.f_l_first a.fd_l_first ["cell"] sp_l_first:=by
 have z_range:=T.z_range
 refine T.d_l_first.fn.ok sc_l_first (fun vs H Q E h=>?_) (fun cdv A outer s H vs Q E hr h=>?_)
 ·obtain ⟨c,rfl,_⟩:=h
  rfl
 obtain ⟨c,rfl,q⟩:=h
 have hu:=Nat.lt_of_succ_lt (hu_of hr)
 refine ⟨_,(pss_cons (ps_set (i:=1) sc_l_first.nd rfl (Or.inl rfl) (pe_op op_mod (pv 0) pe_int))
   (pss_cons (ps_if (pt_cmpR op_eq (pv 1) pe_int (nomark _)) (pss_one (ps_ret (pe_op op_mod (pe_op op_fdiv (pv 0) pe_int) (pe_op op_add (pe_op op_pow pe_int pe_int) pe_int)))) pss_nil)
   (pss_cons (ps_if (pt_cmpR op_eq (pv 1) pe_int (nomark _)) (pss_one (ps_ret (pe_op op_mod (pe_op op_fdiv (pv 0) pe_int) pe_int))) pss_nil)
   (pss_cons (ps_set (i:=2) sc_l_first.nd rfl (Or.inl rfl) pe_int)
   (pss_cons (ps_for PassesOwn.never rfl (pi_range1 rfl z_range (pa_cons (pe_op op_mod (pe_op op_fdiv (pv 0) pe_int) (pe_ix ix_list (pe_lst (pa_cons pe_int (pa_cons pe_int pa_nil))) (pe_op op_sub (pv 1) pe_int) (fun _ _=>rfl))) pa_nil)) (pg_name (i:=3) sc_l_first.nd rfl (Or.inl rfl)) (pss_one (ps_set (i:=2) sc_l_first.nd rfl (Or.inl rfl) (pe_op op_mul (pv 2) pe_int))))
   (pss_one (ps_ret (pe_op op_sub (pe_op op_sub (pv 2) pe_int) (pe_op op_mod (pe_op op_fdiv (pv 0) pe_int) pe_int))))))))),?_⟩
 refine ⟨_,rfl,_,_,rfl,rfl,(by (first | decide | (show (0:Int) < _; first | decide | omega))),?_⟩
 have w1:=Int.emod_nonneg c (show (4:Int)≠0 by decide)
 have w2:=Int.emod_lt_of_pos c (show (0:Int) < 4 by decide)
 refine ⟨_,rfl,rfl,_,rfl,?_⟩
 refine ite2 (fun _=>?_) (fun n0=>?_)
 ·refine ⟨_,rfl,_,_,rfl,rfl,⟨by decide,by decide⟩,_,_,rfl,rfl,⟨by decide,by decide,by decide⟩,_,_,rfl,rfl,_,_,rfl,rfl,(by rw [p60]; (first | decide | (show (0:Int) < _; first | decide | omega))),?_⟩
  rw [p60]
  refine q _ _ (Same.refl _) (Int.emod_nonneg _ (by (first | decide | (show (0:Int) < _; first | decide | omega)))) ?_
  have:=Int.emod_lt_of_pos (c / 4) (show (0:Int) < 10 ^ 60+1 by decide)
  omega
 have n0':=int_ne.mp n0
 refine ⟨_,rfl,rfl,_,rfl,?_⟩
 refine ite2 (fun _=>?_) (fun n1=>?_)
 ·refine ⟨_,rfl,_,_,rfl,rfl,⟨by decide,by decide⟩,_,_,rfl,rfl,(by (first | decide | (show (0:Int) < _; first | decide | omega))),q _ _ (Same.refl _) (Int.emod_nonneg _ (by (first | decide | (show (0:Int) < _; first | decide | omega)))) ?_⟩
  have:=Int.emod_lt_of_pos (c / 4) (show (0:Int) < 12 by decide)
  exact Int.le_trans (Int.le_of_lt this) (by (first | decide | (show (0:Int) < _; first | decide | omega)))
 have n1':=int_ne.mp n1
 refine ⟨_,rfl,_,_,rfl,rfl,⟨by decide,by decide⟩,le2,fun p1 hp1=>?_⟩
 have hat:∃ z:Int,0 < z∧z≤59∧atI [V.int 2,V.int 59] (c % 4 - 2)=some (V.int z):=by
  have:c % 4=2∨c % 4=3:=by omega
  rcases this with e | e
  ·exact ⟨2,by decide,by decide,by rw [e]; rfl⟩
  ·exact ⟨59,by decide,by decide,by rw [e]; rfl⟩
 obtain ⟨z,z0,z1,hz⟩:=hat
 have r1:=Int.emod_nonneg (c / 4) (show z≠0 by omega)
 have r2:=Int.emod_lt_of_pos (c / 4) z0
 refine ⟨_,rfl,_,_,rfl,rfl,_,_,_,_,rfl,rfl,SqL.of upd_same,hz,_,_,rfl,rfl,z0,_,rfl,(by omega),(by omega),for_range (fun i σ H2=>H2=upd H p1 (.lst [V.int 2,V.int 59])∧∃ v,σ=[some (.int c),some (.int (c % 4)),some (.int (10 ^ (i+1))),v])
  ⟨rfl,none,rfl⟩ ?_ ?_⟩
 ·rintro i σ H2 hi ⟨rfl,v,rfl⟩
  refine ⟨_,rfl,_,_,rfl,rfl,.inr ⟨by decide,by decide⟩,rfl,some (.int (0+(i:Int))),?_⟩
  rw [Int.pow_succ (10:Int) (i+1)]
  rfl
 ·rintro σ H2 ⟨rfl,v,rfl⟩
  have m1:=Int.emod_nonneg (c / 400) (show (10:Int)≠0 by decide)
  have m2:=Int.emod_lt_of_pos (c / 400) (show (0:Int) < 10 by decide)
  have g1:=pow_ge (c / 4 % z).toNat
  have g2:=pow_le (k:=(c / 4 % z).toNat+1) (by omega)
  refine ⟨_,rfl,_,_,rfl,rfl,_,rfl,_,_,rfl,rfl,⟨by decide,by decide⟩,_,_,rfl,rfl,(by (first | decide | (show (0:Int) < _; first | decide | omega))),_,_,rfl,rfl,?_⟩
  generalize (10:Int) ^ ((c / 4 % z).toNat+1)=y at g1 g2
  exact q (y - 1 - c / 400 % 10) _ (same_new hp1 _) (by omega) (by omega)
def sp_l_form (K:PySem.W.Frag) : Sp:=fun vs H Q _=>∃ (sa:Addr) (ns:List Int),vs=[.ref sa]∧SqL K H sa (ns.map V.int)∧∀ q H' w h f m,Same H H'→SqT K H' q (fm w h f m)→FormOk w h f m→Q (.ref q) H'
theorem sc_l_form:FnScope ["script","a","wide","b","high","d","most"] ["script"] (defScope s_l_form):=⟨rfl,rfl,rfl,by decide +kernel,rfl,by decide +kernel,by decide +kernel⟩
theorem ok_l_form (T:Txt P w K mg a) : FnOk P w K mg base CX0 2 a.f_l_form a.fd_l_form ["script"] (sp_l_form K):=by
 have g_l_cell_at:=ok_l_cell_at (P:=P) (w:=w) (base:=base) T
 have d_l_cell_at:=T.d_l_cell_at
 have g_l_first:=ok_l_first (P:=P) (w:=w) (base:=base) T
 have d_l_first:=T.d_l_first
 refine T.d_l_form.fn.ok sc_l_form (fun vs H Q E h=>?_) (fun cdv A outer s H vs Q E hr h=>?_)
 ·obtain ⟨sa,ns,rfl,_⟩:=h
  rfl
 obtain ⟨sa,ns,rfl,hS,q⟩:=h
 have hu:=Nat.lt_of_succ_lt (hu_of hr)
 refine ⟨_,(pss_cons (ps_set (i:=1) sc_l_form.nd rfl (Or.inl rfl) (pe_callD d_l_cell_at g_l_cell_at (hr.mono (by decide)) rfl (pa_cons (pv 0) (pa_cons pe_int pa_nil))))
   (pss_cons (ps_set (i:=2) sc_l_form.nd rfl (Or.inl rfl) (pe_ix ix_list (pe_lst (pa_cons (pe_op op_add pe_int (pe_op op_mod (pe_op op_fdiv (pv 1) pe_int) pe_int)) (pa_cons (pe_op op_add pe_int (pe_op op_mod (pe_op op_fdiv (pv 1) pe_int) pe_int)) (pa_cons (pe_op op_add pe_int (pe_op op_mod (pe_op op_fdiv (pv 1) pe_int) pe_int)) pa_nil)))) (pe_op op_mod (pv 1) pe_int) (fun _ _=>rfl)))
   (pss_cons (ps_set (i:=3) sc_l_form.nd rfl (Or.inl rfl) (pe_callD d_l_cell_at g_l_cell_at (hr.mono (by decide)) rfl (pa_cons (pv 0) (pa_cons pe_int pa_nil))))
   (pss_cons (ps_set (i:=4) sc_l_form.nd rfl (Or.inl rfl) (pe_ix ix_list (pe_lst (pa_cons (pe_op op_add pe_int (pe_op op_mod (pe_op op_fdiv (pv 3) pe_int) pe_int)) (pa_cons (pe_op op_add pe_int (pe_op op_mod (pe_op op_fdiv (pv 3) pe_int) pe_int)) (pa_cons (pe_op op_add pe_int (pe_op op_mod (pe_op op_fdiv (pv 3) pe_int) pe_int)) (pa_cons (pe_op op_add pe_int (pe_op op_mod (pe_op op_fdiv (pv 3) pe_int) pe_int)) pa_nil))))) (pe_op op_mod (pv 3) pe_int) (fun _ _=>rfl)))
   (pss_cons (ps_set (i:=5) sc_l_form.nd rfl (Or.inl rfl) (pe_callD d_l_cell_at g_l_cell_at (hr.mono (by decide)) rfl (pa_cons (pv 0) (pa_cons pe_int pa_nil))))
   (pss_cons (ps_set (i:=6) sc_l_form.nd rfl (Or.inl rfl) (pe_ix ix_list (pe_lst (pa_cons (pe_op op_add pe_int (pe_op op_mod (pe_op op_fdiv (pv 5) pe_int) pe_int)) (pa_cons (pe_op op_add pe_int (pe_op op_mod (pe_op op_fdiv (pv 5) pe_int) pe_int)) (pa_cons (pe_op op_add pe_int (pe_op op_mod (pe_op op_fdiv (pv 5) pe_int) pe_int)) pa_nil)))) (pe_op op_mod (pv 5) pe_int) (fun _ _=>rfl)))
   (pss_one (ps_ret (pe_tup (pa_cons (pv 2) (pa_cons (pv 4) (pa_cons (pe_callD d_l_first g_l_first (hr.mono (by decide)) rfl (pa_cons (pe_callD d_l_cell_at g_l_cell_at (hr.mono (by decide)) rfl (pa_cons (pv 0) (pa_cons pe_int pa_nil))) pa_nil)) (pa_cons (pv 6) pa_nil))))))))))))),?_⟩
 refine ⟨_,rfl,_,_,(0:Nat),rfl,hS,?_⟩
 generalize ns.getD 0 0=a
 refine ⟨_,rfl,_,_,rfl,rfl,⟨by decide,by decide⟩,_,_,rfl,rfl,(by (first | decide | (show (0:Int) < _; first | decide | omega))),_,_,rfl,rfl,_,rfl,_,_,rfl,rfl,⟨by decide,by decide⟩,_,_,rfl,rfl,(by (first | decide | (show (0:Int) < _; first | decide | omega))),_,_,rfl,rfl,_,rfl,_,_,rfl,rfl,⟨by decide,by decide⟩,_,_,rfl,rfl,(by (first | decide | (show (0:Int) < _; first | decide | omega))),_,_,rfl,rfl,le3,fun p1 hp1=>?_⟩
 obtain ⟨u1,m1,e1⟩:=pick [V.int (1+a / 3 % 12),V.int (1+a / 3 % 30),V.int (1+a / 3 % 200)] 3 a rfl (by (first | decide | (show (0:Int) < _; first | decide | omega)))
 have g1:∃ w,u1=V.int w∧1≤w∧w≤200:=by
  simp only [List.mem_cons,List.not_mem_nil,or_false] at m1
  rcases m1 with rfl | rfl | rfl <;> exact ⟨_,rfl,by omega,by omega⟩
 obtain ⟨wi,rfl,w1,w2⟩:=g1
 refine ⟨_,rfl,_,_,rfl,rfl,(by (first | decide | (show (0:Int) < _; first | decide | omega))),_,_,_,_,rfl,rfl,SqL.of upd_same,e1,?_⟩
 have s1:=same_new hp1 (.lst [V.int (1+a / 3 % 12),V.int (1+a / 3 % 30),V.int (1+a / 3 % 200)])
 generalize upd H p1 (.lst [V.int (1+a / 3 % 12),V.int (1+a / 3 % 30),V.int (1+a / 3 % 200)])=H1 at s1
 refine ⟨_,rfl,_,_,(1:Nat),rfl,s1.seq hS,?_⟩
 generalize ns.getD 1 0=b
 refine ⟨_,rfl,_,_,rfl,rfl,⟨by decide,by decide⟩,_,_,rfl,rfl,(by (first | decide | (show (0:Int) < _; first | decide | omega))),_,_,rfl,rfl,_,rfl,_,_,rfl,rfl,⟨by decide,by decide⟩,_,_,rfl,rfl,(by (first | decide | (show (0:Int) < _; first | decide | omega))),_,_,rfl,rfl,_,rfl,_,_,rfl,rfl,⟨by decide,by decide⟩,_,_,rfl,rfl,(by (first | decide | (show (0:Int) < _; first | decide | omega))),_,_,rfl,rfl,_,rfl,_,_,rfl,rfl,⟨by decide,by decide⟩,_,_,rfl,rfl,(by (first | decide | (show (0:Int) < _; first | decide | omega))),_,_,rfl,rfl,le4,fun p2 hp2=>?_⟩
 obtain ⟨u2,m2,e2⟩:=pick [V.int (1+b / 4 % 4),V.int (1+b / 4 % 4),V.int (1+b / 4 % 8),V.int (1+b / 4 % 60)] 4 b rfl (by (first | decide | (show (0:Int) < _; first | decide | omega)))
 have g2:∃ w,u2=V.int w∧1≤w∧w≤60:=by
  simp only [List.mem_cons,List.not_mem_nil,or_false] at m2
  rcases m2 with rfl | rfl | rfl | rfl <;> exact ⟨_,rfl,by omega,by omega⟩
 obtain ⟨hi,rfl,h1,h2⟩:=g2
 refine ⟨_,rfl,_,_,rfl,rfl,(by (first | decide | (show (0:Int) < _; first | decide | omega))),_,_,_,_,rfl,rfl,SqL.of upd_same,e2,?_⟩
 have s2:=same_new hp2 (.lst [V.int (1+b / 4 % 4),V.int (1+b / 4 % 4),V.int (1+b / 4 % 8),V.int (1+b / 4 % 60)])
 generalize upd H1 p2 (.lst [V.int (1+b / 4 % 4),V.int (1+b / 4 % 4),V.int (1+b / 4 % 8),V.int (1+b / 4 % 60)])=H2 at s2
 refine ⟨_,rfl,_,_,(3:Nat),rfl,s2.seq (s1.seq hS),?_⟩
 generalize ns.getD 3 0=d
 refine ⟨_,rfl,_,_,rfl,rfl,⟨by decide,by decide⟩,_,_,rfl,rfl,(by (first | decide | (show (0:Int) < _; first | decide | omega))),_,_,rfl,rfl,_,rfl,_,_,rfl,rfl,⟨by decide,by decide⟩,_,_,rfl,rfl,(by (first | decide | (show (0:Int) < _; first | decide | omega))),_,_,rfl,rfl,_,rfl,_,_,rfl,rfl,⟨by decide,by decide⟩,_,_,rfl,rfl,(by (first | decide | (show (0:Int) < _; first | decide | omega))),_,_,rfl,rfl,le3,fun p3 hp3=>?_⟩
 obtain ⟨u3,m3,e3⟩:=pick [V.int (1+d / 3 % 4),V.int (1+d / 3 % 12),V.int (1+d / 3 % 60)] 3 d rfl (by (first | decide | (show (0:Int) < _; first | decide | omega)))
 have g3:∃ w,u3=V.int w∧1≤w∧w≤60:=by
  simp only [List.mem_cons,List.not_mem_nil,or_false] at m3
  rcases m3 with rfl | rfl | rfl <;> exact ⟨_,rfl,by omega,by omega⟩
 obtain ⟨mo,rfl,o1,o2⟩:=g3
 refine ⟨_,rfl,_,_,rfl,rfl,(by (first | decide | (show (0:Int) < _; first | decide | omega))),_,_,_,_,rfl,rfl,SqL.of upd_same,e3,?_⟩
 have s3:=same_new hp3 (.lst [V.int (1+d / 3 % 4),V.int (1+d / 3 % 12),V.int (1+d / 3 % 60)])
 generalize upd H2 p3 (.lst [V.int (1+d / 3 % 4),V.int (1+d / 3 % 12),V.int (1+d / 3 % 60)])=H3 at s3
 refine ⟨_,rfl,_,rfl,_,rfl,_,_,(2:Nat),rfl,s3.seq (s2.seq (s1.seq hS)),_,rfl,fun fi H4 s4 f1 f2=>?_⟩
 refine ⟨_,rfl,le4,fun p4 hp4=>?_⟩
 exact q _ _ _ _ _ _ (s1.trans (s2.trans (s3.trans (s4.trans (same_new hp4 _))))) (SqT.of upd_same) ⟨w1,by omega,h1,h2,f1,f2,o1,o2⟩
theorem csomeB:(PySem.Str.ofString "!\"#$&'()*+,-./0123456789:;<=>?@ABCDEFGHIJKLMNOPQRSTUVWXYZ[\\]^_")++(PySem.Str.ofString "abcdefghijklmnopqrstuvwxyz{|}~")++(PySem.Str.ofString "`")=tx sgnB:=by decide +kernel
theorem lsomeB:(PySem.Str.ofString "!\"#$&'()*+,-./0123456789:;<=>?@ABCDEFGHIJKLMNOPQRSTUVWXYZ[\\]^_").length+(PySem.Str.ofString "abcdefghijklmnopqrstuvwxyz{|}~").length≤1000:=by decide +kernel
theorem lsomeC:((PySem.Str.ofString "!\"#$&'()*+,-./0123456789:;<=>?@ABCDEFGHIJKLMNOPQRSTUVWXYZ[\\]^_")++(PySem.Str.ofString "abcdefghijklmnopqrstuvwxyz{|}~")).length+(PySem.Str.ofString "`").length≤1000:=by decide +kernel
theorem ce:(PySem.Str.ofString "")=tx []:=by decide +kernel
def sp_l_text:Sp:=fun vs H Q _=>∃ (x y:Int) (many:Nat),vs=[.int x,.int y,.int (many:Int)]∧0≤y∧y < 2147483647∧1≤many∧many≤60∧∀ (l:List Nat) (H':Hp),Same H H'→1≤l.length→l.length≤60→(∀ c ∈ l,33≤c∧c < 127)→Q (.str (tx l)) H'
theorem sc_l_text:FnScope ["x","y","many","some"] ["x","y","many"] (defScope s_l_text):=⟨rfl,rfl,rfl,by decide +kernel,rfl,by decide +kernel,by decide +kernel⟩
theorem ok_l_text (T:Txt P w K mg a) : FnOk P w K mg base CX0 1 a.f_l_text a.fd_l_text ["x","y","many"] sp_l_text:=by
 have z_len:=T.z_len
 have z_range:=T.z_range
 refine T.d_l_text.fn.ok sc_l_text (fun vs H Q E h=>?_) (fun cdv A outer s H vs Q E hr h=>?_)
 ·obtain ⟨x,y,many,rfl,_⟩:=h
  rfl
 obtain ⟨x,y,many,rfl,y0,y1,z1,z2,q⟩:=h
 have hu:=Nat.lt_of_succ_lt (hu_of hr)
 refine ⟨_,(pss_cons (ps_set (i:=3) sc_l_text.nd rfl (Or.inr rfl) pe_str)
   (pss_cons (ps_set (i:=3) sc_l_text.nd rfl (Or.inr rfl) (pe_op op_add_str (pe_op op_add_str (pv 3) pe_str) pe_str))
   (pss_one (ps_ret (pe_bm PySem.F.plainAttrs_str PySem.F.slot_str_join PySem.F.type_str_join mt_join pe_str (pa_cons (pe_lc rfl (lcok (caps:=["x","y","some"]) (js:=[0,1,3]) (cap:=⟨⟨rfl,.inl rfl,rfl,.inl rfl⟩,⟨⟨rfl,.inl rfl,rfl,.inl rfl⟩,⟨⟨rfl,.inl rfl,rfl,.inl rfl⟩,trivial⟩⟩⟩)) (pi_range1 rfl z_range (pa_cons (pv 2) pa_nil)) (fun _ _ _ _=>pts_nil) (fun _ _ _ _=>(pe_ix ix_str (pv 3) (pe_op op_mod (pe_op op_add (pv 1) (pe_op op_mul (pv 2) (pv 0))) (pe_callB call_len_str rfl z_len PySem.boot_len (pa_cons (pv 3) pa_nil))) (fun _ _=>rfl)))) pa_nil)))))),?_⟩
 refine ⟨_,rfl,_,_,rfl,rfl,small lsomeB,_,_,rfl,rfl,small lsomeC,?_⟩
 rw [csomeB]
 refine ⟨rfl,_,rfl,_,rfl,(by omega),(by omega),lc_range (fun i ys H'=>H' = H∧∃ cs:List Nat,cs.length=i∧(∀ d ∈ cs,33≤d∧d < 127)∧ys=cs.map fun d=>V.str (tx [d])) ⟨rfl,[],rfl,by simp,rfl⟩ ?_ ?_ ?_⟩
 ·rintro i ys H' hi ⟨_,cs,hl,_,rfl⟩
  rw [List.length_map,hl]
  exact Nat.lt_of_lt_of_le (show i < 1000 by simp at hi; omega) (small (Nat.le_refl _))
 ·rintro i ys H' hi ⟨rfl,cs,hl,hd,rfl⟩
  refine yes_go ?_
  have hi':i < 60:=by simp at hi; omega
  have el:(tx sgnB).cps.toList=sgnB:=by simp
  obtain ⟨c,hc,ec⟩:=pick (tx sgnB).cps.toList ((tx sgnB).length:Nat) (x+y * (0+(i:Int))) (by rw [el,tx_len]) (by rw [tx_len]; decide)
  rw [el] at hc
  refine ⟨_,rfl,_,rfl,_,rfl,_,rfl,_,_,rfl,rfl,.inl ⟨by omega,by omega⟩,_,_,rfl,rfl,_,rfl,_,rfl,small (by rw [tx_len]; decide),_,_,rfl,rfl,(by (first | decide | (show (0:Int) < _; first | decide | omega))),_,_,_,rfl,rfl,small (by rw [tx_len]; decide),ec,rfl,cs++[c],by simp [hl],?_,by simp⟩
  intro e he
  rcases List.mem_append.mp he with he | he
  ·exact hd e he
  ·rw [List.mem_singleton.mp he]; exact sgnB_in c hc
 ·rintro ys H' ⟨rfl,cs,hl,hd,rfl⟩ p hp
  have hl':cs.length=many:=by rw [hl]; simp
  have g1:Same H' (upd H' p (.lst (cs.map fun d=>V.str (tx [d])))):=same_new hp _
  refine ⟨_,p,cs.map (fun d=>tx [d]),rfl,rfl,SqL.of (by rw [upd_same,List.map_map]; rfl),by decide,by rw [sum_one,List.length_map]; omega,?_⟩
  have ej:Txt.join (PySem.Str.ofString "") (cs.map fun d=>tx [d])=tx cs:=by
   have:=join_tx [] (cs.map fun d=>[d])
   rw [List.map_map,join_one] at this
   rw [ce]
   exact this
  rw [ej]
  exact q _ _ g1 (by omega) (by omega) hd
def sp_l_saying (K:PySem.W.Frag) : Sp:=fun vs H Q _=>∃ (a:Addr) (xs:List Int) (many:Nat),vs=[.ref a,.int (many:Int)]∧SqL K H a (xs.map V.int)∧StrOk 4 xs∧1≤many∧∀ q H' s,Same H H'→SqT K H' q (sayV s)→SayOk many s→Q (.ref q) H'
theorem sc_l_saying:FnScope ["xs","count","many"] ["xs","count"] (defScope s_l_saying):=⟨rfl,rfl,rfl,by decide +kernel,rfl,by decide +kernel,by decide +kernel⟩
theorem ok_l_saying (T:Txt P w K mg a) : FnOk P w K mg base CX0 2 a.f_l_saying a.fd_l_saying ["xs","count"] (sp_l_saying K):=by
 have g_l_text:=ok_l_text (P:=P) (w:=w) (base:=base) T
 have d_l_text:=T.d_l_text
 refine T.d_l_saying.fn.ok sc_l_saying (fun vs H Q E h=>?_) (fun cdv A outer s H vs Q E hr h=>?_)
 ·obtain ⟨a,xs,many,rfl,_⟩:=h
  rfl
 obtain ⟨a,xs,many,rfl,hx,ok,m1,q⟩:=h
 have hu:=Nat.lt_of_succ_lt (hu_of hr)
 refine ⟨_,(pss_cons (ps_if (pt_cmpR op_eq (pe_op op_mod (pe_ix ix_list (pv 0) pe_int (fun _ _=>rfl)) pe_int) pe_int (nomark _)) (pss_one (ps_ret (pe_tup (pa_cons pe_str (pa_cons (pe_op op_mod (pe_ix ix_list (pv 0) pe_int (fun _ _=>rfl)) (pv 1)) pa_nil))))) pss_nil)
   (pss_cons (ps_if (pt_cmpR op_eq (pe_op op_mod (pe_ix ix_list (pv 0) pe_int (fun _ _=>rfl)) pe_int) pe_int (nomark _)) (pss_one (ps_ret (pe_tup (pa_cons pe_str (pa_cons (pe_op op_mod (pe_ix ix_list (pv 0) pe_int (fun _ _=>rfl)) (pv 1)) pa_nil))))) pss_nil)
   (pss_cons (ps_set (i:=2) sc_l_saying.nd rfl (Or.inl rfl) (pe_op op_add pe_int (pe_op op_mod (pe_ix ix_list (pv 0) pe_int (fun _ _=>rfl)) pe_int)))
   (pss_cons (ps_if (pt_cmpR op_eq (pe_op op_mod (pe_ix ix_list (pv 0) pe_int (fun _ _=>rfl)) pe_int) pe_int (nomark _)) (pss_one (ps_set (i:=2) sc_l_saying.nd rfl (Or.inl rfl) (pe_op op_add pe_int (pe_op op_mod (pe_ix ix_list (pv 0) pe_int (fun _ _=>rfl)) pe_int)))) pss_nil)
   (pss_one (ps_ret (pe_tup (pa_cons pe_str (pa_cons (pe_callD d_l_text g_l_text (hr.mono (by decide)) rfl (pa_cons (pe_ix ix_list (pv 0) pe_int (fun _ _=>rfl)) (pa_cons (pe_ix ix_list (pv 0) pe_int (fun _ _=>rfl)) (pa_cons (pv 2) pa_nil)))) pa_nil))))))))),?_⟩
 have a0:=ok.at (k:=0) (by (first | decide | (show (0:Int) < _; first | decide | omega)))
 have a1:=ok.at (k:=1) (by (first | decide | (show (0:Int) < _; first | decide | omega)))
 have a2:=ok.at (k:=2) (by (first | decide | (show (0:Int) < _; first | decide | omega)))
 have a3:=ok.at (k:=3) (by (first | decide | (show (0:Int) < _; first | decide | omega)))
 have g3:=ok.get (k:=3) (by (first | decide | (show (0:Int) < _; first | decide | omega)))
 generalize xs.getD 0 0=x0 at a0
 generalize xs.getD 1 0=x1 at a1
 generalize xs.getD 2 0=x2 at a2
 generalize xs.getD 3 0=x3 at a3 g3
 have b1:=Int.emod_nonneg x1 (show (many:Int)≠0 by omega)
 have b2:=Int.emod_lt_of_pos x1 (show 0 < (many:Int) by omega)
 obtain ⟨k,hk⟩:=Int.eq_ofNat_of_zero_le b1
 have hk2:k < many:=by omega
 refine ⟨_,rfl,_,_,_,_,rfl,rfl,hx,a0,_,_,rfl,rfl,(by (first | decide | (show (0:Int) < _; first | decide | omega))),rfl,_,rfl,?_⟩
 refine ite2 (fun _=>?_) (fun _=>?_)
 ·refine ⟨_,rfl,_,_,_,_,rfl,rfl,hx,a1,_,rfl,_,_,rfl,rfl,(show 0 < (many:Int) by omega),le2,fun p1 hp1=>?_⟩
  refine q _ _ (.page k) (same_new hp1 _) (SqT.of ?_) hk2
  rw [upd_same]
  show some (HO.tup [V.str (PySem.Str.ofString "page"),V.int (x1 % (many:Int))])=_
  rw [hk]
  rfl
 refine ⟨_,rfl,_,_,_,_,rfl,rfl,hx,a0,_,_,rfl,rfl,(by (first | decide | (show (0:Int) < _; first | decide | omega))),rfl,_,rfl,?_⟩
 refine ite2 (fun _=>?_) (fun _=>?_)
 ·refine ⟨_,rfl,_,_,_,_,rfl,rfl,hx,a1,_,rfl,_,_,rfl,rfl,(show 0 < (many:Int) by omega),le2,fun p1 hp1=>?_⟩
  refine q _ _ (.row k) (same_new hp1 _) (SqT.of ?_) hk2
  rw [upd_same]
  show some (HO.tup [V.str (PySem.Str.ofString "row"),V.int (x1 % (many:Int))])=_
  rw [hk]
  rfl
 refine ⟨_,rfl,_,_,_,_,rfl,rfl,hx,a2,_,_,rfl,rfl,(by (first | decide | (show (0:Int) < _; first | decide | omega))),_,_,rfl,rfl,?_⟩
 dsimp only [gName]
 refine cut_seq (fun σ' H'=>H' = H∧∃ z:Nat,1≤z∧z≤60∧σ' = [some (.ref a),some (.int (many:Int)),some (.int (z:Int))]) ?_ (fun key=>?_)
 ·rintro σ' H' ⟨rfl,z,z1,z2,rfl⟩
  refine ⟨_,rfl,_,_,_,_,rfl,rfl,hx,a1,_,rfl,_,_,_,_,rfl,rfl,hx,a3,_,rfl,_,_,_,rfl,g3.1,g3.2,z1,z2,fun l H2 s2 l1 l2 l3=>?_⟩
  refine ⟨le2,fun p3 hp3=>?_⟩
  exact q _ _ (.text l) (s2.trans (same_new hp3 _)) (SqT.of upd_same) ⟨l1,l2,l3⟩
 ·refine ⟨_,rfl,_,_,_,_,rfl,rfl,hx,a0,_,_,rfl,rfl,(by (first | decide | (show (0:Int) < _; first | decide | omega))),rfl,_,rfl,?_⟩
  refine ite2 (fun c=>?_) (fun c=>?_)
  ·refine ⟨_,rfl,_,_,_,_,rfl,rfl,hx,a2,_,_,rfl,rfl,(by (first | decide | (show (0:Int) < _; first | decide | omega))),_,_,rfl,rfl,?_⟩
   obtain ⟨z,hz⟩:=Int.eq_ofNat_of_zero_le (show 0≤1+x2 % 60 by omega)
   exact key _ _ ⟨rfl,z,by omega,by omega,(by show [some (V.ref a),some (V.int (many:Int)),some (V.int (1+x2 % 60))]=_; rw [hz])⟩
  ·obtain ⟨z,hz⟩:=Int.eq_ofNat_of_zero_le (show 0≤1+x2 % 6 by omega)
   exact key _ _ ⟨rfl,z,by omega,by omega,(by show [some (V.ref a),some (V.int (many:Int)),some (V.int (1+x2 % 6))]=_; rw [hz])⟩
theorem sq_small {x:Int} (h0:0≤x) (h1:x < 2147483647) : 0≤x * x∧x * x≤2147483647 * 2147483647:=⟨Int.mul_nonneg h0 h0,Int.mul_le_mul (by omega) (by omega) h0 (by (first | decide | (show (0:Int) < _; first | decide | omega)))⟩
def sp_l_stream:Sp:=fun vs H Q _=>∃ (c:Int) (n:Nat),vs=[.int c,.int (n:Int)]∧n≤20∧∀ q H' xs,Same H H'→H q=none→H' q=some (.lst (xs.map V.int))→StrOk n xs→Q (.ref q) H'
theorem sc_l_stream:FnScope ["cell","many","found","number","k"] ["cell","many"] (defScope s_l_stream):=⟨rfl,rfl,rfl,by decide +kernel,rfl,by decide +kernel,by decide +kernel⟩
theorem ok_l_stream (T:Txt P w K mg a) : FnOk P w K mg base CX0 1 a.f_l_stream a.fd_l_stream ["cell","many"] sp_l_stream:=by
 have z_range:=T.z_range
 refine T.d_l_stream.fn.ok sc_l_stream (fun vs H Q E h=>?_) (fun cdv A outer s H vs Q E hr h=>?_)
 ·obtain ⟨c,n,rfl,_⟩:=h
  rfl
 obtain ⟨c,n,rfl,n20,q⟩:=h
 have hu:=Nat.lt_of_succ_lt (hu_of hr)
 refine ⟨_,(pss_cons (ps_set (i:=2) sc_l_stream.nd rfl (Or.inl rfl) (pe_lst pa_nil))
   (pss_cons (ps_set (i:=3) sc_l_stream.nd rfl (Or.inl rfl) (pe_op op_mod (pv 0) pe_int))
   (pss_cons (ps_for PassesOwn.never rfl (pi_range1 rfl z_range (pa_cons (pe_op op_add (pv 1) pe_int) pa_nil)) (pg_name (i:=4) sc_l_stream.nd rfl (Or.inl rfl)) (pss_cons (ps_set (i:=3) sc_l_stream.nd rfl (Or.inl rfl) (pe_op op_mod (pe_op op_add (pe_op op_add (pe_op op_add (pe_op op_mul (pv 3) (pv 3)) (pe_op op_mul pe_int (pv 3))) (pe_op op_mul pe_int (pv 4))) pe_int) pe_int))
   (pss_one (ps_expr (pe_bm PySem.F.plainAttrs_list PySem.F.slot_list_append PySem.F.type_list_append mt_append (pv 2) (pa_cons (pv 3) pa_nil))))))
   (pss_one (ps_ret (pe_slice sl_list (pv 2) (po_some pe_int) po_none)))))),?_⟩
 refine ⟨Nat.zero_le _,fun r hr=>?_⟩
 have s0:=same_new hr (.lst [])
 refine ⟨_,rfl,_,_,rfl,rfl,(by (first | decide | (show (0:Int) < _; first | decide | omega))),?_⟩
 refine ⟨_,rfl,_,_,rfl,rfl,_,rfl,(by omega),(by omega),for_range (fun i σ H2=>Same H H2∧∃ (xs:List Int) (z:Int) (v:Option V),0≤z∧z < 2147483647∧σ=[some (.int c),some (.int (n:Int)),some (.ref r),some (.int z),v]∧StrOk i xs∧H2 r=some (.lst (xs.map V.int)))
  ⟨s0,[],_,none,Int.emod_nonneg _ (by (first | decide | (show (0:Int) < _; first | decide | omega))),Int.emod_lt_of_pos _ (by (first | decide | (show (0:Int) < _; first | decide | omega))),rfl,⟨rfl,fun x hx=>by simp at hx⟩,upd_same⟩ ?_ ?_⟩
 ·rintro i σ H2 hi ⟨s2,xs,z,v,z0,z1,rfl,ok,h2⟩
  have hi2:i < 21:=by omega
  have sq:=sq_small z0 z1
  refine ⟨_,rfl,_,rfl,_,_,rfl,rfl,.inl ⟨by omega,by omega⟩,_,rfl,_,_,rfl,rfl,.inl ⟨by decide,by decide⟩,_,_,rfl,rfl,_,rfl,_,_,rfl,rfl,.inl ⟨by decide,by decide⟩,_,_,rfl,rfl,_,_,rfl,rfl,_,_,rfl,rfl,(by (first | decide | (show (0:Int) < _; first | decide | omega))),?_⟩
  dsimp only [gName]
  have m1:=Int.emod_nonneg (z * z+48271 * z+7 * (0+(i:Int))+11) (show (2147483647:Int)≠0 by decide)
  have m2:=Int.emod_lt_of_pos (z * z+48271 * z+7 * (0+(i:Int))+11) (show (0:Int) < 2147483647 by decide)
  generalize (z * z+48271 * z+7 * (0+(i:Int))+11) % 2147483647=y at m1 m2
  refine ⟨_,rfl,.inl ⟨rfl,_,SqL.of h2⟩,_,rfl,_,_,_,rfl,rfl,h2,?_,?_⟩
  ·rw [List.length_map,ok.1]
   exact Nat.lt_of_lt_of_le (show i < 1000 by omega) (small (Nat.le_refl _))
  ·refine ⟨s2.put hr,xs++[y],_,_,m1,m2,rfl,⟨by simp [ok.1],fun x hx=>?_⟩,?_⟩
   ·rcases List.mem_append.mp hx with hx | hx
    ·exact ok.2 x hx
    ·rw [List.mem_singleton.mp hx]; exact ⟨m1,m2⟩
   ·rw [upd_same,map_snoc]
 ·rintro σ H2 ⟨s2,xs,z,v,z0,z1,rfl,ok,h2⟩
  refine ⟨_,rfl,_,rfl,_,_,rfl,SqL.of h2,fun p2 hp2=>?_⟩
  have ok2:xs.length=n+1:=by rw [ok.1]; omega
  have ec:cutV (xs.map V.int) (some 1) none=(xs.drop 1).map V.int:=by
   unfold cutV HT.sIx
   rw [List.length_map,List.map_drop]
   have e1:min (1:Int).toNat xs.length=1:=by omega
   simp only [show ¬ ((1:Int) < 0) by decide,if_false]
   rw [e1,List.take_of_length_le (by simp)]
  refine q _ _ (xs.drop 1) (s2.trans (same_new hp2 _)) (s2.free hp2) (by rw [upd_same]; exact congrArg (fun t=>some (HO.lst t)) ec) ⟨by simp; omega,fun x hx=>ok.2 x (List.mem_of_mem_drop hx)⟩
theorem pick_lead (k:Int) : ∃ z:Int,0≤z∧z≤4∧atI [V.int 0,V.int 0,V.int 1,V.int 0,V.int 0,V.int 2,V.int 0,V.int 3,V.int 0,V.int 0,V.int 4,V.int 1] (k % 12)=some (V.int z):=by
 obtain ⟨u,m,e⟩:=pick [V.int 0,V.int 0,V.int 1,V.int 0,V.int 0,V.int 2,V.int 0,V.int 3,V.int 0,V.int 0,V.int 4,V.int 1] 12 k rfl (by (first | decide | (show (0:Int) < _; first | decide | omega)))
 simp only [List.mem_cons,List.not_mem_nil,or_false] at m
 rcases m with rfl | rfl | rfl | rfl | rfl | rfl | rfl | rfl | rfl | rfl | rfl | rfl <;> exact ⟨_,by decide,by decide,e⟩
def sp_l_word (K:PySem.W.Frag) : Sp:=fun vs H Q _=>∃ (c:Int) (many:Nat),vs=[.int c,.int (many:Int)]∧1≤many∧∀ q H' d,Same H H'→WdAt K H' q d→WdOk many d→d.foot.length≤20→Q (.ref q) H'
theorem sc_l_word:FnScope ["cell","count","xs","foot","lead"] ["cell","count"] (defScope s_l_word):=⟨rfl,rfl,rfl,by decide +kernel,rfl,by decide +kernel,by decide +kernel⟩
theorem ok_l_word (T:Txt P w K mg a) : FnOk P w K mg base CX0 3 a.f_l_word a.fd_l_word ["cell","count"] (sp_l_word K):=by
 have g_l_saying:=ok_l_saying (P:=P) (w:=w) (base:=base) T
 have d_l_saying:=T.d_l_saying
 have g_l_stream:=ok_l_stream (P:=P) (w:=w) (base:=base) T
 have d_l_stream:=T.d_l_stream
 have z_range:=T.z_range
 refine T.d_l_word.fn.ok sc_l_word (fun vs H Q E h=>?_) (fun cdv A outer s H vs Q E hr h=>?_)
 ·obtain ⟨c,many,rfl,_⟩:=h
  rfl
 obtain ⟨c,many,rfl,m1,q⟩:=h
 have hu:=Nat.lt_of_succ_lt (hu_of hr)
 refine ⟨_,(@pss_cons _ _ _ _ _ (ps_set (i:=2) sc_l_word.nd rfl (Or.inr rfl) (pe_callD d_l_stream g_l_stream (hr.mono (by decide)) rfl (pa_cons (pv 0) (pa_cons pe_int pa_nil))))
   (@pss_cons _ _ _ _ _ (ps_set (i:=3) sc_l_word.nd rfl (Or.inl rfl) (pe_lst pa_nil))
   (@pss_cons _ _ _ _ _ (ps_if (pt_cmpR op_eq (pe_op op_mod (pe_ix ix_list (pv 2) pe_int (fun _ _=>rfl)) pe_int) pe_int (nomark _)) (pss_one (ps_lc (k:=3) rfl (lcok (caps:=["count","xs"]) (js:=[1,2]) (cap:=⟨⟨rfl,.inl rfl,rfl,.inl rfl⟩,⟨⟨rfl,.inl rfl,rfl,.inl rfl⟩,trivial⟩⟩)) (pi_range1 rfl z_range (pa_cons (pe_op op_add pe_int (pe_op op_mod (pe_ix ix_list (pv 2) pe_int (fun _ _=>rfl)) pe_int)) pa_nil)) (fun _ _ _ _=>pts_nil) (fun _ _ _ _=>(pe_callD d_l_saying g_l_saying (hr.mono (by decide)) rfl (pa_cons (pe_slice (r:=rSlL K) sl_list (pv 2) (po_some (pe_op op_add pe_int (pe_op op_mul pe_int (pv 0)))) (po_some (pe_op op_add pe_int (pe_op op_mul pe_int (pv 0))))) (pa_cons (pv 1) pa_nil)))) sc_l_word.nd rfl rfl)) pss_nil)
   (@pss_cons _ _ _ _ _ (@ps_pick _ 4 _ _ _ _ _ _ _ _ _ sc_l_word.nd rfl (Or.inl rfl) (CL.int (CL.int (CL.int (CL.int (CL.int (CL.int (CL.int (CL.int (CL.int (CL.int (CL.int (CL.int CL.nil)))))))))))) (pe_op op_mod (pe_ix ix_list (pv 2) pe_int (fun _ _=>rfl)) pe_int) (fun _ _=>rfl) (by first | exact .inl rfl | exact .inr rfl))
   (pss_one (ps_ret (pe_tup (pa_cons (pv 4) (pa_cons (pe_cmpR op_eq (pe_op op_mod (pe_ix ix_list (pv 2) pe_int (fun _ _=>rfl)) pe_int) pe_int (nomark _)) (pa_cons (pe_callD d_l_saying g_l_saying (hr.mono (by decide)) rfl (pa_cons (pe_slice sl_list (pv 2) (po_some pe_int) (po_some pe_int)) (pa_cons (pv 1) pa_nil))) (pa_cons (pv 3) pa_nil))))))))))),?_⟩
 refine ⟨_,rfl,_,(16:Nat),rfl,by decide,fun xa H1 xs s1 nx hx ok=>?_⟩
 have a4:=ok.at (k:=4) (by (first | decide | (show (0:Int) < _; first | decide | omega)))
 have a5:=ok.at (k:=5) (by (first | decide | (show (0:Int) < _; first | decide | omega)))
 have a6:=ok.at (k:=6) (by (first | decide | (show (0:Int) < _; first | decide | omega)))
 have a7:=ok.at (k:=7) (by (first | decide | (show (0:Int) < _; first | decide | omega)))
 refine ⟨Nat.zero_le _,fun fo hfo=>?_⟩
 have s2:=same_new hfo (.lst [])
 have hx2:=s2 _ _ hx
 have hfo2:(upd H1 fo (.lst [])) fo=some (.lst []):=upd_same
 generalize upd H1 fo (.lst [])=H2 at s2 hx2 hfo2
 have sq:=SqL.of (K:=K) hx2
 dsimp only [gName]
 refine cut_seq (fun σ' H'=>Same H2 H'∧∃ (fa:Addr) (bs:List Addr) (ss:List Say),σ' = [some (.int c),some (.int (many:Int)),some (.ref xa),some (.ref fa),none]∧SqL K H' fa (bs.map V.ref)∧SaysA K H' bs ss∧(∀ s ∈ ss,SayOk many s)∧ss.length≤20) ?_ (fun key=>?_)
 ·rintro σ' H3 ⟨s3,fa,bs,ss,rfl,hfa,hbs,so,sl⟩
  refine ⟨small (by (first | decide | (show (0:Int) < _; first | decide | omega))),fun p2 hp2=>?_⟩
  obtain ⟨le,le0,le4,ele⟩:=pick_lead (xs.getD 4 0)
  have s4:=same_new hp2 (.lst [V.int 0,V.int 0,V.int 1,V.int 0,V.int 0,V.int 2,V.int 0,V.int 3,V.int 0,V.int 0,V.int 4,V.int 1])
  refine ⟨_,rfl,_,_,_,_,rfl,rfl,s4.seq (s3.seq sq),a4,_,_,rfl,rfl,(by (first | decide | (show (0:Int) < _; first | decide | omega))),_,_,_,_,rfl,rfl,SqL.of upd_same,ele,?_⟩
  generalize upd H3 p2 (.lst [V.int 0,V.int 0,V.int 1,V.int 0,V.int 0,V.int 2,V.int 0,V.int 3,V.int 0,V.int 0,V.int 4,V.int 1])=H4 at s4
  refine ⟨_,rfl,_,rfl,_,_,_,_,rfl,rfl,s4.seq (s3.seq sq),a5,_,_,rfl,rfl,(by (first | decide | (show (0:Int) < _; first | decide | omega))),rfl,_,rfl,_,rfl,_,rfl,_,_,rfl,s4.seq (s3.seq sq),fun p3 hp3=>?_⟩
  have s5:=same_new hp3 (.lst (cutV (xs.map V.int) (some 0) (some 4)))
  have ec:cutV (xs.map V.int) (some 0) (some 4)=((xs.drop 0).take 4).map V.int:=by
   have:=cut_nat xs 0 4
   rw [cutV_map]
   exact congrArg (List.map V.int) this
  refine ⟨_,rfl,_,_,many,rfl,SqL.of (by rw [upd_same,ec]),ok.cut 4 (by (first | decide | (show (0:Int) < _; first | decide | omega))),m1,fun sa H6 s s6 hs hso=>?_⟩
  refine ⟨_,rfl,L2.le4,fun p7 hp7=>?_⟩
  have s7:=same_new hp7 (.tup [V.int le,V.bl (decide (V.int (xs.getD 5 0 % 4)=V.int 0)),V.ref sa,V.ref fa])
  have t:=s5.trans (s6.trans s7)
  refine q _ _ ⟨le,_,s,ss⟩ (s1.trans (s2.trans (s3.trans (s4.trans t)))) ⟨sa,fa,bs,SqT.of upd_same,s7.tup hs,t.seq (s4.seq hfa),(hbs.same s4).same t⟩ ⟨le0,le4,hso,so,(by show ss.length≤40; omega)⟩ sl
 ·refine ⟨_,rfl,_,_,_,_,rfl,rfl,sq,a6,_,_,rfl,rfl,(by (first | decide | (show (0:Int) < _; first | decide | omega))),rfl,_,rfl,?_⟩
  refine ite2 (fun c=>?_) (fun c=>?_)
  ·have e7:xs.getD 7 0 % 2=0∨xs.getD 7 0 % 2=1:=by omega
   refine ⟨_,rfl,_,_,_,_,rfl,rfl,sq,a7,_,_,rfl,rfl,(by (first | decide | (show (0:Int) < _; first | decide | omega))),_,_,rfl,rfl,_,rfl,(by omega),(by omega),lc_range (fun i ys H'=>Same H2 H'∧∃ (bs:List Addr) (ss:List Say),ss.length=i∧ys=bs.map V.ref∧SaysA K H' bs ss∧∀ s ∈ ss,SayOk many s) ⟨Same.refl _,[],[],rfl,rfl,SaysA.nil,fun s hs=>by simp at hs⟩ ?_ ?_ ?_⟩
   ·rintro i ys H' hi ⟨_,bs,ss,hl,rfl,hb,_⟩
    rw [List.length_map,hb.1,hl]
    exact Nat.lt_of_lt_of_le (show i < 1000 by omega) (small (Nat.le_refl _))
   ·rintro i ys H3 hi ⟨s3,bs,ss,hl,rfl,hb,so⟩
    refine yes_go ?_
    have hi2:i < 2:=by omega
    refine ⟨_,rfl,_,rfl,_,_,rfl,rfl,.inl ⟨by decide,by decide⟩,_,_,rfl,rfl,_,rfl,_,rfl,_,_,rfl,rfl,.inl ⟨by decide,by decide⟩,_,_,rfl,rfl,_,rfl,_,_,rfl,s3.seq sq,fun p5 hp5=>?_⟩
    have ec:cutV (xs.map V.int) (some (8+4 * (0+(i:Int)))) (some (12+4 * (0+(i:Int))))=((xs.drop (8+4 * i)).take 4).map V.int:=by
     have:=cut_nat xs (8+4 * i) (12+4 * i)
     have e1:(8+4 * (0+(i:Int)))=((8+4 * i:Nat) : Int):=by omega
     have e2:(12+4 * (0+(i:Int)))=((12+4 * i:Nat) : Int):=by omega
     have e3:12+4 * i - (8+4 * i)=4:=by omega
     rw [e3] at this
     rw [cutV_map,e1,e2]
     exact congrArg (List.map V.int) this
    have s5:=same_new hp5 (.lst (cutV (xs.map V.int) (some (8+4 * (0+(i:Int)))) (some (12+4 * (0+(i:Int))))))
    refine ⟨_,rfl,_,_,many,rfl,SqL.of (by rw [upd_same,ec]),ok.cut 4 (by omega),m1,fun sa H6 s s6 hs hso=>?_⟩
    have t:=s5.trans s6
    refine ⟨s3.trans t,bs++[sa],ss++[s],by simp [hl],refs_snoc _ _,(hb.same t).app (SaysA.one hs),fun u hu=>?_⟩
    rcases List.mem_append.mp hu with hu | hu
    ·exact so u hu
    ·rw [List.mem_singleton.mp hu]; exact hso
   ·rintro ys H3 ⟨s3,bs,ss,hl,rfl,hb,so⟩ p hp
    have s4:=same_new hp (.lst (bs.map V.ref))
    exact key _ _ ⟨s3.trans s4,p,bs,ss,rfl,SqL.of upd_same,hb.same s4,so,by omega⟩
  ·exact key _ _ ⟨Same.refl _,fo,[],[],rfl,SqL.of hfo2,SaysA.nil,fun s hs=>by simp at hs,by simp⟩
def sp_l_book (K:PySem.W.Frag) : Sp:=fun vs H Q _=>∃ (sa:Addr) (ns:List Int) (most:Nat),vs=[.ref sa,.int (most:Int)]∧SqL K H sa (ns.map V.int)∧most≤60∧∀ q H' w h f m ds,Same H H'→BkAt K H' q w h f m ds→FormOk w h f m→ds.length=((ns.drop 4).take most).length→(∀ d ∈ ds,WdOk ds.length d)→(∀ d ∈ ds,d.foot.length≤20)→Q (.ref q) H'
theorem sc_l_book:FnScope ["script","most","row"] ["script","most"] (defScope s_l_book):=⟨rfl,rfl,rfl,by decide +kernel,rfl,by decide +kernel,by decide +kernel⟩
theorem ok_l_book (T:Txt P w K mg a) : FnOk P w K mg base CX0 4 a.f_l_book a.fd_l_book ["script","most"] (sp_l_book K):=by
 have g_l_form:=ok_l_form (P:=P) (w:=w) (base:=base) T
 have d_l_form:=T.d_l_form
 have g_l_word:=ok_l_word (P:=P) (w:=w) (base:=base) T
 have d_l_word:=T.d_l_word
 have z_len:=T.z_len
 refine T.d_l_book.fn.ok sc_l_book (fun vs H Q E h=>?_) (fun cdv A outer s H vs Q E hr h=>?_)
 ·obtain ⟨sa,ns,most,rfl,_⟩:=h
  rfl
 obtain ⟨sa,ns,most,rfl,hS,m60,q⟩:=h
 have hu:=Nat.lt_of_succ_lt (hu_of hr)
 refine ⟨_,(pss_cons (ps_set (i:=2) sc_l_book.nd rfl (Or.inr rfl) (pe_slice sl_list (pv 0) (po_some pe_int) (po_some (pe_op op_add pe_int (pv 1)))))
   (pss_one (ps_ret (pe_tup (pa_cons (pe_callD d_l_form g_l_form (hr.mono (by decide)) rfl (pa_cons (pv 0) pa_nil)) (pa_cons (pe_lc rfl (lcok (caps:=["row"]) (js:=[2]) (cap:=⟨⟨rfl,.inl rfl,rfl,.inl rfl⟩,trivial⟩)) (pi_list (pv 2)) (fun _ _ _ _=>pts_nil) (fun _ _ _ _=>(pe_callD d_l_word g_l_word (hr.mono (by decide)) rfl (pa_cons (pv 0) (pa_cons (pe_callB (r:=rLen K) call_len_seq rfl z_len PySem.boot_len (pa_cons (pv 1) pa_nil)) pa_nil))))) pa_nil)))))),?_⟩
 refine ⟨_,rfl,_,rfl,_,rfl,_,_,rfl,rfl,_,rfl,_,_,rfl,hS,fun ra hra=>?_⟩
 have ec:cutV (ns.map V.int) (some 4) (some (4+(most:Int)))=((ns.drop 4).take most).map V.int:=by
  have:=cut_nat ns 4 (4+most)
  have e1:(4+(most:Int))=((4+most:Nat) : Int):=by omega
  rw [Nat.add_sub_cancel_left] at this
  rw [cutV_map,e1]
  exact congrArg (List.map V.int) this
 have s1:=same_new hra (.lst (cutV (ns.map V.int) (some 4) (some (4+(most:Int)))))
 have h1:(upd H ra (.lst (cutV (ns.map V.int) (some 4) (some (4+(most:Int)))))) ra=some (.lst (((ns.drop 4).take most).map V.int)):=by rw [upd_same,ec]
 generalize upd H ra (.lst (cutV (ns.map V.int) (some 4) (some (4+(most:Int)))))=H1 at s1 h1
 have cl:((ns.drop 4).take most).length≤60:=by rw [List.length_take]; omega
 generalize (ns.drop 4).take most=cs at h1 q cl
 refine ⟨_,rfl,_,_,rfl,s1.seq hS,fun fa H2 w h f m s2 hf fo=>?_⟩
 have hc2:SqL K H2 ra (cs.map V.int):=s2.seq (SqL.of h1)
 refine ⟨_,rfl,_,rfl,⟨_,hc2⟩,lc_list (K:=K) (a:=ra) (xs:=cs.map V.int) (fun i ys H3=>Same H2 H3∧∃ (as:List Addr) (ds:List Wd),ds.length=i∧ys=as.map V.ref∧WdsA K H3 as ds∧∀ d ∈ ds,WdOk cs.length d∧d.foot.length≤20) ⟨Same.refl _,[],[],rfl,rfl,WdsA.nil,fun s hs=>by simp at hs⟩ (fun i ys H3 _ h3=>h3.1.seq hc2) ?_ ?_ ?_⟩
 ·rintro i ys H3 hi ⟨_,as,ds,hl,rfl,hb,_⟩
  rw [List.length_map] at hi
  rw [List.length_map,hb.1,hl]
  exact Nat.lt_of_lt_of_le (show i < 1000 by omega) (small (Nat.le_refl _))
 ·rintro i y ys H3 hi ⟨s3,as,ds,hl,rfl,hb,wo⟩
  have ci:i < cs.length:=by
   have:=(List.getElem?_eq_some_iff.mp hi).1
   rw [List.length_map] at this
   exact this
  obtain ⟨z,rfl,_⟩:=get_int hi
  refine yes_go ?_
  refine ⟨_,rfl,_,rfl,_,_,rfl,.inl (s3.seq hc2),_,cs.length,(by rw [List.length_map]; rfl),by omega,fun q4 H4 d s4 hd hok h20=>?_⟩
  refine ⟨s3.trans s4,as++[q4],ds++[d],by simp [hl],refs_snoc _ _,(hb.same s4).snoc hd,fun u hu=>?_⟩
  rcases List.mem_append.mp hu with hu | hu
  ·exact wo u hu
  ·rw [List.mem_singleton.mp hu]; exact ⟨hok,h20⟩
 ·rintro ys H3 ⟨s3,as,ds,hl,rfl,hb,wo⟩ p hp
  rw [List.length_map] at hl
  have s4:=same_new hp (.lst (as.map V.ref))
  refine ⟨le2,fun p5 hp5=>?_⟩
  have s5:=same_new hp5 (.tup [V.ref fa,V.ref p])
  refine q _ _ _ _ _ _ ds (s1.trans (s2.trans (s3.trans (s4.trans s5)))) ⟨fa,p,as,SqT.of upd_same,(s3.trans (s4.trans s5)).tup hf,s5.seq (SqL.of upd_same),hb.same (s4.trans s5)⟩ fo hl (by rw [hl]; exact fun d hd=>(wo d hd).1) (fun d hd=>(wo d hd).2)
def sp_l_short (K:PySem.W.Frag) : Sp:=fun vs H Q _=>∃ (a:Addr) (xs:List Int) (many:Nat),vs=[.ref a,.int (many:Int)]∧SqL K H a (xs.map V.int)∧StrOk 3 xs∧1≤many∧∀ q H' s,Same H H'→SqT K H' q (sayV s)→SayOk many s→Q (.ref q) H'
theorem sc_l_short:FnScope ["xs","count"] ["xs","count"] (defScope s_l_short):=⟨rfl,rfl,rfl,by decide +kernel,rfl,by decide +kernel,by decide +kernel⟩
theorem ok_l_short (T:Txt P w K mg a) : FnOk P w K mg base CX0 2 a.f_l_short a.fd_l_short ["xs","count"] (sp_l_short K):=by
 have g_l_text:=ok_l_text (P:=P) (w:=w) (base:=base) T
 have d_l_text:=T.d_l_text
 refine T.d_l_short.fn.ok sc_l_short (fun vs H Q E h=>?_) (fun cdv A outer s H vs Q E hr h=>?_)
 ·obtain ⟨a,xs,many,rfl,_⟩:=h
  rfl
 obtain ⟨a,xs,many,rfl,hx,ok,m1,q⟩:=h
 have hu:=Nat.lt_of_succ_lt (hu_of hr)
 refine ⟨_,(pss_cons (ps_if (pt_cmpR op_eq (pe_op op_mod (pe_ix ix_list (pv 0) pe_int (fun _ _=>rfl)) pe_int) pe_int (nomark _)) (pss_one (ps_ret (pe_tup (pa_cons pe_str (pa_cons (pe_op op_mod (pe_ix ix_list (pv 0) pe_int (fun _ _=>rfl)) (pv 1)) pa_nil))))) pss_nil)
   (pss_cons (ps_if (pt_cmpR op_eq (pe_op op_mod (pe_ix ix_list (pv 0) pe_int (fun _ _=>rfl)) pe_int) pe_int (nomark _)) (pss_one (ps_ret (pe_tup (pa_cons pe_str (pa_cons (pe_op op_mod (pe_ix ix_list (pv 0) pe_int (fun _ _=>rfl)) (pv 1)) pa_nil))))) pss_nil)
   (pss_one (ps_ret (pe_tup (pa_cons pe_str (pa_cons (pe_callD d_l_text g_l_text (hr.mono (by decide)) rfl (pa_cons (pe_ix ix_list (pv 0) pe_int (fun _ _=>rfl)) (pa_cons (pe_ix ix_list (pv 0) pe_int (fun _ _=>rfl)) (pa_cons (pe_op op_add pe_int (pe_op op_mod (pe_op op_fdiv (pe_ix ix_list (pv 0) pe_int (fun _ _=>rfl)) pe_int) pe_int)) pa_nil)))) pa_nil))))))),?_⟩
 have a0:=ok.at (k:=0) (by (first | decide | (show (0:Int) < _; first | decide | omega)))
 have a1:=ok.at (k:=1) (by (first | decide | (show (0:Int) < _; first | decide | omega)))
 have a2:=ok.at (k:=2) (by (first | decide | (show (0:Int) < _; first | decide | omega)))
 have g2:=ok.get (k:=2) (by (first | decide | (show (0:Int) < _; first | decide | omega)))
 generalize xs.getD 0 0=x0 at a0
 generalize xs.getD 1 0=x1 at a1
 generalize xs.getD 2 0=x2 at a2 g2
 have b1:=Int.emod_nonneg x1 (show (many:Int)≠0 by omega)
 have b2:=Int.emod_lt_of_pos x1 (show 0 < (many:Int) by omega)
 obtain ⟨k,hk⟩:=Int.eq_ofNat_of_zero_le b1
 have hk2:k < many:=by omega
 refine ⟨_,rfl,_,_,_,_,rfl,rfl,hx,a0,_,_,rfl,rfl,(by (first | decide | (show (0:Int) < _; first | decide | omega))),rfl,_,rfl,?_⟩
 refine ite2 (fun _=>?_) (fun _=>?_)
 ·refine ⟨_,rfl,_,_,_,_,rfl,rfl,hx,a1,_,rfl,_,_,rfl,rfl,(show 0 < (many:Int) by omega),le2,fun p1 hp1=>?_⟩
  refine q _ _ (.page k) (same_new hp1 _) (SqT.of ?_) hk2
  rw [upd_same]
  show some (HO.tup [V.str (PySem.Str.ofString "page"),V.int (x1 % (many:Int))])=_
  rw [hk]
  rfl
 refine ⟨_,rfl,_,_,_,_,rfl,rfl,hx,a0,_,_,rfl,rfl,(by (first | decide | (show (0:Int) < _; first | decide | omega))),rfl,_,rfl,?_⟩
 refine ite2 (fun _=>?_) (fun _=>?_)
 ·refine ⟨_,rfl,_,_,_,_,rfl,rfl,hx,a1,_,rfl,_,_,rfl,rfl,(show 0 < (many:Int) by omega),le2,fun p1 hp1=>?_⟩
  refine q _ _ (.row k) (same_new hp1 _) (SqT.of ?_) hk2
  rw [upd_same]
  show some (HO.tup [V.str (PySem.Str.ofString "row"),V.int (x1 % (many:Int))])=_
  rw [hk]
  rfl
 obtain ⟨z,hz⟩:=Int.eq_ofNat_of_zero_le (show 0≤1+x0 / 5 % 7 by omega)
 refine ⟨_,rfl,_,_,_,_,rfl,rfl,hx,a1,_,rfl,_,_,_,_,rfl,rfl,hx,a2,_,rfl,_,_,_,_,rfl,rfl,hx,a0,_,_,rfl,rfl,⟨by decide,by decide⟩,_,_,rfl,rfl,(by (first | decide | (show (0:Int) < _; first | decide | omega))),_,_,rfl,rfl,_,_,z,(by show [V.int x1,V.int x2,V.int (1+x0 / 5 % 7)]=_; rw [hz]),g2.1,g2.2,(by omega),(by omega),fun l H2 s2 l1 l2 l3=>?_⟩
 refine ⟨le2,fun p3 hp3=>?_⟩
 exact q _ _ (.text l) (s2.trans (same_new hp3 _)) (SqT.of upd_same) ⟨l1,l2,l3⟩
theorem law_behind {h f l:Int} {x:Int × Int} (l0:0≤l) (l4:l≤4) (hx:RowIn h x) : (if l=0 then x else if l < 3∧x.2+l < h then (x.1,x.2+l) else (if l=4∧(f+(x.1+1)) % 2=0 then (x.1+1+1,0) else (x.1+1,0)))=behindI h f x l:=by
 obtain ⟨p,r⟩:=x
 obtain ⟨a,b,c⟩:=hx
 simp only at a b c
 obtain ⟨q,s,e,d⟩:=behind_desc h f l p r l0 l4
 rw [e]
 dsimp only
 repeat' split
 all_goals (refine Prod.ext ?_ ?_ <;> simp only [] <;> omega)
def sp_l_behind (K:PySem.W.Frag) : Sp:=fun vs H Q _=>∃ (fa a:Addr) (w h f m l:Int) (x:Int × Int),vs=[.ref fa,.ref a,.int l]∧SqT K H fa (fm w h f m)∧SqT K H a (pl x)∧0≤l∧l≤4∧RowIn h x∧∀ q H',Same H H'→SqT K H' q (pl (behindI h f x l))→Q (.ref q) H'
theorem sc_l_behind:FnScope ["form","spot","lead","page"] ["form","spot","lead"] (defScope s_l_behind):=⟨rfl,rfl,rfl,by decide +kernel,rfl,by decide +kernel,by decide +kernel⟩
theorem ok_l_behind (T:Txt P w K mg a) : FnOk P w K mg base CX0 1 a.f_l_behind a.fd_l_behind ["form","spot","lead"] (sp_l_behind K):=by
 refine T.d_l_behind.fn.ok sc_l_behind (fun vs H Q E h=>?_) (fun cdv A outer s H vs Q E hr h=>?_)
 ·obtain ⟨fa,a,w,h,f,m,k,x,rfl,_⟩:=h
  rfl
 obtain ⟨fa,a,w,h,f,m,l,x,rfl,hf,hx,l0,l4,hri,q⟩:=h
 have hu:=Nat.lt_of_succ_lt (hu_of hr)
 refine ⟨_,(pss_cons (ps_if (pt_cmpR op_eq (pv 2) pe_int (nomark _)) (pss_one (ps_ret (pv 1))) pss_nil)
   (pss_cons (ps_if (PW.pt (pw_and (pt_cmpR op_lt (pv 2) pe_int (nomark _)) (pw_and1 (pt_cmpR op_lt (pe_op op_add (pe_ix ix_tup (pv 1) pe_int (fun _ _=>rfl)) (pv 2)) (pe_ix ix_tup (pv 0) pe_int (fun _ _=>rfl)) (nomark _))))) (pss_one (ps_ret (pe_tup (pa_cons (pe_ix ix_tup (pv 1) pe_int (fun _ _=>rfl)) (pa_cons (pe_op op_add (pe_ix ix_tup (pv 1) pe_int (fun _ _=>rfl)) (pv 2)) pa_nil))))) pss_nil)
   (pss_cons (ps_set (i:=3) sc_l_behind.nd rfl (Or.inl rfl) (pe_op op_add (pe_ix ix_tup (pv 1) pe_int (fun _ _=>rfl)) pe_int))
   (pss_cons (ps_if (PW.pt (pw_and (pt_cmpR op_eq (pv 2) pe_int (nomark _)) (pw_and1 (pt_cmpR op_eq (pe_op op_mod (pe_op op_add (pe_ix ix_tup (pv 0) pe_int (fun _ _=>rfl)) (pv 3)) pe_int) pe_int (nomark _))))) (pss_one (ps_set (i:=3) sc_l_behind.nd rfl (Or.inl rfl) (pe_op op_add (pv 3) pe_int))) pss_nil)
   (pss_one (ps_ret (pe_tup (pa_cons (pv 3) (pa_cons pe_int pa_nil))))))))),?_⟩
 rw [← law_behind l0 l4 hri] at q
 refine ⟨_,rfl,rfl,_,rfl,?_⟩
 refine ite2 (fun c0=>?_) (fun c0=>?_)
 ·refine ⟨_,rfl,q _ _ (Same.refl _) ?_⟩
  rw [if_pos (int_eq.mp c0)]
  exact hx
 have n0:=int_ne.mp c0
 rw [if_neg n0] at q
 refine ⟨_,rfl,_,_,rfl,rfl,_,rfl,?_⟩
 by_cases k1:l < 3∧x.2+l < h
 ·refine andG (fun c=>absurd (decide_eq_true k1.1) c) (fun _=>?_)
  refine ⟨_,rfl,_,_,_,_,rfl,rfl,hx,rfl,_,rfl,_,_,rfl,rfl,_,rfl,_,_,_,_,rfl,rfl,hf,rfl,_,_,rfl,rfl,_,rfl,?_⟩
  rw [decide_eq_true k1.2]
  refine iteT ?_
  refine ⟨_,rfl,_,_,_,_,rfl,rfl,hx,rfl,_,rfl,_,_,_,_,rfl,rfl,hx,rfl,_,rfl,_,_,rfl,rfl,le2,fun p1 hp1=>q _ _ (same_new hp1 _) ?_⟩
  rw [if_pos k1]
  exact SqT.of upd_same
 refine andN ?_ (fun ca hb=>?_)
 ·rw [if_neg k1] at q
  refine ⟨_,rfl,_,_,_,_,rfl,rfl,hx,rfl,_,_,rfl,rfl,?_⟩
  dsimp only [gName]
  refine cut_seq (fun σ' H'=>H' = H∧∃ p:Int,σ' = [some (.ref fa),some (.ref a),some (.int l),some (.int p)]∧(if l=4∧(f+(x.1+1)) % 2=0 then ((x.1+1+1,0) : Int × Int) else (x.1+1,0))=(p,0)) ?_ (fun key=>?_)
  ·rintro σ' H' ⟨rfl,p,rfl,e⟩
   refine ⟨_,rfl,le2,fun p1 hp1=>q _ _ (same_new hp1 _) ?_⟩
   rw [e]
   exact SqT.of upd_same
  ·refine ⟨_,rfl,rfl,_,rfl,?_⟩
   by_cases k2:l=4∧(f+(x.1+1)) % 2=0
   ·refine andG (fun c=>absurd (int_eq.mpr k2.1) c) (fun _=>?_)
    refine ⟨_,rfl,_,_,_,_,rfl,rfl,hf,rfl,_,rfl,_,_,rfl,rfl,_,_,rfl,rfl,(by (first | decide | (show (0:Int) < _; first | decide | omega))),rfl,_,rfl,?_⟩
    refine ite2 (fun _=>?_) (fun c=>absurd (int_eq.mpr k2.2) c)
    refine ⟨_,rfl,_,_,rfl,rfl,key _ _ ⟨rfl,x.1+1+1,rfl,by rw [if_pos k2]⟩⟩
   ·refine andN (key _ _ ⟨rfl,x.1+1,rfl,by rw [if_neg k2]⟩) (fun c hb=>?_)
    refine ⟨_,rfl,_,_,_,_,rfl,rfl,hf,rfl,_,rfl,_,_,rfl,rfl,_,_,rfl,rfl,(by (first | decide | (show (0:Int) < _; first | decide | omega))),rfl,_,rfl,?_⟩
    exact ite2 (fun c2=>absurd ⟨int_eq.mp c,int_eq.mp c2⟩ k2) (fun _=>hb)
 ·refine ⟨_,rfl,_,_,_,_,rfl,rfl,hx,rfl,_,rfl,_,_,rfl,rfl,_,rfl,_,_,_,_,rfl,rfl,hf,rfl,_,_,rfl,rfl,_,rfl,?_⟩
  exact ite2 (fun c=>absurd ⟨of_decide_eq_true ca,of_decide_eq_true c⟩ k1) (fun _=>hb)
def sp_l_from (K:PySem.W.Frag) : Sp:=fun vs H Q _=>∃ (fa a:Addr) (w h f m l:Int) (x:Int × Int),vs=[.ref fa,.ref a,.int l]∧SqT K H fa (fm w h f m)∧SqT K H a (pl x)∧∀ q H',Same H H'→SqT K H' q (pl (firstFrom f x l))→Q (.ref q) H'
theorem sc_l_from:FnScope ["form","spot","lead"] ["form","spot","lead"] (defScope s_l_from):=⟨rfl,rfl,rfl,by decide +kernel,rfl,by decide +kernel,by decide +kernel⟩
theorem ok_l_from (T:Txt P w K mg a) : FnOk P w K mg base CX0 1 a.f_l_from a.fd_l_from ["form","spot","lead"] (sp_l_from K):=by
 refine T.d_l_from.fn.ok sc_l_from (fun vs H Q E h=>?_) (fun cdv A outer s H vs Q E hr h=>?_)
 ·obtain ⟨fa,a,w,h,f,m,k,x,rfl,_⟩:=h
  rfl
 obtain ⟨fa,a,w,h,f,m,l,x,rfl,hf,hx,q⟩:=h
 have hu:=Nat.lt_of_succ_lt (hu_of hr)
 refine ⟨_,(pss_cons (ps_if (PW.pt (pw_and (pt_cmpR op_eq (pv 2) pe_int (nomark _)) (pw_and1 (pt_cmpR op_eq (pe_op op_mod (pe_op op_add (pe_ix ix_tup (pv 0) pe_int (fun _ _=>rfl)) (pe_ix ix_tup (pv 1) pe_int (fun _ _=>rfl))) pe_int) pe_int (nomark _))))) (pss_one (ps_ret (pe_tup (pa_cons (pe_op op_add (pe_ix ix_tup (pv 1) pe_int (fun _ _=>rfl)) pe_int) (pa_cons pe_int pa_nil))))) pss_nil)
   (pss_one (ps_ret (pv 1)))),?_⟩
 refine ⟨_,rfl,rfl,_,rfl,?_⟩
 refine andG (fun c=>?_) (fun c=>?_)
 ·refine ⟨_,rfl,q _ _ (Same.refl _) ?_⟩
  rw [firstFrom,if_neg (fun z=>c (int_eq.mpr z.1))]
  exact hx
 ·refine ⟨_,rfl,_,_,_,_,rfl,rfl,hf,rfl,_,rfl,_,_,_,_,rfl,rfl,hx,rfl,_,_,rfl,rfl,_,_,rfl,rfl,(by (first | decide | (show (0:Int) < _; first | decide | omega))),rfl,_,rfl,?_⟩
  refine ite2 (fun c2=>?_) (fun c2=>?_)
  ·refine ⟨_,rfl,_,_,_,_,rfl,rfl,hx,rfl,_,_,rfl,rfl,le2,fun p1 hp1=>q _ _ (same_new hp1 _) ?_⟩
   rw [firstFrom,if_pos ⟨int_eq.mp c,int_eq.mp c2⟩]
   exact SqT.of upd_same
  ·refine ⟨_,rfl,q _ _ (Same.refl _) ?_⟩
   rw [firstFrom,if_neg (fun z=>c2 (int_eq.mpr z.2))]
   exact hx
def sp_l_spots (K:PySem.W.Frag) : Sp:=fun vs H Q _=>∃ (xa:Addr) (bs:List Addr) (h f:Int),vs=[.ref xa,.int h,.int f]∧SqL K H xa (bs.map V.ref)∧StsA K H bs∧1≤h∧bs.length≤59∧(99999 < f→bs.length≤24)∧∀ q la lb as xs ls H',Same H H'→SqT K H' q [.ref la,.ref lb]→SqL K H' la (as.map V.ref)→PlsA K H' as xs→SqL K H' lb (ls.map V.int)→xs.length=bs.length→SpotsOk h f xs ls→(∀ x ∈ xs,x.1≤55)→Q (.ref q) H'
theorem sc_l_spots:FnScope ["xss","high","first","form","spots","leads","spot","xs","lead"] ["xss","high","first"] (defScope s_l_spots):=⟨rfl,rfl,rfl,by decide +kernel,rfl,by decide +kernel,by decide +kernel⟩
theorem ok_l_spots (T:Txt P w K mg a) : FnOk P w K mg base CX0 2 a.f_l_spots a.fd_l_spots ["xss","high","first"] (sp_l_spots K):=by
 have g_l_behind:=ok_l_behind (P:=P) (w:=w) (base:=base) T
 have d_l_behind:=T.d_l_behind
 have g_l_from:=ok_l_from (P:=P) (w:=w) (base:=base) T
 have d_l_from:=T.d_l_from
 have z_int:=T.z_int
 have z_len:=T.z_len
 have z_max:=T.z_max
 refine T.d_l_spots.fn.ok sc_l_spots (fun vs H Q E h=>?_) (fun cdv A outer s H vs Q E hr h=>?_)
 ·obtain ⟨xa,bs,h,f,rfl,_⟩:=h
  rfl
 obtain ⟨xa,bs,h,f,rfl,hx,hst,h1,n59,n24,q⟩:=h
 have hu:=Nat.lt_of_succ_lt (hu_of hr)
 refine ⟨_,(@pss_cons _ _ _ _ _ (ps_set (i:=3) sc_l_spots.nd rfl (Or.inl rfl) (pe_tup (pa_cons pe_int (pa_cons (pv 1) (pa_cons (pv 2) (pa_cons pe_int pa_nil))))))
   (@pss_cons _ _ _ _ _ (ps_set (i:=4) sc_l_spots.nd rfl (Or.inl rfl) (pe_lst pa_nil))
   (@pss_cons _ _ _ _ _ (ps_set (i:=5) sc_l_spots.nd rfl (Or.inl rfl) (pe_lst pa_nil))
   (@pss_cons _ _ _ _ _ (ps_set (i:=6) sc_l_spots.nd rfl (Or.inl rfl) (pe_tup (pa_cons pe_int (pa_cons pe_int pa_nil))))
   (@pss_cons _ _ _ _ _ (ps_for PassesOwn.never rfl (pi_list (pv 0)) (pg_name (i:=7) sc_l_spots.nd rfl (Or.inl rfl)) (@pss_cons _ _ _ _ _ (@ps_pick _ 8 _ _ _ _ _ _ _ _ _ sc_l_spots.nd rfl (Or.inl rfl) (CL.int (CL.int (CL.int (CL.int (CL.int (CL.int (CL.int (CL.int (CL.int (CL.int CL.nil)))))))))) (pe_op op_mod (pe_ix ix_list (pv 7) pe_int (fun _ _=>rfl)) pe_int) (fun _ _=>rfl) (by first | exact .inl rfl | exact .inr rfl))
   (@pss_cons _ _ _ _ _ (ps_if (pt_cmpR op_gt (pe_ix ix_tup (pv 6) pe_int (fun _ _=>rfl)) pe_int (nomark _)) (pss_one (ps_set (i:=8) sc_l_spots.nd rfl (Or.inl rfl) pe_int)) pss_nil)
   (@pss_cons _ _ _ _ _ (ps_if (pt_cmpR op_eq (pe_op op_mod (pe_callB call_len_seq rfl z_len PySem.boot_len (pa_cons (pv 5) pa_nil)) (pe_ix ix_list (pe_lst (pa_cons pe_int (pa_cons pe_int pa_nil))) (pe_callTy call_int1 rfl z_int PyProof.Rows.boot_int (pa_cons (pe_cmpR op_gt (pv 2) pe_int (nomark _)) pa_nil)) (fun _ _=>rfl))) pe_int (nomark _)) (pss_one (ps_set (i:=8) sc_l_spots.nd rfl (Or.inl rfl) (pe_callB (call_max2 rfl) rfl z_max PyProof.Rows.boot_max (pa_cons (pv 8) (pa_cons pe_int pa_nil))))) pss_nil)
   (@pss_cons _ _ _ _ _ (ps_if (pt_cmpR (op_neNil hu) (pv 5) (pe_lst pa_nil) (nomark _)) (pss_one (ps_set (i:=6) sc_l_spots.nd rfl (Or.inl rfl) (pe_callD d_l_behind g_l_behind (hr.mono (by decide)) rfl (pa_cons (pv 3) (pa_cons (pv 6) (pa_cons (pv 8) pa_nil)))))) pss_nil)
   (@pss_cons _ _ _ _ _ (ps_set (i:=6) sc_l_spots.nd rfl (Or.inl rfl) (pe_callD d_l_from g_l_from (hr.mono (by decide)) rfl (pa_cons (pv 3) (pa_cons (pv 6) (pa_cons (pv 8) pa_nil)))))
   (@pss_cons _ _ _ _ _ (ps_if (PW.pt (pw_and (pt_cmpR op_eq (pe_op op_mod (pe_ix ix_list (pv 7) pe_int (fun _ _=>rfl)) pe_int) pe_int (nomark _)) (pw_and1 (pt_cmpR op_lt (pe_ix ix_tup (pv 6) pe_int (fun _ _=>rfl)) pe_int (nomark _))))) (pss_one (ps_set (i:=6) sc_l_spots.nd rfl (Or.inl rfl) (pe_callD d_l_from g_l_from (hr.mono (by decide)) rfl (pa_cons (pv 3) (pa_cons (pe_callD d_l_behind g_l_behind (hr.mono (by decide)) rfl (pa_cons (pv 3) (pa_cons (pv 6) (pa_cons (pe_op op_add pe_int (pe_op op_mod (pe_op op_fdiv (pe_ix ix_list (pv 7) pe_int (fun _ _=>rfl)) pe_int) pe_int)) pa_nil)))) (pa_cons (pv 8) pa_nil)))))) pss_nil)
   (@pss_cons _ _ _ _ _ (ps_if (PW.pt (pw_and (pt_cmpR op_eq (pe_op op_mod (pe_ix ix_list (pv 7) pe_int (fun _ _=>rfl)) pe_int) pe_int (nomark _)) (pw_and1 (pt_cmpR op_lt (pe_ix ix_tup (pv 6) pe_int (fun _ _=>rfl)) pe_int (nomark _))))) (pss_one (ps_set (i:=6) sc_l_spots.nd rfl (Or.inl rfl) (pe_tup (pa_cons (pe_op op_add (pe_ix ix_tup (pv 6) pe_int (fun _ _=>rfl)) pe_int) (pa_cons (pe_ix ix_tup (pv 6) pe_int (fun _ _=>rfl)) pa_nil))))) pss_nil)
   (@pss_cons _ _ _ _ _ (ps_expr (pe_bm PySem.F.plainAttrs_list PySem.F.slot_list_append PySem.F.type_list_append mt_append (pv 4) (pa_cons (pv 6) pa_nil)))
   (pss_one (ps_expr (pe_bm PySem.F.plainAttrs_list PySem.F.slot_list_append PySem.F.type_list_append mt_append (pv 5) (pa_cons (pv 8) pa_nil)))))))))))))
   (pss_one (ps_ret (pe_tup (pa_cons (pv 4) (pa_cons (pv 5) pa_nil)))))))))),?_⟩
 refine ⟨_,rfl,_,rfl,le4,fun fa hfa=>?_⟩
 have s1:=same_new hfa (.tup [V.int 1,V.int h,V.int f,V.int 60])
 have hf1:SqT K (upd H fa (.tup [V.int 1,V.int h,V.int f,V.int 60])) fa (fm 1 h f 60):=SqT.of upd_same
 generalize upd H fa (.tup [V.int 1,V.int h,V.int f,V.int 60])=H1 at s1 hf1 ⊢
 dsimp only [gName]
 refine ⟨Nat.zero_le _,fun la hla=>?_⟩
 refine ⟨Nat.zero_le _,fun lb hlb=>?_⟩
 refine ⟨le2,fun p0 hp0=>?_⟩
 have s2:=same_new hla (.lst [])
 have s3:=same_new hlb (.lst [])
 have s4:=same_new hp0 (.tup [V.int 0,V.int 0])
 have nlb:H1 lb=none:=s2.free hlb
 have nab:la≠lb:=fun e=>by rw [← e,upd_same] at hlb; cases hlb
 have t4:=s2.trans (s3.trans s4)
 have hla4:=(s3.trans s4) _ _ (upd_same (H:=H1) (a:=la) (o:=.lst []))
 have hlb4:=s4 _ _ (upd_same (H:=upd H1 la (.lst [])) (a:=lb) (o:=.lst []))
 have hp4:SqT K (upd (upd (upd H1 la (.lst [])) lb (.lst [])) p0 (.tup [V.int 0,V.int 0])) p0 (pl (0,0)):=SqT.of upd_same
 generalize upd (upd (upd H1 la (.lst [])) lb (.lst [])) p0 (.tup [V.int 0,V.int 0])=H4 at t4 hla4 hlb4 hp4 ⊢
 clear s2 s3 s4
 dsimp only [gName]
 have hx1:=s1.seq hx
 have hst1:=hst.same s1
 refine ⟨_,rfl,_,rfl,⟨_,t4.seq hx1⟩,for_list (K:=K) (a:=xa) (xs:=bs.map V.ref) (fun i σ H2=>Same H1 H2∧∃ (as:List Addr) (xs:List (Int × Int)) (ls:List Int) (pa:Addr) (cur:Int × Int) (v1 v2:Option V),σ=[some (.ref xa),some (.int h),some (.int f),some (.ref fa),some (.ref la),some (.ref lb),some (.ref pa),v1,v2]∧H2 la=some (.lst (as.map V.ref))∧PlsA K H2 as xs∧H2 lb=some (.lst (ls.map V.int))∧SqT K H2 pa (pl cur)∧xs.length=i∧SpotsOk h f xs ls∧RowIn h cur∧(i=0→cur=(0,0))∧(0 < i→cur=xAt xs (i - 1))∧cur.1≤pgM f i∧(∀ x ∈ xs,x.1≤pgM f i))
  ⟨t4,[],[],[],p0,(0,0),none,none,rfl,hla4,PlsA.nil,hlb4,hp4,rfl,SpotsOk.nil,⟨Int.le_refl _,Int.le_refl _,(by show (0:Int) < h; omega)⟩,fun _=>rfl,fun z=>absurd z (Nat.lt_irrefl _),(by have:=pgM_ge (f:=f) (i:=0); show (0:Int)≤_; omega),fun x hx=>by cases hx⟩ (fun i σ H2 _ h2=>h2.1.seq hx1) ?_ ?_⟩
 ·rintro i y σ H2 hi ⟨s2,as,xs,ls,pa,cur,v1,v2,rfl,hla2,px2,hlb2,hpa2,xl,S,rc,ec0,ec,pc,pxs⟩
  obtain ⟨b,rfl,eb⟩:=ref_at hi
  have hib:i < bs.length:=(List.getElem?_eq_some_iff.mp eb).1
  obtain ⟨ns,hns,ok⟩:=hst1 b (List.mem_of_getElem? eb)
  have a0:=ok.at (k:=0) (by (first | decide | (show (0:Int) < _; first | decide | omega)))
  have a1:=ok.at (k:=1) (by (first | decide | (show (0:Int) < _; first | decide | omega)))
  generalize ns.getD 0 0=n0 at a0
  generalize ns.getD 1 0=n1 at a1
  dsimp only [gName]
  refine ⟨small (by (first | decide | (show (0:Int) < _; first | decide | omega))),fun p5 hp5=>?_⟩
  obtain ⟨le0,l00,l04,ele⟩:=pick_lead10 n0
  have s5:=same_new hp5 (.lst [V.int 0,V.int 0,V.int 1,V.int 0,V.int 2,V.int 0,V.int 3,V.int 0,V.int 4,V.int 1])
  refine ⟨_,rfl,_,_,_,_,rfl,rfl,s5.seq (s2.seq hns),a0,_,_,rfl,rfl,(by (first | decide | (show (0:Int) < _; first | decide | omega))),_,_,_,_,rfl,rfl,SqL.of upd_same,ele,?_⟩
  generalize upd H2 p5 (.lst [V.int 0,V.int 0,V.int 1,V.int 0,V.int 2,V.int 0,V.int 3,V.int 0,V.int 4,V.int 1])=H3 at s5 ⊢
  dsimp only [gName]
  refine cut_seq (fun σ' H'=>H' = H3∧∃ le:Int,σ' = [some (.ref xa),some (.int h),some (.int f),some (.ref fa),some (.ref la),some (.ref lb),some (.ref pa),some (.ref b),some (.int le)]∧0≤le∧le≤4∧(45 < cur.1→le=0)) ?_ (fun key=>?_)
  rotate_left
  ·refine ⟨_,rfl,_,_,_,_,rfl,rfl,s5.tup hpa2,rfl,_,_,rfl,rfl,_,rfl,?_⟩
   refine ite2 (fun c=>?_) (fun c=>?_)
   ·exact key _ _ ⟨rfl,0,rfl,by decide,by decide,fun _=>rfl⟩
   ·exact key _ _ ⟨rfl,le0,rfl,l00,l04,fun z=>absurd (decide_eq_true z) c⟩
  rintro σ' H' ⟨rfl,le1,rfl,l10,l14,l1z⟩
  clear ele l00 l04 le0
  refine cut_seq (fun σ' H3=>Same H' H3∧∃ le:Int,σ' = [some (.ref xa),some (.int h),some (.int f),some (.ref fa),some (.ref la),some (.ref lb),some (.ref pa),some (.ref b),some (.int le)]∧0≤le∧le≤4∧(45 < cur.1→le=0∨(le=1∧pgM f i+1≤pgM f (i+1)))) ?_ (fun key=>?_)
  rotate_left
  ·refine ⟨_,rfl,_,_,rfl,.inl (SqL.of (s5 _ _ hlb2)),le2,fun p8 hp8=>?_⟩
   have s8:=same_new hp8 (.lst [V.int 20,V.int 3])
   have stv:∃ z:Int,0 < z∧z=(if 99999 < f then 3 else 20)∧atI [V.int 20,V.int 3] (if (decide (99999 < f))=true then 1 else 0)=some (V.int z):=by
    by_cases c:99999 < f
    ·exact ⟨3,by decide,by rw [if_pos c],by rw [if_pos (decide_eq_true c)]; rfl⟩
    ·exact ⟨20,by decide,by rw [if_neg c],by rw [if_neg (fun z=>c (of_decide_eq_true z))]; rfl⟩
   obtain ⟨st,st0,ste,sta⟩:=stv
   refine ⟨_,rfl,_,_,rfl,rfl,.inr ⟨_,rfl,_,_,_,_,rfl,rfl,SqL.of upd_same,sta,_,_,rfl,rfl,st0,rfl,_,rfl,?_⟩⟩
   refine ite2 (fun c=>?_) (fun c=>?_)
   ·have c':=int_eq.mp c
    rw [List.length_map,← S.len,xl,ste] at c'
    refine ⟨_,rfl,_,_,rfl,?_⟩
    dsimp only [gName]
    by_cases z:(1:Int) > le1
    ·rw [if_pos z]
     exact key _ _ ⟨s8,1,rfl,by decide,by decide,fun _=>.inr ⟨rfl,pgM_forced c'⟩⟩
    ·rw [if_neg z]
     exact key _ _ ⟨s8,le1,rfl,l10,l14,fun y=>.inl (l1z y)⟩
   ·exact key _ _ ⟨s8,le1,rfl,l10,l14,fun y=>.inl (l1z y)⟩
  rintro σ' H3 ⟨s6,le,rfl,l0,l4,lz⟩
  clear l10 l14 l1z le1
  have t3:=s5.trans s6
  have u3:=s2.trans t3
  have hla3:=t3 _ _ hla2
  have hlb3:=t3 _ _ hlb2
  refine cut_seq (fun σ' H4=>Same H3 H4∧∃ (pb:Addr) (y:Int × Int),σ' = [some (.ref xa),some (.int h),some (.int f),some (.ref fa),some (.ref la),some (.ref lb),some (.ref pb),some (.ref b),some (.int le)]∧SqT K H4 pb (pl y)∧RowIn h y∧((i=0∧y=cur)∨(0 < i∧y=behindI h f cur le))) ?_ (fun key=>?_)
  rotate_left
  ·refine ⟨_,rfl,Nat.zero_le _,fun p7 hp7=>?_⟩
   have s7:=same_new hp7 (.lst [])
   refine ⟨_,_,_,rfl,rfl,SqL.of (s7 _ _ hlb3),SqL.of upd_same,_,rfl,?_⟩
   by_cases c:i=0
   ·have el:ls=[]:=by
     have:=S.len
     exact List.length_eq_zero_iff.mp (by omega)
    rw [el]
    refine iteF ?_
    exact key _ _ ⟨s7,pa,cur,rfl,(t3.trans s7).tup hpa2,rc,.inl ⟨c,rfl⟩⟩
   ·have el:(!(ls.map V.int).isEmpty)=true:=by
     cases ls with
     | nil=>exact absurd (xl.symm.trans S.len) c
     | cons x r=>rfl
    rw [el]
    refine iteT ?_
    refine ⟨_,rfl,_,rfl,_,rfl,fa,pa,1,h,f,60,le,cur,rfl,(u3.trans s7).tup hf1,(t3.trans s7).tup hpa2,l0,l4,rc,fun q1 H5 s8 hq1=>?_⟩
    exact key _ _ ⟨s7.trans s8,q1,_,rfl,hq1,behind_in rc l0 l4,.inr ⟨by omega,rfl⟩⟩
  rintro σ' H4 ⟨s7,pb,y,rfl,hy,ry,ey⟩
  have u4:=u3.trans s7
  refine ⟨_,rfl,_,rfl,_,rfl,fa,pb,1,h,f,60,le,y,rfl,u4.tup hf1,hy,fun q2 H5 s8 hq2=>?_⟩
  dsimp only [gName]
  have r2:=first_in (f:=f) (l:=le) ry
  have f2:firstFrom f (firstFrom f y le) le=firstFrom f y le:=first_first l0
  have bnd:sooner (firstFrom f y le) (firstFrom f y le)=false∧(firstFrom f y le).1≤pgM f (i+1)∧(0 < i→sooner (firstFrom f y le) (behindI h f cur le)=false):=by
   refine ⟨sooner_refl _,?_,?_⟩
   ·have g47:=pgM_ge (f:=f) (i:=i+1)
    have gup:=pgM_up (f:=f) (i:=i)
    rcases ey with ⟨i0,rfl⟩ | ⟨i0,rfl⟩
    ·have:=first_pg (f:=f) (l:=le) (x:=y)
     have e0:=congrArg Prod.fst (ec0 i0)
     simp only at e0
     omega
    ·rw [first_behind l0 l4]
     by_cases c:45 < cur.1
     ·rcases lz c with z | ⟨z,zf⟩
      ·subst z
       have:behindI h f cur 0=cur:=by unfold behindI; rw [if_pos rfl]
       rw [this]
       omega
      ·subst z
       have:=behind_pg1 (h:=h) (f:=f) (l:=1) (x:=cur) (by decide) (by decide)
       omega
     ·have:=behind_pg (h:=h) (f:=f) (l:=le) (x:=cur) l0 l4
      omega
   ·intro i0
    rcases ey with ⟨i1,_⟩ | ⟨_,rfl⟩
    ·omega
    ·exact first_self ry
  generalize firstFrom f y le=y2 at hq2 r2 f2 bnd
  obtain ⟨_,b2,b3⟩:=bnd
  have t5:=s7.trans s8
  refine cut_seq (fun σ' H6=>Same H5 H6∧∃ (pc:Addr) (z:Int × Int),σ' = [some (.ref xa),some (.int h),some (.int f),some (.ref fa),some (.ref la),some (.ref lb),some (.ref pc),some (.ref b),some (.int le)]∧SqT K H6 pc (pl z)∧RowIn h z∧firstFrom f z le=z∧sooner z y2=false∧z.1≤pgM f (i+1)) ?_ (fun key=>?_)
  rotate_left
  ·have stay:=key _ _ ⟨Same.refl H5,q2,y2,rfl,hq2,r2,f2,sooner_refl _,b2⟩
   have u5:=u4.trans s8
   refine ⟨_,rfl,_,_,_,_,rfl,rfl,u5.seq hns,a1,_,_,rfl,rfl,(by (first | decide | (show (0:Int) < _; first | decide | omega))),rfl,_,rfl,?_⟩
   by_cases c1:n1 % 5=0
   ·refine andG (fun z=>absurd (int_eq.mpr c1) z) (fun _=>?_)
    refine ⟨_,rfl,_,_,_,_,rfl,rfl,hq2,rfl,_,_,rfl,rfl,_,rfl,?_⟩
    refine ite2 (fun c=>?_) (fun c=>stay)
    have c:y2.1 < 45:=of_decide_eq_true c
    refine ⟨_,rfl,_,rfl,_,rfl,_,rfl,_,_,_,_,rfl,rfl,u5.seq hns,a1,_,_,rfl,rfl,⟨by decide,by decide⟩,_,_,rfl,rfl,(by (first | decide | (show (0:Int) < _; first | decide | omega))),_,_,rfl,rfl,fa,q2,1,h,f,60,1+n1 / 5 % 2,y2,rfl,u5.tup hf1,hq2,(by omega),(by omega),r2,fun q3 H6 s9 hq3=>?_⟩
    have r3:=behind_in (f:=f) (l:=1+n1 / 5 % 2) r2 (by omega) (by omega)
    refine ⟨_,rfl,fa,q3,1,h,f,60,le,_,rfl,(u5.trans s9).tup hf1,hq3,fun q4 H7 s10 hq4=>?_⟩
    refine key _ _ ⟨s9.trans s10,q4,_,rfl,hq4,first_in r3,first_first l0,le_tr (behind_self r2 (by omega) (by omega)) (first_self r3),?_⟩
    have p1:=behind_pg1 (h:=h) (f:=f) (l:=1+n1 / 5 % 2) (x:=y2) (by omega) (by omega)
    have p2:=first_pg (f:=f) (l:=le) (x:=behindI h f y2 (1+n1 / 5 % 2))
    have p3:=pgM_ge (f:=f) (i:=i+1)
    omega
   ·exact andG (fun _=>stay) (fun z=>absurd (int_eq.mp z) c1)
  rintro σ' H6 ⟨s9,pc,z,rfl,hz,rz,fz,sz,bz⟩
  have t6:=t5.trans s9
  refine cut_seq (fun σ' H7=>Same H6 H7∧∃ (pd:Addr) (z2:Int × Int),σ' = [some (.ref xa),some (.int h),some (.int f),some (.ref fa),some (.ref la),some (.ref lb),some (.ref pd),some (.ref b),some (.int le)]∧SqT K H7 pd (pl z2)∧RowIn h z2∧firstFrom f z2 le=z2∧sooner z2 y2=false∧z2.1≤pgM f (i+1)) ?_ (fun key=>?_)
  rotate_left
  ·have stay:=key _ _ ⟨Same.refl H6,pc,z,rfl,hz,rz,fz,sz,bz⟩
   have u6:=u3.trans t6
   refine ⟨_,rfl,_,_,_,_,rfl,rfl,u6.seq hns,a1,_,_,rfl,rfl,(by (first | decide | (show (0:Int) < _; first | decide | omega))),rfl,_,rfl,?_⟩
   by_cases c1:n1 % 11=1
   ·refine andG (fun z=>absurd (int_eq.mpr c1) z) (fun _=>?_)
    refine ⟨_,rfl,_,_,_,_,rfl,rfl,hz,rfl,_,_,rfl,rfl,_,rfl,?_⟩
    refine ite2 (fun c=>?_) (fun c=>stay)
    have c:z.1 < 45:=of_decide_eq_true c
    refine ⟨_,rfl,_,_,_,_,rfl,rfl,hz,rfl,_,_,rfl,rfl,_,rfl,_,_,_,_,rfl,rfl,hz,rfl,le2,fun p6 hp6=>?_⟩
    have p3:=pgM_ge (f:=f) (i:=i+1)
    refine key _ _ ⟨same_new hp6 _,p6,(z.1+2,z.2),rfl,SqT.of upd_same,⟨by have:=rz.p1; show 0≤z.1+2; omega,rz.r1,rz.r2⟩,first_two fz,?_,by show z.1+2≤_; omega⟩
    refine le_tr sz ?_
    rw [not_sooner]
    simp only
    omega
   ·exact andG (fun _=>stay) (fun z=>absurd (int_eq.mp z) c1)
  rintro σ' H7 ⟨s10,pd,z2,rfl,hz2,rz2,fz2,sz2,bz2⟩
  have t7:=t6.trans s10
  have hla7:=t7 _ _ hla3
  have hlb7:=t7 _ _ hlb3
  refine ⟨_,rfl,.inl ⟨rfl,_,SqL.of hla7⟩,_,rfl,_,_,_,rfl,rfl,hla7,?_,?_⟩
  ·rw [List.length_map,px2.1,xl]
   exact Nat.lt_of_lt_of_le (show i < 1000 by omega) (small (Nat.le_refl _))
  have hlb8:(upd H7 la (.lst (as.map V.ref++[V.ref pd]))) lb=some (.lst (ls.map V.int)):=by rw [upd_ne (Ne.symm nab)]; exact hlb7
  refine ⟨_,rfl,.inl ⟨rfl,_,SqL.of hlb8⟩,_,rfl,_,_,_,rfl,rfl,hlb8,?_,?_⟩
  ·rw [List.length_map,← S.len,xl]
   exact Nat.lt_of_lt_of_le (show i < 1000 by omega) (small (Nat.le_refl _))
  have u7:=u3.trans t7
  refine ⟨(u7.put hla).put nlb,as++[pd],xs++[z2],ls++[le],pd,z2,_,_,rfl,?_,?_,?_,?_,?_,S.snoc l0 l4 rz2 fz2 (fun x0=>?_),rz2,fun e=>absurd e (Nat.succ_ne_zero _),fun _=>?_,bz2,fun x hx=>?_⟩
  ·rw [upd_ne nab,upd_same,refs_snoc]
  ·exact ((px2.same (t3.trans t7)).snoc hz2).lst (zs:=as.map V.ref++[V.ref pd]) hla7 |>.lst hlb8
  ·rw [upd_same,map_snoc]
  ·exact SqT.lst hlb8 (SqT.lst hla7 hz2)
  ·simp [xl]
  ·have:=b3 (by omega)
   rw [← xl,← ec (by omega)] at *
   exact le_tr this sz2
  ·rw [Nat.add_sub_cancel]
   show z2=(xs++[z2]).getD i (0,0)
   rw [getD_snoc,if_neg (by omega),if_pos xl.symm]
  ·rcases List.mem_append.mp hx with hx | hx
   ·exact Int.le_trans (pxs x hx) pgM_up
   ·rw [List.mem_singleton.mp hx]; exact bz2
 ·rintro σ H2 ⟨s2,as,xs,ls,pa,cur,v1,v2,rfl,hla2,px2,hlb2,hpa2,xl,S,rc,ec0,ec,pc,pxs⟩
  rw [List.length_map] at xl pxs
  refine ⟨_,rfl,_,rfl,le2,fun p9 hp9=>?_⟩
  have s9:=same_new hp9 (.tup [V.ref la,V.ref lb])
  exact q p9 la lb as xs ls _ (s1.trans (s2.trans s9)) (SqT.of upd_same) (SqL.of (s9 _ _ hla2)) (px2.same s9) (SqL.of (s9 _ _ hlb2)) xl S (fun x hx=>Int.le_trans (pxs x hx) (pgM_le n59 n24))
def sp_l_said (K:PySem.W.Frag) : Sp:=fun vs H Q _=>∃ (ba sa la:Addr) (F:Frm) (ds:List Wd) (xs:List (Int × Int)) (s:Say),vs=[.ref ba,.ref sa,.ref la]∧BkAt K H ba F.w F.h F.f F.m ds∧SqT K H sa (sayV s)∧LwAt K H la xs∧FormOk F.w F.h F.f F.m∧SayOk xs.length s∧PlsOk F.h xs∧Q (.str (tx (saidL F.h F.f xs s))) H
theorem sc_l_said:FnScope ["book","saying","spots","form","spot"] ["book","saying","spots"] (defScope s_l_said):=⟨rfl,rfl,rfl,by decide +kernel,rfl,by decide +kernel,by decide +kernel⟩
theorem ok_l_said (T:Txt P w K mg a) : FnOk P w K mg base CX0 1 a.f_l_said a.fd_l_said ["book","saying","spots"] (sp_l_said K):=by
 have z_str:=T.z_str
 refine T.d_l_said.fn.ok sc_l_said (fun vs H Q E h=>?_) (fun cdv A outer s H vs Q E hr h=>?_)
 ·obtain ⟨ba,sa,la,F,ds,xs,s,rfl,_⟩:=h
  rfl
 obtain ⟨ba,sa,la,F,ds,xs,s,rfl,hbk,hs,hlw,fo,so,po,q⟩:=h
 have hu:=Nat.lt_of_succ_lt (hu_of hr)
 refine ⟨_,(pss_cons (ps_set (i:=3) sc_l_said.nd rfl (Or.inl rfl) (pe_ix ix_tup (pv 0) pe_int (fun _ _=>rfl)))
   (pss_cons (ps_if (pt_cmpR op_eq (pe_ix ix_tup (pv 1) pe_int (fun _ _=>rfl)) pe_str (nomark _)) (pss_one (ps_ret (pe_ix ix_tup (pv 1) pe_int (fun _ _=>rfl)))) pss_nil)
   (pss_cons (ps_set (i:=4) sc_l_said.nd rfl (Or.inl rfl) (pe_ix ix_list (pv 2) (pe_ix ix_tup (pv 1) pe_int (fun _ _=>rfl)) (fun _ _=>rfl)))
   (pss_cons (ps_if (pt_cmpR op_eq (pe_ix ix_tup (pv 1) pe_int (fun _ _=>rfl)) pe_str (nomark _)) (pss_one (ps_ret (pe_callTy call_str_int rfl z_str PyProof.Rows.boot_str (pa_cons (pe_op op_add (pe_ix ix_tup (pv 3) pe_int (fun _ _=>rfl)) (pe_ix ix_tup (pv 4) pe_int (fun _ _=>rfl))) pa_nil)))) pss_nil)
   (pss_one (ps_ret (pe_callTy call_str_int rfl z_str PyProof.Rows.boot_str (pa_cons (pe_op op_add (pe_op op_add (pe_op op_mul (pe_ix ix_tup (pv 4) pe_int (fun _ _=>rfl)) (pe_ix ix_tup (pv 3) pe_int (fun _ _=>rfl))) (pe_ix ix_tup (pv 4) pe_int (fun _ _=>rfl))) pe_int) pa_nil)))))))),?_⟩
 obtain ⟨fa,wa,was,hb,hf,hw,hws⟩:=hbk
 obtain ⟨las,hla,hls⟩:=hlw
 refine ⟨_,rfl,_,_,_,_,rfl,rfl,hb,rfl,?_⟩
 cases s with
 | text l =>
  refine ⟨_,rfl,_,_,_,_,rfl,rfl,hs,rfl,rfl,_,rfl,?_⟩
  rw [decide_eq_true rfl]
  refine iteT ?_
  exact ⟨_,rfl,_,_,_,_,rfl,rfl,hs,rfl,q⟩
 | page k =>
  obtain ⟨a1,e1,h1⟩:=hls.get so
  obtain ⟨i,b⟩:=po.get so
  obtain ⟨n,en,hn⟩:=page_num fo.f1 fo.f2 i.p1 b
  refine ⟨_,rfl,_,_,_,_,rfl,rfl,hs,rfl,rfl,_,rfl,?_⟩
  rw [ne_page]
  refine iteF ?_
  refine ⟨_,rfl,_,rfl,_,_,_,_,rfl,rfl,hs,rfl,_,_,_,_,rfl,rfl,hla,e1,?_⟩
  refine ⟨_,rfl,_,_,_,_,rfl,rfl,hs,rfl,rfl,_,rfl,?_⟩
  rw [decide_eq_true rfl]
  refine iteT ?_
  refine ⟨_,rfl,_,_,_,_,rfl,rfl,hf,rfl,_,rfl,_,_,_,_,rfl,rfl,h1,rfl,_,_,rfl,rfl,_,rfl,(by rw [en]; exact log_small (lt_100 hn)),?_⟩
  simp only [saidL] at q
  rw [en] at q
  rw [en]
  exact Eq.mpr (congrArg (fun z=>Q (.str z) H) (str_figs n)) q
 | row k =>
  obtain ⟨a1,e1,h1⟩:=hls.get so
  obtain ⟨i,b⟩:=po.get so
  obtain ⟨n,en,hn⟩:=row_num fo.h1 fo.h2 i.p1 b i.r1 i.r2
  refine ⟨_,rfl,_,_,_,_,rfl,rfl,hs,rfl,rfl,_,rfl,?_⟩
  rw [ne_row]
  refine iteF ?_
  refine ⟨_,rfl,_,rfl,_,_,_,_,rfl,rfl,hs,rfl,_,_,_,_,rfl,rfl,hla,e1,?_⟩
  refine ⟨_,rfl,_,_,_,_,rfl,rfl,hs,rfl,rfl,_,rfl,?_⟩
  rw [ne_row_page]
  refine iteF ?_
  have h1':=fo.h1
  have h2':=fo.h2
  refine ⟨_,rfl,_,_,_,_,rfl,rfl,h1,rfl,_,rfl,_,_,_,_,rfl,rfl,hf,rfl,_,_,rfl,rfl,.inr ⟨by omega,by omega⟩,_,rfl,_,_,_,_,rfl,rfl,h1,rfl,_,_,rfl,rfl,_,_,rfl,rfl,_,rfl,(by rw [en]; exact log_small (lt_100 hn)),?_⟩
  simp only [saidL] at q
  rw [en] at q
  rw [en]
  exact Eq.mpr (congrArg (fun z=>Q (.str z) H) (str_figs n)) q
def sp_l_widest (K:PySem.W.Frag) : Sp:=fun vs H Q _=>∃ (ba la:Addr) (F:Frm) (ds:List Wd) (xs:List (Int × Int)),vs=[.ref ba,.ref la]∧BkAt K H ba F.w F.h F.f F.m ds∧LwAt K H la xs∧BkOk F ds xs∧∀ wst H',Same H H'→1≤wst→wst≤63 * (ds.length:Int)+1→(∀ a j,a < ds.length→j≤a→(∀ n,j≤n→n≤a→xAt xs n=xAt xs a)→together (wides F ds xs j a)≤wst)→(∀ a,a < ds.length→∀ s ∈ (dAt ds a).foot,((saidL F.h F.f xs s).length:Int)≤wst)→Q (.int wst) H'
theorem sc_l_widest:FnScope ["book","spots","width","widest","k"] ["book","spots"] (defScope s_l_widest):=⟨rfl,rfl,rfl,by decide +kernel,rfl,by decide +kernel,by decide +kernel⟩
theorem ok_l_widest (T:Txt P w K mg a) : FnOk P w K mg base CX0 2 a.f_l_widest a.fd_l_widest ["book","spots"] (sp_l_widest K):=by
 have g_l_said:=ok_l_said (P:=P) (w:=w) (base:=base) T
 have d_l_said:=T.d_l_said
 have z_len:=T.z_len
 have z_max:=T.z_max
 have z_range:=T.z_range
 refine T.d_l_widest.fn.ok sc_l_widest (fun vs H Q E h=>?_) (fun cdv A outer s H vs Q E hr h=>?_)
 ·obtain ⟨ba,la,F,ds,xs,rfl,_⟩:=h
  rfl
 obtain ⟨ba,la,F,ds,xs,rfl,hbk,hlw,B,q⟩:=h
 have hu:=Nat.lt_of_succ_lt (hu_of hr)
 refine ⟨_,(pss_cons (ps_set (i:=2) sc_l_widest.nd rfl (Or.inl rfl) pe_int)
   (pss_cons (ps_set (i:=3) sc_l_widest.nd rfl (Or.inl rfl) pe_int)
   (pss_cons (ps_for PassesOwn.never rfl (pi_range1 rfl z_range (pa_cons (pe_callB call_len_seq rfl z_len PySem.boot_len (pa_cons (pv 1) pa_nil)) pa_nil)) (pg_name (i:=4) sc_l_widest.nd rfl (Or.inl rfl)) (pss_cons (ps_if (PW.pt (pw_or (pt_cmpR op_eq (pv 4) pe_int (nomark _)) (pw_or1 (pt_cmpR (op_neT hu) (pe_ix ix_list (pv 1) (pv 4) (fun _ _=>rfl)) (pe_ix ix_list (pv 1) (pe_op op_sub (pv 4) pe_int) (fun _ _=>rfl)) (nomark _))))) (pss_one (ps_set (i:=2) sc_l_widest.nd rfl (Or.inl rfl) (pe_un un_neg pe_int))) pss_nil)
   (pss_cons (ps_set (i:=2) sc_l_widest.nd rfl (Or.inl rfl) (pe_op op_add (pe_op op_add (pv 2) pe_int) (pe_callB call_len_str rfl z_len PySem.boot_len (pa_cons (pe_callD d_l_said g_l_said (hr.mono (by decide)) rfl (pa_cons (pv 0) (pa_cons (pe_ix ix_tup (pe_ix ix_list (pe_ix ix_tup (pv 0) pe_int (fun _ _=>rfl)) (pv 4) (fun _ _=>rfl)) pe_int (fun _ _=>rfl)) (pa_cons (pv 1) pa_nil)))) pa_nil))))
   (pss_one (ps_set (i:=3) sc_l_widest.nd rfl (Or.inl rfl) (pe_callB (call_maxI rfl) rfl z_max PyProof.Rows.boot_max (pa_cons (pe_op op_cat (pe_lst (pa_cons (pv 3) (pa_cons (pv 2) pa_nil))) (pe_lc rfl (lcok (caps:=["book","spots"]) (js:=[0,1]) (cap:=⟨⟨rfl,.inl rfl,rfl,.inl rfl⟩,⟨⟨rfl,.inl rfl,rfl,.inl rfl⟩,trivial⟩⟩)) (pi_list (pe_ix ix_tup (pe_ix ix_list (pe_ix ix_tup (pv 0) pe_int (fun _ _=>rfl)) (pv 4) (fun _ _=>rfl)) pe_int (fun _ _=>rfl))) (fun _ _ _ _=>pts_nil) (fun _ _ _ _=>(pe_callB call_len_str rfl z_len PySem.boot_len (pa_cons (pe_callD d_l_said g_l_said (hr.mono (by decide)) rfl (pa_cons (pv 1) (pa_cons (pv 0) (pa_cons (pv 2) pa_nil)))) pa_nil))))) pa_nil)))))))
   (pss_one (ps_ret (pv 3)))))),?_⟩
 have hbk0:=hbk
 have hlw0:=hlw
 obtain ⟨fa,wa,was,hb,hf,hw,hws⟩:=hbk
 obtain ⟨las,hla,hls⟩:=hlw
 have el:(las.map V.ref).length=ds.length:=by rw [List.length_map,hls.1,B.len]
 refine ⟨_,rfl,_,_,rfl,.inl hla,_,rfl,(by have:=B.n; rw [el]; omega),(by have:=B.n; rw [el]; omega),?_⟩
 rw [el]
 refine for_range (fun i σ H2=>Same H H2∧∃ (width wst:Int) (v:Option V),σ=[some (.ref ba),some (.ref la),some (.int width),some (.int wst),v]∧1≤wst∧wst≤63 * (i:Int)+1∧width≤63 * (i:Int)∧(i=0∨∃ j,j < i∧(∀ n,j≤n→n < i→xAt xs n=xAt xs (i - 1))∧(j=0∨xAt xs (j - 1)≠xAt xs j)∧width=together ((segP ds j i).map (wideW F xs)))∧(∀ a j,a < i→j≤a→(∀ n,j≤n→n≤a→xAt xs n=xAt xs a)→together (wides F ds xs j a)≤wst)∧(∀ a,a < i→∀ s ∈ (dAt ds a).foot,((saidL F.h F.f xs s).length:Int)≤wst))
  ⟨Same.refl _,0,1,none,rfl,by decide,by decide,by decide,.inl rfl,fun a j h=>absurd h (Nat.not_lt_zero _),fun a h=>absurd h (Nat.not_lt_zero _)⟩ ?_ ?_
 ·rintro i σ H2 hi ⟨s2,width,wst,v,rfl,w1,w2,wb,wi,wa',wf⟩
  have hi:i < ds.length:=by simp at hi; omega
  have hix:i < xs.length:=by rw [← B.len]; exact hi
  obtain ⟨xo,ex,hx⟩:=LwAt.get (a:=la) hls hix
  obtain ⟨wo,eo,sa,fo,bs,ht,g2,g3,g4⟩:=hws.get hi
  have wk:=(B.d hi).2
  have n60:=B.n
  dsimp only [gName]
  rw [Int.zero_add]
  refine cut_seq (fun σ' H'=>H' = H2∧∃ width:Int,σ' = [some (.ref ba),some (.ref la),some (.int width),some (.int wst),some (.int (i:Int))]∧width≤63 * (i:Int)∧∃ j,j≤i∧(∀ n,j≤n→n≤i→xAt xs n=xAt xs i)∧(j=0∨xAt xs (j - 1)≠xAt xs j)∧width=together ((segP ds j i).map (wideW F xs))) ?_ (fun key=>?_)
  rotate_left
  ·have hnew:(i=0∨xAt xs (i - 1)≠xAt xs i)→_:=fun e=>key _ _ ⟨rfl,-1,rfl,(by omega),i,Nat.le_refl _,fun n a b=>by rw [show n=i by omega],e,by rw [segP_self]; rfl⟩
   refine ⟨_,rfl,rfl,_,rfl,?_⟩
   by_cases kp:0 < i
   ·obtain ⟨yo,ey,hy⟩:=LwAt.get (a:=la) hls (show i - 1 < xs.length by omega)
    have ei:(i:Int) - 1=((i - 1:Nat) : Int):=by omega
    refine orG (fun z=>absurd (int_eq.mp z) (by omega)) (fun _=>?_)
    refine ⟨_,rfl,_,rfl,_,_,_,_,rfl,rfl,s2.seq hla,ex,_,rfl,_,rfl,_,_,rfl,rfl,_,_,_,_,rfl,rfl,s2.seq hla,(by rw [ei]; exact ey),_,_,_,_,rfl,rfl,s2.tup hx,s2.tup hy,rfl,rfl,_,rfl,?_⟩
    rw [if_pos rfl,eq_pl2]
    by_cases c:xAt xs i=xAt xs (i - 1)
    ·rw [decide_eq_true c]
     refine iteF ?_
     rcases wi with z | ⟨j,j1,j2,j3,j4⟩
     ·omega
     ·exact key _ _ ⟨rfl,width,rfl,wb,j,by omega,fun n a b=>by
       by_cases e:n=i
       ·rw [e]
       ·rw [j2 n a (by omega),c],j3,j4⟩
    ·rw [decide_eq_false c]
     refine iteT ?_
     exact ⟨_,rfl,hnew (.inr (Ne.symm c))⟩
   ·refine orG (fun _=>?_) (fun z=>absurd (int_eq.mpr (by omega)) z)
    exact ⟨_,rfl,hnew (.inl (by omega))⟩
  clear wi wb
  rintro σ' H' ⟨rfl,width2,rfl,wb,jw,jw1,jw2,jw3,jw4⟩
  have sl:=(said_len B.fo B.po wk.s).2.1
  refine ⟨_,rfl,_,_,rfl,rfl,_,rfl,_,rfl,_,_,_,_,rfl,rfl,s2.tup hb,rfl,_,rfl,_,_,_,_,rfl,rfl,s2.seq hw,eo,_,_,_,_,rfl,rfl,s2.tup ht,rfl,_,rfl,ba,sa,la,F,ds,xs,(dAt ds i).say,rfl,hbk0.same s2,s2.tup g2,hlw0.same s2,B.fo,wk.s,B.po,_,rfl,(by rw [tx_len]; exact small (by omega)),_,_,rfl,rfl,?_⟩
  dsimp only [gName]
  rw [tx_len]
  have ew:width2+1+((saidL F.h F.f xs (dAt ds i).say).length:Int)=together (wides F ds xs jw i):=by rw [jw4]; exact wide_snoc jw1 hi
  have wb2:width2+1+((saidL F.h F.f xs (dAt ds i).say).length:Int)≤63 * ((i+1:Nat) : Int):=by omega
  rw [ew] at wb2 ⊢
  refine ⟨_,rfl,_,rfl,le2,fun p1 hp1=>?_⟩
  have s3:=same_new hp1 (.lst [V.int wst,V.int (together (wides F ds xs jw i))])
  have hp3:(upd H' p1 (.lst [V.int wst,V.int (together (wides F ds xs jw i))])) p1=some (.lst [V.int wst,V.int (together (wides F ds xs jw i))]):=upd_same
  generalize upd H' p1 (.lst [V.int wst,V.int (together (wides F ds xs jw i))])=H3 at s3 hp3 ⊢
  have t3:=s2.trans s3
  generalize hss:(dAt ds i).foot=ss at g4
  have so:∀ s ∈ ss,SayOk xs.length s:=by rw [← hss]; exact wk.f
  have sn:ss.length≤40:=by rw [← hss]; exact wk.n
  refine ⟨_,rfl,_,_,_,_,rfl,rfl,t3.tup hb,rfl,_,rfl,_,_,_,_,rfl,rfl,t3.seq hw,eo,_,_,_,_,rfl,rfl,t3.tup ht,rfl,_,rfl,⟨_,t3.seq g3⟩,lc_list (K:=K) (a:=fo) (xs:=bs.map V.ref) (fun n ys H4=>H4=H3∧ys=((ss.take n).map fun s=>((saidL F.h F.f xs s).length:Int)).map V.int) ⟨rfl,rfl⟩ (fun n ys H4 _ h4=>by rw [h4.1]; exact t3.seq g3) ?_ ?_ ?_⟩
  ·rintro n ys H4 hn ⟨_,rfl⟩
   rw [List.length_map,List.length_map,List.length_take]
   exact Nat.lt_of_lt_of_le (show _ < 1000 by omega) (small (Nat.le_refl _))
  ·rintro n y ys H4 hn ⟨rfl,rfl⟩
   obtain ⟨b,s,rfl,eb,es⟩:=foot_at g4.1 hn
   have hs:=List.mem_of_getElem? es
   have sl2:=(said_len B.fo B.po (so s hs)).2.1
   refine yes_go ?_
   refine ⟨_,rfl,_,rfl,_,rfl,ba,b,la,F,ds,xs,s,rfl,hbk0.same t3,t3.tup (g4.2 n b s eb es),hlw0.same t3,B.fo,so s hs,B.po,_,rfl,(by rw [tx_len]; exact small (by omega)),rfl,?_⟩
   rw [take_snoc es,List.map_append,List.map_append,tx_len]
   rfl
  ·rintro ys H4 ⟨rfl,rfl⟩ p hp
   rw [List.length_map,g4.1,List.take_length]
   have s4:=same_new hp (.lst ((ss.map fun s=>((saidL F.h F.f xs s).length:Int)).map V.int))
   refine ⟨_,_,_,_,rfl,rfl,s4 _ _ hp3,upd_same,small (by simp; omega),fun p2 hp2=>?_⟩
   have s5:=same_new hp2 (.lst ([V.int wst,V.int (together (wides F ds xs jw i))]++(ss.map fun s=>((saidL F.h F.f xs s).length:Int)).map V.int))
   refine ⟨p2,[wst,together (wides F ds xs jw i)]++(ss.map fun s=>((saidL F.h F.f xs s).length:Int)),rfl,SqL.of (by rw [upd_same,List.map_append]; rfl),(by simp),fun m hm hall=>?_⟩
   have m1:=hall wst (by simp)
   have m2:=hall (together (wides F ds xs jw i)) (by simp)
   refine ⟨t3.trans (s4.trans s5),_,m,_,rfl,by omega,?_,wb2,.inr ⟨jw,by omega,fun n a b=>by rw [jw2 n a (by omega)]; rfl,jw3,rfl⟩,fun a j ha hj hn=>?_,fun a ha s hs=>?_⟩
   ·rcases List.mem_append.mp hm with hm | hm
    ·rcases List.mem_cons.mp hm with e | e
     ·omega
     ·rw [List.mem_singleton.mp e]; omega
    ·obtain ⟨s,hs,rfl⟩:=List.mem_map.mp hm
     have:=(said_len B.fo B.po (so s hs)).2.1
     omega
   ·by_cases c:a=i
    ·subst c
     have hj2:jw≤j:=by
      rcases Nat.lt_or_ge j jw with z | z
      ·rcases jw3 with e | e
       ·omega
       ·exact absurd ((hn (jw - 1) (by omega) (by omega)).trans (hn jw (by omega) jw1).symm) e
      ·exact z
     have:=tog_mono (F:=F) (ds:=ds) (xs:=xs) hi (j - jw) jw (by omega)
     rw [show jw+(j - jw)=j by omega] at this
     omega
    ·have:=wa' a j (by omega) hj hn
     omega
   ·by_cases c:a=i
    ·subst c
     rw [hss] at hs
     exact hall _ (List.mem_append_right _ (List.mem_map.mpr ⟨s,hs,rfl⟩))
    ·have:=wf a (by omega) s hs
     omega
 ·rintro σ H2 ⟨s2,width,wst,v,rfl,w1,w2,wb,wi,wa',wf⟩
  simp only [Int.toNat_natCast] at w2 wa' wf
  exact ⟨_,rfl,q wst H2 s2 w1 w2 wa' wf⟩
def sp_l_borne (K:PySem.W.Frag) : Sp:=fun vs H Q _=>∃ (sa:Addr) (ns:List Int) (most:Nat),vs=[.ref sa,.int (most:Int)]∧SqL K H sa (ns.map V.int)∧most≤59∧∀ q bq la F ds xs H',Same H H'→SqT K H' q [.ref bq,.ref la]→BkAt K H' bq F.w F.h F.f F.m ds→LwAt K H' la xs→BkOk F ds xs→Fixd F ds xs→Pages F.m xs→ds.length≤most→ds.length≤ns.length - 4→(∀ d ∈ ds,d.foot.length≤20)→F.w≤3900→Q (.ref q) H'
theorem sc_l_borne:FnScope ["script","most","first","b","high","xss","drawn","spots","room","spot","row","k","xs","kept","many","foot","wide","pages"] ["script","most"] (defScope s_l_borne):=⟨rfl,rfl,rfl,by decide +kernel,rfl,by decide +kernel,by decide +kernel⟩
theorem ok_l_borne (T:Txt P w K mg a) : FnOk P w K mg base CX0 3 a.f_l_borne a.fd_l_borne ["script","most"] (sp_l_borne K):=by
 have g_l_cell_at:=ok_l_cell_at (P:=P) (w:=w) (base:=base) T
 have d_l_cell_at:=T.d_l_cell_at
 have g_l_first:=ok_l_first (P:=P) (w:=w) (base:=base) T
 have d_l_first:=T.d_l_first
 have g_l_short:=ok_l_short (P:=P) (w:=w) (base:=base) T
 have d_l_short:=T.d_l_short
 have g_l_spots:=ok_l_spots (P:=P) (w:=w) (base:=base) T
 have d_l_spots:=T.d_l_spots
 have g_l_stream:=ok_l_stream (P:=P) (w:=w) (base:=base) T
 have d_l_stream:=T.d_l_stream
 have g_l_widest:=ok_l_widest (P:=P) (w:=w) (base:=base) T
 have d_l_widest:=T.d_l_widest
 have z_len:=T.z_len
 have z_max:=T.z_max
 have z_min:=T.z_min
 have z_range:=T.z_range
 refine T.d_l_borne.fn.ok sc_l_borne (fun vs H Q E h=>?_) (fun cdv A outer s H vs Q E hr h=>?_)
 ·obtain ⟨sa,ns,most,rfl,_⟩:=h
  rfl
 obtain ⟨sa,ns,most,rfl,hS,m59,q⟩:=h
 have hu:=Nat.lt_of_succ_lt (hu_of hr)
 refine ⟨_,(@pss_cons _ _ _ _ _ (ps_set (i:=2) sc_l_borne.nd rfl (Or.inl rfl) (pe_callD d_l_first g_l_first (hr.mono (by decide)) rfl (pa_cons (pe_callD d_l_cell_at g_l_cell_at (hr.mono (by decide)) rfl (pa_cons (pv 0) (pa_cons pe_int pa_nil))) pa_nil)))
   (@pss_cons _ _ _ _ _ (ps_if (pt_cmpR op_gt (pv 2) pe_int (nomark _)) (pss_one (ps_set (i:=1) sc_l_borne.nd rfl (Or.inl rfl) (pe_callB (call_min2 rfl) rfl z_min PyProof.Rows.boot_min (pa_cons (pv 1) (pa_cons pe_int pa_nil))))) pss_nil)
   (@pss_cons _ _ _ _ _ (ps_set (i:=3) sc_l_borne.nd rfl (Or.inl rfl) (pe_callD d_l_cell_at g_l_cell_at (hr.mono (by decide)) rfl (pa_cons (pv 0) (pa_cons pe_int pa_nil))))
   (@pss_cons _ _ _ _ _ (ps_set (i:=4) sc_l_borne.nd rfl (Or.inl rfl) (pe_ix ix_list (pe_lst (pa_cons (pe_op op_add pe_int (pe_op op_mod (pe_op op_fdiv (pv 3) pe_int) pe_int)) (pa_cons (pe_op op_add pe_int (pe_op op_mod (pe_op op_fdiv (pv 3) pe_int) pe_int)) (pa_cons (pe_op op_add pe_int (pe_op op_mod (pe_op op_fdiv (pv 3) pe_int) pe_int)) (pa_cons (pe_op op_add pe_int (pe_op op_mod (pe_op op_fdiv (pv 3) pe_int) pe_int)) pa_nil))))) (pe_op op_mod (pv 3) pe_int) (fun _ _=>rfl)))
   (@pss_cons _ _ _ _ _ (ps_lc (k:=5) rfl (lcok (caps:=[]) (js:=[]) (cap:=trivial)) (pi_list (pe_slice sl_list (pv 0) (po_some pe_int) (po_some (pe_op op_add pe_int (pv 1))))) (fun _ _ _ _=>pts_nil) (fun _ _ _ _=>(pe_callD d_l_stream g_l_stream (hr.mono (by decide)) rfl (pa_cons (pv 0) (pa_cons pe_int pa_nil)))) sc_l_borne.nd rfl rfl)
   (@pss_cons _ _ _ _ _ (ps_set (i:=6) sc_l_borne.nd rfl (Or.inl rfl) (pe_callD d_l_spots g_l_spots (hr.mono (by decide)) rfl (pa_cons (pv 5) (pa_cons (pv 4) (pa_cons (pv 2) pa_nil)))))
   (@pss_cons _ _ _ _ _ (ps_set (i:=7) sc_l_borne.nd rfl (Or.inr rfl) (pe_ix ix_tup (pv 6) pe_int (fun _ _=>rfl)))
   (@pss_cons _ _ _ _ _ (ps_set (i:=8) sc_l_borne.nd rfl (Or.inl rfl) pe_dnewK)
   (@pss_cons _ _ _ _ _ (ps_for PassesOwn.never rfl (pi_list (pv 7)) (pg_name (i:=9) sc_l_borne.nd rfl (Or.inl rfl)) (pss_one (ps_dput (hu_of hr) (pv 8) (pe_ix ix_tup (pv 9) pe_int (fun _ _=>rfl)) (pe_op op_sub (pe_op op_sub (pv 4) pe_int) (pe_ix ix_tup (pv 9) pe_int (fun _ _=>rfl))) rfl)))
   (@pss_cons _ _ _ _ _ (ps_set (i:=10) sc_l_borne.nd rfl (Or.inl rfl) (pe_lst pa_nil))
   (@pss_cons _ _ _ _ _ (ps_for PassesOwn.never rfl (pi_range1 rfl z_range (pa_cons (pe_callB call_len_seq rfl z_len PySem.boot_len (pa_cons (pv 7) pa_nil)) pa_nil)) (pg_name (i:=11) sc_l_borne.nd rfl (Or.inl rfl)) (@pss_cons _ _ _ _ _ (ps_set (i:=12) sc_l_borne.nd rfl (Or.inr rfl) (pe_ix ix_list (pv 5) (pv 11) (fun _ _=>rfl)))
   (@pss_cons _ _ _ _ _ (ps_set (i:=13) sc_l_borne.nd rfl (Or.inl rfl) (pe_and (pe_cmpR op_gt (pv 11) pe_int (nomark _)) (pe_and (pe_cmpR op_eq (pe_ix ix_tup (pe_ix ix_list (pv 7) (pv 11) (fun _ _=>rfl)) pe_int (fun _ _=>rfl)) (pe_ix ix_tup (pe_ix ix_list (pv 7) (pe_op op_sub (pv 11) pe_int) (fun _ _=>rfl)) pe_int (fun _ _=>rfl)) (nomark _)) (pe_one (pe_cmpR op_eq (pe_op op_mod (pe_ix ix_list (pv 12) pe_int (fun _ _=>rfl)) pe_int) pe_int (nomark _))))))
   (@pss_cons _ _ _ _ _ (ps_set (i:=14) sc_l_borne.nd rfl (Or.inl rfl) (pe_callB (call_min2 rfl) rfl z_min PyProof.Rows.boot_min (pa_cons (pe_dget (hu_of hr) (pv 8) (pe_ix ix_tup (pe_ix ix_list (pv 7) (pv 11) (fun _ _=>rfl)) pe_int (fun _ _=>rfl)) (fun _ _=>rfl)) (pa_cons (pe_ix ix_list (pe_lst (pa_cl (CL.int (CL.int (CL.int (CL.int (CL.int (CL.int CL.nil)))))))) (pe_op op_mod (pe_ix ix_list (pv 12) pe_int (fun _ _=>rfl)) pe_int) (fun _ _=>rfl)) pa_nil))))
   (@pss_cons _ _ _ _ _ (ps_dput (hu_of hr) (pv 8) (pe_ix ix_tup (pe_ix ix_list (pv 7) (pv 11) (fun _ _=>rfl)) pe_int (fun _ _=>rfl)) (pe_op op_sub (pe_dget (hu_of hr) (pv 8) (pe_ix ix_tup (pe_ix ix_list (pv 7) (pv 11) (fun _ _=>rfl)) pe_int (fun _ _=>rfl)) (fun _ _=>rfl)) (pv 14)) rfl)
   (@pss_cons _ _ _ _ _ (ps_lc (k:=15) rfl (lcok (caps:=["spots","xs"]) (js:=[7,12]) (cap:=⟨⟨rfl,.inl rfl,rfl,.inl rfl⟩,⟨⟨rfl,.inl rfl,rfl,.inl rfl⟩,trivial⟩⟩)) (pi_range1 rfl z_range (pa_cons (pv 14) pa_nil)) (fun _ _ _ _=>pts_nil) (fun _ _ _ _=>(pe_callD d_l_short g_l_short (hr.mono (by decide)) rfl (pa_cons (pe_slice (r:=rSlL K) sl_list (pv 2) (po_some (pe_op op_add pe_int (pe_op op_mul pe_int (pv 0)))) (po_some (pe_op op_add pe_int (pe_op op_mul pe_int (pv 0))))) (pa_cons (pe_callB (r:=rLen K) call_len_seq rfl z_len PySem.boot_len (pa_cons (pv 1) pa_nil)) pa_nil)))) sc_l_borne.nd rfl rfl)
   (pss_one (ps_expr (pe_bm PySem.F.plainAttrs_list PySem.F.slot_list_append PySem.F.type_list_append mt_append (pv 10) (pa_cons (pe_tup (pa_cons (pe_ix ix_list (pe_ix ix_tup (pv 6) pe_int (fun _ _=>rfl)) (pv 11) (fun _ _=>rfl)) (pa_cons (pv 13) (pa_cons (pe_callD d_l_short g_l_short (hr.mono (by decide)) rfl (pa_cons (pe_slice sl_list (pv 12) (po_some pe_int) (po_some pe_int)) (pa_cons (pe_callB call_len_seq rfl z_len PySem.boot_len (pa_cons (pv 7) pa_nil)) pa_nil))) (pa_cons (pv 15) pa_nil))))) pa_nil))))))))))
   (@pss_cons _ _ _ _ _ (ps_set (i:=16) sc_l_borne.nd rfl (Or.inl rfl) (pe_op op_add (pe_callD d_l_widest g_l_widest (hr.mono (by decide)) rfl (pa_cons (pe_tup (pa_cons (pe_tup (pa_cons pe_int (pa_cons (pv 4) (pa_cons (pv 2) (pa_cons pe_int pa_nil))))) (pa_cons (pv 10) pa_nil))) (pa_cons (pv 7) pa_nil))) (pe_op op_mod (pe_callD d_l_cell_at g_l_cell_at (hr.mono (by decide)) rfl (pa_cons (pv 0) (pa_cons pe_int pa_nil))) pe_int)))
   (@pss_cons _ _ _ _ _ (ps_set (i:=17) sc_l_borne.nd rfl (Or.inl rfl) (pe_op op_add (pe_op op_add pe_int (pe_callB (call_maxI rfl) rfl z_max PyProof.Rows.boot_max (pa_cons (pe_op op_cat (pe_lst (pa_cons pe_int pa_nil)) (pe_lc rfl (lcok (caps:=[]) (js:=[]) (cap:=trivial)) (pi_list (pv 7)) (fun _ _ _ _=>pts_nil) (fun _ _ _ _=>(pe_ix (r:=rIxT K) ix_tup (pv 0) pe_int (fun _ _=>rfl))))) pa_nil))) (pe_op op_mod (pe_callD d_l_cell_at g_l_cell_at (hr.mono (by decide)) rfl (pa_cons (pv 0) (pa_cons pe_int pa_nil))) pe_int)))
   (pss_one (ps_ret (pe_tup (pa_cons (pe_tup (pa_cons (pe_tup (pa_cons (pv 16) (pa_cons (pv 4) (pa_cons (pv 2) (pa_cons (pv 17) pa_nil))))) (pa_cons (pv 10) pa_nil))) (pa_cons (pv 7) pa_nil)))))))))))))))))),?_⟩
 refine ⟨_,rfl,_,_,(2:Nat),rfl,hS,_,rfl,fun f H1 s1 f0 f1=>?_⟩
 dsimp only [gName]
 refine cut_seq (fun σ' H'=>H' = H1∧∃ mo:Nat,σ' = [some (.ref sa),some (.int (mo:Int)),some (.int f),none,none,none,none,none,none,none,none,none,none,none,none,none,none,none]∧mo≤most∧(99999 < f→mo≤24)) ?_ (fun key=>?_)
 rotate_left
 ·refine ⟨_,rfl,_,_,rfl,rfl,_,rfl,?_⟩
  refine ite2 (fun c=>?_) (fun c=>?_)
  ·refine ⟨_,rfl,_,_,rfl,?_⟩
   dsimp only [gName]
   by_cases z:(24:Int) < (most:Int)
   ·rw [if_pos z]
    exact key _ _ ⟨rfl,24,rfl,by omega,fun _=>by decide⟩
   ·rw [if_neg z]
    exact key _ _ ⟨rfl,most,rfl,Nat.le_refl _,fun _=>by omega⟩
  ·exact key _ _ ⟨rfl,most,rfl,Nat.le_refl _,fun z=>absurd (decide_eq_true z) c⟩
 rintro σ' H' ⟨rfl,mo,rfl,mm,m24⟩
 refine ⟨_,rfl,_,_,(1:Nat),rfl,s1.seq hS,?_⟩
 generalize ns.getD 1 0=b
 dsimp only [gName]
 refine cut_seq (fun σ' H2=>Same H' H2∧∃ h:Int,σ' = [some (.ref sa),some (.int (mo:Int)),some (.int f),some (.int b),some (.int h),none,none,none,none,none,none,none,none,none,none,none,none,none]∧1≤h∧h≤60) ?_ (fun key=>?_)
 rotate_left
 ·refine ⟨_,rfl,_,_,rfl,rfl,⟨by decide,by decide⟩,_,_,rfl,rfl,(by (first | decide | (show (0:Int) < _; first | decide | omega))),_,_,rfl,rfl,_,rfl,_,_,rfl,rfl,⟨by decide,by decide⟩,_,_,rfl,rfl,(by (first | decide | (show (0:Int) < _; first | decide | omega))),_,_,rfl,rfl,_,rfl,_,_,rfl,rfl,⟨by decide,by decide⟩,_,_,rfl,rfl,(by (first | decide | (show (0:Int) < _; first | decide | omega))),_,_,rfl,rfl,_,rfl,_,_,rfl,rfl,⟨by decide,by decide⟩,_,_,rfl,rfl,(by (first | decide | (show (0:Int) < _; first | decide | omega))),_,_,rfl,rfl,le4,fun p1 hp1=>?_⟩
  obtain ⟨u1,um,e1⟩:=pick [V.int (1+b / 4 % 4),V.int (2+b / 4 % 4),V.int (1+b / 4 % 8),V.int (1+b / 4 % 60)] 4 b rfl (by (first | decide | (show (0:Int) < _; first | decide | omega)))
  have g1:∃ h,u1=V.int h∧1≤h∧h≤60:=by
   simp only [List.mem_cons,List.not_mem_nil,or_false] at um
   rcases um with rfl | rfl | rfl | rfl <;> exact ⟨_,rfl,by omega,by omega⟩
  obtain ⟨h,rfl,h1,h2⟩:=g1
  have s2:=same_new hp1 (.lst [V.int (1+b / 4 % 4),V.int (2+b / 4 % 4),V.int (1+b / 4 % 8),V.int (1+b / 4 % 60)])
  refine ⟨_,rfl,_,_,rfl,rfl,(by (first | decide | (show (0:Int) < _; first | decide | omega))),_,_,_,_,rfl,rfl,SqL.of upd_same,e1,?_⟩
  generalize upd H' p1 (.lst [V.int (1+b / 4 % 4),V.int (2+b / 4 % 4),V.int (1+b / 4 % 8),V.int (1+b / 4 % 60)])=H2 at s2 ⊢
  exact key _ _ ⟨s2,h,rfl,h1,h2⟩
 rintro σ' H2 ⟨s2,h,rfl,h1,h2⟩
 have t2:=s1.trans s2
 refine ⟨_,rfl,_,rfl,_,rfl,_,_,rfl,rfl,_,rfl,_,_,rfl,t2.seq hS,fun ca hca=>?_⟩
 have ec:cutV (ns.map V.int) (some 4) (some (4+(mo:Int)))=((ns.drop 4).take mo).map V.int:=by
  have:=cut_nat ns 4 (4+mo)
  have e1:(4+(mo:Int))=((4+mo:Nat) : Int):=by omega
  rw [Nat.add_sub_cancel_left] at this
  rw [cutV_map,e1]
  exact congrArg (List.map V.int) this
 have s3:=same_new hca (.lst (cutV (ns.map V.int) (some 4) (some (4+(mo:Int)))))
 have hc3:(upd H2 ca (.lst (cutV (ns.map V.int) (some 4) (some (4+(mo:Int)))))) ca=some (.lst (((ns.drop 4).take mo).map V.int)):=by rw [upd_same,ec]
 generalize upd H2 ca (.lst (cutV (ns.map V.int) (some 4) (some (4+(mo:Int)))))=H3 at s3 hc3 ⊢
 have cl1:((ns.drop 4).take mo).length≤mo:=by rw [List.length_take]; omega
 have cl2:((ns.drop 4).take mo).length≤ns.length - 4:=by rw [List.length_take,List.length_drop]; omega
 generalize (ns.drop 4).take mo=cs at hc3 cl1 cl2
 have t3:=t2.trans s3
 refine ⟨_,rfl,⟨_,SqL.of hc3⟩,lc_list (K:=K) (a:=ca) (xs:=cs.map V.int) (fun i ys H4=>Same H3 H4∧∃ bs:List Addr,bs.length=i∧ys=bs.map V.ref∧StsA K H4 bs) ⟨Same.refl _,[],rfl,rfl,fun b hb=>by cases hb⟩ (fun i ys H4 _ h4=>h4.1.seq (SqL.of hc3)) ?_ ?_ ?_⟩
 ·rintro i ys H4 hi ⟨_,bs,hl,rfl,_⟩
  rw [List.length_map] at hi
  rw [List.length_map,hl]
  exact Nat.lt_of_lt_of_le (show i < 1000 by omega) (small (Nat.le_refl _))
 ·rintro i y ys H4 hi ⟨s4,bs,hl,rfl,hb⟩
  obtain ⟨z,rfl,_⟩:=get_int hi
  refine yes_go ?_
  refine ⟨_,rfl,_,(18:Nat),rfl,by decide,fun xa H5 zs s5 nx hx ok=>?_⟩
  refine ⟨s4.trans s5,bs++[xa],by simp [hl],refs_snoc _ _,fun b hb2=>?_⟩
  rcases List.mem_append.mp hb2 with hb2 | hb2
  ·exact hb.same s5 b hb2
  ·rw [List.mem_singleton.mp hb2]
   exact ⟨zs,SqL.of hx,ok⟩
 rintro ys H4 ⟨s4,bs,bl,rfl,hbs⟩ xa hxa
 rw [List.length_map] at bl
 have s5:=same_new hxa (.lst (bs.map V.ref))
 have hx5:(upd H4 xa (.lst (bs.map V.ref))) xa=some (.lst (bs.map V.ref)):=upd_same
 generalize upd H4 xa (.lst (bs.map V.ref))=H5 at s5 hx5 ⊢
 have hbs5:=hbs.same s5
 have t5:=t3.trans (s4.trans s5)
 dsimp only [gName]
 refine ⟨_,rfl,_,rfl,_,rfl,xa,bs,h,f,rfl,SqL.of hx5,hbs5,h1,by omega,fun z=>by have:=m24 z; omega,fun dq la lb as xs ls H6 s6 hdq hla px hlb xl S x55=>?_⟩
 have n59:xs.length≤59:=by omega
 have t6:=t5.trans s6
 have hx6:=s6.seq (K:=K) (SqL.of hx5)
 have hbs6:=hbs5.same s6
 have el:(as.map V.ref).length=xs.length:=by rw [List.length_map,px.1]
 dsimp only [gName]
 refine ⟨_,rfl,_,_,_,_,rfl,rfl,hdq,rfl,?_⟩
 dsimp only [gName]
 intro ra hra
 have s7:=same_new hra (.dK [])
 have hra7:(upd H6 ra (.dK [])) ra=some (.dK []):=upd_same
 generalize upd H6 ra (.dK [])=H7 at s7 hra7 ⊢
 refine ⟨_,rfl,_,rfl,⟨_,s7.seq hla⟩,for_list (K:=K) (a:=la) (xs:=as.map V.ref) (fun i σ H2=>Same H6 H2∧∃ (kvs:List (Key × V)) (v:Option V),σ=[some (.ref sa),some (.int (mo:Int)),some (.int f),some (.int b),some (.int h),some (.ref xa),some (.ref dq),some (.ref la),some (.ref ra),v,none,none,none,none,none,none,none,none]∧H2 ra=some (.dK kvs)∧kvs.length≤i∧(∀ t,t < i→∃ r:Int,valV kvs (.inl (xAt xs t).1)=some (.int r)∧0≤r∧r≤h - 1 - (xAt xs t).2)) ⟨s7,[],none,rfl,hra7,Nat.le_refl _,fun t ht=>absurd ht (Nat.not_lt_zero _)⟩ (fun i σ H2 _ h2=>h2.1.seq hla) ?_ ?_⟩
 ·rintro i y σ H2 hi ⟨s8,kvs,v,rfl,hk,kl,rm⟩
  obtain ⟨a,rfl,ea⟩:=ref_at hi
  have hix:i < xs.length:=by rw [← px.1]; exact (List.getElem?_eq_some_iff.mp ea).1
  have ha:SqT K H6 a (pl (xAt xs i)):=px.2 i a _ ea (by
   show _=some (xs.getD i (0,0))
   rw [List.getD_eq_getElem?_getD,List.getElem?_eq_getElem hix]
   rfl)
  dsimp only [gName]
  refine ⟨_,rfl,_,_,rfl,rfl,_,rfl,_,_,_,_,rfl,rfl,s8.tup ha,rfl,_,_,rfl,rfl,_,rfl,_,rfl,_,_,_,_,rfl,rfl,s8.tup ha,rfl,_,_,rfl,DPut.k (k:=.inl (xAt xs i).1) hk (Nat.lt_of_lt_of_le (show _ < 1000 by omega) (small (Nat.le_refl _))),?_⟩
  refine ⟨s8.put hra,_,_,rfl,upd_same,Nat.le_trans (length_putK _ _ _) (Nat.succ_le_succ kl),fun t ht=>?_⟩
  rw [valV_put]
  have ri:=S.r i hix
  by_cases c:(xAt xs t).1=(xAt xs i).1
  ·rw [if_pos (congrArg Sum.inl c)]
   refine ⟨_,rfl,by have:=ri.r2; omega,?_⟩
   by_cases ct:t=i
   ·rw [ct]; exact Int.le_refl _
   ·have:=S.le (show t≤i by omega) hix
    rw [not_sooner] at this
    omega
  ·rw [if_neg (fun z=>c (Sum.inl.inj z))]
   exact rm t (by
    rcases Nat.lt_or_ge t i with z | z
    ·exact z
    ·exact absurd (by rw [show t=i by omega]) c)
 rintro σ H8 ⟨s8,kvs0,vs,rfl,hra8,kl0,rm0⟩
 rw [el] at kl0 rm0
 refine ⟨Nat.zero_le _,fun wa hwa=>?_⟩
 have s9:=same_new hwa (.lst [])
 have nwa:H6 wa=none:=s8.free hwa
 have nrw:ra≠wa:=fun e=>by rw [← e,hra8] at hwa; cases hwa
 have hra9:=s9 _ _ hra8
 have hwa9:(upd H8 wa (.lst [])) wa=some (.lst ([].map V.ref)):=upd_same
 have t9:=s8.trans s9
 generalize upd H8 wa (.lst [])=H9 at s9 hra9 hwa9 t9 ⊢
 dsimp only [gName]
 refine cut_seq (fun σ H2=>Same H6 H2∧∃ (kvs:List (Key × V)) (was:List Addr) (ds:List Wd) (v1 v2 v3 v4 v5:Option V),σ=[some (.ref sa),some (.int (mo:Int)),some (.int f),some (.int b),some (.int h),some (.ref xa),some (.ref dq),some (.ref la),some (.ref ra),vs,some (.ref wa),v1,v2,v3,v4,v5,none,none]∧H2 ra=some (.dK kvs)∧H2 wa=some (.lst (was.map V.ref))∧WdsA K (erD H2 ra wa) was ds∧ds.length=(xs.length:Int).toNat∧kvs.length≤60+(xs.length:Int).toNat∧(∀ t,t < xs.length→∃ r:Int,valV kvs (.inl (xAt xs t).1)=some (.int r)∧0≤r∧r+pgS xs ds (xAt xs t).1 ds.length≤h - 1 - (xAt xs t).2)∧(∀ d ∈ ds,WdOk xs.length d∧d.foot.length≤20)∧(∀ t,t < ds.length→(dAt ds t).lead=ls.getD t 0)∧(∀ t,t+1 < ds.length→(dAt ds (t+1)).kept=true→(xAt xs (t+1)).1=(xAt xs t).1)) ?_ (fun key=>?_)
 rotate_left
 ·refine ⟨_,rfl,_,_,rfl,.inl (t9.seq hla),_,rfl,(by rw [el]; omega),(by rw [el]; omega),?_⟩
  rw [el]
  refine for_range (fun i σ H2=>Same H6 H2∧∃ (kvs:List (Key × V)) (was:List Addr) (ds:List Wd) (v1 v2 v3 v4 v5:Option V),σ=[some (.ref sa),some (.int (mo:Int)),some (.int f),some (.int b),some (.int h),some (.ref xa),some (.ref dq),some (.ref la),some (.ref ra),vs,some (.ref wa),v1,v2,v3,v4,v5,none,none]∧H2 ra=some (.dK kvs)∧H2 wa=some (.lst (was.map V.ref))∧WdsA K (erD H2 ra wa) was ds∧ds.length=i∧kvs.length≤60+i∧(∀ t,t < xs.length→∃ r:Int,valV kvs (.inl (xAt xs t).1)=some (.int r)∧0≤r∧r+pgS xs ds (xAt xs t).1 ds.length≤h - 1 - (xAt xs t).2)∧(∀ d ∈ ds,WdOk xs.length d∧d.foot.length≤20)∧(∀ t,t < ds.length→(dAt ds t).lead=ls.getD t 0)∧(∀ t,t+1 < ds.length→(dAt ds (t+1)).kept=true→(xAt xs (t+1)).1=(xAt xs t).1))
   ⟨t9,kvs0,[],[],none,none,none,none,none,rfl,hra9,hwa9,WdsA.nil,rfl,by omega,fun t ht=>?_,fun d hd=>(by cases hd),fun t ht=>absurd ht (Nat.not_lt_zero _),fun t ht=>absurd ht (Nat.not_lt_zero _)⟩ ?_ ?_
  ·obtain ⟨r,e,r0,r1⟩:=rm0 t ht
   exact ⟨r,e,r0,by show r+0≤_; omega⟩
  ·rintro i σ H2 hi ⟨s2,kvs,was,ds,v1,v2,v3,v4,v5,rfl,hra2,hwa2,hws,dl,kl,rm,wo,wl,wk⟩
   have hi:i < xs.length:=by simp at hi; omega
   have hib:i < bs.length:=by omega
   subst dl
   generalize hn:ds.length=n at *
   obtain ⟨xo,ex,hx⟩:=LwAt.get (a:=la) px hi
   obtain ⟨zs,hzs,ok⟩:=hbs6 (bs.getD n 0) (by rw [List.getD_eq_getElem?_getD,List.getElem?_eq_getElem hib]; exact List.getElem_mem hib)
   have eb:atI (bs.map V.ref) (n:Int)=some (V.ref (bs.getD n 0)):=at_ref n hib
   generalize bs.getD n 0=bb at hzs eb
   have a2:=ok.at (k:=2) (by (first | decide | (show (0:Int) < _; first | decide | omega)))
   have a3:=ok.at (k:=3) (by (first | decide | (show (0:Int) < _; first | decide | omega)))
   dsimp only [gName]
   rw [Int.zero_add]
   refine ⟨_,rfl,_,rfl,_,_,_,_,rfl,rfl,s2.seq hx6,eb,?_⟩
   dsimp only [gName]
   refine cut_seq (fun σ' H'=>H' = H2∧∃ kp:Bool,σ' = [some (.ref sa),some (.int (mo:Int)),some (.int f),some (.int b),some (.int h),some (.ref xa),some (.ref dq),some (.ref la),some (.ref ra),vs,some (.ref wa),some (.int (n:Int)),some (.ref bb),some (.bl kp),v4,v5,none,none]∧(kp=true→0 < n∧(xAt xs n).1=(xAt xs (n - 1)).1)) ?_ (fun key=>?_)
   rotate_left
   ·refine ⟨_,rfl,_,_,rfl,rfl,_,rfl,?_⟩
    refine ite2 (fun c=>?_) (fun c=>?_)
    ·have n0:0 < n:=by
      have:(0:Int) < (n:Int):=of_decide_eq_true c
      omega
     obtain ⟨yo,ey,hy⟩:=LwAt.get (a:=la) px (show n - 1 < xs.length by omega)
     have ei:(n:Int) - 1=((n - 1:Nat) : Int):=by omega
     refine ⟨_,rfl,_,rfl,_,_,_,_,rfl,rfl,s2.seq hla,ex,_,_,_,_,rfl,rfl,s2.tup hx,rfl,_,rfl,_,rfl,_,_,rfl,rfl,_,_,_,_,rfl,rfl,s2.seq hla,(by rw [ei]; exact ey),_,_,_,_,rfl,rfl,s2.tup hy,rfl,rfl,_,rfl,?_⟩
     refine ite2 (fun c2=>?_) (fun c2=>?_)
     ·refine ⟨_,rfl,_,_,_,_,rfl,rfl,s2.seq hzs,a2,_,_,rfl,rfl,(by (first | decide | (show (0:Int) < _; first | decide | omega))),rfl,?_⟩
      exact key _ _ ⟨rfl,_,rfl,fun _=>⟨n0,int_eq.mp c2⟩⟩
     ·exact key _ _ ⟨rfl,false,rfl,fun z=>by cases z⟩
    ·exact key _ _ ⟨rfl,false,rfl,fun z=>by cases z⟩
   rintro σ' H' ⟨rfl,kp,rfl,hkp⟩
   obtain ⟨r,ev,r0,r1⟩:=rm n hi
   obtain ⟨z,z0,z3,ez⟩:=pick_many (zs.getD 3 0)
   refine ⟨_,rfl,_,rfl,_,rfl,_,_,_,_,rfl,rfl,s2.seq hla,ex,_,_,_,_,rfl,rfl,s2.tup hx,rfl,ra,.int r,rfl,(by rw [← ev]; exact DGet.k (k:=.inl (xAt xs n).1) hra2),small (by (first | decide | (show (0:Int) < _; first | decide | omega))),fun p5 hp5=>?_⟩
   have s3:=same_new hp5 (.lst [V.int 0,V.int 1,V.int 0,V.int 2,V.int 0,V.int 3])
   refine ⟨_,rfl,_,_,_,_,rfl,rfl,s3.seq (s2.seq hzs),a3,_,_,rfl,rfl,(by (first | decide | (show (0:Int) < _; first | decide | omega))),_,_,_,_,rfl,rfl,SqL.of upd_same,ez,_,_,rfl,?_⟩
   generalize upd H' p5 (.lst [V.int 0,V.int 1,V.int 0,V.int 2,V.int 0,V.int 3])=H3 at s3 ⊢
   have mz:0≤(if z < r then z else r)∧(if z < r then z else r)≤3∧(if z < r then z else r)≤r:=by split <;> omega
   generalize (if z < r then z else r)=mm' at mz ⊢
   obtain ⟨m,rfl⟩:=Int.eq_ofNat_of_zero_le mz.1
   have m3:m≤3:=by omega
   have mr:(m:Int)≤r:=mz.2.2
   dsimp only [gName]
   have u3:=s2.trans s3
   have hra3:=s3 _ _ hra2
   have hwa3:=s3 _ _ hwa2
   have hws3:=hws.same (erD_mono (ra:=ra) (wa:=wa) s3)
   refine ⟨_,rfl,_,rfl,_,rfl,_,_,_,_,rfl,rfl,u3.seq hla,ex,_,_,_,_,rfl,rfl,u3.tup hx,rfl,ra,.int r,rfl,(by rw [← ev]; exact DGet.k (k:=.inl (xAt xs n).1) hra3),_,rfl,_,_,rfl,rfl,_,rfl,_,rfl,_,rfl,_,_,_,_,rfl,rfl,u3.seq hla,ex,_,_,_,_,rfl,rfl,u3.tup hx,rfl,_,_,rfl,DPut.k (k:=.inl (xAt xs n).1) hra3 (Nat.lt_of_lt_of_le (show _ < 1000 by omega) (small (Nat.le_refl _))),?_⟩
   have u4:=u3.put (o:=.dK (putK kvs (.inl (xAt xs n).1) (.int (r - (m:Int))))) hra
   have hra4:(upd H3 ra (.dK (putK kvs (.inl (xAt xs n).1) (.int (r - (m:Int)))))) ra=some (.dK (putK kvs (.inl (xAt xs n).1) (.int (r - (m:Int))))):=upd_same
   have hwa4:(upd H3 ra (.dK (putK kvs (.inl (xAt xs n).1) (.int (r - (m:Int)))))) wa=some (.lst (was.map V.ref)):=by rw [upd_ne (Ne.symm nrw)]; exact hwa3
   have hws4:WdsA K (erD (upd H3 ra (.dK (putK kvs (.inl (xAt xs n).1) (.int (r - (m:Int)))))) ra wa) was ds:=by rw [erD_put1]; exact hws3
   have kl4:=length_putK kvs (.inl (xAt xs n).1) (.int (r - (m:Int)))
   have rm4:∀ t,t < xs.length→∃ r':Int,valV (putK kvs (.inl (xAt xs n).1) (.int (r - (m:Int)))) (.inl (xAt xs t).1)=some (.int r')∧0≤r'∧r'+(pgS xs ds (xAt xs t).1 n+if (xAt xs n).1=(xAt xs t).1 then (m:Int) else 0)≤h - 1 - (xAt xs t).2:=fun t ht=>by
    rw [valV_put]
    by_cases c:(xAt xs t).1=(xAt xs n).1
    ·rw [if_pos (congrArg Sum.inl c),if_pos c.symm]
     obtain ⟨rt,et,_,rt1⟩:=rm t ht
     rw [c,ev] at et
     cases et
     exact ⟨_,rfl,by omega,by omega⟩
    ·rw [if_neg (fun z=>c (Sum.inl.inj z)),if_neg (Ne.symm c)]
     obtain ⟨rt,et,e0,rt1⟩:=rm t ht
     exact ⟨rt,et,e0,by omega⟩
   generalize putK kvs (.inl (xAt xs n).1) (.int (r - (m:Int)))=kvs4 at u4 hra4 hwa4 hws4 kl4 rm4 ⊢
   generalize upd H3 ra (.dK kvs4)=H4 at u4 hra4 hwa4 hws4 ⊢
   clear rm ev r1 hra3 hwa3 hws3 hra2 hwa2 hws u3 s3
   refine ⟨_,rfl,_,rfl,(by omega),(by omega),lc_range (fun j ys H5=>Same H4 H5∧∃ (cs:List Addr) (ss:List Say),ss.length=j∧ys=cs.map V.ref∧SaysA K H5 cs ss∧∀ s ∈ ss,SayOk xs.length s) ⟨Same.refl _,[],[],rfl,rfl,SaysA.nil,fun s hs=>by cases hs⟩ ?_ ?_ ?_⟩
   ·rintro j ys H5 hj ⟨_,cs,ss,hl,rfl,hb,_⟩
    rw [List.length_map,hb.1,hl]
    exact Nat.lt_of_lt_of_le (show j < 1000 by simp at hj; omega) (small (Nat.le_refl _))
   ·rintro j ys H5 hj ⟨s5,cs,ss,hl,rfl,hb,so⟩
    have hj3:j < 3:=by simp at hj; omega
    refine yes_go ?_
    refine ⟨_,rfl,_,rfl,_,_,rfl,rfl,.inl ⟨by decide,by decide⟩,_,_,rfl,rfl,_,rfl,_,rfl,_,_,rfl,rfl,.inl ⟨by decide,by decide⟩,_,_,rfl,rfl,_,rfl,_,_,rfl,s5.seq (u4.seq hzs),fun p6 hp6=>?_⟩
    have ec:cutV (zs.map V.int) (some (9+3 * (0+(j:Int)))) (some (12+3 * (0+(j:Int))))=((zs.drop (9+3 * j)).take 3).map V.int:=by
     have:=cut_nat zs (9+3 * j) (12+3 * j)
     have e1:(9+3 * (0+(j:Int)))=((9+3 * j:Nat) : Int):=by omega
     have e2:(12+3 * (0+(j:Int)))=((12+3 * j:Nat) : Int):=by omega
     have e3:12+3 * j - (9+3 * j)=3:=by omega
     rw [e3] at this
     rw [cutV_map,e1,e2]
     exact congrArg (List.map V.int) this
    have s6:=same_new hp6 (.lst (cutV (zs.map V.int) (some (9+3 * (0+(j:Int)))) (some (12+3 * (0+(j:Int))))))
    refine ⟨_,rfl,_,_,rfl,.inl (s6.seq (s5.seq (u4.seq hla))),_,_,xs.length,(by rw [el]; rfl),SqL.of (by rw [upd_same,ec]),ok.cut 3 (by omega),(by omega),fun sq H8 s s8 hs hso=>?_⟩
    have t:=s6.trans s8
    refine ⟨s5.trans t,cs++[sq],ss++[s],by simp [hl],refs_snoc _ _,(hb.same t).app (SaysA.one hs),fun u hu=>?_⟩
    rcases List.mem_append.mp hu with hu | hu
    ·exact so u hu
    ·rw [List.mem_singleton.mp hu]; exact hso
   rintro ys H5 ⟨s5,cs,ss,hl,rfl,hb,so⟩ fo hfo
   have hl:ss.length=m:=by rw [hl]; simp
   have s6:=same_new hfo (.lst (cs.map V.ref))
   have hfo6:(upd H5 fo (.lst (cs.map V.ref))) fo=some (.lst (cs.map V.ref)):=upd_same
   generalize upd H5 fo (.lst (cs.map V.ref))=H6' at s6 hfo6 ⊢
   have t6':=s5.trans s6
   have u6:=u4.trans t6'
   have hwa6:=t6' _ _ hwa4
   dsimp only [gName]
   have elb:atI (ls.map V.int) (n:Int)=some (V.int (ls.getD n 0)):=at_int n (by rw [← S.len]; exact hi)
   refine ⟨_,rfl,.inl ⟨rfl,_,SqL.of hwa6⟩,_,rfl,_,_,_,_,rfl,rfl,u6.tup hdq,rfl,_,rfl,_,_,_,_,rfl,rfl,u6.seq hlb,elb,_,rfl,_,rfl,_,rfl,_,rfl,_,_,rfl,u6.seq hzs,fun p7 hp7=>?_⟩
   have ec7:cutV (zs.map V.int) (some 5) (some 8)=((zs.drop 5).take 3).map V.int:=by
    have:=cut_nat zs 5 8
    rw [cutV_map]
    exact congrArg (List.map V.int) this
   have s7':=same_new hp7 (.lst (cutV (zs.map V.int) (some 5) (some 8)))
   refine ⟨_,rfl,_,_,rfl,.inl (s7'.seq (u6.seq hla)),_,_,xs.length,(by rw [el]; rfl),SqL.of (by rw [upd_same,ec7]),ok.cut 3 (by (first | decide | (show (0:Int) < _; first | decide | omega))),(by omega),fun sq H8' s s8' hs hso=>?_⟩
   refine ⟨_,rfl,le4,fun p8 hp8=>?_⟩
   have s9':=same_new hp8 (.tup [V.int (ls.getD n 0),V.bl kp,V.ref sq,V.ref fo])
   have t8:=s7'.trans (s8'.trans s9')
   have hwa8:=t8 _ _ hwa6
   have hra8':=t8 _ _ (t6' _ _ hra4)
   have hp8':(upd H8' p8 (.tup [V.int (ls.getD n 0),V.bl kp,V.ref sq,V.ref fo])) p8=some (.tup [V.int (ls.getD n 0),V.bl kp,V.ref sq,V.ref fo]):=upd_same
   have hs8:=s9'.tup hs
   generalize upd H8' p8 (.tup [V.int (ls.getD n 0),V.bl kp,V.ref sq,V.ref fo])=H9' at s9' t8 hwa8 hra8' hp8' hs8 ⊢
   refine ⟨_,_,_,rfl,rfl,hwa8,?_,?_⟩
   ·rw [List.length_map,hws4.1,hn]
    exact Nat.lt_of_lt_of_le (show n < 1000 by omega) (small (Nat.le_refl _))
   have nfo:fo≠ra∧fo≠wa:=⟨fun e=>(by rw [e,s5 _ _ hra4] at hfo; cases hfo),fun e=>(by rw [e,s5 _ _ hwa4] at hfo; cases hfo)⟩
   have wd8:WdAt K (erD H9' ra wa) p8 ⟨ls.getD n 0,kp,s,ss⟩:=⟨sq,fo,cs,erD_tup hra8' hwa8 (SqT.of hp8'),erD_tup hra8' hwa8 hs8,SqL.of (by rw [erD_at nfo.1 nfo.2]; exact t8 _ _ hfo6),(hb.same (s6.trans t8)).erD hra8' hwa8⟩
   have hws9:=(hws4.same (erD_mono (ra:=ra) (wa:=wa) (t6'.trans t8))).snoc wd8
   refine ⟨(u6.trans t8).put nwa,kvs4,was++[p8],ds++[⟨ls.getD n 0,kp,s,ss⟩],_,_,_,_,_,rfl,?_,?_,?_,?_,?_,fun t ht=>?_,fun d hd=>?_,fun t ht=>?_,fun t ht hk=>?_⟩
   ·rw [upd_ne nrw]; exact hra8'
   ·rw [upd_same,refs_snoc]
   ·rw [erD_put2]; exact hws9
   ·rw [List.length_append,hn]; rfl
   ·omega
   ·have:=rm4 t ht
    rw [List.length_append]
    show ∃ r:Int,_∧_∧r+pgS xs (ds++[⟨ls.getD n 0,kp,s,ss⟩]) (xAt xs t).1 (ds.length+1)≤_
    rw [pgS_snoc,hn]
    simp only
    rw [hl]
    exact this
   ·rcases List.mem_append.mp hd with hd | hd
    ·exact wo d hd
    ·rw [List.mem_singleton.mp hd]
     exact ⟨⟨(S.l n hi).1,(S.l n hi).2,hso,so,by show ss.length≤40; omega⟩,by show ss.length≤20; omega⟩
   ·rw [dAt_snoc,hn]
    by_cases c:t < n
    ·rw [if_pos c]; exact wl t c
    ·rw [List.length_append,hn] at ht
     have:t=n:=by simp at ht; omega
     rw [if_neg c,if_pos this,this]
   ·rw [List.length_append,hn] at ht
    rw [dAt_snoc,hn] at hk
    by_cases c:t+1 < n
    ·rw [if_pos c] at hk; exact wk t c hk
    ·have:t+1=n:=by simp at ht; omega
     rw [if_neg c,if_pos this] at hk
     have:=(hkp hk).2
     rw [show n - 1=t by omega] at this
     rw [show t+1=n by omega]
     exact this
  ·exact fun σ H2 h=>key σ H2 h
 rintro σ H2 ⟨s2,kvs,was,ds,v1,v2,v3,v4,v5,rfl,hra2,hwa2,hws,dl,kl,rm,wo,wl,wk⟩
 simp only [Int.toNat_natCast] at dl
 refine ⟨_,rfl,_,rfl,le4,fun p9 hp9=>?_⟩
 have s3:=same_new hp9 (.tup [V.int 200,V.int h,V.int f,V.int 60])
 refine ⟨_,rfl,le2,fun p10 hp10=>?_⟩
 have s4:=same_new hp10 (.tup [V.ref p9,V.ref wa])
 have hp9':SqT K (upd (upd H2 p9 (.tup [V.int 200,V.int h,V.int f,V.int 60])) p10 (.tup [V.ref p9,V.ref wa])) p9 (fm 200 h f 60):=s4.tup (SqT.of upd_same)
 have hp10':SqT K (upd (upd H2 p9 (.tup [V.int 200,V.int h,V.int f,V.int 60])) p10 (.tup [V.ref p9,V.ref wa])) p10 [.ref p9,.ref wa]:=SqT.of upd_same
 have s34:=s3.trans s4
 generalize upd (upd H2 p9 (.tup [V.int 200,V.int h,V.int f,V.int 60])) p10 (.tup [V.ref p9,V.ref wa])=H4 at s34 hp9' hp10' ⊢
 clear s3 s4
 have u4:=s2.trans s34
 have hw4:=s34.seq (K:=K) (SqL.of hwa2)
 have hws4:=(hws.same (erD_same H2 ra wa)).same s34
 have hlw4:LwAt K H4 la xs:=⟨as,u4.seq hla,px.same u4⟩
 have po:PlsOk h xs:=fun x hx=>by
  obtain ⟨k,hk,rfl⟩:=List.mem_iff_getElem.mp hx
  have:=S.r k hk
  rw [xAt_of (List.getElem?_eq_getElem hk)] at this
  exact ⟨this,by have:=x55 _ hx; omega⟩
 have wo':∀ d ∈ ds,WdOk ds.length d:=by rw [dl]; exact fun d hd=>(wo d hd).1
 have fo0:FormOk 200 h f 60:=⟨by decide,by decide,h1,h2,f0,f1,by decide,by decide⟩
 have B0:BkOk ⟨200,h,f,60⟩ ds xs:=⟨fo0,dl,wo',po,by omega⟩
 refine ⟨_,rfl,p10,la,⟨200,h,f,60⟩,ds,xs,rfl,⟨p9,wa,was,hp10',hp9',hw4,hws4⟩,hlw4,B0,fun W H5 s5 W1 W2 WA WF=>?_⟩
 have u5:=u4.trans s5
 have w5:=s34.trans s5
 refine ⟨_,rfl,_,_,(0:Nat),rfl,(t6.trans u5).seq hS,_,_,rfl,rfl,(by (first | decide | (show (0:Int) < _; first | decide | omega))),_,_,rfl,rfl,?_⟩
 have W2':W≤3718:=by omega
 have W3:W≤W+ns.getD 0 0 % 4∧W+ns.getD 0 0 % 4≤W+3:=by omega
 dsimp only [gName]
 generalize W+ns.getD 0 0 % 4=wd at W3 ⊢
 refine ⟨le1,fun p11 hp11=>?_⟩
 have s6':=same_new hp11 (.lst [V.int 0])
 have hp11':(upd H5 p11 (.lst [V.int 0])) p11=some (.lst [V.int 0]):=upd_same
 generalize upd H5 p11 (.lst [V.int 0])=H6' at s6' hp11' ⊢
 have u6:=u5.trans s6'
 refine ⟨_,rfl,_,rfl,⟨_,u6.seq hla⟩,lc_list (K:=K) (a:=la) (xs:=as.map V.ref) (fun i ys H7=>H7=H6'∧ys=((xs.take i).map Prod.fst).map V.int) ⟨rfl,rfl⟩ (fun i ys H7 _ h7=>by rw [h7.1]; exact u6.seq hla) ?_ ?_ ?_⟩
 ·rintro i ys H7 hi ⟨_,rfl⟩
  rw [List.length_map,List.length_map,List.length_take]
  exact Nat.lt_of_lt_of_le (show _ < 1000 by omega) (small (Nat.le_refl _))
 ·rintro i y ys H7 hi ⟨rfl,rfl⟩
  obtain ⟨a,rfl,ea⟩:=ref_at hi
  have hix:i < xs.length:=by rw [← px.1]; exact (List.getElem?_eq_some_iff.mp ea).1
  refine yes_go ?_
  refine ⟨_,rfl,_,_,_,_,rfl,rfl,u6.tup (px.2 i a _ ea (List.getElem?_eq_getElem hix)),rfl,rfl,?_⟩
  rw [take_snoc (List.getElem?_eq_getElem hix),List.map_append,List.map_append]
  rfl
 rintro ys H7 ⟨rfl,rfl⟩ p12 hp12
 rw [el,List.take_length]
 have s8':=same_new hp12 (.lst ((xs.map Prod.fst).map V.int))
 refine ⟨_,_,_,_,rfl,rfl,s8' _ _ hp11',upd_same,small (by simp; omega),fun p13 hp13=>?_⟩
 have s9':=same_new hp13 (.lst ([V.int 0]++(xs.map Prod.fst).map V.int))
 refine ⟨p13,[0]++xs.map Prod.fst,rfl,SqL.of (by rw [upd_same,List.map_append]; rfl),(by simp),fun mx hmx hall=>?_⟩
 have t9':=s6'.trans (s8'.trans s9')
 generalize upd (upd H7 p12 (.lst ((xs.map Prod.fst).map V.int))) p13 (.lst ([V.int 0]++(xs.map Prod.fst).map V.int))=H9' at t9' ⊢
 have mx0:=hall 0 (by simp)
 have mxa:∀ x ∈ xs,x.1≤mx:=fun x hx=>hall _ (List.mem_append_right _ (List.mem_map.mpr ⟨x,hx,rfl⟩))
 have mx55:mx≤55:=by
  rcases List.mem_append.mp hmx with e | e
  ·rw [List.mem_singleton.mp e]; decide
  ·obtain ⟨x,hx,rfl⟩:=List.mem_map.mp e
   exact x55 x hx
 have u9:=u5.trans t9'
 refine ⟨_,_,rfl,rfl,_,rfl,_,_,(3:Nat),rfl,(t6.trans u9).seq hS,_,_,rfl,rfl,(by (first | decide | (show (0:Int) < _; first | decide | omega))),_,_,rfl,rfl,?_⟩
 have P3:1+mx≤1+mx+ns.getD 3 0 % 3∧1+mx+ns.getD 3 0 % 3≤1+mx+2:=by omega
 dsimp only [gName]
 generalize 1+mx+ns.getD 3 0 % 3=pm at P3 ⊢
 refine ⟨_,rfl,_,rfl,_,rfl,_,rfl,le4,fun q1 hq1=>?_⟩
 refine ⟨_,rfl,le2,fun q2 hq2=>?_⟩
 refine ⟨_,rfl,le2,fun q3 hq3=>?_⟩
 have k1:=same_new hq1 (.tup [V.int wd,V.int h,V.int f,V.int pm])
 have k2:=same_new hq2 (.tup [V.ref q1,V.ref wa])
 have k3:=same_new hq3 (.tup [V.ref q2,V.ref la])
 have kk:=k1.trans (k2.trans k3)
 have uE:=u9.trans kk
 have wE:=w5.trans (t9'.trans kk)
 have fo:FormOk wd h f pm:=⟨by omega,by omega,h1,h2,f0,f1,by omega,by omega⟩
 have pgs:Pages pm xs:=fun x hx=>by have:=mxa x hx; omega
 have B:BkOk ⟨wd,h,f,pm⟩ ds xs:=⟨fo,dl,wo',po,by omega⟩
 refine q q3 q2 la ⟨wd,h,f,pm⟩ ds xs _ (t6.trans uE) (SqT.of upd_same) ⟨q1,wa,was,k3.tup (SqT.of upd_same),(k2.trans k3).tup (SqT.of upd_same),(t9'.trans kk).seq (s5.seq hw4),(hws4.same s5).same (t9'.trans kk)⟩ ⟨as,uE.seq hla,px.same uE⟩ B ?_ pgs (by omega) (by omega) (fun d hd=>(wo d hd).2) (by show wd≤3900; omega)
 refine borne_fix B pgs S (fun i hi=>wl i hi) (fun i j hi hj hn=>?_) (fun i hi s hs=>?_) (fun i hi=>?_) (fun i hi hk=>wk i hi hk)
 ·have:=WA i j hi hj hn
  show together (wides ⟨200,h,f,60⟩ ds xs j i)≤wd
  omega
 ·have:=WF i hi s hs
  show _≤wd
  have e:((saidL h f xs s).length:Int)≤W:=this
  show ((saidL h f xs s).length:Int)≤wd
  omega
 ·obtain ⟨r,_,r0,r1⟩:=rm i (by omega)
  show (xAt xs i).2+1+pgS xs ds (xAt xs i).1 ds.length≤h
  omega
def sp_l_elder (K:PySem.W.Frag) : Sp:=fun vs H Q _=>∃ (sa:Addr) (ns:List Int),vs=[.ref sa]∧SqL K H sa (ns.map V.int)∧∀ q H' w h f m ds,Same H H'→BkAt K H' q w h f m ds→FormOk w h f m→ds.length≤10→ds.length≤ns.length - 4→(∀ d ∈ ds,WdOk ds.length d)→(∀ d ∈ ds,d.foot.length≤20)→Q (.ref q) H'
theorem sc_l_elder:FnScope ["script","book","form","a"] ["script"] (defScope s_l_elder):=⟨rfl,rfl,rfl,by decide +kernel,rfl,by decide +kernel,by decide +kernel⟩
theorem ok_l_elder (T:Txt P w K mg a) : FnOk P w K mg base CX0 5 a.f_l_elder a.fd_l_elder ["script"] (sp_l_elder K):=by
 have g_l_book:=ok_l_book (P:=P) (w:=w) (base:=base) T
 have d_l_book:=T.d_l_book
 have g_l_borne:=ok_l_borne (P:=P) (w:=w) (base:=base) T
 have d_l_borne:=T.d_l_borne
 have g_l_cell_at:=ok_l_cell_at (P:=P) (w:=w) (base:=base) T
 have d_l_cell_at:=T.d_l_cell_at
 have g_l_stream:=ok_l_stream (P:=P) (w:=w) (base:=base) T
 have d_l_stream:=T.d_l_stream
 have z_min:=T.z_min
 refine T.d_l_elder.fn.ok sc_l_elder (fun vs H Q E h=>?_) (fun cdv A outer s H vs Q E hr h=>?_)
 ·obtain ⟨sa,ns,rfl,_⟩:=h
  rfl
 obtain ⟨sa,ns,rfl,hS,q⟩:=h
 have hu:=Nat.lt_of_succ_lt (hu_of hr)
 refine ⟨_,(pss_cons (ps_if (pt_cmpR op_eq (pe_op op_mod (pe_ix ix_list (pe_callD d_l_stream g_l_stream (hr.mono (by decide)) rfl (pa_cons (pe_callD d_l_cell_at g_l_cell_at (hr.mono (by decide)) rfl (pa_cons (pv 0) (pa_cons pe_int pa_nil))) (pa_cons pe_int pa_nil))) pe_int (fun _ _=>rfl)) pe_int) pe_int (nomark _)) (pss_one (ps_ret (pe_callD d_l_book g_l_book (hr.mono (by decide)) rfl (pa_cons (pv 0) (pa_cons pe_int pa_nil))))) pss_nil)
   (pss_cons (ps_set (i:=1) sc_l_elder.nd rfl (Or.inl rfl) (pe_ix ix_tup (pe_callD d_l_borne g_l_borne (hr.mono (by decide)) rfl (pa_cons (pv 0) (pa_cons pe_int pa_nil))) pe_int (fun _ _=>rfl)))
   (pss_cons (ps_set (i:=2) sc_l_elder.nd rfl (Or.inl rfl) (pe_ix ix_tup (pv 1) pe_int (fun _ _=>rfl)))
   (pss_cons (ps_set (i:=3) sc_l_elder.nd rfl (Or.inl rfl) (pe_op op_fdiv (pe_callD d_l_cell_at g_l_cell_at (hr.mono (by decide)) rfl (pa_cons (pv 0) (pa_cons pe_int pa_nil))) pe_int))
   (pss_one (ps_ret (pe_tup (pa_cons (pe_tup (pa_cons (pe_op op_add (pe_ix ix_tup (pv 2) pe_int (fun _ _=>rfl)) (pe_op op_mod (pv 3) pe_int)) (pa_cons (pe_callB (call_min2 rfl) rfl z_min PyProof.Rows.boot_min (pa_cons pe_int (pa_cons (pe_op op_add (pe_ix ix_tup (pv 2) pe_int (fun _ _=>rfl)) (pe_op op_mod (pe_op op_fdiv (pv 3) pe_int) pe_int)) pa_nil))) (pa_cons (pe_ix ix_tup (pv 2) pe_int (fun _ _=>rfl)) (pa_cons (pe_callB (call_min2 rfl) rfl z_min PyProof.Rows.boot_min (pa_cons pe_int (pa_cons (pe_op op_add (pe_ix ix_tup (pv 2) pe_int (fun _ _=>rfl)) (pe_op op_mod (pe_op op_fdiv (pv 3) pe_int) pe_int)) pa_nil))) pa_nil))))) (pa_cons (pe_ix ix_tup (pv 1) pe_int (fun _ _=>rfl)) pa_nil))))))))),?_⟩
 refine ⟨_,rfl,_,_,(0:Nat),rfl,hS,_,(1:Nat),rfl,by decide,fun xa H1 zs s1 nx hz ok=>?_⟩
 refine ⟨_,_,_,_,rfl,rfl,SqL.of hz,ok.at (k:=0) (by decide),_,_,rfl,rfl,(by (first | decide | (show (0:Int) < _; first | decide | omega))),rfl,_,rfl,?_⟩
 refine ite2 (fun c=>?_) (fun c=>?_)
 ·refine ⟨_,rfl,sa,ns,(10:Nat),rfl,s1.seq hS,by decide,fun bq H2 w h f m ds s2 hbk fo dl wd f20=>?_⟩
  exact q bq H2 w h f m ds (s1.trans s2) hbk fo (by rw [dl,List.length_take]; omega) (by rw [dl,List.length_take,List.length_drop]; omega) wd f20
 dsimp only [tNext]
 refine ⟨_,rfl,sa,ns,(10:Nat),rfl,s1.seq hS,by decide,fun dq bq la F ds xs H2 s2 hdq hbk hlw B fx pg dl dn f20 w39=>?_⟩
 refine ⟨_,_,_,_,rfl,rfl,hdq,rfl,?_⟩
 dsimp only [gName]
 obtain ⟨fa,wa,was,hb,hf,hw,hws⟩:=hbk
 refine ⟨_,rfl,_,_,_,_,rfl,rfl,hb,rfl,?_⟩
 dsimp only [gName]
 refine ⟨_,rfl,_,_,(0:Nat),rfl,(s1.trans s2).seq hS,_,_,rfl,rfl,⟨by decide,by decide⟩,?_⟩
 dsimp only [gName]
 generalize ns.getD 0 0 / 4=a
 have fo:=B.fo
 have w1:=fo.w1
 have h1:=fo.h1
 have m1:=fo.m1
 refine ⟨_,rfl,_,_,_,_,rfl,rfl,hf,rfl,_,rfl,_,_,rfl,rfl,(by (first | decide | (show (0:Int) < _; first | decide | omega))),_,_,rfl,rfl,_,rfl,_,_,_,_,rfl,rfl,hf,rfl,_,rfl,_,_,rfl,rfl,⟨by decide,by decide⟩,_,_,rfl,rfl,(by (first | decide | (show (0:Int) < _; first | decide | omega))),_,_,rfl,rfl,_,_,rfl,_,rfl,_,_,_,_,rfl,rfl,hf,rfl,_,rfl,_,_,_,_,rfl,rfl,hf,rfl,_,rfl,_,_,rfl,rfl,⟨by decide,by decide⟩,_,_,rfl,rfl,(by (first | decide | (show (0:Int) < _; first | decide | omega))),_,_,rfl,rfl,_,_,rfl,le4,fun p1 hp1=>?_⟩
 have s3:=same_new hp1 (.tup [V.int (F.w+a % 6),V.int (if F.h+a / 6 % 3 < 60 then F.h+a / 6 % 3 else 60),V.int F.f,V.int (if F.m+a / 18 % 7 < 60 then F.m+a / 18 % 7 else 60)])
 refine ⟨_,rfl,_,_,_,_,rfl,rfl,s3.tup hb,rfl,le2,fun p2 hp2=>?_⟩
 have s4:=same_new hp2 (.tup [V.ref p1,V.ref wa])
 have fo2:FormOk (F.w+a % 6) (if F.h+a / 6 % 3 < 60 then F.h+a / 6 % 3 else 60) F.f (if F.m+a / 18 % 7 < 60 then F.m+a / 18 % 7 else 60):=⟨by omega,by omega,by split <;> omega,by split <;> omega,fo.f1,fo.f2,by split <;> omega,by split <;> omega⟩
 exact q p2 _ _ _ _ _ ds (s1.trans (s2.trans (s3.trans s4))) ⟨p1,wa,was,SqT.of upd_same,s4.tup (SqT.of upd_same),(s3.trans s4).seq hw,hws.same (s3.trans s4)⟩ fo2 dl dn B.wd f20
def sp_l_whole:Sp:=fun vs H Q _=>∃ i:Int,vs=[.int i]∧Q (.bl true) H
theorem sc_l_whole:FnScope ["found"] ["found"] (defScope s_l_whole):=⟨rfl,rfl,rfl,by decide +kernel,rfl,by decide +kernel,by decide +kernel⟩
theorem ok_l_whole (T:Txt P w K mg a) : FnOk P w K mg base CX0 1 a.f_l_whole a.fd_l_whole ["found"] sp_l_whole:=by
 have z_bool:=T.z_bool
 have z_int:=T.z_int
 have z_isinstance:=T.z_isinstance
 refine T.d_l_whole.fn.ok sc_l_whole (fun vs H Q E h=>?_) (fun cdv A outer s H vs Q E hr h=>?_)
 ·obtain ⟨i,rfl,_⟩:=h
  rfl
 obtain ⟨i,rfl,q⟩:=h
 have hu:=Nat.lt_of_succ_lt (hu_of hr)
 refine ⟨_,(pss_one (ps_ret (pe_and (pe_callB call_isi rfl z_isinstance PyProof.Rows.boot_isinstance (pa_cons (pv 0) (pa_cons (pe_bltn (v:=.ty "int") rfl z_int PyProof.Rows.boot_int rfl) pa_nil))) (pe_one (pe_not (pe_callB call_isi rfl z_isinstance PyProof.Rows.boot_isinstance (pa_cons (pv 0) (pa_cons (pe_bltn (v:=.ty "bool") rfl z_bool PyProof.Rows.boot_bool rfl) pa_nil)))))))),?_⟩
 refine ⟨_,rfl,_,"int",true,rfl,(by (first | decide | (show (0:Int) < _; first | decide | omega))),rfl,_,rfl,?_⟩
 refine iteT ?_
 exact ⟨_,rfl,_,"bool",false,rfl,(by (first | decide | (show (0:Int) < _; first | decide | omega))),rfl,_,rfl,q⟩
def sp_l_place (K:PySem.W.Frag) : Sp:=fun vs H Q _=>∃ (a:Addr) (x:Int × Int),vs=[.ref a]∧SqT K H a (pl x)∧∀ H',Same H H'→Q (.bl true) H'
theorem sc_l_place:FnScope ["found"] ["found"] (defScope s_l_place):=⟨rfl,rfl,rfl,by decide +kernel,rfl,by decide +kernel,by decide +kernel⟩
theorem ok_l_place (T:Txt P w K mg a) : FnOk P w K mg base CX0 2 a.f_l_place a.fd_l_place ["found"] (sp_l_place K):=by
 have g_l_whole:=ok_l_whole (P:=P) (w:=w) (base:=base) T
 have d_l_whole:=T.d_l_whole
 have z_isinstance:=T.z_isinstance
 have z_len:=T.z_len
 have z_tuple:=T.z_tuple
 refine T.d_l_place.fn.ok sc_l_place (fun vs H Q E h=>?_) (fun cdv A outer s H vs Q E hr h=>?_)
 ·obtain ⟨a,x,rfl,_⟩:=h
  rfl
 obtain ⟨a,x,rfl,hx,q⟩:=h
 have hu:=Nat.lt_of_succ_lt (hu_of hr)
 refine ⟨_,(pss_one (ps_ret (pe_and (pe_callB call_isi rfl z_isinstance PyProof.Rows.boot_isinstance (pa_cons (pv 0) (pa_cons (pe_bltn (v:=.ty "tuple") rfl z_tuple PyProof.Rows.boot_tuple rfl) pa_nil))) (pe_and (pe_cmpR op_eq (pe_callB call_len_seq rfl z_len PySem.boot_len (pa_cons (pv 0) pa_nil)) pe_int (nomark _)) (pe_and (pe_callD d_l_whole g_l_whole (hr.mono (by decide)) rfl (pa_cons (pe_ix ix_tup (pv 0) pe_int (fun _ _=>rfl)) pa_nil)) (pe_one (pe_callD d_l_whole g_l_whole (hr.mono (by decide)) rfl (pa_cons (pe_ix ix_tup (pv 0) pe_int (fun _ _=>rfl)) pa_nil)))))))),?_⟩
 refine ⟨_,rfl,_,"tuple",true,rfl,(by decide),.inr ⟨⟨_,hx⟩,rfl⟩,_,rfl,?_⟩
 refine iteT ?_
 refine ⟨_,rfl,_,_,rfl,.inr hx,rfl,_,rfl,?_⟩
 refine iteT ?_
 refine ⟨_,rfl,_,_,_,_,rfl,rfl,hx,rfl,_,rfl,_,rfl,?_⟩
 refine iteT ?_
 exact ⟨_,rfl,_,_,_,_,rfl,rfl,hx,rfl,_,rfl,q _ (Same.refl _)⟩
def sp_l_laid (K:PySem.W.Frag) : Sp:=fun vs H Q _=>∃ (la:Addr) (as:List Addr) (xs:List (Int × Int)),vs=[.ref la,.int (as.length:Int)]∧SqL K H la (as.map V.ref)∧PlsA K H as xs∧as.length≤400∧∀ H',Same H H'→Q (.bl true) H'
theorem sc_l_laid:FnScope ["found","many"] ["found","many"] (defScope s_l_laid):=⟨rfl,rfl,rfl,by decide +kernel,rfl,by decide +kernel,by decide +kernel⟩
theorem ok_l_laid (T:Txt P w K mg a) : FnOk P w K mg base CX0 3 a.f_l_laid a.fd_l_laid ["found","many"] (sp_l_laid K):=by
 have g_l_place:=ok_l_place (P:=P) (w:=w) (base:=base) T
 have d_l_place:=T.d_l_place
 have z_isinstance:=T.z_isinstance
 have z_len:=T.z_len
 have z_list:=T.z_list
 refine T.d_l_laid.fn.ok sc_l_laid (fun vs H Q E h=>?_) (fun cdv A outer s H vs Q E hr h=>?_)
 ·obtain ⟨la,as,xs,rfl,_⟩:=h
  rfl
 obtain ⟨la,as,xs,rfl,hla,pxs,a60,q⟩:=h
 have hu:=Nat.lt_of_succ_lt (hu_of hr)
 refine ⟨_,(pss_cons (ps_if (PW.pt (pw_or (pt_not (pt_val (pe_callB call_isi rfl z_isinstance PyProof.Rows.boot_isinstance (pa_cons (pv 0) (pa_cons (pe_bltn (v:=.ty "list") rfl z_list PyProof.Rows.boot_list rfl) pa_nil))) (fun _=>rfl))) (pw_or1 (pt_cmpR op_ne (pe_callB call_len_seq rfl z_len PySem.boot_len (pa_cons (pv 0) pa_nil)) (pv 1) (nomark _))))) (pss_one (ps_ret pe_bl)) pss_nil)
   (pss_one (ps_ret (pe_cmpR op_notIn_seq pe_bl (pe_lc rfl (lcok (caps:=[]) (js:=[]) (cap:=trivial)) (pi_list (pv 0)) (fun _ _ _ _=>pts_nil) (fun _ _ _ _=>(pe_callD d_l_place g_l_place (hr.mono (by decide)) rfl (pa_cons (pv 0) pa_nil)))) (by with_unfolding_all rfl))))),?_⟩
 refine ⟨_,rfl,_,"list",true,rfl,(by (first | decide | (show (0:Int) < _; first | decide | omega))),.inl ⟨⟨_,hla⟩,rfl⟩,_,rfl,?_⟩
 refine iteF ?_
 refine ⟨_,rfl,_,_,rfl,.inl hla,_,rfl,rfl,_,rfl,?_⟩
 refine iteNS (by rw [List.length_map]) ?_
 dsimp only [tNext]
 refine ⟨_,rfl,_,rfl,⟨_,hla⟩,lc_list (K:=K) (a:=la) (xs:=as.map V.ref) (fun i ys H2=>Same H H2∧ys=(List.replicate i true).map V.bl) ⟨Same.refl _,rfl⟩ (fun i ys H2 _ h2=>h2.1.seq hla) ?_ ?_ ?_⟩
 ·rintro i ys H2 hi ⟨_,rfl⟩
  rw [List.length_map] at hi
  rw [List.length_map,List.length_replicate]
  exact Nat.lt_of_lt_of_le (show i < 1000 by omega) (small (Nat.le_refl _))
 ·rintro i y ys H2 hi ⟨s2,rfl⟩
  rw [List.getElem?_map] at hi
  cases ea:as[i]? with
  | none=>rw [ea] at hi; cases hi
  | some a =>
   rw [ea] at hi
   cases hi
   have hil:i < xs.length:=by rw [← pxs.1]; exact (List.getElem?_eq_some_iff.mp ea).1
   refine yes_go ?_
   refine ⟨_,rfl,a,xs[i],rfl,s2.tup (pxs.2 i a _ ea (List.getElem?_eq_getElem hil)),fun H3 s3=>⟨s2.trans s3,?_⟩⟩
   rw [List.replicate_succ',List.map_append]
   rfl
 rintro ys H2 ⟨s2,rfl⟩ p hp
 have s3:=same_new hp (.lst ((List.replicate (as.map V.ref).length true).map V.bl))
 refine ⟨p,_,rfl,.inl (SqL.of upd_same),rfl,?_,?_⟩
 ·rw [List.all_eq_true]
  intro x hx
  obtain ⟨b,_,rfl⟩:=List.mem_map.mp hx
  rfl
 ·have e:inV (.bl false) ((List.replicate (as.map V.ref).length true).map V.bl)=false:=by
   generalize (as.map V.ref).length=n
   induction n with
   | zero=>rfl
   | succ n ih =>
    rw [List.replicate_succ,List.map_cons]
    exact ih
  rw [if_pos rfl,e]
  exact q _ (s2.trans s3)
def sp_l_moved_saying (K:PySem.W.Frag) : Sp:=fun vs H Q _=>∃ (a:Addr) (s:Say) (at_ r:Nat),vs=[.ref a,.int (at_:Int),.int (r:Int)]∧SqT K H a (sayV s)∧∀ q H',Same H H'→SqT K H' q (sayV (mvSay at_ r s))→Q (.ref q) H'
theorem sc_l_moved_saying:FnScope ["saying","at","many"] ["saying","at","many"] (defScope s_l_moved_saying):=⟨rfl,rfl,rfl,by decide +kernel,rfl,by decide +kernel,by decide +kernel⟩
theorem ok_l_moved_saying (T:Txt P w K mg a) : FnOk P w K mg base CX0 1 a.f_l_moved_saying a.fd_l_moved_saying ["saying","at","many"] (sp_l_moved_saying K):=by
 refine T.d_l_moved_saying.fn.ok sc_l_moved_saying (fun vs H Q E h=>?_) (fun cdv A outer s H vs Q E hr h=>?_)
 ·obtain ⟨a,s,at_,r,rfl,_⟩:=h
  rfl
 obtain ⟨a,s,at_,r,rfl,ha,q⟩:=h
 have hu:=Nat.lt_of_succ_lt (hu_of hr)
 refine ⟨_,(pss_cons (ps_if (PW.pt (pw_and (pt_cmpR op_ne (pe_ix ix_tup (pv 0) pe_int (fun _ _=>rfl)) pe_str (nomark _)) (pw_and1 (pt_cmpR op_ge (pe_ix ix_tup (pv 0) pe_int (fun _ _=>rfl)) (pv 1) (nomark _))))) (pss_one (ps_ret (pe_tup (pa_cons (pe_ix ix_tup (pv 0) pe_int (fun _ _=>rfl)) (pa_cons (pe_op op_add (pe_ix ix_tup (pv 0) pe_int (fun _ _=>rfl)) (pv 2)) pa_nil))))) pss_nil)
   (pss_one (ps_ret (pv 0)))),?_⟩
 cases s with
 | text l =>
  refine ⟨_,rfl,_,_,_,_,rfl,rfl,ha,rfl,rfl,_,rfl,?_⟩
  rw [decide_eq_true rfl]
  refine iteF (iteF ?_)
  exact ⟨_,rfl,q a H (Same.refl _) ha⟩
 | page k =>
  refine ⟨_,rfl,_,_,_,_,rfl,rfl,ha,rfl,rfl,_,rfl,?_⟩
  rw [decide_eq_false (fun z=>ne_tp (V.str.inj z))]
  refine iteT ?_
  refine ⟨_,rfl,_,_,_,_,rfl,rfl,ha,rfl,_,rfl,_,_,rfl,rfl,_,rfl,?_⟩
  refine ite2 (fun c=>?_) (fun c=>?_)
  ·have c':¬ k < at_:=by
    have:(at_:Int)≤(k:Int):=of_decide_eq_true c
    omega
   refine ⟨_,rfl,_,_,_,_,rfl,rfl,ha,rfl,_,rfl,_,_,_,_,rfl,rfl,ha,rfl,_,rfl,_,_,rfl,rfl,le2,fun p hp=>?_⟩
   refine q p _ (same_new hp _) (SqT.of ?_)
   rw [upd_same]
   show some (HO.tup [V.str (PySem.Str.ofString "page"),V.int ((k:Int)+(r:Int))])=some (HO.tup [V.str (PySem.Str.ofString "page"),V.int ((gI at_ r k:Nat) : Int)])
   have e:((gI at_ r k:Nat) : Int)=(k:Int)+(r:Int):=by unfold gI; rw [if_neg c']; omega
   rw [e]
  ·have c':k < at_:=by
    have:¬ (at_:Int)≤(k:Int):=fun z=>c (decide_eq_true z)
    omega
   have e:mvSay at_ r (.page k) = .page k:=by show Say.page (gI at_ r k)=_; unfold gI; rw [if_pos c']
   exact ⟨_,rfl,q a H (Same.refl _) (by rw [e]; exact ha)⟩
 | row k =>
  refine ⟨_,rfl,_,_,_,_,rfl,rfl,ha,rfl,rfl,_,rfl,?_⟩
  rw [decide_eq_false (fun z=>ne_tr (V.str.inj z))]
  refine iteT ?_
  refine ⟨_,rfl,_,_,_,_,rfl,rfl,ha,rfl,_,rfl,_,_,rfl,rfl,_,rfl,?_⟩
  refine ite2 (fun c=>?_) (fun c=>?_)
  ·have c':¬ k < at_:=by
    have:(at_:Int)≤(k:Int):=of_decide_eq_true c
    omega
   refine ⟨_,rfl,_,_,_,_,rfl,rfl,ha,rfl,_,rfl,_,_,_,_,rfl,rfl,ha,rfl,_,rfl,_,_,rfl,rfl,le2,fun p hp=>?_⟩
   refine q p _ (same_new hp _) (SqT.of ?_)
   rw [upd_same]
   show some (HO.tup [V.str (PySem.Str.ofString "row"),V.int ((k:Int)+(r:Int))])=some (HO.tup [V.str (PySem.Str.ofString "row"),V.int ((gI at_ r k:Nat) : Int)])
   have e:((gI at_ r k:Nat) : Int)=(k:Int)+(r:Int):=by unfold gI; rw [if_neg c']; omega
   rw [e]
  ·have c':k < at_:=by
    have:¬ (at_:Int)≤(k:Int):=fun z=>c (decide_eq_true z)
    omega
   have e:mvSay at_ r (.row k) = .row k:=by show Say.row (gI at_ r k)=_; unfold gI; rw [if_pos c']
   exact ⟨_,rfl,q a H (Same.refl _) (by rw [e]; exact ha)⟩
def sp_l_moved (K:PySem.W.Frag) : Sp:=fun vs H Q _=>∃ (a:Addr) (d:Wd) (at_ r:Nat),vs=[.ref a,.int (at_:Int),.int (r:Int)]∧WdAt K H a d∧d.foot.length≤40∧∀ q H',Same H H'→WdAt K H' q (mvW at_ r d)→Q (.ref q) H'
theorem sc_l_moved:FnScope ["word","at","many","foot"] ["word","at","many"] (defScope s_l_moved):=⟨rfl,rfl,rfl,by decide +kernel,rfl,by decide +kernel,by decide +kernel⟩
theorem ok_l_moved (T:Txt P w K mg a) : FnOk P w K mg base CX0 2 a.f_l_moved a.fd_l_moved ["word","at","many"] (sp_l_moved K):=by
 have g_l_moved_saying:=ok_l_moved_saying (P:=P) (w:=w) (base:=base) T
 have d_l_moved_saying:=T.d_l_moved_saying
 refine T.d_l_moved.fn.ok sc_l_moved (fun vs H Q E h=>?_) (fun cdv A outer s H vs Q E hr h=>?_)
 ·obtain ⟨a,d,at_,r,rfl,_⟩:=h
  rfl
 obtain ⟨a,d,at_,r,rfl,ha,f40,q⟩:=h
 have hu:=Nat.lt_of_succ_lt (hu_of hr)
 refine ⟨_,(pss_cons (ps_lc (k:=3) rfl (lcok (caps:=["at","many"]) (js:=[1,2]) (cap:=⟨⟨rfl,.inl rfl,rfl,.inl rfl⟩,⟨⟨rfl,.inl rfl,rfl,.inl rfl⟩,trivial⟩⟩)) (pi_list (pe_ix ix_tup (pv 0) pe_int (fun _ _=>rfl))) (fun _ _ _ _=>pts_nil) (fun _ _ _ _=>(pe_callD d_l_moved_saying g_l_moved_saying (hr.mono (by decide)) rfl (pa_cons (pv 0) (pa_cons (pv 1) (pa_cons (pv 2) pa_nil))))) sc_l_moved.nd rfl rfl)
   (pss_one (ps_ret (pe_tup (pa_cons (pe_ix ix_tup (pv 0) pe_int (fun _ _=>rfl)) (pa_cons (pe_ix ix_tup (pv 0) pe_int (fun _ _=>rfl)) (pa_cons (pe_callD d_l_moved_saying g_l_moved_saying (hr.mono (by decide)) rfl (pa_cons (pe_ix ix_tup (pv 0) pe_int (fun _ _=>rfl)) (pa_cons (pv 1) (pa_cons (pv 2) pa_nil)))) (pa_cons (pv 3) pa_nil)))))))),?_⟩
 obtain ⟨sa,fo,bs,h1,h2,h3,h4⟩:=ha
 refine ⟨_,rfl,_,_,_,_,rfl,rfl,h1,rfl,_,rfl,⟨_,h3⟩,lc_list (K:=K) (a:=fo) (xs:=bs.map V.ref) (fun i ys H2=>Same H H2∧∃ cs:List Addr,ys=cs.map V.ref∧SaysA K H2 cs ((d.foot.take i).map (mvSay at_ r))) ⟨Same.refl _,[],rfl,SaysA.nil⟩ (fun i ys H2 _ g=>g.1.seq h3) ?_ ?_ ?_⟩
 ·rintro i ys H2 hi ⟨_,cs,rfl,hc⟩
  rw [List.length_map,hc.1,List.length_map,List.length_take]
  exact Nat.lt_of_lt_of_le (show _ < 1000 by omega) (small (Nat.le_refl _))
 ·rintro i y ys H2 hi ⟨s2,cs,rfl,hc⟩
  obtain ⟨b,s,rfl,eb,es⟩:=foot_at h4.1 hi
  refine yes_go ?_
  refine ⟨_,rfl,_,rfl,_,rfl,b,s,at_,r,rfl,s2.tup (h4.2 i b s eb es),fun q1 H3 s3 hq1=>?_⟩
  refine ⟨s2.trans s3,cs++[q1],refs_snoc _ _,?_⟩
  rw [take_snoc es,List.map_append]
  exact (hc.same s3).app (SaysA.one hq1)
 rintro ys H2 ⟨s2,cs,rfl,hc⟩ p hp
 rw [List.length_map,h4.1,List.take_length] at hc
 have s3:=same_new hp (.lst (cs.map V.ref))
 have hp3:(upd H2 p (.lst (cs.map V.ref))) p=some (.lst (cs.map V.ref)):=upd_same
 generalize upd H2 p (.lst (cs.map V.ref))=H3 at s3 hp3 ⊢
 dsimp only [gName]
 have t3:=s2.trans s3
 refine ⟨_,rfl,_,_,_,_,rfl,rfl,t3.tup h1,rfl,_,rfl,_,_,_,_,rfl,rfl,t3.tup h1,rfl,_,rfl,_,_,_,_,rfl,rfl,t3.tup h1,rfl,_,rfl,_,rfl,sa,d.say,at_,r,rfl,t3.tup h2,fun q1 H4 s4 hq1=>?_⟩
 refine ⟨_,rfl,le4,fun p5 hp5=>?_⟩
 have s5:=same_new hp5 (.tup [V.int d.lead,V.bl d.kept,V.ref q1,V.ref p])
 exact q p5 _ (t3.trans (s4.trans s5)) ⟨q1,p,cs,SqT.of upd_same,s5.tup hq1,SqL.of ((s4.trans s5) _ _ hp3),hc.same (s3.trans (s4.trans s5))⟩
def sp_l_put_in (K:PySem.W.Frag) : Sp:=fun vs H Q _=>∃ (ba ra:Addr) (at_:Nat) (ras:List Addr) (w h f m:Int) (ds rs:List Wd),vs=[.ref ba,.int (at_:Int),.ref ra]∧BkAt K H ba w h f m ds∧SqL K H ra (ras.map V.ref)∧WdsA K H ras rs∧at_≤ds.length∧ds.length≤60∧rs.length≤60∧(∀ d ∈ ds,d.foot.length≤40)∧∀ q H',Same H H'→BkAt K H' q w h f m (putIn at_ ds rs)→Q (.ref q) H'
theorem sc_l_put_in:FnScope ["book","at","run","row","kept","middle"] ["book","at","run"] (defScope s_l_put_in):=⟨rfl,rfl,rfl,by decide +kernel,rfl,by decide +kernel,by decide +kernel⟩
theorem ok_l_put_in (T:Txt P w K mg a) : FnOk P w K mg base CX0 3 a.f_l_put_in a.fd_l_put_in ["book","at","run"] (sp_l_put_in K):=by
 have g_l_moved:=ok_l_moved (P:=P) (w:=w) (base:=base) T
 have d_l_moved:=T.d_l_moved
 have z_len:=T.z_len
 refine T.d_l_put_in.fn.ok sc_l_put_in (fun vs H Q E h=>?_) (fun cdv A outer s H vs Q E hr h=>?_)
 ·obtain ⟨ba,ra,at_,ras,w,h,f,m,ds,rs,rfl,_⟩:=h
  rfl
 obtain ⟨ba,ra,at_,ras,w,h,f,m,ds,rs,rfl,hbk,hra,hrs,al,d60,r60,f40,q⟩:=h
 have hu:=Nat.lt_of_succ_lt (hu_of hr)
 refine ⟨_,(pss_cons (ps_lc (k:=3) rfl (lcok (caps:=["at","run"]) (js:=[1,2]) (cap:=⟨⟨rfl,.inl rfl,rfl,.inl rfl⟩,⟨⟨rfl,.inl rfl,rfl,.inl rfl⟩,trivial⟩⟩)) (pi_list (pe_ix ix_tup (pv 0) pe_int (fun _ _=>rfl))) (fun _ _ _ _=>pts_nil) (fun _ _ _ _=>(pe_callD d_l_moved g_l_moved (hr.mono (by decide)) rfl (pa_cons (pv 0) (pa_cons (pv 1) (pa_cons (pe_callB (r:=rLen K) call_len_seq rfl z_len PySem.boot_len (pa_cons (pv 2) pa_nil)) pa_nil))))) sc_l_put_in.nd rfl rfl)
   (pss_cons (ps_set (i:=4) sc_l_put_in.nd rfl (Or.inr rfl) (pe_and (pe_cmpR op_lt (pv 1) (pe_callB call_len_seq rfl z_len PySem.boot_len (pa_cons (pv 3) pa_nil)) (nomark _)) (pe_one (pe_ix ix_tup (pe_ix ix_list (pv 3) (pv 1) (fun _ _=>rfl)) pe_int (fun _ _=>rfl)))))
   (pss_cons (ps_lc (k:=5) rfl (lcok (caps:=["kept"]) (js:=[4]) (cap:=⟨⟨rfl,.inl rfl,rfl,.inl rfl⟩,trivial⟩)) (pi_list (pv 2)) (fun _ _ _ _=>pts_nil) (fun _ _ _ _=>(pe_tup (pa_cons (pe_ix (r:=rIxT K) ix_tup (pv 0) pe_int (fun _ _=>rfl)) (pa_cons (pe_or (pe_ix (r:=rIxT K) ix_tup (pv 0) pe_int (fun _ _=>rfl)) (pe_one (pv 1))) (pa_cons (pe_ix (r:=rIxT K) ix_tup (pv 0) pe_int (fun _ _=>rfl)) (pa_cons (pe_ix (r:=rIxT K) ix_tup (pv 0) pe_int (fun _ _=>rfl)) pa_nil)))))) sc_l_put_in.nd rfl rfl)
   (pss_one (ps_ret (pe_tup (pa_cons (pe_ix ix_tup (pv 0) pe_int (fun _ _=>rfl)) (pa_cons (pe_op op_cat (pe_op op_cat (pe_slice sl_list (pv 3) po_none (po_some (pv 1))) (pv 5)) (pe_slice sl_list (pv 3) (po_some (pv 1)) po_none)) pa_nil)))))))),?_⟩
 obtain ⟨fa,wa,was,hb,hf,hw,hws⟩:=hbk
 have er:(ras.map V.ref).length=rs.length:=by rw [List.length_map,hrs.1]
 refine ⟨_,rfl,_,_,_,_,rfl,rfl,hb,rfl,_,rfl,⟨_,hw⟩,lc_list (K:=K) (a:=wa) (xs:=was.map V.ref) (fun i ys H2=>Same H H2∧∃ bs:List Addr,ys=bs.map V.ref∧WdsA K H2 bs ((ds.take i).map (mvW at_ rs.length))) ⟨Same.refl _,[],rfl,WdsA.nil⟩ (fun i ys H2 _ g=>g.1.seq hw) ?_ ?_ ?_⟩
 ·rintro i ys H2 hi ⟨_,bs,rfl,hc⟩
  rw [List.length_map,hc.1,List.length_map,List.length_take]
  exact Nat.lt_of_lt_of_le (show _ < 1000 by omega) (small (Nat.le_refl _))
 ·rintro i y ys H2 hi ⟨s2,bs,rfl,hc⟩
  obtain ⟨b,d,rfl,eb,ed⟩:=wd_at hws.1 hi
  refine yes_go ?_
  refine ⟨_,rfl,_,rfl,_,rfl,_,_,rfl,.inl (s2.seq hra),b,d,at_,rs.length,(by rw [er]; rfl),(hws.2 i b d eb ed).same s2,f40 d (List.mem_of_getElem? ed),fun q1 H3 s3 hq1=>?_⟩
  refine ⟨s2.trans s3,bs++[q1],refs_snoc _ _,?_⟩
  rw [take_snoc ed,List.map_append]
  exact (hc.same s3).snoc hq1
 rintro ys H2 ⟨s2,bs,rfl,hc⟩ rw_ hrw
 rw [List.length_map,hws.1,List.take_length] at hc
 have s3:=same_new hrw (.lst (bs.map V.ref))
 have hrw3:(upd H2 rw_ (.lst (bs.map V.ref))) rw_=some (.lst (bs.map V.ref)):=upd_same
 generalize upd H2 rw_ (.lst (bs.map V.ref))=H3 at s3 hrw3 ⊢
 dsimp only [gName]
 have t3:=s2.trans s3
 have hc3:=hc.same s3
 have eb:(bs.map V.ref).length=ds.length:=by rw [List.length_map,hc.1,List.length_map]
 refine cut_seq (fun σ' H'=>H' = H3∧σ' = [some (.ref ba),some (.int (at_:Int)),some (.ref ra),some (.ref rw_),some (.bl (decide (at_ < ds.length) && (dAt ds at_).kept)),none]) ?_ (fun key=>?_)
 rotate_left
 ·refine ⟨_,rfl,_,rfl,_,_,rfl,.inl (SqL.of hrw3),_,_,rfl,rfl,_,rfl,?_⟩
  rw [eb]
  refine ite2 (fun c=>?_) (fun c=>?_)
  ·have c':at_ < ds.length:=by
    have:(at_:Int) < (ds.length:Int):=of_decide_eq_true c
    omega
   obtain ⟨wo,eo,sa,fo,cs,g1,g2,g3,g4⟩:=hc3.get (show at_ < (ds.map (mvW at_ rs.length)).length by rw [List.length_map]; exact c')
   refine ⟨_,rfl,_,rfl,_,_,_,_,rfl,rfl,SqL.of hrw3,eo,_,_,_,_,rfl,rfl,g1,rfl,?_⟩
   refine key _ _ ⟨rfl,?_⟩
   have e:(dAt (ds.map (mvW at_ rs.length)) at_).kept=(dAt ds at_).kept:=by
    show ((ds.map (mvW at_ rs.length)).getD at_ wd0).kept=(ds.getD at_ wd0).kept
    rw [List.getD_eq_getElem?_getD,List.getElem?_map,List.getD_eq_getElem?_getD,List.getElem?_eq_getElem c']
    rfl
   rw [decide_eq_true c',Bool.true_and,← e]
   rfl
  ·have c':¬ at_ < ds.length:=fun z=>c (decide_eq_true (by omega))
   refine key _ _ ⟨rfl,?_⟩
   rw [decide_eq_false c',Bool.false_and]
   rfl
 rintro σ' H' ⟨rfl,rfl⟩
 generalize hkb:(decide (at_ < ds.length) && (dAt ds at_).kept)=kb
 refine ⟨_,rfl,_,rfl,⟨_,t3.seq hra⟩,lc_list (K:=K) (a:=ra) (xs:=ras.map V.ref) (fun i ys H2=>Same H' H2∧∃ cs:List Addr,ys=cs.map V.ref∧WdsA K H2 cs ((rs.take i).map (kpW kb))) ⟨Same.refl _,[],rfl,WdsA.nil⟩ (fun i ys H2 _ g=>g.1.seq (t3.seq hra)) ?_ ?_ ?_⟩
 ·rintro i ys H2 hi ⟨_,cs,rfl,hc⟩
  rw [List.length_map,hc.1,List.length_map,List.length_take]
  exact Nat.lt_of_lt_of_le (show _ < 1000 by omega) (small (Nat.le_refl _))
 ·rintro i y ys H2 hi ⟨s4,cs,rfl,hc⟩
  obtain ⟨b,d,rfl,eb',ed⟩:=wd_at hrs.1 hi
  obtain ⟨sa,fo,es,g1,g2,g3,g4⟩:=(hrs.2 i b d eb' ed).same (t3.trans s4)
  refine yes_go ?_
  refine ⟨_,rfl,_,_,_,_,rfl,rfl,g1,rfl,_,rfl,_,_,_,_,rfl,rfl,g1,rfl,_,rfl,?_⟩
  have fin:∀ (v:Bool),v=(d.kept || kb)→∀ p1,H2 p1=none→(fun i ys H2=>Same H' H2∧∃ cs:List Addr,ys=cs.map V.ref∧WdsA K H2 cs ((rs.take i).map (kpW kb))) (i+1) (cs.map V.ref++[V.ref p1]) (upd H2 p1 (.tup [V.int d.lead,V.bl v,V.ref sa,V.ref fo])):=fun v ev p1 hp1=>by
   have s5:=same_new hp1 (.tup [V.int d.lead,V.bl v,V.ref sa,V.ref fo])
   refine ⟨s4.trans s5,cs++[p1],refs_snoc _ _,?_⟩
   rw [take_snoc ed,List.map_append]
   refine (hc.same s5).snoc ⟨sa,fo,es,?_,s5.tup g2,s5.seq g3,g4.same s5⟩
   show SqT K _ p1 [V.int d.lead,V.bl (d.kept || kb),V.ref sa,V.ref fo]
   rw [← ev]
   exact SqT.of upd_same
  cases kt:d.kept with
  | true =>
   refine iteT ?_
   exact ⟨_,rfl,_,_,_,_,rfl,rfl,g1,rfl,_,rfl,_,_,_,_,rfl,rfl,g1,rfl,le4,fun p1 hp1=>fin true (by rw [kt]; rfl) p1 hp1⟩
  | false =>
   refine iteF ?_
   exact ⟨_,rfl,_,rfl,_,_,_,_,rfl,rfl,g1,rfl,_,rfl,_,_,_,_,rfl,rfl,g1,rfl,le4,fun p1 hp1=>fin kb (by rw [kt]; rfl) p1 hp1⟩
 rintro ys H4 ⟨s4,cs,rfl,hm⟩ md hmd
 rw [List.length_map,hrs.1,List.take_length] at hm
 have s5:=same_new hmd (.lst (cs.map V.ref))
 have hmd5:(upd H4 md (.lst (cs.map V.ref))) md=some (.lst (cs.map V.ref)):=upd_same
 generalize upd H4 md (.lst (cs.map V.ref))=H5 at s5 hmd5 ⊢
 dsimp only [gName]
 have t5:=s4.trans s5
 have u5:=t3.trans t5
 have hrw5:=t5 _ _ hrw3
 refine ⟨_,rfl,_,_,_,_,rfl,rfl,u5.tup hb,rfl,_,rfl,_,rfl,_,rfl,_,_,rfl,SqL.of hrw5,fun p2 hp2=>?_⟩
 have c2:cutV (bs.map V.ref) none (some (at_:Int))=(bs.take at_).map V.ref:=by rw [cutV_map,cut_to]
 have k2:=same_new hp2 (.lst (cutV (bs.map V.ref) none (some (at_:Int))))
 have h2:(upd H5 p2 (.lst (cutV (bs.map V.ref) none (some (at_:Int))))) p2=some (.lst ((bs.take at_).map V.ref)):=by rw [upd_same,c2]
 generalize upd H5 p2 (.lst (cutV (bs.map V.ref) none (some (at_:Int))))=H6 at k2 h2 ⊢
 have ml:cs.length=rs.length:=by rw [hm.1,List.length_map]
 refine ⟨_,rfl,_,_,_,_,rfl,rfl,h2,k2 _ _ hmd5,small (by rw [List.length_map,List.length_map,List.length_take,ml]; omega),fun p3 hp3=>?_⟩
 have k3:=same_new hp3 (.lst ((bs.take at_).map V.ref++cs.map V.ref))
 have h3:(upd H6 p3 (.lst ((bs.take at_).map V.ref++cs.map V.ref))) p3=some (.lst ((bs.take at_).map V.ref++cs.map V.ref)):=upd_same
 generalize upd H6 p3 (.lst ((bs.take at_).map V.ref++cs.map V.ref))=H7 at k3 h3 ⊢
 refine ⟨_,rfl,_,rfl,_,rfl,_,_,rfl,SqL.of ((k2.trans k3) _ _ hrw5),fun p4 hp4=>?_⟩
 have c4:cutV (bs.map V.ref) (some (at_:Int)) none=(bs.drop at_).map V.ref:=by rw [cutV_map,cut_fr]
 have k4:=same_new hp4 (.lst (cutV (bs.map V.ref) (some (at_:Int)) none))
 have h4:(upd H7 p4 (.lst (cutV (bs.map V.ref) (some (at_:Int)) none))) p4=some (.lst ((bs.drop at_).map V.ref)):=by rw [upd_same,c4]
 generalize upd H7 p4 (.lst (cutV (bs.map V.ref) (some (at_:Int)) none))=H8 at k4 h4 ⊢
 have bl:bs.length=ds.length:=by rw [hc.1,List.length_map]
 refine ⟨_,_,_,_,rfl,rfl,k4 _ _ h3,h4,small (by rw [List.length_append,List.length_map,List.length_map,List.length_map,List.length_take,List.length_drop,ml]; omega),fun p5 hp5=>?_⟩
 have k5:=same_new hp5 (.lst ((bs.take at_).map V.ref++cs.map V.ref++(bs.drop at_).map V.ref))
 have h5:(upd H8 p5 (.lst ((bs.take at_).map V.ref++cs.map V.ref++(bs.drop at_).map V.ref))) p5=some (.lst ((bs.take at_++cs++bs.drop at_).map V.ref)):=by rw [upd_same,List.map_append,List.map_append]
 generalize upd H8 p5 (.lst ((bs.take at_).map V.ref++cs.map V.ref++(bs.drop at_).map V.ref))=H9 at k5 h5 ⊢
 refine ⟨le2,fun p6 hp6=>?_⟩
 have k6:=same_new hp6 (.tup [V.ref fa,V.ref p5])
 have kA:=k2.trans (k3.trans (k4.trans (k5.trans k6)))
 have vA:=t5.trans kA
 have hcA:=hc3.same vA
 have hmA:=hm.same (s5.trans kA)
 refine q p6 _ (u5.trans kA) ⟨fa,p5,_,SqT.of upd_same,(u5.trans kA).tup hf,SqL.of (k6 _ _ h5),?_⟩
 unfold L2.putIn
 rw [hkb]
 exact ((hcA.take at_).app hmA).app (hcA.drop at_)
def sp_shifted:Sp:=fun vs H Q _=>∃ (k t r:Nat),vs=[.int (k:Int),.int (t:Int),.int (r:Int)]∧Q (.int ((gI t r k:Nat) : Int)) H
theorem sc_shifted:FnScope ["k","at","many"] ["k","at","many"] (defScope s_shifted):=⟨rfl,rfl,rfl,by decide +kernel,rfl,by decide +kernel,by decide +kernel⟩
theorem ok_shifted (T:Txt P w K mg a) : FnOk P w K mg base CX0 1 a.f_shifted a.fd_shifted ["k","at","many"] sp_shifted:=by
 refine T.d_shifted.fn.ok sc_shifted (fun vs H Q E h=>?_) (fun cdv A outer s H vs Q E hr h=>?_)
 ·obtain ⟨k,t,r,rfl,_⟩:=h
  rfl
 obtain ⟨k,t,r,rfl,q⟩:=h
 have hu:=Nat.lt_of_succ_lt (hu_of hr)
 refine ⟨_,(pss_cons (ps_if (pt_cmpR op_ge (pv 0) (pv 1) (nomark _)) (pss_one (ps_ret (pe_op op_add (pv 0) (pv 2)))) pss_nil)
   (pss_one (ps_ret (pv 0)))),?_⟩
 refine ⟨_,rfl,_,rfl,_,_,rfl,rfl,_,rfl,?_⟩
 refine ite2 (fun c=>?_) (fun c=>?_)
 ·have c':¬ k < t:=by
   have:(t:Int)≤(k:Int):=of_decide_eq_true c
   omega
  have e:((gI t r k:Nat) : Int)=(k:Int)+(r:Int):=by unfold gI; rw [if_neg c']; omega
  rw [e] at q
  exact ⟨_,rfl,_,rfl,_,_,rfl,rfl,q⟩
 ·have c':k < t:=by
   have:¬ (t:Int)≤(k:Int):=fun z=>c (decide_eq_true z)
   omega
  have e:gI t r k=k:=by unfold gI; rw [if_pos c']
  rw [e] at q
  exact ⟨_,rfl,q⟩
def sp_saying_shifted (K:PySem.W.Frag) : Sp:=fun vs H Q _=>∃ (a:Addr) (s:Say) (at_ r:Nat),vs=[.ref a,.int (at_:Int),.int (r:Int)]∧SqT K H a (sayV s)∧∀ q H',Same H H'→SqT K H' q (sayV (mvSay at_ r s))→Q (.ref q) H'
theorem sc_saying_shifted:FnScope ["saying","at","many"] ["saying","at","many"] (defScope s_saying_shifted):=⟨rfl,rfl,rfl,by decide +kernel,rfl,by decide +kernel,by decide +kernel⟩
theorem ok_saying_shifted (T:Txt P w K mg a) : FnOk P w K mg base CX0 2 a.f_saying_shifted a.fd_saying_shifted ["saying","at","many"] (sp_saying_shifted K):=by
 have g_shifted:=ok_shifted (P:=P) (w:=w) (base:=base) T
 have d_shifted:=T.d_shifted
 refine T.d_saying_shifted.fn.ok sc_saying_shifted (fun vs H Q E h=>?_) (fun cdv A outer s H vs Q E hr h=>?_)
 ·obtain ⟨a,s,at_,r,rfl,_⟩:=h
  rfl
 obtain ⟨a,s,at_,r,rfl,ha,q⟩:=h
 have hu:=Nat.lt_of_succ_lt (hu_of hr)
 refine ⟨_,(pss_cons (ps_if (pt_cmpR op_eq (pe_ix ix_tup (pv 0) pe_int (fun _ _=>rfl)) pe_str (nomark _)) (pss_one (ps_ret (pv 0))) pss_nil)
   (pss_one (ps_ret (pe_tup (pa_cons (pe_ix ix_tup (pv 0) pe_int (fun _ _=>rfl)) (pa_cons (pe_callD d_shifted g_shifted (hr.mono (by decide)) rfl (pa_cons (pe_ix ix_tup (pv 0) pe_int (fun _ _=>rfl)) (pa_cons (pv 1) (pa_cons (pv 2) pa_nil)))) pa_nil)))))),?_⟩
 cases s with
 | text l =>
  refine ⟨_,rfl,_,_,_,_,rfl,rfl,ha,rfl,rfl,_,rfl,?_⟩
  rw [decide_eq_true rfl]
  refine iteT ?_
  exact ⟨_,rfl,q a H (Same.refl _) ha⟩
 | page k =>
  refine ⟨_,rfl,_,_,_,_,rfl,rfl,ha,rfl,rfl,_,rfl,?_⟩
  rw [decide_eq_false (fun z=>ne_tp (V.str.inj z))]
  refine iteF ?_
  refine ⟨_,rfl,_,_,_,_,rfl,rfl,ha,rfl,_,rfl,_,_,_,_,rfl,rfl,ha,rfl,_,rfl,_,rfl,k,at_,r,rfl,le2,fun p hp=>?_⟩
  exact q p _ (same_new hp _) (SqT.of upd_same)
 | row k =>
  refine ⟨_,rfl,_,_,_,_,rfl,rfl,ha,rfl,rfl,_,rfl,?_⟩
  rw [decide_eq_false (fun z=>ne_tr (V.str.inj z))]
  refine iteF ?_
  refine ⟨_,rfl,_,_,_,_,rfl,rfl,ha,rfl,_,rfl,_,_,_,_,rfl,rfl,ha,rfl,_,rfl,_,rfl,k,at_,r,rfl,le2,fun p hp=>?_⟩
  exact q p _ (same_new hp _) (SqT.of upd_same)
def sp_word_shifted (K:PySem.W.Frag) : Sp:=fun vs H Q _=>∃ (a:Addr) (d:Wd) (at_ r:Nat),vs=[.ref a,.int (at_:Int),.int (r:Int)]∧WdAt K H a d∧d.foot.length≤40∧∀ q H',Same H H'→WdAt K H' q (mvW at_ r d)→Q (.ref q) H'
theorem sc_word_shifted:FnScope ["word","at","many","foot"] ["word","at","many"] (defScope s_word_shifted):=⟨rfl,rfl,rfl,by decide +kernel,rfl,by decide +kernel,by decide +kernel⟩
theorem ok_word_shifted (T:Txt P w K mg a) : FnOk P w K mg base CX0 3 a.f_word_shifted a.fd_word_shifted ["word","at","many"] (sp_word_shifted K):=by
 have g_saying_shifted:=ok_saying_shifted (P:=P) (w:=w) (base:=base) T
 have d_saying_shifted:=T.d_saying_shifted
 refine T.d_word_shifted.fn.ok sc_word_shifted (fun vs H Q E h=>?_) (fun cdv A outer s H vs Q E hr h=>?_)
 ·obtain ⟨a,d,at_,r,rfl,_⟩:=h
  rfl
 obtain ⟨a,d,at_,r,rfl,ha,f40,q⟩:=h
 have hu:=Nat.lt_of_succ_lt (hu_of hr)
 refine ⟨_,(pss_cons (ps_lc (k:=3) rfl (lcok (caps:=["at","many"]) (js:=[1,2]) (cap:=⟨⟨rfl,.inl rfl,rfl,.inl rfl⟩,⟨⟨rfl,.inl rfl,rfl,.inl rfl⟩,trivial⟩⟩)) (pi_list (pe_ix ix_tup (pv 0) pe_int (fun _ _=>rfl))) (fun _ _ _ _=>pts_nil) (fun _ _ _ _=>(pe_callD d_saying_shifted g_saying_shifted (hr.mono (by decide)) rfl (pa_cons (pv 0) (pa_cons (pv 1) (pa_cons (pv 2) pa_nil))))) sc_word_shifted.nd rfl rfl)
   (pss_one (ps_ret (pe_tup (pa_cons (pe_ix ix_tup (pv 0) pe_int (fun _ _=>rfl)) (pa_cons (pe_ix ix_tup (pv 0) pe_int (fun _ _=>rfl)) (pa_cons (pe_callD d_saying_shifted g_saying_shifted (hr.mono (by decide)) rfl (pa_cons (pe_ix ix_tup (pv 0) pe_int (fun _ _=>rfl)) (pa_cons (pv 1) (pa_cons (pv 2) pa_nil)))) (pa_cons (pv 3) pa_nil)))))))),?_⟩
 obtain ⟨sa,fo,bs,h1,h2,h3,h4⟩:=ha
 refine ⟨_,rfl,_,_,_,_,rfl,rfl,h1,rfl,_,rfl,⟨_,h3⟩,lc_list (K:=K) (a:=fo) (xs:=bs.map V.ref) (fun i ys H2=>Same H H2∧∃ cs:List Addr,ys=cs.map V.ref∧SaysA K H2 cs ((d.foot.take i).map (mvSay at_ r))) ⟨Same.refl _,[],rfl,SaysA.nil⟩ (fun i ys H2 _ g=>g.1.seq h3) ?_ ?_ ?_⟩
 ·rintro i ys H2 hi ⟨_,cs,rfl,hc⟩
  rw [List.length_map,hc.1,List.length_map,List.length_take]
  exact Nat.lt_of_lt_of_le (show _ < 1000 by omega) (small (Nat.le_refl _))
 ·rintro i y ys H2 hi ⟨s2,cs,rfl,hc⟩
  obtain ⟨b,s,rfl,eb,es⟩:=foot_at h4.1 hi
  refine yes_go ?_
  refine ⟨_,rfl,_,rfl,_,rfl,b,s,at_,r,rfl,s2.tup (h4.2 i b s eb es),fun q1 H3 s3 hq1=>?_⟩
  refine ⟨s2.trans s3,cs++[q1],refs_snoc _ _,?_⟩
  rw [take_snoc es,List.map_append]
  exact (hc.same s3).app (SaysA.one hq1)
 rintro ys H2 ⟨s2,cs,rfl,hc⟩ p hp
 rw [List.length_map,h4.1,List.take_length] at hc
 have s3:=same_new hp (.lst (cs.map V.ref))
 have hp3:(upd H2 p (.lst (cs.map V.ref))) p=some (.lst (cs.map V.ref)):=upd_same
 generalize upd H2 p (.lst (cs.map V.ref))=H3 at s3 hp3 ⊢
 dsimp only [gName]
 have t3:=s2.trans s3
 refine ⟨_,rfl,_,_,_,_,rfl,rfl,t3.tup h1,rfl,_,rfl,_,_,_,_,rfl,rfl,t3.tup h1,rfl,_,rfl,_,_,_,_,rfl,rfl,t3.tup h1,rfl,_,rfl,_,rfl,sa,d.say,at_,r,rfl,t3.tup h2,fun q1 H4 s4 hq1=>?_⟩
 refine ⟨_,rfl,le4,fun p5 hp5=>?_⟩
 have s5:=same_new hp5 (.tup [V.int d.lead,V.bl d.kept,V.ref q1,V.ref p])
 exact q p5 _ (t3.trans (s4.trans s5)) ⟨q1,p,cs,SqT.of upd_same,s5.tup hq1,SqL.of ((s4.trans s5) _ _ hp3),hc.same (s3.trans (s4.trans s5))⟩
def sp_grown_at (K:PySem.W.Frag) : Sp:=fun vs H Q _=>∃ (wa na:Addr) (as bs:List Addr) (ds ns:List Wd) (t r:Nat),vs=[.ref wa,.ref na,.int (t:Int),.int (r:Int)]∧SqL K H wa (as.map V.ref)∧WdsA K H as ds∧SqL K H na (bs.map V.ref)∧WdsA K H bs ns∧ns.length=ds.length+r∧t≤ds.length∧ds.length≤60∧r≤60∧(∀ d ∈ ds,d.foot.length≤40)∧∀ b H',Same H H'→(b=true↔Grown ds ns t r)→Q (.bl b) H'
theorem sc_grown_at:FnScope ["words","newer","at","many","k","word"] ["words","newer","at","many"] (defScope s_grown_at):=⟨rfl,rfl,rfl,by decide +kernel,rfl,by decide +kernel,by decide +kernel⟩
theorem ok_grown_at (T:Txt P w K mg a) : FnOk P w K mg base CX0 4 a.f_grown_at a.fd_grown_at ["words","newer","at","many"] (sp_grown_at K):=by
 have g_shifted:=ok_shifted (P:=P) (w:=w) (base:=base) T
 have d_shifted:=T.d_shifted
 have g_word_shifted:=ok_word_shifted (P:=P) (w:=w) (base:=base) T
 have d_word_shifted:=T.d_word_shifted
 have z_all:=T.z_all
 have z_enumerate:=T.z_enumerate
 have z_len:=T.z_len
 refine T.d_grown_at.fn.ok sc_grown_at (fun vs H Q E h=>?_) (fun cdv A outer s H vs Q E hr h=>?_)
 ·obtain ⟨wa,na,as,bs,ds,ns,t,r,rfl,_⟩:=h
  rfl
 obtain ⟨wa,na,as,bs,ds,ns,t,r,rfl,hw,hws,hn,hns,nl,tl,d60,r60,f40,q⟩:=h
 have hu:=Nat.lt_of_succ_lt (hu_of hr)
 refine ⟨_,(pss_cons (ps_for PassesOwn.never rfl (pi_enum rfl z_enumerate (pv 0)) (pg_tup rfl (pgs_cons (pg_name (i:=4) sc_grown_at.nd rfl (Or.inl rfl)) (pgs_cons (pg_name (i:=5) sc_grown_at.nd rfl (Or.inl rfl)) pgs_nil))) (pss_one (ps_if (pt_cmpR (op_neB (hu100 hr)) (pe_callD d_word_shifted g_word_shifted (hr.mono (by decide)) rfl (pa_cons (pv 5) (pa_cons (pv 2) (pa_cons (pv 3) pa_nil)))) (pe_ix ix_list (pv 1) (pe_callD d_shifted g_shifted (hr.mono (by decide)) rfl (pa_cons (pv 4) (pa_cons (pv 2) (pa_cons (pv 3) pa_nil)))) (fun _ _=>rfl)) (nomark _)) (pss_one (ps_ret pe_bl)) pss_nil)))
   (pss_cons (ps_if (PW.pt (pw_and (pt_cmpR op_lt (pv 2) (pe_callB call_len_seq rfl z_len PySem.boot_len (pa_cons (pv 0) pa_nil)) (nomark _)) (pw_and1 (pt_val (pe_ix ix_tup (pe_ix ix_list (pv 0) (pv 2) (fun _ _=>rfl)) pe_int (fun _ _=>rfl)) (fun _=>rfl))))) (pss_one (ps_ret (pe_callB (call_all rfl) rfl z_all PyProof.Rows.boot_all (pa_cons (pe_lc rfl (lcok (caps:=[]) (js:=[]) (cap:=trivial)) (pi_list (pe_slice sl_list (pv 1) (po_some (pv 2)) (po_some (pe_op op_add (pv 2) (pv 3))))) (fun _ _ _ _=>pts_nil) (fun _ _ _ _=>(pe_ix (r:=rIxT K) ix_tup (pv 0) pe_int (fun _ _=>rfl)))) pa_nil)))) pss_nil)
   (pss_one (ps_ret pe_bl)))),?_⟩
 have el:(as.map V.ref).length=ds.length:=by rw [List.length_map,hws.1]
 refine ⟨_,rfl,wa,rfl,⟨_,hw⟩,for_enum (K:=K) (a:=wa) (xs:=as.map V.ref) (fun i σ H2=>Same H H2∧(∃ v1 v2:Option V,σ=[some (.ref wa),some (.ref na),some (.int (t:Int)),some (.int (r:Int)),v1,v2])∧∀ k,k < i→mvW t r (dAt ds k)=dAt ns (gI t r k)) ?_ ?_ ?_ ?_⟩
 ·exact ⟨Same.refl _,⟨none,none,rfl⟩,fun k hk=>absurd hk (Nat.not_lt_zero _)⟩
 ·rintro i σ H2 _ ⟨s2,_⟩
  exact s2.seq hw
 ·rintro i x σ H2 p hx ⟨s2,⟨v1,v2,rfl⟩,hk⟩ hp
  obtain ⟨b,d,rfl,eb,ed⟩:=wd_at hws.1 hx
  have hid:i < ds.length:=(List.getElem?_eq_some_iff.mp ed).1
  have s3:=same_new hp (.tup [.int (i:Int),.ref b])
  refine ⟨p,_,rfl,SqT.of upd_same,rfl,_,_,rfl,_,_,rfl,rfl,?_⟩
  generalize upd H2 p (.tup [.int (i:Int),.ref b])=H3 at s3 ⊢
  dsimp only [gName]
  have t3:=s2.trans s3
  obtain ⟨nb,en,hnb⟩:=hns.get (k:=gI t r i) (by unfold gI; split <;> omega)
  have edd:dAt ds i=d:=by
   show ds.getD i wd0=d
   rw [List.getD_eq_getElem?_getD,ed]
   rfl
  refine ⟨_,rfl,_,rfl,_,rfl,b,d,t,r,rfl,(hws.2 i b d eb ed).same t3,f40 d (List.mem_of_getElem? ed),fun q1 H4 s4 hq1=>?_⟩
  obtain ⟨xs,ys,lx,ly,hx1,hy1,hd⟩:=wd_db hq1 (hnb.same (t3.trans s4))
  refine ⟨_,rfl,_,rfl,_,rfl,_,rfl,i,t,r,rfl,_,_,_,_,rfl,rfl,(t3.trans s4).seq hn,en,2,q1,nb,xs,ys,wdE (mvW t r d) (dAt ns (gI t r i)),by decide,rfl,rfl,.inr ⟨hx1,hy1⟩,hd,_,rfl,?_⟩
  rw [if_pos rfl,lx,ly]
  have iff_:=wdE_iff (d:=mvW t r d) (e:=dAt ns (gI t r i))
  generalize (decide ((4:Nat)=4) && (List.range 4).all (wdE (mvW t r d) (dAt ns (gI t r i))))=b0 at iff_ ⊢
  cases b0 with
  | false =>
   refine iteT ?_
   refine q false _ (t3.trans s4) ⟨fun z=>absurd z (by decide),fun G=>?_⟩
   have:=G.w i hid
   rw [edd] at this
   exact absurd (iff_.mpr this) (by decide)
  | true =>
   refine iteF ?_
   refine ⟨t3.trans s4,⟨_,_,rfl⟩,fun k hk2=>?_⟩
   by_cases c:k < i
   ·exact hk k c
   ·have:k=i:=by omega
    rw [this,edd]
    exact iff_.mp rfl
 ·rintro σ H2 ⟨s2,⟨v1,v2,rfl⟩,hk⟩
  rw [el] at hk
  refine ⟨_,rfl,_,rfl,_,_,rfl,.inl (s2.seq hw),_,_,rfl,rfl,_,rfl,?_⟩
  rw [el]
  by_cases c:t < ds.length
  rotate_left
  ·refine andG (fun _=>?_) (fun z=>absurd (of_decide_eq_true z) (by omega))
   exact q true _ s2 ⟨fun _=>⟨nl,tl,hk,fun z=>absurd z c⟩,fun _=>rfl⟩
  refine andG (fun z=>absurd (decide_eq_true (by omega)) z) (fun _=>?_)
  obtain ⟨wo,eo,hwo⟩:=hws.get c
  obtain ⟨sy,fo,bs',g1,_,_,_⟩:=hwo
  refine ⟨_,rfl,_,rfl,_,_,_,_,rfl,rfl,s2.seq hw,eo,_,_,_,_,rfl,rfl,s2.tup g1,rfl,_,rfl,?_⟩
  cases kt:(dAt ds t).kept with
  | false =>
   refine iteF ?_
   exact q true _ s2 ⟨fun _=>⟨nl,tl,hk,fun _ z=>absurd (kt.symm.trans z) (by decide)⟩,fun _=>rfl⟩
  | true =>
   refine iteT ?_
   refine ⟨_,rfl,_,rfl,_,rfl,_,rfl,_,rfl,_,_,rfl,rfl,_,rfl,_,_,rfl,s2.seq hn,fun p1 hp1=>?_⟩
   have c1:cutV (bs.map V.ref) (some (t:Int)) (some ((t:Int)+(r:Int)))=((bs.drop t).take r).map V.ref:=by
    rw [cutV_map,show (t:Int)+(r:Int)=((t+r:Nat) : Int) by omega,cut_nat,show t+r - t=r by omega]
   have s3:=same_new hp1 (.lst (cutV (bs.map V.ref) (some (t:Int)) (some ((t:Int)+(r:Int)))))
   have h3:(upd H2 p1 (.lst (cutV (bs.map V.ref) (some (t:Int)) (some ((t:Int)+(r:Int)))))) p1=some (.lst (((bs.drop t).take r).map V.ref)):=by rw [upd_same,c1]
   generalize upd H2 p1 (.lst (cutV (bs.map V.ref) (some (t:Int)) (some ((t:Int)+(r:Int)))))=H3 at s3 h3 ⊢
   have t3:=s2.trans s3
   have le:((bs.drop t).take r).length=((ns.drop t).take r).length:=by simp only [List.length_take,List.length_drop,hns.1]
   have nr:((ns.drop t).take r).length=r:=by rw [List.length_take,List.length_drop]; omega
   have it:∀ (i:Nat) b d,((bs.drop t).take r)[i]? = some b→((ns.drop t).take r)[i]? = some d→WdAt K H b d:=fun i b d e1 e2=>by
    rw [List.getElem?_take] at e1 e2
    split at e1
    ·rename_i ci
     rw [if_pos ci] at e2
     rw [List.getElem?_drop] at e1 e2
     exact hns.2 _ b d e1 e2
    ·cases e1
   refine ⟨p1,rfl,⟨_,SqL.of h3⟩,lc_list (K:=K) (a:=p1) (xs:=((bs.drop t).take r).map V.ref) (fun i ys H4=>H4=H3∧ys=((((ns.drop t).take r).take i).map fun d=>d.kept).map V.bl) ⟨rfl,rfl⟩ (fun i ys H4 _ g=>by rw [g.1]; exact SqL.of h3) ?_ ?_ ?_⟩
   ·rintro i ys H4 hi ⟨_,rfl⟩
    rw [List.length_map,List.length_map,List.length_take]
    exact Nat.lt_of_lt_of_le (show _ < 1000 by omega) (small (Nat.le_refl _))
   ·rintro i y ys H4 hi ⟨rfl,rfl⟩
    obtain ⟨b,d,rfl,eb,ed⟩:=wd_at le hi
    obtain ⟨sy2,fo2,bs2,k1,_,_,_⟩:=it i b d eb ed
    refine yes_go ?_
    refine ⟨_,rfl,_,_,_,_,rfl,rfl,t3.tup k1,rfl,rfl,?_⟩
    rw [take_snoc ed,List.map_append,List.map_append]
    rfl
   rintro ys H4 ⟨rfl,rfl⟩ p2 hp2
   have e2:((ns.drop t).take r).take (((bs.drop t).take r).map V.ref).length=(ns.drop t).take r:=by rw [List.length_map,le,List.take_length]
   rw [e2]
   have s5:=same_new hp2 (.lst ((((ns.drop t).take r).map fun d=>d.kept).map V.bl))
   refine ⟨p2,_,rfl,SqL.of upd_same,q _ _ (t3.trans s5) ?_⟩
   rw [kept_all (by omega)]
   exact ⟨fun z=>⟨nl,tl,hk,fun _ _=>z⟩,fun G=>G.kept c kt⟩
def sp_growth (K:PySem.W.Frag) : Sp:=fun vs H Q _=>∃ (oa na:Addr) (w h f m:Int) (ds ns:List Wd) (t0 r:Nat),vs=[.ref oa,.ref na]∧BkAt K H oa w h f m ds∧BkAt K H na w h f m ns∧Grown ds ns t0 r∧ds.length≤60∧r≤60∧(∀ d ∈ ds,d.foot.length≤40)∧∀ p t H',Same H H'→SqT K H' p [.int ((t:Nat) : Int),.int (r:Int)]→Grown ds ns t r→(∀ s,s < t→¬ Grown ds ns s r)→Q (.ref p) H'
theorem sc_growth:FnScope ["old","new","many","at"] ["old","new"] (defScope s_growth):=⟨rfl,rfl,rfl,by decide +kernel,rfl,by decide +kernel,by decide +kernel⟩
theorem ok_growth (T:Txt P w K mg a) : FnOk P w K mg base CX0 5 a.f_growth a.fd_growth ["old","new"] (sp_growth K):=by
 have g_grown_at:=ok_grown_at (P:=P) (w:=w) (base:=base) T
 have d_grown_at:=T.d_grown_at
 have z_len:=T.z_len
 have z_range:=T.z_range
 refine T.d_growth.fn.ok sc_growth (fun vs H Q E h=>?_) (fun cdv A outer s H vs Q E hr h=>?_)
 ·obtain ⟨oa,na,w,h,f,m,ds,ns,t0,r,rfl,_⟩:=h
  rfl
 obtain ⟨oa,na,w,h,f,m,ds,ns,t0,r,rfl,hbo,hbn,G,d60,r60,f40,q⟩:=h
 have hu:=Nat.lt_of_succ_lt (hu_of hr)
 refine ⟨_,(pss_cons (ps_set (i:=2) sc_growth.nd rfl (Or.inl rfl) (pe_op op_sub (pe_callB call_len_seq rfl z_len PySem.boot_len (pa_cons (pe_ix ix_tup (pv 1) pe_int (fun _ _=>rfl)) pa_nil)) (pe_callB call_len_seq rfl z_len PySem.boot_len (pa_cons (pe_ix ix_tup (pv 0) pe_int (fun _ _=>rfl)) pa_nil))))
   (pss_cons (ps_if (PW.pt (pw_or (pt_cmpR (op_neQ (hu100 hr)) (pe_ix ix_tup (pv 0) pe_int (fun _ _=>rfl)) (pe_ix ix_tup (pv 1) pe_int (fun _ _=>rfl)) (nomark _)) (pw_or1 (pt_cmpR op_lt (pv 2) pe_int (nomark _))))) (pss_one (ps_ret pe_non)) pss_nil)
   (pss_cons (ps_for PassesOwn.never rfl (pi_range1 rfl z_range (pa_cons (pe_op op_add (pe_callB call_len_seq rfl z_len PySem.boot_len (pa_cons (pe_ix ix_tup (pv 0) pe_int (fun _ _=>rfl)) pa_nil)) pe_int) pa_nil)) (pg_name (i:=3) sc_growth.nd rfl (Or.inl rfl)) (pss_one (ps_if (pt_val (pe_callD d_grown_at g_grown_at (hr.mono (by decide)) rfl (pa_cons (pe_ix ix_tup (pv 0) pe_int (fun _ _=>rfl)) (pa_cons (pe_ix ix_tup (pv 1) pe_int (fun _ _=>rfl)) (pa_cons (pv 3) (pa_cons (pv 2) pa_nil))))) (fun _=>rfl)) (pss_one (ps_ret (pe_tup (pa_cons (pv 3) (pa_cons (pv 2) pa_nil))))) pss_nil)))
   (pss_one (ps_ret pe_non))))),?_⟩
 obtain ⟨fa,wa,was,hb,hf,hw,hws⟩:=hbo
 obtain ⟨fb,wb,wbs,hb2,hf2,hw2,hws2⟩:=hbn
 have el:(was.map V.ref).length=ds.length:=by rw [List.length_map,hws.1]
 have el2:(wbs.map V.ref).length=ds.length+r:=by rw [List.length_map,hws2.1,G.len]
 refine ⟨_,rfl,_,_,_,_,rfl,rfl,hb2,rfl,_,_,rfl,.inl hw2,_,rfl,_,_,_,_,rfl,rfl,hb,rfl,_,_,rfl,.inl hw,_,_,rfl,rfl,?_⟩
 rw [el,el2]
 dsimp only [gName]
 rw [show ((ds.length+r:Nat) : Int) - (ds.length:Int)=(r:Int) by omega]
 refine ⟨_,rfl,_,_,_,_,rfl,rfl,hb,rfl,_,rfl,_,_,_,_,rfl,rfl,hb2,rfl,0,fa,fb,_,_,by decide,rfl,rfl,.inr ⟨hf,hf2⟩,rfl,fun i x y e1 e2=>?_,_,rfl,?_⟩
 ·rw [e1] at e2
  cases e2
  refine .inl ?_
  match i,e1 with
  | 0,e1=>cases e1; exact ⟨rfl,rfl,eqV_refl rfl⟩
  | 1,e1=>cases e1; exact ⟨rfl,rfl,eqV_refl rfl⟩
  | 2,e1=>cases e1; exact ⟨rfl,rfl,eqV_refl rfl⟩
  | 3,e1=>cases e1; exact ⟨rfl,rfl,eqV_refl rfl⟩
  | i+4,e1=>exact absurd e1 (by simp)
 refine iteF ?_
 refine ⟨_,rfl,_,_,rfl,rfl,_,rfl,?_⟩
 refine ite2 (fun z=>absurd (of_decide_eq_true z) (by omega)) (fun _=>?_)
 dsimp only [tNext]
 refine ⟨_,rfl,_,_,_,_,rfl,rfl,hb,rfl,_,_,rfl,.inl hw,_,_,rfl,rfl,?_⟩
 rw [el]
 refine ⟨_,rfl,(by omega),(by omega),for_range (fun i σ H2=>Same H H2∧(∃ v:Option V,σ=[some (.ref oa),some (.ref na),some (.int (r:Int)),v])∧∀ s,s < i→¬ Grown ds ns s r) ⟨Same.refl _,⟨none,rfl⟩,fun s hs=>absurd hs (Nat.not_lt_zero _)⟩ ?_ ?_⟩
 ·rintro i σ H2 hi ⟨s2,⟨v,rfl⟩,ng⟩
  have hi':i≤ds.length:=by omega
  refine ⟨_,rfl,_,_,_,_,rfl,rfl,s2.tup hb,rfl,_,rfl,_,_,_,_,rfl,rfl,s2.tup hb2,rfl,_,rfl,_,rfl,wa,wb,was,wbs,ds,ns,i,r,(by show [_,_,V.int (0+(i:Int)),_]=_; rw [Int.zero_add]),s2.seq hw,hws.same s2,s2.seq hw2,hws2.same s2,G.len,hi',d60,r60,f40,fun b H3 s3 hb3=>?_⟩
  refine ⟨_,rfl,?_⟩
  cases b with
  | true =>
   refine iteT ?_
   refine ⟨_,rfl,_,rfl,le2,fun p hp=>?_⟩
   have s4:=same_new hp (.tup [V.int (0+(i:Int)),V.int (r:Int)])
   exact q p i _ (s2.trans (s3.trans s4)) (SqT.of (by rw [upd_same,Int.zero_add])) (hb3.mp rfl) ng
  | false =>
   refine iteF ?_
   refine ⟨s2.trans s3,⟨_,rfl⟩,fun s hs G'=>?_⟩
   by_cases c:s < i
   ·exact ng s c G'
   ·have:s=i:=by omega
    subst this
    exact absurd (hb3.mpr G') (by decide)
 ·rintro σ H2 ⟨_,_,ng⟩
  have:=G.at1
  exact absurd G (ng t0 (by omega))
def sp_carried (K:PySem.W.Frag) : Sp:=fun vs H Q _=>∃ (oa na pa:Addr) (w h f m:Int) (ds ns:List Wd) (t0 r:Nat) (xs:List (Int × Int)),vs=[.ref oa,.ref na,.ref pa]∧BkAt K H oa w h f m ds∧BkAt K H na w h f m ns∧Grown ds ns t0 r∧ds.length≤60∧r≤60∧(∀ d ∈ ds,d.foot.length≤40)∧LwAt K H pa xs∧xs.length=ds.length∧∀ p cs t H',Same H H'→H' p=some (.lst (cs.map V.ref))→PlsA K H' cs (carry t r xs)→Grown ds ns t r→(∀ s,s < t→¬ Grown ds ns s r)→Q (.ref p) H'
theorem sc_carried:FnScope ["old","new","places","run","at"] ["old","new","places"] (defScope s_carried):=⟨rfl,rfl,rfl,by decide +kernel,rfl,by decide +kernel,by decide +kernel⟩
theorem ok_carried (T:Txt P w K mg a) : FnOk P w K mg base CX0 6 a.f_carried a.fd_carried ["old","new","places"] (sp_carried K):=by
 have g_growth:=ok_growth (P:=P) (w:=w) (base:=base) T
 have d_growth:=T.d_growth
 have z_list:=T.z_list
 refine T.d_carried.fn.ok sc_carried (fun vs H Q E h=>?_) (fun cdv A outer s H vs Q E hr h=>?_)
 ·obtain ⟨oa,na,pa,w,h,f,m,ds,ns,t0,r,xs,rfl,_⟩:=h
  rfl
 obtain ⟨oa,na,pa,w,h,f,m,ds,ns,t0,r,xs,rfl,hbo,hbn,G,d60,r60,f40,hpa,xl,q⟩:=h
 have hu:=Nat.lt_of_succ_lt (hu_of hr)
 refine ⟨_,(pss_cons (ps_set (i:=3) sc_carried.nd rfl (Or.inl rfl) (pe_callD d_growth g_growth (hr.mono (by decide)) rfl (pa_cons (pv 0) (pa_cons (pv 1) pa_nil))))
   (pss_cons (ps_if (pt_cmpR op_isN (pv 3) pe_non (nomark _)) (pss_one ps_never) pss_nil)
   (pss_cons (ps_set (i:=4) sc_carried.nd rfl (Or.inl rfl) (pe_ix ix_tup (pv 3) pe_int (fun _ _=>rfl)))
   (pss_one (ps_ret (pe_op op_cat (pe_op op_cat (pe_callTy call_list_of rfl z_list PyProof.Rows.boot_list (pa_cons (pe_slice sl_list (pv 2) po_none (po_some (pv 4))) pa_nil)) (pe_op op_rep (pe_lst (pa_cons (pe_tup (pa_cons pe_int (pa_cons pe_int pa_nil))) pa_nil)) (pe_ix ix_tup (pv 3) pe_int (fun _ _=>rfl)))) (pe_callTy call_list_of rfl z_list PyProof.Rows.boot_list (pa_cons (pe_slice sl_list (pv 2) (po_some (pv 4)) po_none) pa_nil)))))))),?_⟩
 obtain ⟨ps,hps,pps⟩:=hpa
 refine ⟨_,rfl,_,rfl,oa,na,w,h,f,m,ds,ns,t0,r,rfl,hbo,hbn,G,d60,r60,f40,fun p t H1 s1 hp1 Gt ng=>?_⟩
 dsimp only [gName]
 have tl:=Gt.at1
 refine ⟨_,rfl,rfl,_,rfl,?_⟩
 refine iteF ?_
 dsimp only [tNext]
 refine ⟨_,rfl,_,_,_,_,rfl,rfl,hp1,rfl,?_⟩
 dsimp only [gName]
 have pl':ps.length=ds.length:=by rw [pps.1,xl]
 refine ⟨_,rfl,_,rfl,_,rfl,_,_,rfl,s1.seq hps,fun p1 hq1=>?_⟩
 have c1:cutV (ps.map V.ref) none (some (t:Int))=(ps.take t).map V.ref:=by rw [cutV_map,cut_to]
 have k1:=same_new hq1 (.lst (cutV (ps.map V.ref) none (some (t:Int))))
 have h1:(upd H1 p1 (.lst (cutV (ps.map V.ref) none (some (t:Int))))) p1=some (.lst ((ps.take t).map V.ref)):=by rw [upd_same,c1]
 generalize upd H1 p1 (.lst (cutV (ps.map V.ref) none (some (t:Int))))=H2 at k1 h1 ⊢
 refine ⟨_,_,rfl,.inl (SqL.of h1),fun p2 hp2=>?_⟩
 have k2:=same_new hp2 (.lst ((ps.take t).map V.ref))
 have h2:(upd H2 p2 (.lst ((ps.take t).map V.ref))) p2=some (.lst ((ps.take t).map V.ref)):=upd_same
 generalize upd H2 p2 (.lst ((ps.take t).map V.ref))=H3 at k2 h2 ⊢
 refine ⟨le2,fun p3 hp3=>?_⟩
 have k3:=same_new hp3 (.tup (pl (0,0)))
 have h3:(upd H3 p3 (.tup (pl (0,0)))) p3=some (.tup (pl (0,0))):=upd_same
 show _∧_
 change _∧∀ p4,(upd H3 p3 (.tup (pl (0,0)))) p4=none→_
 generalize upd H3 p3 (.tup (pl (0,0)))=H4 at k3 h3 ⊢
 refine ⟨le1,fun p4 hp4=>?_⟩
 have k4:=same_new hp4 (.lst [V.ref p3])
 have h4:(upd H4 p4 (.lst [V.ref p3])) p4=some (.lst [V.ref p3]):=upd_same
 generalize upd H4 p4 (.lst [V.ref p3])=H5 at k4 h4 ⊢
 have t5:=k1.trans (k2.trans (k3.trans k4))
 refine ⟨_,rfl,_,_,_,_,rfl,rfl,t5.tup hp1,rfl,_,_,_,rfl,rfl,h4,(by omega),(by omega),small (by simp; omega),fun p5 hp5=>?_⟩
 rw [Int.toNat_natCast,rep1,← List.map_replicate]
 have k5:=same_new hp5 (.lst ((List.replicate r p3).map V.ref))
 have h5:(upd H5 p5 (.lst ((List.replicate r p3).map V.ref))) p5=some (.lst ((List.replicate r p3).map V.ref)):=upd_same
 generalize upd H5 p5 (.lst ((List.replicate r p3).map V.ref))=H6 at k5 h5 ⊢
 have t6:=k3.trans (k4.trans k5)
 refine ⟨_,_,_,_,rfl,rfl,t6 _ _ h2,h5,small (by rw [List.length_map,List.length_map,List.length_take,List.length_replicate]; omega),fun p6 hp6=>?_⟩
 have k6:=same_new hp6 (.lst ((ps.take t).map V.ref++(List.replicate r p3).map V.ref))
 have h6:(upd H6 p6 (.lst ((ps.take t).map V.ref++(List.replicate r p3).map V.ref))) p6=some (.lst ((ps.take t).map V.ref++(List.replicate r p3).map V.ref)):=upd_same
 generalize upd H6 p6 (.lst ((ps.take t).map V.ref++(List.replicate r p3).map V.ref))=H7 at k6 h6 ⊢
 have t7:=t5.trans (k5.trans k6)
 refine ⟨_,rfl,_,rfl,_,rfl,_,_,rfl,(s1.trans t7).seq hps,fun p7 hp7=>?_⟩
 have c7:cutV (ps.map V.ref) (some (t:Int)) none=(ps.drop t).map V.ref:=by rw [cutV_map,cut_fr]
 have k7:=same_new hp7 (.lst (cutV (ps.map V.ref) (some (t:Int)) none))
 have h7:(upd H7 p7 (.lst (cutV (ps.map V.ref) (some (t:Int)) none))) p7=some (.lst ((ps.drop t).map V.ref)):=by rw [upd_same,c7]
 generalize upd H7 p7 (.lst (cutV (ps.map V.ref) (some (t:Int)) none))=H8 at k7 h7 ⊢
 refine ⟨_,_,rfl,.inl (SqL.of h7),fun p8 hp8=>?_⟩
 have k8:=same_new hp8 (.lst ((ps.drop t).map V.ref))
 have h8:(upd H8 p8 (.lst ((ps.drop t).map V.ref))) p8=some (.lst ((ps.drop t).map V.ref)):=upd_same
 generalize upd H8 p8 (.lst ((ps.drop t).map V.ref))=H9 at k8 h8 ⊢
 refine ⟨_,_,_,_,rfl,rfl,(k7.trans k8) _ _ h6,h8,small (by rw [List.length_append,List.length_map,List.length_map,List.length_map,List.length_take,List.length_replicate,List.length_drop]; omega),fun p9 hp9=>?_⟩
 have k9:=same_new hp9 (.lst ((ps.take t).map V.ref++(List.replicate r p3).map V.ref++(ps.drop t).map V.ref))
 have tA:=t7.trans (k7.trans (k8.trans k9))
 have pA:=pps.same (s1.trans tA)
 have h3A:=(k4.trans (k5.trans (k6.trans (k7.trans (k8.trans k9))))) _ _ h3
 refine q p9 (ps.take t++List.replicate r p3++ps.drop t) t _ (s1.trans tA) (by rw [upd_same,List.map_append,List.map_append]) ?_ Gt ng
 exact ((pA.take t).app (PlsA.rep _ (SqT.of h3A))).app (pA.drop t)
def sp_first_bounds (K:PySem.W.Frag) : Sp:=fun vs H Q _=>∃ (ba:Addr) (w h f m:Int) (ds:List Wd),vs=[.ref ba]∧BkAt K H ba w h f m ds∧ds.length≤400∧∀ q as H',Same H H'→H q=none→H' q=some (.lst (as.map V.ref))→PlsA K H' as (List.replicate ds.length (0,0))→Q (.ref q) H'
theorem sc_first_bounds:FnScope ["book"] ["book"] (defScope s_first_bounds):=⟨rfl,rfl,rfl,by decide +kernel,rfl,by decide +kernel,by decide +kernel⟩
theorem ok_first_bounds (T:Txt P w K mg a) : FnOk P w K mg base CX0 1 a.f_first_bounds a.fd_first_bounds ["book"] (sp_first_bounds K):=by
 have z_len:=T.z_len
 refine T.d_first_bounds.fn.ok sc_first_bounds (fun vs H Q E h=>?_) (fun cdv A outer s H vs Q E hr h=>?_)
 ·obtain ⟨ba,w,h,f,m,ds,rfl,_⟩:=h
  rfl
 obtain ⟨ba,w,h,f,m,ds,rfl,hbk,n60,q⟩:=h
 have hu:=Nat.lt_of_succ_lt (hu_of hr)
 refine ⟨_,(pss_one (ps_ret (pe_op op_rep (pe_lst (pa_cons (pe_tup (pa_cons pe_int (pa_cons pe_int pa_nil))) pa_nil)) (pe_callB call_len_seq rfl z_len PySem.boot_len (pa_cons (pe_ix ix_tup (pv 0) pe_int (fun _ _=>rfl)) pa_nil))))),?_⟩
 obtain ⟨fa,wa,was,hb,hf,hw,hws⟩:=hbk
 refine ⟨le2,fun p1 hp1=>?_⟩
 have s1:=same_new hp1 (.tup (pl (0,0)))
 refine ⟨le1,fun p2 hp2=>?_⟩
 have s2:=same_new hp2 (.lst [V.ref p1])
 have t2:=s1.trans s2
 have ew:(was.map V.ref).length=ds.length:=by rw [List.length_map]; exact hws.1
 refine ⟨_,rfl,_,_,_,_,rfl,rfl,t2.tup hb,rfl,_,_,rfl,.inl (t2.seq hw),_,_,_,rfl,rfl,upd_same,(by omega),(by omega),(by rw [ew]; exact small (by simp; omega)),fun p3 hp3=>?_⟩
 have en:(((was.map V.ref).length:Nat) : Int).toNat=ds.length:=by rw [ew]; omega
 rw [en,rep1,← List.map_replicate]
 have s3:=same_new hp3 (.lst ((List.replicate ds.length p1).map V.ref))
 exact q p3 (List.replicate ds.length p1) _ (t2.trans s3) (t2.free hp3) upd_same (PlsA.rep _ (SqT.of ((s2.trans s3) _ _ upd_same)))
def sp_first_unlike (K:PySem.W.Frag) : Sp:=fun vs H Q _=>∃ (za ya:Addr) (zs ys:List (Int × Int)),vs=[.ref za,.ref ya]∧LwAt K H za zs∧LwAt K H ya ys∧zs.length=ys.length∧zs.length≤400∧∀ k:Nat,k≤zs.length→(∀ j,j < k→xAt zs j=xAt ys j)→(k < zs.length→xAt zs k≠xAt ys k)→Q (.int (k:Int)) H
theorem sc_first_unlike:FnScope ["sizes","newer","k"] ["sizes","newer"] (defScope s_first_unlike):=⟨rfl,rfl,rfl,by decide +kernel,rfl,by decide +kernel,by decide +kernel⟩
theorem ok_first_unlike (T:Txt P w K mg a) : FnOk P w K mg base CX0 1 a.f_first_unlike a.fd_first_unlike ["sizes","newer"] (sp_first_unlike K):=by
 have z_len:=T.z_len
 refine T.d_first_unlike.fn.ok sc_first_unlike (fun vs H Q E h=>?_) (fun cdv A outer s H vs Q E hr h=>?_)
 ·obtain ⟨za,ya,zs,ys,rfl,_⟩:=h
  rfl
 obtain ⟨za,ya,zs,ys,rfl,hz,hy,el,z60,q⟩:=h
 have hu:=Nat.lt_of_succ_lt (hu_of hr)
 refine ⟨_,(pss_cons (ps_set (i:=2) sc_first_unlike.nd rfl (Or.inl rfl) pe_int)
   (pss_cons (ps_while PassesOwn.never (PW.pt (pw_and (pt_cmpR op_lt (pv 2) (pe_callB call_len_seq rfl z_len PySem.boot_len (pa_cons (pv 0) pa_nil)) (nomark _)) (pw_and1 (pt_cmpR (op_eqT hu) (pe_ix ix_list (pv 0) (pv 2) (fun _ _=>rfl)) (pe_ix ix_list (pv 1) (pv 2) (fun _ _=>rfl)) (nomark _))))) (pss_one (ps_set (i:=2) sc_first_unlike.nd rfl (Or.inl rfl) (pe_op op_add (pv 2) pe_int))))
   (pss_one (ps_ret (pv 2))))),?_⟩
 obtain ⟨azs,hza,hzs⟩:=hz
 obtain ⟨ays,hya,hys⟩:=hy
 have lz:(azs.map V.ref).length=zs.length:=by rw [List.length_map,hzs.1]
 dsimp only [gName]
 refine cut_seq (fun σ' H'=>H' = H∧σ' = [some (.ref za),some (.ref ya),some (.int 0)]) ?_ (fun key=>key _ _ ⟨rfl,rfl⟩)
 rintro σ' H' ⟨rfl,rfl⟩
 refine cut_seq (fun σ' H2=>H2=H'∧∃ k:Nat,σ' = [some (.ref za),some (.ref ya),some (.int (k:Int))]∧k≤zs.length∧(∀ j,j < k→xAt zs j=xAt ys j)∧(k < zs.length→xAt zs k≠xAt ys k)) ?_ (fun key=>?_)
 ·rintro σ' H2 ⟨rfl,k,rfl,k1,k2,k3⟩
  exact ⟨_,rfl,q k k1 k2 k3⟩
 refine ⟨fun n σ H2=>H2=H'∧∃ k:Nat,σ=[some (.ref za),some (.ref ya),some (.int (k:Int))]∧k≤zs.length∧(∀ j,j < k→xAt zs j=xAt ys j)∧n=zs.length - k,⟨_,rfl,0,rfl,Nat.zero_le _,fun j hj=>absurd hj (Nat.not_lt_zero _),rfl⟩,?_⟩
 rintro n σ H2 ⟨rfl,k,rfl,k1,k2,rfl⟩
 refine ⟨_,rfl,_,rfl,_,_,rfl,.inl hza,_,_,rfl,rfl,_,rfl,?_⟩
 rw [lz]
 by_cases c:k < zs.length
 ·refine andG (fun z=>absurd (decide_eq_true (by omega)) z) (fun _=>?_)
  obtain ⟨zo,ez,hzo⟩:=LwAt.get (a:=za) hzs c
  obtain ⟨yo,ey,hyo⟩:=LwAt.get (a:=ya) hys (by omega:k < ys.length)
  refine ⟨_,rfl,_,rfl,_,_,_,_,rfl,rfl,hza,ez,_,rfl,_,rfl,_,_,_,_,rfl,rfl,hya,ey,_,_,_,_,rfl,rfl,hzo,hyo,rfl,rfl,_,rfl,?_⟩
  rw [if_neg (by decide),eq_pl2]
  by_cases e:xAt zs k=xAt ys k
  ·rw [decide_eq_true e]
   refine iteT ?_
   refine ⟨fun σ' H'=>∃ m',m' < zs.length - k∧H' = H2∧∃ k:Nat,σ' = [some (.ref za),some (.ref ya),some (.int (k:Int))]∧k≤zs.length∧(∀ j,j < k→xAt zs j=xAt ys j)∧m' = zs.length - k,fun _ _ h=>h,?_⟩
   refine ⟨_,rfl,_,_,rfl,rfl,?_⟩
   refine ⟨zs.length - (k+1),by omega,rfl,k+1,rfl,by omega,fun j hj=>?_,rfl⟩
   by_cases ej:j=k
   ·rw [ej]; exact e
   ·exact k2 j (by omega)
  ·rw [decide_eq_false e]
   refine iteF ?_
   exact key _ _ ⟨rfl,k,rfl,k1,k2,fun _=>e⟩
 ·exact andG (fun _=>key _ _ ⟨rfl,k,rfl,k1,k2,fun z=>absurd z c⟩) (fun z=>absurd (of_decide_eq_true z) (by omega))
def sp_figures_of:Sp:=fun vs H Q _=>∃ n:Nat,vs=[.int (n:Int)]∧n < 10 ^ 100∧Q (.str (tx (figs n))) H
theorem sc_figures_of:FnScope ["number"] ["number"] (defScope s_figures_of):=⟨rfl,rfl,rfl,by decide +kernel,rfl,by decide +kernel,by decide +kernel⟩
theorem ok_figures_of (T:Txt P w K mg a) : FnOk P w K mg base CX0 1 a.f_figures_of a.fd_figures_of ["number"] sp_figures_of:=by
 have z_str:=T.z_str
 refine T.d_figures_of.fn.ok sc_figures_of (fun vs H Q E h=>?_) (fun cdv A outer s H vs Q E hr h=>?_)
 ·obtain ⟨n,rfl,_⟩:=h
  rfl
 obtain ⟨n,rfl,hn,q⟩:=h
 have hu:=Nat.lt_of_succ_lt (hu_of hr)
 refine ⟨_,(pss_one (ps_ret (pe_callTy call_str_int rfl z_str PyProof.Rows.boot_str (pa_cons (pv 0) pa_nil)))),?_⟩
 refine ⟨_,rfl,_,rfl,log_small hn,?_⟩
 exact Eq.mpr (congrArg (fun z=>Q (.str z) H) (str_figs n)) q
def sp_said (K:PySem.W.Frag) : Sp:=fun vs H Q _=>∃ (fa sa pa:Addr) (w h f m:Int) (s:Say) (as:List Addr) (xs:List (Int × Int)),vs=[.ref fa,.ref sa,.ref pa]∧SqT K H fa (fm w h f m)∧SqT K H sa (sayV s)∧SqL K H pa (as.map V.ref)∧PlsA K H as xs∧FormOk w h f m∧SayOk xs.length s∧PlsOk h xs∧Q (.str (tx (saidL h f xs s))) H
theorem sc_said:FnScope ["form","saying","places","place"] ["form","saying","places"] (defScope s_said):=⟨rfl,rfl,rfl,by decide +kernel,rfl,by decide +kernel,by decide +kernel⟩
theorem ok_said (T:Txt P w K mg a) : FnOk P w K mg base CX0 2 a.f_said a.fd_said ["form","saying","places"] (sp_said K):=by
 have g_figures_of:=ok_figures_of (P:=P) (w:=w) (base:=base) T
 have d_figures_of:=T.d_figures_of
 refine T.d_said.fn.ok sc_said (fun vs H Q E h=>?_) (fun cdv A outer s H vs Q E hr h=>?_)
 ·obtain ⟨fa,sa,pa,w,h,f,m,s,as,xs,rfl,_⟩:=h
  rfl
 obtain ⟨fa,sa,pa,w,h,f,m,s,as,xs,rfl,hf,hs,hp,ha,fo,so,po,q⟩:=h
 have hu:=Nat.lt_of_succ_lt (hu_of hr)
 refine ⟨_,(pss_cons (ps_if (pt_cmpR op_eq (pe_ix ix_tup (pv 1) pe_int (fun _ _=>rfl)) pe_str (nomark _)) (pss_one (ps_ret (pe_ix ix_tup (pv 1) pe_int (fun _ _=>rfl)))) pss_nil)
   (pss_cons (ps_set (i:=3) sc_said.nd rfl (Or.inl rfl) (pe_ix ix_list (pv 2) (pe_ix ix_tup (pv 1) pe_int (fun _ _=>rfl)) (fun _ _=>rfl)))
   (pss_cons (ps_if (pt_cmpR op_eq (pe_ix ix_tup (pv 1) pe_int (fun _ _=>rfl)) pe_str (nomark _)) (pss_one (ps_ret (pe_callD d_figures_of g_figures_of (hr.mono (by decide)) rfl (pa_cons (pe_op op_add (pe_ix ix_tup (pv 0) pe_int (fun _ _=>rfl)) (pe_ix ix_tup (pv 3) pe_int (fun _ _=>rfl))) pa_nil)))) pss_nil)
   (pss_one (ps_ret (pe_callD d_figures_of g_figures_of (hr.mono (by decide)) rfl (pa_cons (pe_op op_add (pe_op op_add (pe_op op_mul (pe_ix ix_tup (pv 3) pe_int (fun _ _=>rfl)) (pe_ix ix_tup (pv 0) pe_int (fun _ _=>rfl))) (pe_ix ix_tup (pv 3) pe_int (fun _ _=>rfl))) pe_int) pa_nil))))))),?_⟩
 cases s with
 | text l =>
  refine ⟨_,rfl,_,_,_,_,rfl,rfl,hs,rfl,rfl,_,rfl,?_⟩
  rw [decide_eq_true rfl]
  refine iteT ?_
  exact ⟨_,rfl,_,_,_,_,rfl,rfl,hs,rfl,q⟩
 | page k =>
  obtain ⟨a1,e1,h1⟩:=ha.get so
  obtain ⟨i,b⟩:=po.get so
  obtain ⟨n,en,hn⟩:=page_num fo.f1 fo.f2 i.p1 b
  refine ⟨_,rfl,_,_,_,_,rfl,rfl,hs,rfl,rfl,_,rfl,?_⟩
  rw [ne_page]
  refine iteF ?_
  refine ⟨_,rfl,_,rfl,_,_,_,_,rfl,rfl,hs,rfl,_,_,_,_,rfl,rfl,hp,e1,?_⟩
  refine ⟨_,rfl,_,_,_,_,rfl,rfl,hs,rfl,rfl,_,rfl,?_⟩
  rw [decide_eq_true rfl]
  refine iteT ?_
  refine ⟨_,rfl,_,_,_,_,rfl,rfl,hf,rfl,_,rfl,_,_,_,_,rfl,rfl,h1,rfl,_,_,rfl,rfl,n,congrArg (fun z=>[V.int z]) en,lt_100 hn,?_⟩
  simp only [saidL] at q
  rw [en] at q
  exact q
 | row k =>
  obtain ⟨a1,e1,h1⟩:=ha.get so
  obtain ⟨i,b⟩:=po.get so
  obtain ⟨n,en,hn⟩:=row_num fo.h1 fo.h2 i.p1 b i.r1 i.r2
  refine ⟨_,rfl,_,_,_,_,rfl,rfl,hs,rfl,rfl,_,rfl,?_⟩
  rw [ne_row]
  refine iteF ?_
  refine ⟨_,rfl,_,rfl,_,_,_,_,rfl,rfl,hs,rfl,_,_,_,_,rfl,rfl,hp,e1,?_⟩
  refine ⟨_,rfl,_,_,_,_,rfl,rfl,hs,rfl,rfl,_,rfl,?_⟩
  rw [ne_row_page]
  refine iteF ?_
  have h1':=fo.h1
  have h2':=fo.h2
  refine ⟨_,rfl,_,_,_,_,rfl,rfl,h1,rfl,_,rfl,_,_,_,_,rfl,rfl,hf,rfl,_,_,rfl,rfl,.inr ⟨by omega,by omega⟩,_,rfl,_,_,_,_,rfl,rfl,h1,rfl,_,_,rfl,rfl,_,_,rfl,rfl,n,congrArg (fun z=>[V.int z]) en,lt_100 hn,?_⟩
  simp only [saidL] at q
  rw [en] at q
  exact q
def sp_foot_rows (K:PySem.W.Frag) : Sp:=fun vs H Q _=>∃ (fa oa pa:Addr) (w h f m:Int) (bs as:List Addr) (ss:List Say) (xs:List (Int × Int)),vs=[.ref fa,.ref oa,.ref pa]∧SqT K H fa (fm w h f m)∧SqL K H oa (bs.map V.ref)∧SaysA K H bs ss∧SqL K H pa (as.map V.ref)∧PlsA K H as xs∧FormOk w h f m∧(∀ s ∈ ss,SayOk xs.length s)∧PlsOk h xs∧ss.length≤60∧∀ q H',Same H H'→H q=none→H' q=some (.lst (rowsV (fillW w (ss.map (saidL h f xs)))))→Q (.ref q) H'
theorem sc_foot_rows:FnScope ["form","foot","places","rows","saying","text"] ["form","foot","places"] (defScope s_foot_rows):=⟨rfl,rfl,rfl,by decide +kernel,rfl,by decide +kernel,by decide +kernel⟩
theorem ok_foot_rows (T:Txt P w K mg a) : FnOk P w K mg base CX0 3 a.f_foot_rows a.fd_foot_rows ["form","foot","places"] (sp_foot_rows K):=by
 have g_said:=ok_said (P:=P) (w:=w) (base:=base) T
 have d_said:=T.d_said
 have z_len:=T.z_len
 refine T.d_foot_rows.fn.ok sc_foot_rows (fun vs H Q E h=>?_) (fun cdv A outer s H vs Q E hr h=>?_)
 ·obtain ⟨fa,oa,pa,w,h,f,m,bs,as,ss,xs,rfl,_⟩:=h
  rfl
 obtain ⟨fa,oa,pa,w,h,f,m,bs,as,ss,xs,rfl,hf,ho,hb,hp,ha,fo,so,po,s60,q⟩:=h
 have hu:=Nat.lt_of_succ_lt (hu_of hr)
 refine ⟨_,(pss_cons (ps_set (i:=3) sc_foot_rows.nd rfl (Or.inl rfl) (pe_lst pa_nil))
   (pss_cons (ps_for PassesOwn.never rfl (pi_list (pv 1)) (pg_name (i:=4) sc_foot_rows.nd rfl (Or.inl rfl)) (pss_cons (ps_set (i:=5) sc_foot_rows.nd rfl (Or.inl rfl) (pe_callD d_said g_said (hr.mono (by decide)) rfl (pa_cons (pv 0) (pa_cons (pv 4) (pa_cons (pv 2) pa_nil)))))
   (pss_one (ps_if (PW.pt (pw_and (pt_cmpR (op_neL hu) (pv 3) (pe_lst pa_nil) (nomark _)) (pw_and1 (pt_cmpR op_le (pe_op op_add (pe_op op_add (pe_callB call_len_str rfl z_len PySem.boot_len (pa_cons (pe_ix ix_list (pv 3) (pe_un un_neg pe_int) (fun _ _=>rfl)) pa_nil)) pe_int) (pe_callB call_len_str rfl z_len PySem.boot_len (pa_cons (pv 5) pa_nil))) (pe_ix ix_tup (pv 0) pe_int (fun _ _=>rfl)) (nomark _))))) (pss_one (ps_asg (pe_op op_add_str (pe_op op_add_str (pe_ix ix_list (pv 3) (pe_un un_neg pe_int) (fun _ _=>rfl)) pe_str) (pv 5)) (pg_sub (pv 3) (pe_un un_neg pe_int) set_list))) (pss_one (ps_expr (pe_bm PySem.F.plainAttrs_list PySem.F.slot_list_append PySem.F.type_list_append mt_append (pv 3) (pa_cons (pv 5) pa_nil))))))))
   (pss_one (ps_ret (pv 3))))),?_⟩
 refine ⟨Nat.zero_le _,fun r hr=>?_⟩
 have s0:=same_new hr (.lst [])
 have sl:∀ s ∈ ss,(saidL h f xs s).length≤62:=fun s hs=>(said_len fo po (so s hs)).2.1
 refine ⟨_,rfl,_,rfl,⟨_,s0.seq ho⟩,for_list (K:=K) (a:=oa) (xs:=bs.map V.ref) (fun i σ H2=>(∃ v1 v2:Option V,σ=[some (.ref fa),some (.ref oa),some (.ref pa),some (.ref r),v1,v2])∧Same H H2∧H2 r=some (.lst (rowsV (fillW w ((ss.take i).map (saidL h f xs))))))
  ⟨⟨none,none,rfl⟩,s0,upd_same⟩ (fun i σ H2 _ h2=>h2.2.1.seq ho) ?_ ?_⟩
 ·rintro i y σ H2 hi ⟨⟨v1,v2,rfl⟩,s2,h2⟩
  obtain ⟨b,s,rfl,eb,es⟩:=foot_at hb.1 hi
  have hs:=List.mem_of_getElem? es
  have is:i < ss.length:=(List.getElem?_eq_some_iff.mp es).1
  have hts:∀ t ∈ (ss.take i).map (saidL h f xs),t.length≤62:=fun t ht=>by
   obtain ⟨u,hu,rfl⟩:=List.mem_map.mp ht
   exact sl u (List.mem_of_mem_take hu)
  obtain ⟨fs1,fs2⟩:=fill_small fo.w2 _ hts
  rw [List.length_map,List.length_take] at fs2
  rw [take_snoc es,List.map_append,List.map_singleton,fillW_snoc]
  have tl:=sl s hs
  generalize fillW w ((ss.take i).map (saidL h f xs))=rows at h2 fs1 fs2
  refine ⟨_,rfl,_,rfl,_,rfl,_,_,_,_,_,_,_,_,_,_,rfl,s2.tup hf,s2.tup (hb.2 i b s eb es),s2.seq hp,ha.same s2,fo,so s hs,po,?_⟩
  generalize saidL h f xs s=t at tl
  dsimp only [gName]
  refine ⟨_,rfl,Nat.zero_le _,fun p2 hp2=>?_⟩
  have s3:=same_new hp2 (.lst [])
  have h3:=s3 _ _ h2
  refine ⟨_,_,_,_,rfl,rfl,SqL.of h3,SqL.of upd_same,flat_rows _,rfl,_,rfl,?_⟩
  rw [if_pos rfl,rows_nil]
  rcases list_snoc rows with e | ⟨rs,l,e⟩
  ·have e:rows=[]∧fillStep w rows t=rows++[t]:=⟨e,by rw [e]; rfl⟩
   rw [e.1]
   refine iteF (iteF ?_)
   rw [← e.1]
   replace e:=e.2
   refine ⟨_,rfl,.inl ⟨rfl,_,SqL.of h3⟩,_,rfl,_,_,_,rfl,rfl,h3,?_,?_⟩
   ·unfold rowsV
    rw [List.length_map]
    exact Nat.lt_of_lt_of_le (show _ < 1000 by omega) (small (Nat.le_refl _))
   ·refine ⟨⟨_,_,rfl⟩,(s2.trans s3).put hr,?_⟩
    rw [upd_same,e,rowsV_snoc]
  ·have ne:(!rows.isEmpty)=true:=by rw [e]; simp
   rw [ne]
   refine iteT ?_
   have ll:=fs1 l (by rw [e]; simp)
   have h4:=h3
   rw [e,rowsV_snoc] at h4
   refine ⟨_,rfl,_,rfl,_,_,_,_,rfl,rfl,SqL.of h4,at_last _ _,_,rfl,(by rw [tx_len]; exact small2 (by omega)),_,_,rfl,rfl,_,rfl,_,rfl,(by rw [tx_len]; exact small2 (by omega)),_,_,rfl,rfl,_,rfl,_,_,_,_,rfl,rfl,s3.tup (s2.tup hf),rfl,_,_,rfl,rfl,_,rfl,?_⟩
   rw [tx_len,tx_len]
   refine ite2 (fun c=>?_) (fun c=>?_)
   ·have c1:(l.length:Int)+1+t.length≤w:=of_decide_eq_true c
    have w2:=fo.w2
    rw [e,fillStep_snoc,if_pos c1]
    refine ⟨_,rfl,_,rfl,_,_,_,_,rfl,rfl,SqL.of h4,at_last _ _,_,_,rfl,rfl,(by rw [tx_len,cbl,tx_len]; exact small2 (by simp; omega)),_,rfl,_,_,rfl,rfl,?_,_,rfl,_,rfl,_,_,_,_,rfl,rfl,h4,ix_last _ (by simp),?_⟩
    ·rw [cbl,tx_app,tx_len,tx_len]
     exact small2 (by simp; omega)
    ·rw [set_last,cbl,tx_app,tx_app]
     refine ⟨⟨_,_,rfl⟩,(s2.trans s3).put hr,?_⟩
     rw [upd_same,rowsV_snoc,List.append_assoc]
     rfl
   ·have c1:¬ (l.length:Int)+1+t.length≤w:=fun z=>c (decide_eq_true z)
    have e:fillStep w rows t=rows++[t]:=by rw [e,fillStep_snoc,if_neg c1]
    refine ⟨_,rfl,.inl ⟨rfl,_,SqL.of h3⟩,_,rfl,_,_,_,rfl,rfl,h3,?_,?_⟩
    ·unfold rowsV
     rw [List.length_map]
     exact Nat.lt_of_lt_of_le (show _ < 1000 by omega) (small (Nat.le_refl _))
    ·refine ⟨⟨_,_,rfl⟩,(s2.trans s3).put hr,?_⟩
     rw [upd_same,e,rowsV_snoc]
 ·rintro σ H2 ⟨⟨v1,v2,rfl⟩,s2,h2⟩
  rw [List.length_map,hb.1,List.take_length] at h2
  exact ⟨_,rfl,q _ _ s2 hr h2⟩
def sp_foot_high (K:PySem.W.Frag) : Sp:=fun vs H Q _=>∃ (fa oa pa:Addr) (w h f m:Int) (bs as:List Addr) (ss:List Say) (xs:List (Int × Int)),vs=[.ref fa,.ref oa,.ref pa]∧SqT K H fa (fm w h f m)∧SqL K H oa (bs.map V.ref)∧SaysA K H bs ss∧SqL K H pa (as.map V.ref)∧PlsA K H as xs∧FormOk w h f m∧(∀ s ∈ ss,SayOk xs.length s)∧PlsOk h xs∧ss.length≤60∧∀ H',Same H H'→Q (.int (highF w h (ss.map (saidL h f xs)))) H'
theorem sc_foot_high:FnScope ["form","foot","places","rows"] ["form","foot","places"] (defScope s_foot_high):=⟨rfl,rfl,rfl,by decide +kernel,rfl,by decide +kernel,by decide +kernel⟩
theorem ok_foot_high (T:Txt P w K mg a) : FnOk P w K mg base CX0 4 a.f_foot_high a.fd_foot_high ["form","foot","places"] (sp_foot_high K):=by
 have g_foot_rows:=ok_foot_rows (P:=P) (w:=w) (base:=base) T
 have d_foot_rows:=T.d_foot_rows
 have z_any:=T.z_any
 have z_len:=T.z_len
 have z_min:=T.z_min
 refine T.d_foot_high.fn.ok sc_foot_high (fun vs H Q E h=>?_) (fun cdv A outer s H vs Q E hr h=>?_)
 ·obtain ⟨fa,oa,pa,w,h,f,m,bs,as,ss,xs,rfl,_⟩:=h
  rfl
 obtain ⟨fa,oa,pa,w,h,f,m,bs,as,ss,xs,rfl,hf,ho,hb,hp,ha,fo,so,po,s60,q⟩:=h
 have hu:=Nat.lt_of_succ_lt (hu_of hr)
 refine ⟨_,(pss_cons (ps_set (i:=3) sc_foot_high.nd rfl (Or.inl rfl) (pe_callD d_foot_rows g_foot_rows (hr.mono (by decide)) rfl (pa_cons (pv 0) (pa_cons (pv 1) (pa_cons (pv 2) pa_nil)))))
   (pss_cons (ps_if (pt_val (pe_callB (call_any rfl) rfl z_any PyProof.Rows.boot_any (pa_cons (pe_lc rfl (lcok (caps:=["form"]) (js:=[0]) (cap:=⟨⟨rfl,.inl rfl,rfl,.inl rfl⟩,trivial⟩)) (pi_list (pv 3)) (fun _ _ _ _=>pts_nil) (fun _ _ _ _=>(pe_cmpR op_gt (pe_callB call_len_str rfl z_len PySem.boot_len (pa_cons (pv 0) pa_nil)) (pe_ix (r:=rIxT K) ix_tup (pv 1) pe_int (fun _ _=>rfl)) (nomark _)))) pa_nil)) (fun _=>rfl)) (pss_one (ps_ret (pe_ix ix_tup (pv 0) pe_int (fun _ _=>rfl)))) pss_nil)
   (pss_one (ps_ret (pe_callB (call_min2 rfl) rfl z_min PyProof.Rows.boot_min (pa_cons (pe_callB call_len_seq rfl z_len PySem.boot_len (pa_cons (pv 3) pa_nil)) (pa_cons (pe_ix ix_tup (pv 0) pe_int (fun _ _=>rfl)) pa_nil))))))),?_⟩
 have sl:∀ t ∈ ss.map (saidL h f xs),t.length≤62:=fun t ht=>by
  obtain ⟨s,hs,rfl⟩:=List.mem_map.mp ht
  exact (said_len fo po (so s hs)).2.1
 obtain ⟨fs1,fs2⟩:=fill_small fo.w2 _ sl
 rw [List.length_map] at fs2
 refine ⟨_,rfl,_,rfl,_,rfl,_,_,_,_,_,_,_,_,_,_,_,rfl,hf,ho,hb,hp,ha,fo,so,po,s60,fun r H1 s1 hr h1=>?_⟩
 unfold highF at q
 generalize fillW w (ss.map (saidL h f xs))=rows at h1 fs1 fs2 q
 refine ⟨_,rfl,_,rfl,⟨_,SqL.of h1⟩,lc_list (K:=K) (a:=r) (xs:=rowsV rows) (fun i ys H2=>H2=H1∧ys=((rows.take i).map fun t=>decide (w < (t.length:Int))).map V.bl) ⟨rfl,rfl⟩ (fun i ys H2 _ h2=>by rw [h2.1]; exact SqL.of h1) ?_ ?_ ?_⟩
 ·rintro i ys H2 hi ⟨_,rfl⟩
  rw [List.length_map,List.length_map,List.length_take]
  exact Nat.lt_of_lt_of_le (show _ < 1000 by omega) (small (Nat.le_refl _))
 ·rintro i y ys H2 hi ⟨rfl,rfl⟩
  obtain ⟨t,rfl,et⟩:=rows_at hi
  have tl:=fs1 t (List.mem_of_getElem? et)
  refine yes_go ?_
  refine ⟨_,rfl,_,rfl,(by rw [tx_len]; exact small2 (by omega)),_,rfl,_,_,_,_,rfl,rfl,s1.tup hf,rfl,_,_,rfl,rfl,rfl,?_⟩
  rw [take_snoc et,List.map_append,List.map_append,tx_len]
  rfl
 ·rintro ys H2 ⟨rfl,rfl⟩ p hp2
  have s2:=same_new hp2 (.lst (((rows.take (rowsV rows).length).map fun t=>decide (w < (t.length:Int))).map V.bl))
  refine ⟨_,_,rfl,SqL.of upd_same,_,rfl,?_⟩
  have el:(rowsV rows).length=rows.length:=by unfold rowsV; rw [List.length_map]
  rw [el,List.take_length] at s2 ⊢
  rw [List.any_map]
  have ea:rows.any (id ∘ fun t=>decide (w < (t.length:Int)))=rows.any fun t=>decide (w < (t.length:Int)):=rfl
  rw [ea]
  have hf2:=s2.tup (s1.tup hf)
  have q2:=q _ (s1.trans s2)
  refine ite2 (fun c=>?_) (fun c=>?_)
  ·rw [if_pos c] at q2
   exact ⟨_,rfl,_,_,_,_,rfl,rfl,hf2,rfl,q2⟩
  ·rw [if_neg c] at q2
   refine ⟨_,rfl,_,_,rfl,.inl (s2.seq (SqL.of h1)),_,rfl,_,_,_,_,rfl,rfl,hf2,rfl,_,_,rfl,?_⟩
   rw [el]
   exact q2
def sp_highs_of (K:PySem.W.Frag) : Sp:=fun vs H Q _=>∃ (ba la:Addr) (j n:Nat) (i:Int) (F:Frm) (ds:List Wd) (xs:List (Int × Int)),vs=[.ref ba,.ref la,.int (j:Int),.int i]∧i+1=(n:Int)∧BkAt K H ba F.w F.h F.f F.m ds∧LwAt K H la xs∧BkOk F ds xs∧n≤ds.length∧j≤n∧∀ q H',Same H H'→H q=none→H' q=some (.lst (((segP ds j n).map (highW F xs)).map V.int))→Q (.ref q) H'
theorem sc_highs_of:FnScope ["book","low","j","i"] ["book","low","j","i"] (defScope s_highs_of):=⟨rfl,rfl,rfl,by decide +kernel,rfl,by decide +kernel,by decide +kernel⟩
theorem ok_highs_of (T:Txt P w K mg a) : FnOk P w K mg base CX0 5 a.f_highs_of a.fd_highs_of ["book","low","j","i"] (sp_highs_of K):=by
 have g_foot_high:=ok_foot_high (P:=P) (w:=w) (base:=base) T
 have d_foot_high:=T.d_foot_high
 refine T.d_highs_of.fn.ok sc_highs_of (fun vs H Q E h=>?_) (fun cdv A outer s H vs Q E hr h=>?_)
 ·obtain ⟨ba,la,j,n,i,F,ds,xs,rfl,_⟩:=h
  rfl
 obtain ⟨ba,la,j,n,i,F,ds,xs,rfl,he,hbk,hlw,B,hi,hj,q⟩:=h
 have hu:=Nat.lt_of_succ_lt (hu_of hr)
 refine ⟨_,(pss_one (ps_ret (pe_lc rfl (lcok (caps:=["book","low"]) (js:=[0,1]) (cap:=⟨⟨rfl,.inl rfl,rfl,.inl rfl⟩,⟨⟨rfl,.inl rfl,rfl,.inl rfl⟩,trivial⟩⟩)) (pi_list (pe_slice sl_list (pe_ix ix_tup (pv 0) pe_int (fun _ _=>rfl)) (po_some (pv 2)) (po_some (pe_op op_add (pv 3) pe_int)))) (fun _ _ _ _=>pts_nil) (fun _ _ _ _=>(pe_callD d_foot_high g_foot_high (hr.mono (by decide)) rfl (pa_cons (pe_ix (r:=rIxT K) ix_tup (pv 1) pe_int (fun _ _=>rfl)) (pa_cons (pe_ix (r:=rIxT K) ix_tup (pv 0) pe_int (fun _ _=>rfl)) (pa_cons (pv 2) pa_nil)))))))),?_⟩
 obtain ⟨fa,wa,was,hb,hf,hw,hws⟩:=hbk
 obtain ⟨las,hla,hls⟩:=hlw
 refine ⟨_,rfl,_,_,_,_,rfl,rfl,hb,rfl,_,rfl,_,rfl,_,rfl,_,_,rfl,rfl,_,rfl,_,_,rfl,hw,fun p1 hp1=>?_⟩
 have ec:cutV (was.map V.ref) (some (j:Int)) (some (i+1))=((was.drop j).take (n - j)).map V.ref:=by
  have:=cut_nat was j n
  rw [cutV_map,he]
  exact congrArg (List.map V.ref) this
 have s1:=same_new hp1 (.lst (cutV (was.map V.ref) (some (j:Int)) (some (i+1))))
 have h1:(upd H p1 (.lst (cutV (was.map V.ref) (some (j:Int)) (some (i+1))))) p1=some (.lst (((was.drop j).take (n - j)).map V.ref)):=by rw [upd_same,ec]
 generalize upd H p1 (.lst (cutV (was.map V.ref) (some (j:Int)) (some (i+1))))=H1 at s1 h1
 have wsg:WdsA K H ((was.drop j).take (n - j)) (segP ds j n):=(hws.drop j).take (n - j)
 have sub:∀ d ∈ segP ds j n,WdOk xs.length d:=fun d hd=>B.len ▸ B.wd d (List.mem_of_mem_drop (List.mem_of_mem_take hd))
 have sl:(segP ds j n).length≤400:=by unfold segP; have:=B.n; simp; omega
 generalize (was.drop j).take (n - j)=sas at h1 wsg
 generalize segP ds j n=sd at wsg sub q sl
 refine ⟨_,rfl,⟨_,SqL.of h1⟩,lc_list (K:=K) (a:=p1) (xs:=sas.map V.ref) (fun k ys H2=>Same H1 H2∧ys=((sd.take k).map (highW F xs)).map V.int) ⟨Same.refl _,rfl⟩ (fun k ys H2 _ h2=>h2.1.seq (SqL.of h1)) ?_ ?_ ?_⟩
 ·rintro k ys H2 hk ⟨_,rfl⟩
  rw [List.length_map,List.length_map,List.length_take]
  exact Nat.lt_of_lt_of_le (show _ < 1000 by omega) (small (Nat.le_refl _))
 ·rintro k y ys H2 hk ⟨s2,rfl⟩
  obtain ⟨b,d,rfl,eb,ed⟩:=wd_at wsg.1 hk
  obtain ⟨sa,fo,bs,ht,g2,g3,g4⟩:=wsg.2 k b d eb ed
  have wk:=sub d (List.mem_of_getElem? ed)
  have t:=s1.trans s2
  refine yes_go ?_
  refine ⟨_,rfl,_,_,_,_,rfl,rfl,t.tup hb,rfl,_,rfl,_,_,_,_,rfl,rfl,t.tup ht,rfl,_,rfl,_,_,_,_,_,_,_,_,_,_,_,rfl,t.tup hf,t.seq g3,g4.same t,t.seq hla,hls.same t,B.fo,wk.f,B.po,(by have:=wk.n; omega),fun H3 s3=>⟨s2.trans s3,?_⟩⟩
  rw [take_snoc ed,List.map_append,List.map_append]
  rfl
 ·rintro ys H2 ⟨s2,rfl⟩ p hp
  have e:(sas.map V.ref).length=sd.length:=by rw [List.length_map,wsg.1]
  rw [e,List.take_length] at *
  exact q _ _ (s1.trans (s2.trans (same_new hp _))) ((s1.trans s2).free hp) upd_same
def sp_together (K:PySem.W.Frag) : Sp:=fun vs H Q _=>∃ (a:Addr) (ns:List Int),vs=[.ref a]∧SqL K H a (ns.map V.int)∧Q (.int (L2.together ns)) H
theorem sc_together:FnScope ["wides"] ["wides"] (defScope s_together):=⟨rfl,rfl,rfl,by decide +kernel,rfl,by decide +kernel,by decide +kernel⟩
theorem ok_together (T:Txt P w K mg a) : FnOk P w K mg base CX0 1 a.f_together a.fd_together ["wides"] (sp_together K):=by
 have z_len:=T.z_len
 have z_sum:=T.z_sum
 refine T.d_together.fn.ok sc_together (fun vs H Q E h=>?_) (fun cdv A outer s H vs Q E hr h=>?_)
 ·obtain ⟨a,ns,rfl,_⟩:=h
  rfl
 obtain ⟨a,ns,rfl,hn,q⟩:=h
 have hu:=Nat.lt_of_succ_lt (hu_of hr)
 refine ⟨_,(pss_one (ps_ret (pe_op op_sub (pe_op op_add (pe_callB (call_sum rfl) rfl z_sum PyProof.Rows.boot_sum (pa_cons (pv 0) pa_nil)) (pe_callB call_len_seq rfl z_len PySem.boot_len (pa_cons (pv 0) pa_nil))) pe_int))),?_⟩
 refine ⟨_,rfl,_,_,rfl,hn,_,rfl,_,_,rfl,.inl hn,_,_,rfl,rfl,_,_,rfl,rfl,?_⟩
 unfold L2.together at q
 rw [List.length_map]
 exact q
def sp_next_top (K:PySem.W.Frag) : Sp:=fun vs H Q _=>∃ (a:Addr) (x:Int × Int),vs=[.ref a]∧SqT K H a (pl x)∧∀ q H',Same H H'→SqT K H' q (pl (nextTop x))→Q (.ref q) H'
theorem sc_next_top:FnScope ["place"] ["place"] (defScope s_next_top):=⟨rfl,rfl,rfl,by decide +kernel,rfl,by decide +kernel,by decide +kernel⟩
theorem ok_next_top (T:Txt P w K mg a) : FnOk P w K mg base CX0 1 a.f_next_top a.fd_next_top ["place"] (sp_next_top K):=by
 refine T.d_next_top.fn.ok sc_next_top (fun vs H Q E h=>?_) (fun cdv A outer s H vs Q E hr h=>?_)
 ·obtain ⟨a,x,rfl,_⟩:=h
  rfl
 obtain ⟨a,x,rfl,hx,q⟩:=h
 have hu:=Nat.lt_of_succ_lt (hu_of hr)
 refine ⟨_,(pss_one (ps_ret (pe_tup (pa_cons (pe_op op_add (pe_ix ix_tup (pv 0) pe_int (fun _ _=>rfl)) pe_int) (pa_cons pe_int pa_nil))))),?_⟩
 refine ⟨_,rfl,_,_,_,_,rfl,rfl,hx,rfl,_,_,rfl,rfl,le2,fun p1 hp1=>?_⟩
 exact q _ _ (same_new hp1 _) (by (repeat first | assumption | exact SqT.of upd_same | exact SqL.of upd_same | exact upd_same | refine Same.tup (same_new (by assumption) _) ?_ | refine Same.seq (same_new (by assumption) _) ?_ | refine Same.tup (by assumption) ?_ | refine Same.seq (by assumption) ?_ | refine SqT.lst (by assumption) ?_))
def sp_first_from (K:PySem.W.Frag) : Sp:=fun vs H Q _=>∃ (fa a:Addr) (w h f m l:Int) (x:Int × Int),vs=[.ref fa,.ref a,.int l]∧SqT K H fa (fm w h f m)∧SqT K H a (pl x)∧∀ q H',Same H H'→SqT K H' q (pl (firstFrom f x l))→Q (.ref q) H'
theorem sc_first_from:FnScope ["form","place","lead"] ["form","place","lead"] (defScope s_first_from):=⟨rfl,rfl,rfl,by decide +kernel,rfl,by decide +kernel,by decide +kernel⟩
theorem ok_first_from (T:Txt P w K mg a) : FnOk P w K mg base CX0 2 a.f_first_from a.fd_first_from ["form","place","lead"] (sp_first_from K):=by
 have g_next_top:=ok_next_top (P:=P) (w:=w) (base:=base) T
 have d_next_top:=T.d_next_top
 refine T.d_first_from.fn.ok sc_first_from (fun vs H Q E h=>?_) (fun cdv A outer s H vs Q E hr h=>?_)
 ·obtain ⟨fa,a,w,h,f,m,k,x,rfl,_⟩:=h
  rfl
 obtain ⟨fa,a,w,h,f,m,l,x,rfl,hf,hx,q⟩:=h
 have hu:=Nat.lt_of_succ_lt (hu_of hr)
 refine ⟨_,(pss_cons (ps_if (PW.pt (pw_and (pt_cmpR op_eq (pv 2) pe_int (nomark _)) (pw_and1 (pt_cmpR op_eq (pe_op op_mod (pe_op op_add (pe_ix ix_tup (pv 0) pe_int (fun _ _=>rfl)) (pe_ix ix_tup (pv 1) pe_int (fun _ _=>rfl))) pe_int) pe_int (nomark _))))) (pss_one (ps_ret (pe_callD d_next_top g_next_top (hr.mono (by decide)) rfl (pa_cons (pv 1) pa_nil)))) pss_nil)
   (pss_one (ps_ret (pv 1)))),?_⟩
 refine ⟨_,rfl,rfl,_,rfl,?_⟩
 refine andG (fun c=>?_) (fun c=>?_)
 ·refine ⟨_,rfl,q _ _ (Same.refl _) ?_⟩
  rw [firstFrom,if_neg (fun z=>c (int_eq.mpr z.1))]
  exact hx
 ·refine ⟨_,rfl,_,_,_,_,rfl,rfl,hf,rfl,_,rfl,_,_,_,_,rfl,rfl,hx,rfl,_,_,rfl,rfl,_,_,rfl,rfl,(by (first | decide | (show (0:Int) < _; first | decide | omega))),rfl,_,rfl,?_⟩
  refine ite2 (fun c2=>?_) (fun c2=>?_)
  ·refine ⟨_,rfl,_,_,rfl,hx,fun q1 H1 s1 h1=>q _ _ s1 ?_⟩
   rw [firstFrom,if_pos ⟨int_eq.mp c,int_eq.mp c2⟩]
   exact h1
  ·refine ⟨_,rfl,q _ _ (Same.refl _) ?_⟩
   rw [firstFrom,if_neg (fun z=>c2 (int_eq.mpr z.2))]
   exact hx
def sp_rows_on (K:PySem.W.Frag) : Sp:=fun vs H Q _=>∃ (fa a:Addr) (w h f m k:Int) (x:Int × Int),vs=[.ref fa,.ref a,.int k]∧SqT K H fa (fm w h f m)∧SqT K H a (pl x)∧∀ q H',Same H H'→SqT K H' q (pl (rowsOn h x k))→Q (.ref q) H'
theorem sc_rows_on:FnScope ["form","place","rows","row"] ["form","place","rows"] (defScope s_rows_on):=⟨rfl,rfl,rfl,by decide +kernel,rfl,by decide +kernel,by decide +kernel⟩
theorem ok_rows_on (T:Txt P w K mg a) : FnOk P w K mg base CX0 2 a.f_rows_on a.fd_rows_on ["form","place","rows"] (sp_rows_on K):=by
 have g_next_top:=ok_next_top (P:=P) (w:=w) (base:=base) T
 have d_next_top:=T.d_next_top
 refine T.d_rows_on.fn.ok sc_rows_on (fun vs H Q E h=>?_) (fun cdv A outer s H vs Q E hr h=>?_)
 ·obtain ⟨fa,a,w,h,f,m,k,x,rfl,_⟩:=h
  rfl
 obtain ⟨fa,a,w,h,f,m,k,x,rfl,hf,hx,q⟩:=h
 have hu:=Nat.lt_of_succ_lt (hu_of hr)
 refine ⟨_,(pss_cons (ps_set (i:=3) sc_rows_on.nd rfl (Or.inl rfl) (pe_op op_add (pe_ix ix_tup (pv 1) pe_int (fun _ _=>rfl)) (pv 2)))
   (pss_cons (ps_if (pt_cmpR op_ge (pv 3) (pe_ix ix_tup (pv 0) pe_int (fun _ _=>rfl)) (nomark _)) (pss_one (ps_ret (pe_callD d_next_top g_next_top (hr.mono (by decide)) rfl (pa_cons (pv 1) pa_nil)))) pss_nil)
   (pss_one (ps_ret (pe_tup (pa_cons (pe_ix ix_tup (pv 1) pe_int (fun _ _=>rfl)) (pa_cons (pv 3) pa_nil))))))),?_⟩
 refine ⟨_,rfl,_,_,_,_,rfl,rfl,hx,rfl,_,rfl,_,_,rfl,rfl,?_⟩
 refine ⟨_,rfl,_,rfl,_,_,_,_,rfl,rfl,hf,rfl,_,_,rfl,rfl,_,rfl,?_⟩
 refine ite2 (fun c=>?_) (fun c=>?_)
 ·have c1:h≤x.2+k:=of_decide_eq_true c
  refine ⟨_,rfl,_,_,rfl,hx,fun q1 H1 s1 h1=>q _ _ s1 ?_⟩
  rw [rowsOn,if_pos c1]
  exact h1
 ·have c1:¬ h≤x.2+k:=fun z=>c (decide_eq_true z)
  refine ⟨_,rfl,_,_,_,_,rfl,rfl,hx,rfl,_,rfl,le2,fun p1 hp1=>q _ _ (same_new hp1 _) ?_⟩
  rw [rowsOn,if_neg c1]
  exact SqT.of upd_same
def sp_behind (K:PySem.W.Frag) : Sp:=fun vs H Q _=>∃ (fa a:Addr) (w h f m l:Int) (x:Int × Int),vs=[.ref fa,.ref a,.int l]∧SqT K H fa (fm w h f m)∧SqT K H a (pl x)∧∀ q H',Same H H'→SqT K H' q (pl (behindI h f x l))→Q (.ref q) H'
theorem sc_behind:FnScope ["form","place","lead"] ["form","place","lead"] (defScope s_behind):=⟨rfl,rfl,rfl,by decide +kernel,rfl,by decide +kernel,by decide +kernel⟩
theorem ok_behind (T:Txt P w K mg a) : FnOk P w K mg base CX0 3 a.f_behind a.fd_behind ["form","place","lead"] (sp_behind K):=by
 have g_first_from:=ok_first_from (P:=P) (w:=w) (base:=base) T
 have d_first_from:=T.d_first_from
 have g_next_top:=ok_next_top (P:=P) (w:=w) (base:=base) T
 have d_next_top:=T.d_next_top
 have g_rows_on:=ok_rows_on (P:=P) (w:=w) (base:=base) T
 have d_rows_on:=T.d_rows_on
 refine T.d_behind.fn.ok sc_behind (fun vs H Q E h=>?_) (fun cdv A outer s H vs Q E hr h=>?_)
 ·obtain ⟨fa,a,w,h,f,m,k,x,rfl,_⟩:=h
  rfl
 obtain ⟨fa,a,w,h,f,m,l,x,rfl,hf,hx,q⟩:=h
 have hu:=Nat.lt_of_succ_lt (hu_of hr)
 refine ⟨_,(pss_cons (ps_if (pt_cmpR op_eq (pv 2) pe_int (nomark _)) (pss_one (ps_ret (pv 1))) pss_nil)
   (pss_cons (ps_if (pt_cmpR op_eq (pv 2) pe_int (nomark _)) (pss_one (ps_ret (pe_callD d_rows_on g_rows_on (hr.mono (by decide)) rfl (pa_cons (pv 0) (pa_cons (pv 1) (pa_cons pe_int pa_nil)))))) pss_nil)
   (pss_cons (ps_if (pt_cmpR op_eq (pv 2) pe_int (nomark _)) (pss_one (ps_ret (pe_callD d_rows_on g_rows_on (hr.mono (by decide)) rfl (pa_cons (pv 0) (pa_cons (pv 1) (pa_cons pe_int pa_nil)))))) pss_nil)
   (pss_one (ps_ret (pe_callD d_first_from g_first_from (hr.mono (by decide)) rfl (pa_cons (pv 0) (pa_cons (pe_callD d_next_top g_next_top (hr.mono (by decide)) rfl (pa_cons (pv 1) pa_nil)) (pa_cons (pv 2) pa_nil))))))))),?_⟩
 refine ⟨_,rfl,rfl,_,rfl,?_⟩
 refine ite2 (fun c0=>?_) (fun c0=>?_)
 ·refine ⟨_,rfl,q _ _ (Same.refl _) ?_⟩
  rw [behindI,if_pos (int_eq.mp c0)]
  exact hx
 have n0:=int_ne.mp c0
 refine ⟨_,rfl,rfl,_,rfl,?_⟩
 refine ite2 (fun c1=>?_) (fun c1=>?_)
 ·refine ⟨_,rfl,_,rfl,_,_,_,_,_,_,_,_,rfl,hf,hx,fun q1 H1 s1 h1=>q _ _ s1 ?_⟩
  rw [behindI,if_neg n0,if_pos (int_eq.mp c1)]
  exact h1
 have n1:=int_ne.mp c1
 refine ⟨_,rfl,rfl,_,rfl,?_⟩
 refine ite2 (fun c2=>?_) (fun c2=>?_)
 ·refine ⟨_,rfl,_,rfl,_,_,_,_,_,_,_,_,rfl,hf,hx,fun q1 H1 s1 h1=>q _ _ s1 ?_⟩
  rw [behindI,if_neg n0,if_neg n1,if_pos (int_eq.mp c2)]
  exact h1
 have n2:=int_ne.mp c2
 refine ⟨_,rfl,_,rfl,_,_,rfl,hx,fun q1 H1 s1 h1=>?_⟩
 refine ⟨_,rfl,_,_,_,_,_,_,_,_,rfl,s1.tup hf,h1,fun q2 H2 s2 h2=>q _ _ (s1.trans s2) ?_⟩
 rw [behindI,if_neg n0,if_neg n1,if_neg n2]
 exact h2
def sp_later (K:PySem.W.Frag) : Sp:=fun vs H Q _=>∃ (a b:Addr) (x y:Int × Int),vs=[.ref a,.ref b]∧SqT K H a (pl x)∧SqT K H b (pl y)∧∀ q,SqT K H q (pl (laterI x y))→Q (.ref q) H
theorem sc_later:FnScope ["one","other"] ["one","other"] (defScope s_later):=⟨rfl,rfl,rfl,by decide +kernel,rfl,by decide +kernel,by decide +kernel⟩
theorem ok_later (T:Txt P w K mg a) : FnOk P w K mg base CX0 1 a.f_later a.fd_later ["one","other"] (sp_later K):=by
 have z_max:=T.z_max
 refine T.d_later.fn.ok sc_later (fun vs H Q E h=>?_) (fun cdv A outer s H vs Q E hr h=>?_)
 ·obtain ⟨a,b,x,y,rfl,_⟩:=h
  rfl
 obtain ⟨a,b,x,y,rfl,hx,hy,q⟩:=h
 have hu:=Nat.lt_of_succ_lt (hu_of hr)
 refine ⟨_,(pss_one (ps_ret (pe_callB (call_maxT rfl (hu_of hr)) rfl z_max PyProof.Rows.boot_max (pa_cons (pv 0) (pa_cons (pv 1) pa_nil))))),?_⟩
 refine ⟨_,rfl,_,rfl,_,_,[x.1,x.2],[y.1,y.2],rfl,hx,hy,?_⟩
 rw [lex_gt]
 cases e:sooner x y with
 | true=>exact q _ (by rw [laterI,e]; exact hy)
 | false=>exact q _ (by rw [laterI,e]; exact hx)
def sp_told_behind (K:PySem.W.Frag) : Sp:=fun vs H Q _=>∃ (ba la:Addr) (i:Nat) (F:Frm) (ds:List Wd) (xs:List (Int × Int)),vs=[.ref ba,.ref la,.int (i:Int)]∧BkAt K H ba F.w F.h F.f F.m ds∧LwAt K H la xs∧BkOk F ds xs∧i < ds.length∧∀ q H',Same H H'→SqT K H' q (pl (toldBehind F ds xs i))→Q (.ref q) H'
theorem sc_told_behind:FnScope ["book","low","i","form","lead","place"] ["book","low","i"] (defScope s_told_behind):=⟨rfl,rfl,rfl,by decide +kernel,rfl,by decide +kernel,by decide +kernel⟩
theorem ok_told_behind (T:Txt P w K mg a) : FnOk P w K mg base CX0 4 a.f_told_behind a.fd_told_behind ["book","low","i"] (sp_told_behind K):=by
 have g_behind:=ok_behind (P:=P) (w:=w) (base:=base) T
 have d_behind:=T.d_behind
 have g_first_from:=ok_first_from (P:=P) (w:=w) (base:=base) T
 have d_first_from:=T.d_first_from
 have g_later:=ok_later (P:=P) (w:=w) (base:=base) T
 have d_later:=T.d_later
 refine T.d_told_behind.fn.ok sc_told_behind (fun vs H Q E h=>?_) (fun cdv A outer s H vs Q E hr h=>?_)
 ·obtain ⟨ba,la,i,F,ds,xs,rfl,_⟩:=h
  rfl
 obtain ⟨ba,la,i,F,ds,xs,rfl,hbk,hlw,B,hi,q⟩:=h
 have hu:=Nat.lt_of_succ_lt (hu_of hr)
 refine ⟨_,(pss_cons (ps_set (i:=3) sc_told_behind.nd rfl (Or.inl rfl) (pe_ix ix_tup (pv 0) pe_int (fun _ _=>rfl)))
   (pss_cons (ps_set (i:=4) sc_told_behind.nd rfl (Or.inl rfl) (pe_ix ix_tup (pe_ix ix_list (pe_ix ix_tup (pv 0) pe_int (fun _ _=>rfl)) (pv 2) (fun _ _=>rfl)) pe_int (fun _ _=>rfl)))
   (pss_cons (ps_set (i:=5) sc_told_behind.nd rfl (Or.inl rfl) (pe_ix ix_list (pv 1) (pv 2) (fun _ _=>rfl)))
   (pss_cons (ps_if (pt_cmpR op_gt (pv 2) pe_int (nomark _)) (pss_one (ps_set (i:=5) sc_told_behind.nd rfl (Or.inl rfl) (pe_callD d_later g_later (hr.mono (by decide)) rfl (pa_cons (pv 5) (pa_cons (pe_callD d_behind g_behind (hr.mono (by decide)) rfl (pa_cons (pv 3) (pa_cons (pe_ix ix_list (pv 1) (pe_op op_sub (pv 2) pe_int) (fun _ _=>rfl)) (pa_cons (pv 4) pa_nil)))) pa_nil))))) pss_nil)
   (pss_one (ps_ret (pe_callD d_first_from g_first_from (hr.mono (by decide)) rfl (pa_cons (pv 3) (pa_cons (pv 5) (pa_cons (pv 4) pa_nil)))))))))),?_⟩
 obtain ⟨fa,wa,was,hb,hf,hw,hws⟩:=hbk
 obtain ⟨las,hla,hls⟩:=hlw
 obtain ⟨wo,eo,sa,fo,bs,ht,h2,h3,h4⟩:=hws.get hi
 obtain ⟨xo,ex,hx⟩:=LwAt.get (a:=la) hls (B.len ▸ hi)
 refine ⟨_,rfl,_,_,_,_,rfl,rfl,hb,rfl,?_⟩
 refine ⟨_,rfl,_,_,_,_,rfl,rfl,hb,rfl,_,rfl,_,_,_,_,rfl,rfl,hw,eo,_,_,_,_,rfl,rfl,ht,rfl,?_⟩
 refine ⟨_,rfl,_,rfl,_,_,_,_,rfl,rfl,hla,ex,?_⟩
 dsimp only [gName]
 refine cut_seq (fun σ' H'=>Same H H'∧∃ pa,σ' = [some (.ref ba),some (.ref la),some (.int (i:Int)),some (.ref fa),some (.int (dAt ds i).lead),some (.ref pa)]∧SqT K H' pa (pl (if 0 < i then laterI (xAt xs i) (behindI F.h F.f (xAt xs (i - 1)) (dAt ds i).lead) else xAt xs i))) ?_ (fun key=>?_)
 ·rintro σ' H' ⟨s',pa,rfl,hp⟩
  refine ⟨_,rfl,_,rfl,_,rfl,_,_,_,_,_,_,_,_,rfl,s'.tup hf,hp,fun q1 H1 s1 h1=>q _ _ (s'.trans s1) h1⟩
 ·refine ⟨_,rfl,_,_,rfl,rfl,_,rfl,?_⟩
  refine ite2 (fun c=>?_) (fun c=>?_)
  ·have c1:0 < i:=by
    have:(0:Int) < (i:Int):=of_decide_eq_true c
    omega
   obtain ⟨yo,ey,hy⟩:=LwAt.get (a:=la) hls (show i - 1 < xs.length by rw [← B.len]; omega)
   have ei:(i:Int) - 1=((i - 1:Nat) : Int):=by omega
   refine ⟨_,rfl,_,rfl,_,rfl,_,rfl,_,_,rfl,rfl,_,_,_,_,rfl,rfl,hla,(by rw [ei]; exact ey),_,rfl,_,_,_,_,_,_,_,_,rfl,hf,hy,fun q1 H1 s1 h1=>?_⟩
   refine ⟨_,_,_,_,rfl,s1.tup hx,h1,fun q2 h2=>?_⟩
   exact key _ _ ⟨s1,q2,rfl,by rw [if_pos c1]; exact h2⟩
  ·have c1:¬ 0 < i:=fun z=>c (decide_eq_true (by omega))
   exact key _ _ ⟨Same.refl _,xo,rfl,by rw [if_neg c1]; exact hx⟩
def sp_told_high (K:PySem.W.Frag) : Sp:=fun vs H Q _=>∃ (ba la:Addr) (i j:Nat) (high:Int) (F:Frm) (ds:List Wd) (xs:List (Int × Int)),vs=[.ref ba,.ref la,.int (i:Int),.int (j:Int),.int high]∧BkAt K H ba F.w F.h F.f F.m ds∧LwAt K H la xs∧BkOk F ds xs∧i < ds.length∧j < ds.length∧∀ v H',Same H H'→PlO K H' v (toldHigh F xs i j high)→Q v H'
theorem sc_told_high:FnScope ["book","low","i","j","high","page"] ["book","low","i","j","high"] (defScope s_told_high):=⟨rfl,rfl,rfl,by decide +kernel,rfl,by decide +kernel,by decide +kernel⟩
theorem ok_told_high (T:Txt P w K mg a) : FnOk P w K mg base CX0 1 a.f_told_high a.fd_told_high ["book","low","i","j","high"] (sp_told_high K):=by
 refine T.d_told_high.fn.ok sc_told_high (fun vs H Q E h=>?_) (fun cdv A outer s H vs Q E hr h=>?_)
 ·obtain ⟨ba,la,i,j,high,F,ds,xs,rfl,_⟩:=h
  rfl
 obtain ⟨ba,la,i,j,high,F,ds,xs,rfl,hbk,hlw,B,hi,hj,q⟩:=h
 have hu:=Nat.lt_of_succ_lt (hu_of hr)
 refine ⟨_,(pss_cons (ps_set (i:=5) sc_told_high.nd rfl (Or.inl rfl) (pe_ix ix_tup (pe_ix ix_list (pv 1) (pv 2) (fun _ _=>rfl)) pe_int (fun _ _=>rfl)))
   (pss_cons (ps_if (PW.pt (pw_or (pt_cmpR op_lt (pe_ix ix_tup (pe_ix ix_list (pv 1) (pv 3) (fun _ _=>rfl)) pe_int (fun _ _=>rfl)) (pv 5) (nomark _)) (pw_or1 (pt_cmpR op_le (pe_op op_add (pe_op op_add (pe_ix ix_tup (pe_ix ix_list (pv 1) (pv 2) (fun _ _=>rfl)) pe_int (fun _ _=>rfl)) pe_int) (pv 4)) (pe_ix ix_tup (pe_ix ix_tup (pv 0) pe_int (fun _ _=>rfl)) pe_int (fun _ _=>rfl)) (nomark _))))) (pss_one (ps_ret pe_non)) pss_nil)
   (pss_one (ps_ret (pe_tup (pa_cons (pe_op op_add (pv 5) pe_int) (pa_cons pe_int pa_nil))))))),?_⟩
 obtain ⟨fa,wa,was,hb,hf,hw,hws⟩:=hbk
 obtain ⟨las,hla,hls⟩:=hlw
 obtain ⟨xo,ex,hx⟩:=LwAt.get (a:=la) hls (B.len ▸ hi)
 obtain ⟨yo,ey,hy⟩:=LwAt.get (a:=la) hls (B.len ▸ hj)
 refine ⟨_,rfl,_,rfl,_,_,_,_,rfl,rfl,hla,ex,_,_,_,_,rfl,rfl,hx,rfl,?_⟩
 refine ⟨_,rfl,_,rfl,_,_,_,_,rfl,rfl,hla,ey,_,_,_,_,rfl,rfl,hy,rfl,_,rfl,_,_,rfl,rfl,_,rfl,?_⟩
 refine orG (fun c=>?_) (fun c=>?_)
 ·have c1:(xAt xs j).1 < (xAt xs i).1:=of_decide_eq_true c
  exact q _ _ (Same.refl _) (by rw [toldHigh,if_pos (.inl c1)]; rfl)
 have c1:¬ (xAt xs j).1 < (xAt xs i).1:=fun z=>c (decide_eq_true z)
 refine ⟨_,rfl,_,rfl,_,_,_,_,rfl,rfl,hla,ex,_,_,_,_,rfl,rfl,hx,rfl,_,_,rfl,rfl,_,rfl,_,_,rfl,rfl,_,rfl,_,_,_,_,rfl,rfl,hb,rfl,_,_,_,_,rfl,rfl,hf,rfl,_,_,rfl,rfl,_,rfl,?_⟩
 refine ite2 (fun c=>?_) (fun c=>?_)
 ·have c2:(xAt xs i).2+1+high≤F.h:=of_decide_eq_true c
  exact q _ _ (Same.refl _) (by rw [toldHigh,if_pos (.inr c2)]; rfl)
 ·have c2:¬ (xAt xs i).2+1+high≤F.h:=fun z=>c (decide_eq_true z)
  refine ⟨_,rfl,_,_,rfl,rfl,le2,fun p1 hp1=>q _ _ (same_new hp1 _) ?_⟩
  rw [toldHigh,if_neg (by intro z; rcases z with z | z; exact c1 z; exact c2 z)]
  exact ⟨p1,rfl,SqT.of upd_same⟩
def sp_told_kept (K:PySem.W.Frag) : Sp:=fun vs H Q _=>∃ (ba la:Addr) (i:Nat) (F:Frm) (ds:List Wd) (xs:List (Int × Int)),vs=[.ref ba,.ref la,.int (i:Int)]∧BkAt K H ba F.w F.h F.f F.m ds∧LwAt K H la xs∧BkOk F ds xs∧i < ds.length∧∀ v H',Same H H'→PlO K H' v (toldKept ds xs i)→Q v H'
theorem sc_told_kept:FnScope ["book","low","i","words","j"] ["book","low","i"] (defScope s_told_kept):=⟨rfl,rfl,rfl,by decide +kernel,rfl,by decide +kernel,by decide +kernel⟩
theorem ok_told_kept (T:Txt P w K mg a) : FnOk P w K mg base CX0 1 a.f_told_kept a.fd_told_kept ["book","low","i"] (sp_told_kept K):=by
 have z_len:=T.z_len
 refine T.d_told_kept.fn.ok sc_told_kept (fun vs H Q E h=>?_) (fun cdv A outer s H vs Q E hr h=>?_)
 ·obtain ⟨ba,la,i,F,ds,xs,rfl,_⟩:=h
  rfl
 obtain ⟨ba,la,i,F,ds,xs,rfl,hbk,hlw,B,hi,q⟩:=h
 have hu:=Nat.lt_of_succ_lt (hu_of hr)
 refine ⟨_,(pss_cons (ps_set (i:=3) sc_told_kept.nd rfl (Or.inl rfl) (pe_ix ix_tup (pv 0) pe_int (fun _ _=>rfl)))
   (pss_cons (ps_set (i:=4) sc_told_kept.nd rfl (Or.inl rfl) (pe_op op_add (pv 2) pe_int))
   (pss_cons (ps_if (PW.pt (pw_or (pt_cmpR op_eq (pv 4) (pe_callB call_len_seq rfl z_len PySem.boot_len (pa_cons (pv 3) pa_nil)) (nomark _)) (pw_or1 (pt_not (pt_val (pe_ix ix_tup (pe_ix ix_list (pv 3) (pv 4) (fun _ _=>rfl)) pe_int (fun _ _=>rfl)) (fun _=>rfl)))))) (pss_one (ps_ret pe_non)) pss_nil)
   (pss_one (ps_ret (pe_tup (pa_cons (pe_ix ix_tup (pe_ix ix_list (pv 1) (pv 4) (fun _ _=>rfl)) pe_int (fun _ _=>rfl)) (pa_cons pe_int pa_nil)))))))),?_⟩
 obtain ⟨fa,wa,was,hb,hf,hw,hws⟩:=hbk
 obtain ⟨las,hla,hls⟩:=hlw
 refine ⟨_,rfl,_,_,_,_,rfl,rfl,hb,rfl,?_⟩
 refine ⟨_,rfl,_,_,rfl,rfl,?_⟩
 dsimp only [gName]
 refine ⟨_,rfl,_,rfl,_,_,rfl,.inl hw,rfl,_,rfl,?_⟩
 have ei:(i:Int)+1=((i+1:Nat) : Int):=by omega
 refine orG (fun c=>?_) (fun c=>?_)
 ·have c0:=int_eq.mp c
  have c1:i+1=ds.length:=by
   rw [List.length_map,hws.1] at c0
   omega
  exact q _ _ (Same.refl _) (by rw [toldKept,if_pos (.inl c1)]; rfl)
 have c1:i+1≠ds.length:=fun z=>c (int_eq.mpr (by rw [List.length_map,hws.1]; omega))
 have hi2:i+1 < ds.length:=by omega
 obtain ⟨wo,eo,sa,fo,bs,ht,h2,h3,h4⟩:=hws.get hi2
 obtain ⟨yo,ey,hy⟩:=LwAt.get (a:=la) hls (B.len ▸ hi2)
 refine ⟨_,rfl,_,rfl,_,_,_,_,rfl,rfl,hw,(by rw [ei]; exact eo),_,_,_,_,rfl,rfl,ht,rfl,_,rfl,?_⟩
 cases ek:(dAt ds (i+1)).kept with
 | false =>
  refine iteT ?_
  exact q _ _ (Same.refl _) (by rw [toldKept,if_pos (.inr ek)]; rfl)
 | true =>
  refine iteF ?_
  refine ⟨_,rfl,_,rfl,_,_,_,_,rfl,rfl,hla,(by rw [ei]; exact ey),_,_,_,_,rfl,rfl,hy,rfl,le2,fun p1 hp1=>q _ _ (same_new hp1 _) ?_⟩
  rw [toldKept,if_neg (by intro z; rcases z with z | z; exact c1 z; rw [ek] at z; cases z)]
  exact ⟨p1,rfl,SqT.of upd_same⟩
def sp_wide_of (K:PySem.W.Frag) : Sp:=fun vs H Q _=>∃ (fa sa pa:Addr) (w h f m:Int) (s:Say) (as:List Addr) (xs:List (Int × Int)),vs=[.ref fa,.ref sa,.ref pa]∧SqT K H fa (fm w h f m)∧SqT K H sa (sayV s)∧SqL K H pa (as.map V.ref)∧PlsA K H as xs∧FormOk w h f m∧SayOk xs.length s∧PlsOk h xs∧Q (.int ((saidL h f xs s).length:Nat)) H
theorem sc_wide_of:FnScope ["form","saying","places"] ["form","saying","places"] (defScope s_wide_of):=⟨rfl,rfl,rfl,by decide +kernel,rfl,by decide +kernel,by decide +kernel⟩
theorem ok_wide_of (T:Txt P w K mg a) : FnOk P w K mg base CX0 3 a.f_wide_of a.fd_wide_of ["form","saying","places"] (sp_wide_of K):=by
 have g_said:=ok_said (P:=P) (w:=w) (base:=base) T
 have d_said:=T.d_said
 have z_len:=T.z_len
 refine T.d_wide_of.fn.ok sc_wide_of (fun vs H Q E h=>?_) (fun cdv A outer s H vs Q E hr h=>?_)
 ·obtain ⟨fa,sa,pa,w,h,f,m,s,as,xs,rfl,_⟩:=h
  rfl
 obtain ⟨fa,sa,pa,w,h,f,m,s,as,xs,rfl,hf,hs,hp,ha,fo,so,po,q⟩:=h
 have hu:=Nat.lt_of_succ_lt (hu_of hr)
 refine ⟨_,(pss_one (ps_ret (pe_callB call_len_str rfl z_len PySem.boot_len (pa_cons (pe_callD d_said g_said (hr.mono (by decide)) rfl (pa_cons (pv 0) (pa_cons (pv 1) (pa_cons (pv 2) pa_nil)))) pa_nil)))),?_⟩
 have sl:=said_len fo po so
 refine ⟨_,rfl,_,rfl,_,rfl,_,_,_,_,_,_,_,_,_,_,rfl,hf,hs,hp,ha,fo,so,po,_,rfl,(by rw [tx_len]; exact small (by omega)),?_⟩
 rw [tx_len]
 exact q
def sp_told_never (K:PySem.W.Frag) : Sp:=fun vs H Q _=>∃ (ba la:Addr) (i:Nat) (F:Frm) (ds:List Wd) (xs:List (Int × Int)),vs=[.ref ba,.ref la,.int (i:Int)]∧BkAt K H ba F.w F.h F.f F.m ds∧LwAt K H la xs∧BkOk F ds xs∧i < ds.length∧∀ v H',Same H H'→PlO K H' v (toldNever F ds xs i)→Q v H'
theorem sc_told_never:FnScope ["book","low","i","form","word"] ["book","low","i"] (defScope s_told_never):=⟨rfl,rfl,rfl,by decide +kernel,rfl,by decide +kernel,by decide +kernel⟩
theorem ok_told_never (T:Txt P w K mg a) : FnOk P w K mg base CX0 5 a.f_told_never a.fd_told_never ["book","low","i"] (sp_told_never K):=by
 have g_foot_high:=ok_foot_high (P:=P) (w:=w) (base:=base) T
 have d_foot_high:=T.d_foot_high
 have g_wide_of:=ok_wide_of (P:=P) (w:=w) (base:=base) T
 have d_wide_of:=T.d_wide_of
 refine T.d_told_never.fn.ok sc_told_never (fun vs H Q E h=>?_) (fun cdv A outer s H vs Q E hr h=>?_)
 ·obtain ⟨ba,la,i,F,ds,xs,rfl,_⟩:=h
  rfl
 obtain ⟨ba,la,i,F,ds,xs,rfl,hbk,hlw,B,hi,q⟩:=h
 have hu:=Nat.lt_of_succ_lt (hu_of hr)
 refine ⟨_,(pss_cons (ps_set (i:=3) sc_told_never.nd rfl (Or.inl rfl) (pe_ix ix_tup (pv 0) pe_int (fun _ _=>rfl)))
   (pss_cons (ps_set (i:=4) sc_told_never.nd rfl (Or.inl rfl) (pe_ix ix_list (pe_ix ix_tup (pv 0) pe_int (fun _ _=>rfl)) (pv 2) (fun _ _=>rfl)))
   (pss_cons (ps_if (PW.pt (pw_and (pt_cmpR op_le (pe_callD d_wide_of g_wide_of (hr.mono (by decide)) rfl (pa_cons (pv 3) (pa_cons (pe_ix ix_tup (pv 4) pe_int (fun _ _=>rfl)) (pa_cons (pv 1) pa_nil)))) (pe_ix ix_tup (pv 3) pe_int (fun _ _=>rfl)) (nomark _)) (pw_and1 (pt_cmpR op_le (pe_op op_add (pe_callD d_foot_high g_foot_high (hr.mono (by decide)) rfl (pa_cons (pv 3) (pa_cons (pe_ix ix_tup (pv 4) pe_int (fun _ _=>rfl)) (pa_cons (pv 1) pa_nil)))) pe_int) (pe_ix ix_tup (pv 3) pe_int (fun _ _=>rfl)) (nomark _))))) (pss_one (ps_ret pe_non)) pss_nil)
   (pss_one (ps_ret (pe_tup (pa_cons (pe_ix ix_tup (pv 3) pe_int (fun _ _=>rfl)) (pa_cons pe_int pa_nil)))))))),?_⟩
 obtain ⟨fa,wa,was,hb,hf,hw,hws⟩:=hbk
 obtain ⟨las,hla,hls⟩:=hlw
 obtain ⟨wo,eo,sa,foa,bs,ht,h2,h3,h4⟩:=hws.get hi
 have wk:=(B.d hi).2
 refine ⟨_,rfl,_,_,_,_,rfl,rfl,hb,rfl,?_⟩
 refine ⟨_,rfl,_,_,_,_,rfl,rfl,hb,rfl,_,rfl,_,_,_,_,rfl,rfl,hw,eo,?_⟩
 refine ⟨_,rfl,_,rfl,_,_,_,_,rfl,rfl,ht,rfl,_,rfl,_,_,_,_,_,_,_,_,_,_,rfl,hf,h2,hla,hls,B.fo,wk.s,B.po,_,rfl,_,_,_,_,rfl,rfl,hf,rfl,_,_,rfl,rfl,_,rfl,?_⟩
 by_cases k1:wideW F xs (dAt ds i)≤F.w
 ·refine andG (fun c=>absurd (decide_eq_true k1) c) (fun _=>?_)
  refine ⟨_,rfl,_,rfl,_,_,_,_,rfl,rfl,ht,rfl,_,rfl,_,_,_,_,_,_,_,_,_,_,_,rfl,hf,h3,h4,hla,hls,B.fo,wk.f,B.po,(by have:=wk.n; omega),fun H1 s1=>?_⟩
  refine ⟨_,_,rfl,rfl,_,rfl,_,_,_,_,rfl,rfl,s1.tup hf,rfl,_,_,rfl,rfl,_,rfl,?_⟩
  refine ite2 (fun c=>?_) (fun c=>?_)
  ·have k2:highW F xs (dAt ds i)+1≤F.h:=of_decide_eq_true c
   exact q _ _ s1 (by rw [toldNever,if_pos ⟨k1,k2⟩]; rfl)
  ·have k2:¬ highW F xs (dAt ds i)+1≤F.h:=fun z=>c (decide_eq_true z)
   refine ⟨_,rfl,_,_,_,_,rfl,rfl,s1.tup hf,rfl,le2,fun p1 hp1=>q _ _ (s1.trans (same_new hp1 _)) ?_⟩
   rw [toldNever,if_neg (fun z=>k2 z.2)]
   exact ⟨p1,rfl,SqT.of upd_same⟩
 ·refine andG (fun _=>?_) (fun c=>absurd (of_decide_eq_true c) k1)
  refine ⟨_,rfl,_,_,_,_,rfl,rfl,hf,rfl,le2,fun p1 hp1=>q _ _ (same_new hp1 _) ?_⟩
  rw [toldNever,if_neg (fun z=>k1 z.1)]
  exact ⟨p1,rfl,SqT.of upd_same⟩
def sp_told_wide (K:PySem.W.Frag) : Sp:=fun vs H Q _=>∃ (ba la:Addr) (j:Nat) (wide:Int) (F:Frm) (ds:List Wd) (xs:List (Int × Int)),vs=[.ref ba,.ref la,.int (j:Int),.int wide]∧BkAt K H ba F.w F.h F.f F.m ds∧LwAt K H la xs∧BkOk F ds xs∧j < ds.length∧∀ v H',Same H H'→PlO K H' v (toldWide F xs j wide)→Q v H'
theorem sc_told_wide:FnScope ["book","low","j","wide","form"] ["book","low","j","wide"] (defScope s_told_wide):=⟨rfl,rfl,rfl,by decide +kernel,rfl,by decide +kernel,by decide +kernel⟩
theorem ok_told_wide (T:Txt P w K mg a) : FnOk P w K mg base CX0 4 a.f_told_wide a.fd_told_wide ["book","low","j","wide"] (sp_told_wide K):=by
 have g_behind:=ok_behind (P:=P) (w:=w) (base:=base) T
 have d_behind:=T.d_behind
 refine T.d_told_wide.fn.ok sc_told_wide (fun vs H Q E h=>?_) (fun cdv A outer s H vs Q E hr h=>?_)
 ·obtain ⟨ba,la,j,wide,F,ds,xs,rfl,_⟩:=h
  rfl
 obtain ⟨ba,la,j,wide,F,ds,xs,rfl,hbk,hlw,B,hj,q⟩:=h
 have hu:=Nat.lt_of_succ_lt (hu_of hr)
 refine ⟨_,(pss_cons (ps_set (i:=4) sc_told_wide.nd rfl (Or.inl rfl) (pe_ix ix_tup (pv 0) pe_int (fun _ _=>rfl)))
   (pss_cons (ps_if (pt_cmpR op_le (pv 3) (pe_ix ix_tup (pv 4) pe_int (fun _ _=>rfl)) (nomark _)) (pss_one (ps_ret pe_non)) pss_nil)
   (pss_one (ps_ret (pe_callD d_behind g_behind (hr.mono (by decide)) rfl (pa_cons (pv 4) (pa_cons (pe_ix ix_list (pv 1) (pv 2) (fun _ _=>rfl)) (pa_cons pe_int pa_nil)))))))),?_⟩
 obtain ⟨fa,wa,was,hb,hf,hw,hws⟩:=hbk
 obtain ⟨las,hla,hls⟩:=hlw
 obtain ⟨xo,ex,hx⟩:=LwAt.get (a:=la) hls (B.len ▸ hj)
 refine ⟨_,rfl,_,_,_,_,rfl,rfl,hb,rfl,?_⟩
 refine ⟨_,rfl,_,rfl,_,_,_,_,rfl,rfl,hf,rfl,_,_,rfl,rfl,_,rfl,?_⟩
 refine ite2 (fun c=>?_) (fun c=>?_)
 ·have c1:wide≤F.w:=of_decide_eq_true c
  exact q _ _ (Same.refl _) (by rw [toldWide,if_pos c1]; rfl)
 ·have c1:¬ wide≤F.w:=fun z=>c (decide_eq_true z)
  refine ⟨_,rfl,_,rfl,_,rfl,_,_,_,_,rfl,rfl,hla,ex,_,_,_,_,_,_,_,_,rfl,hf,hx,fun q1 H1 s1 h1=>q _ _ s1 ?_⟩
  rw [toldWide,if_neg c1]
  exact ⟨q1,rfl,h1⟩
def sp_wides_of (K:PySem.W.Frag) : Sp:=fun vs H Q _=>∃ (ba la:Addr) (j n:Nat) (i:Int) (F:Frm) (ds:List Wd) (xs:List (Int × Int)),vs=[.ref ba,.ref la,.int (j:Int),.int i]∧i+1=(n:Int)∧BkAt K H ba F.w F.h F.f F.m ds∧LwAt K H la xs∧BkOk F ds xs∧n≤ds.length∧j≤n∧∀ q H',Same H H'→H q=none→H' q=some (.lst (((segP ds j n).map (wideW F xs)).map V.int))→Q (.ref q) H'
theorem sc_wides_of:FnScope ["book","low","j","i"] ["book","low","j","i"] (defScope s_wides_of):=⟨rfl,rfl,rfl,by decide +kernel,rfl,by decide +kernel,by decide +kernel⟩
theorem ok_wides_of (T:Txt P w K mg a) : FnOk P w K mg base CX0 4 a.f_wides_of a.fd_wides_of ["book","low","j","i"] (sp_wides_of K):=by
 have g_wide_of:=ok_wide_of (P:=P) (w:=w) (base:=base) T
 have d_wide_of:=T.d_wide_of
 refine T.d_wides_of.fn.ok sc_wides_of (fun vs H Q E h=>?_) (fun cdv A outer s H vs Q E hr h=>?_)
 ·obtain ⟨ba,la,j,n,i,F,ds,xs,rfl,_⟩:=h
  rfl
 obtain ⟨ba,la,j,n,i,F,ds,xs,rfl,he,hbk,hlw,B,hi,hj,q⟩:=h
 have hu:=Nat.lt_of_succ_lt (hu_of hr)
 refine ⟨_,(pss_one (ps_ret (pe_lc rfl (lcok (caps:=["book","low"]) (js:=[0,1]) (cap:=⟨⟨rfl,.inl rfl,rfl,.inl rfl⟩,⟨⟨rfl,.inl rfl,rfl,.inl rfl⟩,trivial⟩⟩)) (pi_list (pe_slice sl_list (pe_ix ix_tup (pv 0) pe_int (fun _ _=>rfl)) (po_some (pv 2)) (po_some (pe_op op_add (pv 3) pe_int)))) (fun _ _ _ _=>pts_nil) (fun _ _ _ _=>(pe_callD d_wide_of g_wide_of (hr.mono (by decide)) rfl (pa_cons (pe_ix (r:=rIxT K) ix_tup (pv 1) pe_int (fun _ _=>rfl)) (pa_cons (pe_ix (r:=rIxT K) ix_tup (pv 0) pe_int (fun _ _=>rfl)) (pa_cons (pv 2) pa_nil)))))))),?_⟩
 obtain ⟨fa,wa,was,hb,hf,hw,hws⟩:=hbk
 obtain ⟨las,hla,hls⟩:=hlw
 refine ⟨_,rfl,_,_,_,_,rfl,rfl,hb,rfl,_,rfl,_,rfl,_,rfl,_,_,rfl,rfl,_,rfl,_,_,rfl,hw,fun p1 hp1=>?_⟩
 have ec:cutV (was.map V.ref) (some (j:Int)) (some (i+1))=((was.drop j).take (n - j)).map V.ref:=by
  have:=cut_nat was j n
  rw [cutV_map,he]
  exact congrArg (List.map V.ref) this
 have s1:=same_new hp1 (.lst (cutV (was.map V.ref) (some (j:Int)) (some (i+1))))
 have h1:(upd H p1 (.lst (cutV (was.map V.ref) (some (j:Int)) (some (i+1))))) p1=some (.lst (((was.drop j).take (n - j)).map V.ref)):=by rw [upd_same,ec]
 generalize upd H p1 (.lst (cutV (was.map V.ref) (some (j:Int)) (some (i+1))))=H1 at s1 h1
 have wsg:WdsA K H ((was.drop j).take (n - j)) (segP ds j n):=(hws.drop j).take (n - j)
 have sub:∀ d ∈ segP ds j n,WdOk xs.length d:=fun d hd=>B.len ▸ B.wd d (List.mem_of_mem_drop (List.mem_of_mem_take hd))
 have sl:(segP ds j n).length≤400:=by unfold segP; have:=B.n; simp; omega
 generalize (was.drop j).take (n - j)=sas at h1 wsg
 generalize segP ds j n=sd at wsg sub q sl
 refine ⟨_,rfl,⟨_,SqL.of h1⟩,lc_list (K:=K) (a:=p1) (xs:=sas.map V.ref) (fun k ys H2=>Same H1 H2∧ys=((sd.take k).map (wideW F xs)).map V.int) ⟨Same.refl _,rfl⟩ (fun k ys H2 _ h2=>h2.1.seq (SqL.of h1)) ?_ ?_ ?_⟩
 ·rintro k ys H2 hk ⟨_,rfl⟩
  rw [List.length_map,List.length_map,List.length_take]
  exact Nat.lt_of_lt_of_le (show _ < 1000 by omega) (small (Nat.le_refl _))
 ·rintro k y ys H2 hk ⟨s2,rfl⟩
  obtain ⟨b,d,rfl,eb,ed⟩:=wd_at wsg.1 hk
  obtain ⟨sa,fo,bs,ht,g2,g3,g4⟩:=wsg.2 k b d eb ed
  have wk:=sub d (List.mem_of_getElem? ed)
  have t:=s1.trans s2
  refine yes_go ?_
  refine ⟨_,rfl,_,_,_,_,rfl,rfl,t.tup hb,rfl,_,rfl,_,_,_,_,rfl,rfl,t.tup ht,rfl,_,rfl,_,_,_,_,_,_,_,_,_,_,rfl,t.tup hf,t.tup g2,t.seq hla,hls.same t,B.fo,wk.s,B.po,s2,?_⟩
  rw [take_snoc ed,List.map_append,List.map_append]
  rfl
 ·rintro ys H2 ⟨s2,rfl⟩ p hp
  have e:(sas.map V.ref).length=sd.length:=by rw [List.length_map,wsg.1]
  rw [e,List.take_length] at *
  exact q _ _ (s1.trans (s2.trans (same_new hp _))) ((s1.trans s2).free hp) upd_same
def sp_told_by_kind (K:PySem.W.Frag) : Sp:=fun vs H Q _=>∃ (ba la:Addr) (k:Str) (i:Nat) (j:Int) (F:Frm) (ds:List Wd) (xs:List (Int × Int)),vs=[.ref ba,.ref la,.str k,.int (i:Int),.int j]∧BkAt K H ba F.w F.h F.f F.m ds∧LwAt K H la xs∧BkOk F ds xs∧i < ds.length∧∀ v H',Same H H'→PlO K H' v (toldBy F ds xs k i j)→Q v H'
theorem sc_told_by_kind:FnScope ["book","low","kind","i","j"] ["book","low","kind","i","j"] (defScope s_told_by_kind):=⟨rfl,rfl,rfl,by decide +kernel,rfl,by decide +kernel,by decide +kernel⟩
theorem ok_told_by_kind (T:Txt P w K mg a) : FnOk P w K mg base CX0 6 a.f_told_by_kind a.fd_told_by_kind ["book","low","kind","i","j"] (sp_told_by_kind K):=by
 have g_highs_of:=ok_highs_of (P:=P) (w:=w) (base:=base) T
 have d_highs_of:=T.d_highs_of
 have g_together:=ok_together (P:=P) (w:=w) (base:=base) T
 have d_together:=T.d_together
 have g_told_behind:=ok_told_behind (P:=P) (w:=w) (base:=base) T
 have d_told_behind:=T.d_told_behind
 have g_told_high:=ok_told_high (P:=P) (w:=w) (base:=base) T
 have d_told_high:=T.d_told_high
 have g_told_kept:=ok_told_kept (P:=P) (w:=w) (base:=base) T
 have d_told_kept:=T.d_told_kept
 have g_told_never:=ok_told_never (P:=P) (w:=w) (base:=base) T
 have d_told_never:=T.d_told_never
 have g_told_wide:=ok_told_wide (P:=P) (w:=w) (base:=base) T
 have d_told_wide:=T.d_told_wide
 have g_wides_of:=ok_wides_of (P:=P) (w:=w) (base:=base) T
 have d_wides_of:=T.d_wides_of
 have z_sum:=T.z_sum
 refine T.d_told_by_kind.fn.ok sc_told_by_kind (fun vs H Q E h=>?_) (fun cdv A outer s H vs Q E hr h=>?_)
 ·obtain ⟨ba,la,k,i,j,F,ds,xs,rfl,_⟩:=h
  rfl
 obtain ⟨ba,la,k,i,j,F,ds,xs,rfl,hbk,hlw,B,hi,q⟩:=h
 have hu:=Nat.lt_of_succ_lt (hu_of hr)
 refine ⟨_,(pss_cons (ps_if (PW.pt (pw_and (pt_cmpR op_eq (pv 2) pe_str (nomark _)) (pw_and1 (pt_cmpR op_eq (pv 4) (pe_op op_sub (pv 3) pe_int) (nomark _))))) (pss_one (ps_ret (pe_callD d_told_behind g_told_behind (hr.mono (by decide)) rfl (pa_cons (pv 0) (pa_cons (pv 1) (pa_cons (pv 3) pa_nil)))))) pss_nil)
   (pss_cons (ps_if (PW.pt (pw_and (pt_cmpR op_eq (pv 2) pe_str (nomark _)) (pw_and1 (pt_chain op_le op_lt pe_int (pv 4) (pv 3))))) (pss_one (ps_ret (pe_callD d_told_wide g_told_wide (hr.mono (by decide)) rfl (pa_cons (pv 0) (pa_cons (pv 1) (pa_cons (pv 4) (pa_cons (pe_callD d_together g_together (hr.mono (by decide)) rfl (pa_cons (pe_callD d_wides_of g_wides_of (hr.mono (by decide)) rfl (pa_cons (pv 0) (pa_cons (pv 1) (pa_cons (pv 4) (pa_cons (pv 3) pa_nil))))) pa_nil)) pa_nil))))))) pss_nil)
   (pss_cons (ps_if (PW.pt (pw_and (pt_cmpR op_eq (pv 2) pe_str (nomark _)) (pw_and1 (pt_chain op_le op_le pe_int (pv 4) (pv 3))))) (pss_one (ps_ret (pe_callD d_told_high g_told_high (hr.mono (by decide)) rfl (pa_cons (pv 0) (pa_cons (pv 1) (pa_cons (pv 3) (pa_cons (pv 4) (pa_cons (pe_callB (call_sum rfl) rfl z_sum PyProof.Rows.boot_sum (pa_cons (pe_callD d_highs_of g_highs_of (hr.mono (by decide)) rfl (pa_cons (pv 0) (pa_cons (pv 1) (pa_cons (pv 4) (pa_cons (pv 3) pa_nil))))) pa_nil)) pa_nil)))))))) pss_nil)
   (pss_cons (ps_if (PW.pt (pw_and (pt_cmpR op_eq (pv 2) pe_str (nomark _)) (pw_and1 (pt_cmpR op_eq (pv 4) (pe_op op_add (pv 3) pe_int) (nomark _))))) (pss_one (ps_ret (pe_callD d_told_kept g_told_kept (hr.mono (by decide)) rfl (pa_cons (pv 0) (pa_cons (pv 1) (pa_cons (pv 3) pa_nil)))))) pss_nil)
   (pss_cons (ps_if (PW.pt (pw_and (pt_cmpR op_eq (pv 2) pe_str (nomark _)) (pw_and1 (pt_cmpR op_eq (pv 4) (pv 3) (nomark _))))) (pss_one (ps_ret (pe_callD d_told_never g_told_never (hr.mono (by decide)) rfl (pa_cons (pv 0) (pa_cons (pv 1) (pa_cons (pv 3) pa_nil)))))) pss_nil)
   (pss_one (ps_ret pe_non))))))),?_⟩
 unfold toldBy at q
 refine ⟨_,rfl,rfl,_,rfl,?_⟩
 by_cases k1:k=PySem.Str.ofString "behind"∧j=(i:Int) - 1
 ·rw [if_pos k1] at q
  refine andG (fun c=>absurd (str_eq.mpr k1.1) c) (fun _=>?_)
  refine ⟨_,rfl,_,rfl,_,_,rfl,rfl,rfl,_,rfl,?_⟩
  refine ite2 (fun _=>?_) (fun c=>absurd (int_eq.mpr k1.2) c)
  exact ⟨_,rfl,_,rfl,_,rfl,_,_,_,_,_,_,rfl,hbk,hlw,B,hi,fun q1 H1 s1 h1=>q _ _ s1 ⟨q1,rfl,h1⟩⟩
 rw [if_neg k1] at q
 refine andN ?_ (fun ca hb=>?_)
 rotate_left
 ·refine ⟨_,rfl,_,rfl,_,_,rfl,rfl,rfl,_,rfl,?_⟩
  exact ite2 (fun c=>absurd ⟨str_eq.mp ca,int_eq.mp c⟩ k1) (fun _=>hb)
 refine ⟨_,rfl,rfl,_,rfl,?_⟩
 by_cases k2:k=PySem.Str.ofString "wide"∧(0≤j∧j < (i:Int))
 ·rw [if_pos k2] at q
  refine andG (fun c=>absurd (str_eq.mpr k2.1) c) (fun _=>?_)
  refine ⟨_,rfl,_,_,rfl,rfl,_,rfl,?_⟩
  rw [decide_eq_true k2.2.1]
  refine iteT ?_
  refine ⟨_,rfl,_,_,rfl,rfl,_,rfl,?_⟩
  refine ite2 (fun _=>?_) (fun c=>absurd (decide_eq_true k2.2.2) c)
  obtain ⟨n,rfl⟩:=Int.eq_ofNat_of_zero_le k2.2.1
  refine ⟨_,rfl,_,rfl,_,rfl,_,rfl,_,rfl,_,rfl,_,rfl,_,_,n,i+1,(i:Int),_,_,_,rfl,(by omega),hbk,hlw,B,(by omega),(by omega),fun wa H1 s1 nw h1=>?_⟩
  refine ⟨_,_,rfl,SqL.of h1,?_⟩
  exact ⟨_,_,n,_,_,_,_,rfl,hbk.same s1,hlw.same s1,B,by omega,fun v H2 s2 h2=>q _ _ (s1.trans s2) h2⟩
 rw [if_neg k2] at q
 refine andN ?_ (fun ca hb=>?_)
 rotate_left
 ·refine ⟨_,rfl,_,_,rfl,rfl,_,rfl,?_⟩
  refine ite2 (fun c1=>?_) (fun _=>⟨_,rfl,iteF hb⟩)
  refine ⟨_,rfl,_,_,rfl,rfl,_,rfl,?_⟩
  exact ite2 (fun c=>absurd ⟨str_eq.mp ca,of_decide_eq_true c1,of_decide_eq_true c⟩ k2) (fun _=>hb)
 refine ⟨_,rfl,rfl,_,rfl,?_⟩
 by_cases k3:k=PySem.Str.ofString "high"∧(0≤j∧j≤(i:Int))
 ·rw [if_pos k3] at q
  refine andG (fun c=>absurd (str_eq.mpr k3.1) c) (fun _=>?_)
  refine ⟨_,rfl,_,_,rfl,rfl,_,rfl,?_⟩
  rw [decide_eq_true k3.2.1]
  refine iteT ?_
  refine ⟨_,rfl,_,_,rfl,rfl,_,rfl,?_⟩
  refine ite2 (fun _=>?_) (fun c=>absurd (decide_eq_true k3.2.2) c)
  obtain ⟨n,rfl⟩:=Int.eq_ofNat_of_zero_le k3.2.1
  refine ⟨_,rfl,_,rfl,_,rfl,_,rfl,_,rfl,_,rfl,_,rfl,_,rfl,_,_,n,i+1,(i:Int),_,_,_,rfl,(by omega),hbk,hlw,B,(by omega),(by omega),fun wa H1 s1 nw h1=>?_⟩
  refine ⟨_,_,rfl,SqL.of h1,?_⟩
  exact ⟨_,_,i,n,_,_,_,_,rfl,hbk.same s1,hlw.same s1,B,hi,by omega,fun v H2 s2 h2=>q _ _ (s1.trans s2) h2⟩
 rw [if_neg k3] at q
 refine andN ?_ (fun ca hb=>?_)
 rotate_left
 ·refine ⟨_,rfl,_,_,rfl,rfl,_,rfl,?_⟩
  refine ite2 (fun c1=>?_) (fun _=>⟨_,rfl,iteF hb⟩)
  refine ⟨_,rfl,_,_,rfl,rfl,_,rfl,?_⟩
  exact ite2 (fun c=>absurd ⟨str_eq.mp ca,of_decide_eq_true c1,of_decide_eq_true c⟩ k3) (fun _=>hb)
 refine ⟨_,rfl,rfl,_,rfl,?_⟩
 by_cases k4:k=PySem.Str.ofString "kept"∧j=(i:Int)+1
 ·rw [if_pos k4] at q
  refine andG (fun c=>absurd (str_eq.mpr k4.1) c) (fun _=>?_)
  refine ⟨_,rfl,_,rfl,_,_,rfl,rfl,rfl,_,rfl,?_⟩
  refine ite2 (fun _=>?_) (fun c=>absurd (int_eq.mpr k4.2) c)
  exact ⟨_,rfl,_,rfl,_,rfl,_,_,_,_,_,_,rfl,hbk,hlw,B,hi,fun v H1 s1 h1=>q _ _ s1 h1⟩
 rw [if_neg k4] at q
 refine andN ?_ (fun ca hb=>?_)
 rotate_left
 ·refine ⟨_,rfl,_,rfl,_,_,rfl,rfl,rfl,_,rfl,?_⟩
  exact ite2 (fun c=>absurd ⟨str_eq.mp ca,int_eq.mp c⟩ k4) (fun _=>hb)
 refine ⟨_,rfl,rfl,_,rfl,?_⟩
 by_cases k5:k=PySem.Str.ofString "never"∧j=(i:Int)
 ·rw [if_pos k5] at q
  refine andG (fun c=>absurd (str_eq.mpr k5.1) c) (fun _=>?_)
  refine ⟨_,rfl,_,rfl,rfl,_,rfl,?_⟩
  refine ite2 (fun _=>?_) (fun c=>absurd (int_eq.mpr k5.2) c)
  exact ⟨_,rfl,_,rfl,_,rfl,_,_,_,_,_,_,rfl,hbk,hlw,B,hi,fun v H1 s1 h1=>q _ _ s1 h1⟩
 rw [if_neg k5] at q
 refine andN (q _ _ (Same.refl _) rfl) (fun ca hb=>?_)
 refine ⟨_,rfl,_,rfl,rfl,_,rfl,?_⟩
 exact ite2 (fun c=>absurd ⟨str_eq.mp ca,int_eq.mp c⟩ k5) (fun _=>hb)
def sp_reach (K:PySem.W.Frag) : Sp:=fun vs H Q _=>∃ (ba la:Addr) (k:Str) (i:Nat) (j:Int) (F:Frm) (ds:List Wd) (xs:List (Int × Int)),vs=[.ref ba,.ref la,.str k,.int (i:Int),.int j]∧BkAt K H ba F.w F.h F.f F.m ds∧LwAt K H la xs∧BkOk F ds xs∧i < ds.length∧∀ v H',Same H H'→PlO K H' v (reachI F ds xs k i j)→Q v H'
theorem sc_reach:FnScope ["book","low","kind","i","j","place"] ["book","low","kind","i","j"] (defScope s_reach):=⟨rfl,rfl,rfl,by decide +kernel,rfl,by decide +kernel,by decide +kernel⟩
theorem ok_reach (T:Txt P w K mg a) : FnOk P w K mg base CX0 7 a.f_reach a.fd_reach ["book","low","kind","i","j"] (sp_reach K):=by
 have g_told_by_kind:=ok_told_by_kind (P:=P) (w:=w) (base:=base) T
 have d_told_by_kind:=T.d_told_by_kind
 refine T.d_reach.fn.ok sc_reach (fun vs H Q E h=>?_) (fun cdv A outer s H vs Q E hr h=>?_)
 ·obtain ⟨ba,la,k,i,j,F,ds,xs,rfl,_⟩:=h
  rfl
 obtain ⟨ba,la,k,i,j,F,ds,xs,rfl,hbk,hlw,B,hi,q⟩:=h
 have hu:=Nat.lt_of_succ_lt (hu_of hr)
 refine ⟨_,(pss_cons (ps_set (i:=5) sc_reach.nd rfl (Or.inl rfl) (pe_callD d_told_by_kind g_told_by_kind (hr.mono (by decide)) rfl (pa_cons (pv 0) (pa_cons (pv 1) (pa_cons (pv 2) (pa_cons (pv 3) (pa_cons (pv 4) pa_nil)))))))
   (pss_cons (ps_if (PW.pt (pw_or (pt_cmpR op_isN (pv 5) pe_non (nomark _)) (pw_or1 (pt_cmpR (op_leT hu) (pv 5) (pe_ix ix_list (pv 1) (pv 3) (fun _ _=>rfl)) (nomark _))))) (pss_one (ps_ret pe_non)) pss_nil)
   (pss_one (ps_ret (pv 5))))),?_⟩
 refine ⟨_,rfl,_,rfl,_,rfl,_,rfl,_,rfl,_,_,_,_,_,_,_,_,rfl,hbk,hlw,B,hi,fun v H1 s1 h1=>?_⟩
 unfold reachI at q
 obtain ⟨las,hla,hls⟩:=hlw
 obtain ⟨xo,ex,hx⟩:=LwAt.get (a:=la) hls (B.len ▸ hi)
 cases e:toldBy F ds xs k i j with
 | none =>
  rw [e] at h1 q
  cases h1
  refine ⟨_,rfl,rfl,_,rfl,?_⟩
  refine iteT (iteT ?_)
  exact q _ _ s1 rfl
 | some x =>
  rw [e] at h1 q
  obtain ⟨xq,rfl,hxq⟩:=h1
  refine ⟨_,rfl,rfl,_,rfl,?_⟩
  refine iteF ?_
  refine ⟨_,rfl,_,rfl,_,rfl,_,_,_,_,rfl,rfl,s1.seq hla,ex,_,_,[x.1,x.2],[(xAt xs i).1,(xAt xs i).2],rfl,rfl,hxq,s1.tup hx,_,rfl,?_⟩
  rw [lex_le]
  dsimp only at q
  cases so:sooner (xAt xs i) x with
  | true =>
   rw [so] at q
   refine iteF ?_
   exact ⟨_,rfl,q _ _ s1 ⟨xq,rfl,hxq⟩⟩
  | false =>
   rw [so] at q
   refine iteT ?_
   exact q _ _ s1 rfl
theorem small9 {n:Nat} (h:n≤2000000) : n < sizeLine:=Nat.lt_of_le_of_lt h (by decide)
def sp_raise_by (K:PySem.W.Frag) : Sp:=fun vs H Q _=>∃ (H0:Hp) (ba la pa:Addr) (k:Str) (i:Nat) (j:Int) (F:Frm) (ds:List Wd) (xs:List (Int × Int)) (as:List Addr) (ps:List V) (y:Int × Int),vs=[.ref ba,.ref la,.ref pa,.str k,.int (i:Int),.int j]∧BkAt K H0 ba F.w F.h F.f F.m ds∧Same H0 H∧H0 la=none∧H0 pa=none∧la≠pa∧H la=some (.lst (as.map V.ref))∧PlsA K H as xs∧H pa=some (.lst ps)∧BkOk F ds xs∧i < ds.length∧ps.length≤2000000∧reachI F ds xs k i j=some y∧∀ H' as' ps',Same H0 H'→H' la=some (.lst (as'.map V.ref))→PlsA K H' as' (xs.set i y)→H' pa=some (.lst ps')→ps'.length=ps.length+1→Q .non H'
theorem sc_raise_by:FnScope ["book","bounds","paper","kind","i","j","place"] ["book","bounds","paper","kind","i","j"] (defScope s_raise_by):=⟨rfl,rfl,rfl,by decide +kernel,rfl,by decide +kernel,by decide +kernel⟩
theorem ok_raise_by (T:Txt P w K mg a) : FnOk P w K mg base CX0 8 a.f_raise_by a.fd_raise_by ["book","bounds","paper","kind","i","j"] (sp_raise_by K):=by
 have g_reach:=ok_reach (P:=P) (w:=w) (base:=base) T
 have d_reach:=T.d_reach
 refine T.d_raise_by.fn.ok sc_raise_by (fun vs H Q E h=>?_) (fun cdv A outer s H vs Q E hr h=>?_)
 ·obtain ⟨H0,ba,la,pa,k,i,j,F,ds,xs,as,ps,y,rfl,_⟩:=h
  rfl
 obtain ⟨H0,ba,la,pa,k,i,j,F,ds,xs,as,ps,y,rfl,hbk,s0,nla,npa,nlp,hla,pxs,hpa,B,hi,pl9,hy,q⟩:=h
 have hu:=Nat.lt_of_succ_lt (hu_of hr)
 refine ⟨_,(pss_cons (ps_set (i:=6) sc_raise_by.nd rfl (Or.inl rfl) (pe_callD d_reach g_reach (hr.mono (by decide)) rfl (pa_cons (pv 0) (pa_cons (pv 1) (pa_cons (pv 3) (pa_cons (pv 4) (pa_cons (pv 5) pa_nil)))))))
   (pss_cons (ps_expr (pe_bm PySem.F.plainAttrs_list PySem.F.slot_list_append PySem.F.type_list_append mt_append (pv 2) (pa_cons (pe_tup (pa_cons (pv 3) (pa_cons (pv 4) (pa_cons (pv 5) (pa_cons (pv 6) pa_nil))))) pa_nil)))
   (pss_one (ps_asg (pv 6) (pg_sub (pv 1) (pv 4) set_list))))),?_⟩
 refine ⟨_,rfl,_,rfl,_,rfl,_,rfl,_,rfl,ba,la,k,i,j,F,ds,xs,rfl,hbk.same s0,⟨as,SqL.of hla,pxs⟩,B,hi,fun v H1 s1 h1=>?_⟩
 rw [hy] at h1
 obtain ⟨yq,rfl,hyq⟩:=h1
 have hpa1:=s1 _ _ hpa
 have hla1:=s1 _ _ hla
 refine ⟨_,rfl,.inl ⟨rfl,_,SqL.of hpa1⟩,_,rfl,_,rfl,_,rfl,_,rfl,le4,fun p hp=>?_⟩
 have s2:=same_new hp (.tup [V.str k,V.int (i:Int),V.int j,V.ref yq])
 have hpa2:=s2 _ _ hpa1
 refine ⟨_,_,_,rfl,rfl,hpa2,small9 pl9,?_⟩
 have hla2:(upd (upd H1 p (.tup [V.str k,V.int (i:Int),V.int j,V.ref yq])) pa (.lst (ps++[V.ref p]))) la=some (.lst (as.map V.ref)):=by rw [upd_ne nlp]; exact s2 _ _ hla1
 have ixe:ixN (as.map V.ref).length (i:Int)=some i:=by
  unfold ixN
  rw [List.length_map,pxs.1,← B.len,if_pos (by omega),if_pos (by omega)]
  simp
 refine ⟨_,rfl,_,rfl,_,rfl,_,_,_,i,rfl,rfl,hla2,ixe,?_⟩
 have es:(as.map V.ref).set i (V.ref yq)=(as.set i yq).map V.ref:=by rw [List.map_set]
 rw [es]
 refine q _ (as.set i yq) (ps++[V.ref p]) ?_ upd_same ?_ ?_ (by rw [List.length_append]; rfl)
 ·exact ((s0.trans (s1.trans s2)).put npa).put nla
 ·have p2:=((pxs.same (s1.trans s2)).set i (s2.tup hyq)).lst (zs:=ps++[V.ref p]) hpa2
  exact p2.lst hla2
 ·rw [upd_ne (Ne.symm nlp)]
  exact upd_same
def KeptOk (ds:List Wd) (xs:List (Int × Int)) (i:Nat) : Prop:=∀ y,toldKept ds xs i=some y→sooner (xAt xs i) y=false
theorem kept_by {F:Frm} {ds:List Wd} {xs:List (Int × Int)} {i:Nat} : toldBy F ds xs kK i ((i:Int)+1)=toldKept ds xs i:=by
 obtain ⟨n1,n2,n3,n4,n5,n6,n7,n8,n9,n10⟩:=kne
 rw [toldBy_k,if_neg (fun z=>n3 z.1.symm),if_neg (fun z=>n6 z.1.symm),if_neg (fun z=>n8 z.1.symm),if_pos ⟨rfl,rfl⟩]
theorem kept_ok {F:Frm} {ds:List Wd} {xs:List (Int × Int)} {i:Nat} (h:reachI F ds xs kK i ((i:Int)+1)=none) : KeptOk ds xs i:=fun y e=>by
 cases s:sooner (xAt xs i) y with
 | false=>rfl
 | true =>
  have:=reach_of (k:=kK) (j:=(i:Int)+1) (F:=F) (by rw [kept_by]; exact e) s
  rw [h] at this
  cases this
def sp_raise_kept (K:PySem.W.Frag) : Sp:=fun vs H Q _=>∃ (H0:Hp) (ba la pa:Addr) (i:Nat) (F:Frm) (ds:List Wd) (x0 xs zs:List (Int × Int)) (as:List Addr) (ps:List V),vs=[.ref ba,.ref la,.ref pa,.int (i:Int)]∧BkAt K H0 ba F.w F.h F.f F.m ds∧Same H0 H∧H0 la=none∧H0 pa=none∧la≠pa∧H la=some (.lst (as.map V.ref))∧PlsA K H as xs∧H pa=some (.lst ps)∧RunOk F ds x0 zs xs ps.length∧(∀ k,k < ds.length→(xAt xs k).1 < F.m)∧i < ds.length∧(∀ H' as' ps',Same H0 H'→H' la=some (.lst (as'.map V.ref))→PlsA K H' as' xs→H' pa=some (.lst ps')→RunOk F ds x0 zs xs ps'.length→(0 < i→KeptOk ds xs (i - 1))→Q (.int ((i:Int)+1)) H')∧∀ (f:Nat) H' as' ps' xs',f < i→Same H0 H'→H' la=some (.lst (as'.map V.ref))→PlsA K H' as' xs'→H' pa=some (.lst ps')→RunOk F ds x0 zs xs' ps'.length→(∀ k,k < ds.length→(xAt xs' k).1 < F.m)→(∀ k,k < f→xAt xs' k=xAt xs k)→(xs.map (rank F.h)).sum+1≤(xs'.map (rank F.h)).sum→Q (.int (f:Int)) H'
theorem sc_raise_kept:FnScope ["book","bounds","paper","i","first"] ["book","bounds","paper","i"] (defScope s_raise_kept):=⟨rfl,rfl,rfl,by decide +kernel,rfl,by decide +kernel,by decide +kernel⟩
theorem ok_raise_kept (T:Txt P w K mg a) : FnOk P w K mg base CX0 9 a.f_raise_kept a.fd_raise_kept ["book","bounds","paper","i"] (sp_raise_kept K):=by
 have g_raise_by:=ok_raise_by (P:=P) (w:=w) (base:=base) T
 have d_raise_by:=T.d_raise_by
 have g_reach:=ok_reach (P:=P) (w:=w) (base:=base) T
 have d_reach:=T.d_reach
 refine T.d_raise_kept.fn.ok sc_raise_kept (fun vs H Q E h=>?_) (fun cdv A outer s H vs Q E hr h=>?_)
 ·obtain ⟨H0,ba,la,pa,i,F,ds,x0,xs,zs,as,ps,rfl,_⟩:=h
  rfl
 obtain ⟨H0,ba,la,pa,i,F,ds,x0,xs,zs,as,ps,rfl,hbk,s0,nla,npa,nlp,hla,pxs,hpa,R,all,hi,qi,qf⟩:=h
 have hu:=Nat.lt_of_succ_lt (hu_of hr)
 refine ⟨_,(pss_cons (ps_set (i:=4) sc_raise_kept.nd rfl (Or.inl rfl) (pv 3))
   (pss_cons (ps_while PassesOwn.never (PW.pt (pw_and (pt_cmpR op_gt (pv 4) pe_int (nomark _)) (pw_and1 (pt_cmpR op_notN (pe_callD d_reach g_reach (hr.mono (by decide)) rfl (pa_cons (pv 0) (pa_cons (pv 1) (pa_cons pe_str (pa_cons (pe_op op_sub (pv 4) pe_int) (pa_cons (pv 4) pa_nil)))))) pe_non (nomark _))))) (pss_cons (ps_set (i:=4) sc_raise_kept.nd rfl (Or.inl rfl) (pe_op op_sub (pv 4) pe_int))
   (pss_one (ps_expr (pe_callD d_raise_by g_raise_by (hr.mono (by decide)) rfl (pa_cons (pv 0) (pa_cons (pv 1) (pa_cons (pv 2) (pa_cons pe_str (pa_cons (pv 4) (pa_cons (pe_op op_add (pv 4) pe_int) pa_nil)))))))))))
   (pss_cons (ps_if (pt_cmpR op_lt (pv 4) (pv 3) (nomark _)) (pss_one (ps_ret (pv 4))) pss_nil)
   (pss_one (ps_ret (pe_op op_add (pv 3) pe_int)))))),?_⟩
 refine ⟨_,rfl,?_⟩
 dsimp only [gName]
 refine cut_seq (fun σ H2=>∃ n,(∃ (f:Nat) (as':List Addr) (ps':List V) (xs':List (Int × Int)),n=f∧f≤i∧σ=[some (.ref ba),some (.ref la),some (.ref pa),some (.int (i:Int)),some (.int (f:Int))]∧Same H0 H2∧H2 la=some (.lst (as'.map V.ref))∧PlsA K H2 as' xs'∧H2 pa=some (.lst ps')∧RunOk F ds x0 zs xs' ps'.length∧(∀ k,k < ds.length→(xAt xs' k).1 < F.m)∧(∀ k,k < f→xAt xs' k=xAt xs k)∧((f=i∧xs' = xs)∨(f < i∧(xs.map (rank F.h)).sum+1≤(xs'.map (rank F.h)).sum)))∧(n=i→0 < i→KeptOk ds xs (i - 1))) ?_ (fun key=>?_)
 ·rintro σ H2 ⟨n,⟨f,as',ps',xs',rfl,fi,rfl,t2,hla2,px2,hpa2,R2,all2,un,up⟩,hk⟩
  refine ⟨_,rfl,_,rfl,_,_,rfl,rfl,_,rfl,?_⟩
  rcases up with ⟨rfl,rfl⟩ | ⟨lt,up⟩
  ·refine ite2 (fun c=>absurd (of_decide_eq_true c) (by omega)) (fun _=>?_)
   exact ⟨_,rfl,_,_,rfl,rfl,qi H2 as' ps' t2 hla2 px2 hpa2 R2 (hk rfl)⟩
  ·refine ite2 (fun _=>?_) (fun c=>absurd (decide_eq_true (by omega)) c)
   exact ⟨_,rfl,qf _ H2 as' ps' xs' lt t2 hla2 px2 hpa2 R2 all2 un up⟩
 refine ⟨fun n σ H2=>∃ (f:Nat) (as':List Addr) (ps':List V) (xs':List (Int × Int)),n=f∧f≤i∧σ=[some (.ref ba),some (.ref la),some (.ref pa),some (.int (i:Int)),some (.int (f:Int))]∧Same H0 H2∧H2 la=some (.lst (as'.map V.ref))∧PlsA K H2 as' xs'∧H2 pa=some (.lst ps')∧RunOk F ds x0 zs xs' ps'.length∧(∀ k,k < ds.length→(xAt xs' k).1 < F.m)∧(∀ k,k < f→xAt xs' k=xAt xs k)∧((f=i∧xs' = xs)∨(f < i∧(xs.map (rank F.h)).sum+1≤(xs'.map (rank F.h)).sum)),⟨i,i,as,ps,xs,rfl,Nat.le_refl _,rfl,s0,hla,pxs,hpa,R,all,fun _ _=>rfl,.inl ⟨rfl,rfl⟩⟩,?_⟩
 rintro f σ H2 ⟨_,as',ps',xs',rfl,fi,rfl,t2,hla2,px2,hpa2,R2,all2,un,up⟩
 refine ⟨_,rfl,_,_,rfl,rfl,_,rfl,?_⟩
 cases f with
 | zero=>exact andG (fun _=>key _ _ ⟨0,⟨0,as',ps',xs',rfl,fi,rfl,t2,hla2,px2,hpa2,R2,all2,un,up⟩,fun e z=>by omega⟩) (fun z=>absurd (of_decide_eq_true z) (by omega))
 | succ f =>
  refine andG (fun z=>absurd (decide_eq_true (by omega)) z) (fun _=>?_)
  have ef:((f+1:Nat) : Int) - 1=(f:Int):=by omega
  have ef1:((f+1:Nat) : Int)=(f:Int)+1:=by omega
  have hf:f < ds.length:=by omega
  refine ⟨_,rfl,_,rfl,_,rfl,_,_,rfl,rfl,_,rfl,ba,la,kK,f,(f:Int)+1,F,ds,xs',(by show [V.ref ba,V.ref la,V.str kK,V.int (((f+1:Nat) : Int) - 1),V.int ((f+1:Nat) : Int)]=_; rw [ef,ef1]),hbk.same t2,⟨as',SqL.of hla2,px2⟩,R2.B,hf,fun v H3 s3 h3=>?_⟩
  cases er:reachI F ds xs' kK f ((f:Int)+1) with
  | none =>
   rw [er] at h3
   cases h3
   refine ⟨rfl,_,rfl,?_⟩
   refine iteF ?_
   refine key _ _ ⟨f+1,⟨f+1,as',ps',xs',rfl,fi,rfl,t2.trans s3,s3 _ _ hla2,px2.same s3,s3 _ _ hpa2,R2,all2,un,up⟩,fun e z=>?_⟩
   rcases up with ⟨_,ex⟩ | ⟨lt,_⟩
   ·rw [← e,Nat.add_sub_cancel,← ex]
    exact kept_ok er
   ·omega
  | some y =>
   rw [er] at h3
   obtain ⟨yq,rfl,_⟩:=h3
   refine ⟨rfl,_,rfl,?_⟩
   refine iteT ?_
   refine ⟨fun σ H3=>∃ n,n < f+1∧∃ (f:Nat) (as3:List Addr) (ps3:List V) (xs3:List (Int × Int)),n=f∧f≤i∧σ=[some (.ref ba),some (.ref la),some (.ref pa),some (.int (i:Int)),some (.int (f:Int))]∧Same H0 H3∧H3 la=some (.lst (as3.map V.ref))∧PlsA K H3 as3 xs3∧H3 pa=some (.lst ps3)∧RunOk F ds x0 zs xs3 ps3.length∧(∀ k,k < ds.length→(xAt xs3 k).1 < F.m)∧(∀ k,k < f→xAt xs3 k=xAt xs k)∧((f=i∧xs3=xs)∨(f < i∧(xs.map (rank F.h)).sum+1≤(xs3.map (rank F.h)).sum)),fun _ _ h=>h,?_⟩
   obtain ⟨R3,sm⟩:=R2.raise all2 hf er
   have hfl:f < xs'.length:=by rw [← R2.B.len]; exact hf
   have yp:y.1 < F.m:=by
    have:=(reach_told er).1
    rw [kept_by,toldKept] at this
    split at this
    ·cases this
    ·rename_i c
     cases this
     exact all2 (f+1) (by omega)
   refine ⟨_,rfl,_,_,rfl,rfl,?_⟩
   dsimp only [gName]
   rw [ef]
   refine ⟨_,rfl,_,rfl,_,rfl,_,rfl,_,rfl,_,_,rfl,rfl,H0,ba,la,pa,kK,f,(f:Int)+1,F,ds,xs',as',ps',y,rfl,hbk,t2.trans s3,nla,npa,nlp,s3 _ _ hla2,px2.same s3,s3 _ _ hpa2,R2.B,hf,R2.np_le,er,fun H4 as4 ps4 t4 hla4 px4 hpa4 pl4=>?_⟩
   rw [← pl4] at R3
   refine ⟨f,by omega,f,as4,ps4,xs'.set f y,rfl,by omega,rfl,t4,hla4,px4,hpa4,R3,fun k hk=>?_,fun k hk=>?_,.inr ⟨by omega,?_⟩⟩
   ·rw [xAt_set hfl]
    by_cases c:k=f
    ·rw [if_pos c]; exact yp
    ·rw [if_neg c]; exact all2 k hk
   ·rw [xAt_set hfl,if_neg (by omega)]
    exact un k (by omega)
   ·rcases up with ⟨_,ex⟩ | ⟨_,up⟩
    ·rw [ex] at sm ⊢; exact sm
    ·omega
def sp_stands_beyond (K:PySem.W.Frag) : Sp:=fun vs H Q _=>∃ (ba pa fa wa:Addr) (w h f m:Int) (x:Int × Int),vs=[.ref ba,.ref pa]∧SqT K H ba [.ref fa,.ref wa]∧SqT K H fa (fm w h f m)∧SqT K H pa (pl x)∧Q (.bl (decide (m≤x.1))) H
theorem sc_stands_beyond:FnScope ["book","place"] ["book","place"] (defScope s_stands_beyond):=⟨rfl,rfl,rfl,by decide +kernel,rfl,by decide +kernel,by decide +kernel⟩
theorem ok_stands_beyond (T:Txt P w K mg a) : FnOk P w K mg base CX0 1 a.f_stands_beyond a.fd_stands_beyond ["book","place"] (sp_stands_beyond K):=by
 refine T.d_stands_beyond.fn.ok sc_stands_beyond (fun vs H Q E h=>?_) (fun cdv A outer s H vs Q E hr h=>?_)
 ·obtain ⟨ba,pa,fa,wa,w,h,f,m,x,rfl,_⟩:=h
  rfl
 obtain ⟨ba,pa,fa,wa,w,h,f,m,x,rfl,hb,hf,hx,q⟩:=h
 have hu:=Nat.lt_of_succ_lt (hu_of hr)
 refine ⟨_,(pss_one (ps_ret (pe_cmpR op_ge (pe_ix ix_tup (pv 1) pe_int (fun _ _=>rfl)) (pe_ix ix_tup (pe_ix ix_tup (pv 0) pe_int (fun _ _=>rfl)) pe_int (fun _ _=>rfl)) (nomark _)))),?_⟩
 exact ⟨_,rfl,_,_,_,_,rfl,rfl,hx,rfl,_,rfl,_,_,_,_,rfl,rfl,hb,rfl,_,_,_,_,rfl,rfl,hf,rfl,_,_,rfl,rfl,q⟩
def sp_too_high_from (K:PySem.W.Frag) : Sp:=fun vs H Q _=>∃ (fa za la:Addr) (F:Frm) (zs xs:List (Int × Int)) (i:Nat),vs=[.ref fa,.ref za,.ref la,.int (i:Int)]∧SqT K H fa (fm F.w F.h F.f F.m)∧LwAt K H za zs∧LwAt K H la xs∧i < xs.length∧zs.length=xs.length∧((∀ j,j≤i→(∀ n,j≤n→n≤i→(xAt xs n).1=(xAt xs i).1)→(xAt xs i).2+1+sumS zs j i≤F.h)→Q .non H)∧∀ j:Nat,j≤i→(xAt xs j).1=(xAt xs i).1→F.h < (xAt xs i).2+1+sumS zs j i→Q (.int (j:Int)) H
theorem sc_too_high_from:FnScope ["form","sizes","bounds","i","page","high","j"] ["form","sizes","bounds","i"] (defScope s_too_high_from):=⟨rfl,rfl,rfl,by decide +kernel,rfl,by decide +kernel,by decide +kernel⟩
theorem ok_too_high_from (T:Txt P w K mg a) : FnOk P w K mg base CX0 1 a.f_too_high_from a.fd_too_high_from ["form","sizes","bounds","i"] (sp_too_high_from K):=by
 refine T.d_too_high_from.fn.ok sc_too_high_from (fun vs H Q E h=>?_) (fun cdv A outer s H vs Q E hr h=>?_)
 ·obtain ⟨fa,za,la,F,zs,xs,i,rfl,_⟩:=h
  rfl
 obtain ⟨fa,za,la,F,zs,xs,i,rfl,hf,hz,hl,hi,zl,qn,qs⟩:=h
 have hu:=Nat.lt_of_succ_lt (hu_of hr)
 refine ⟨_,(pss_cons (ps_set (i:=4) sc_too_high_from.nd rfl (Or.inl rfl) (pe_ix ix_tup (pe_ix ix_list (pv 2) (pv 3) (fun _ _=>rfl)) pe_int (fun _ _=>rfl)))
   (pss_cons (ps_set (i:=5) sc_too_high_from.nd rfl (Or.inl rfl) (pe_op op_add (pe_ix ix_tup (pe_ix ix_list (pv 2) (pv 3) (fun _ _=>rfl)) pe_int (fun _ _=>rfl)) pe_int))
   (pss_cons (ps_set (i:=6) sc_too_high_from.nd rfl (Or.inl rfl) (pv 3))
   (pss_cons (ps_while PassesOwn.never (PW.pt (pw_and (pt_cmpR op_ge (pv 6) pe_int (nomark _)) (pw_and1 (pt_cmpR op_eq (pe_ix ix_tup (pe_ix ix_list (pv 2) (pv 6) (fun _ _=>rfl)) pe_int (fun _ _=>rfl)) (pv 4) (nomark _))))) (pss_cons (ps_set (i:=5) sc_too_high_from.nd rfl (Or.inl rfl) (pe_op op_add (pv 5) (pe_ix ix_tup (pe_ix ix_list (pv 1) (pv 6) (fun _ _=>rfl)) pe_int (fun _ _=>rfl))))
   (pss_cons (ps_if (pt_cmpR op_gt (pv 5) (pe_ix ix_tup (pv 0) pe_int (fun _ _=>rfl)) (nomark _)) (pss_one (ps_ret (pv 6))) pss_nil)
   (pss_one (ps_set (i:=6) sc_too_high_from.nd rfl (Or.inl rfl) (pe_op op_sub (pv 6) pe_int))))))
   (pss_one (ps_ret pe_non)))))),?_⟩
 obtain ⟨azs,hza,hzs⟩:=hz
 obtain ⟨als,hla,hls⟩:=hl
 obtain ⟨xo,ex,hxo⟩:=LwAt.get (a:=la) hls hi
 have hiz:i < zs.length:=by omega
 refine ⟨_,rfl,_,rfl,_,_,_,_,rfl,rfl,hla,ex,_,_,_,_,rfl,rfl,hxo,rfl,?_⟩
 refine ⟨_,rfl,_,rfl,_,_,_,_,rfl,rfl,hla,ex,_,_,_,_,rfl,rfl,hxo,rfl,_,_,rfl,rfl,?_⟩
 refine ⟨_,rfl,?_⟩
 dsimp only [gName]
 refine cut_seq (fun σ' H'=>H' = H∧∀ j,j≤i→(∀ n,j≤n→n≤i→(xAt xs n).1=(xAt xs i).1)→(xAt xs i).2+1+sumS zs j i≤F.h) ?_ (fun key=>?_)
 ·rintro σ' H' ⟨rfl,hn⟩
  exact qn hn
 have es:((i+1:Nat) : Int) - 1=(i:Int):=by omega
 refine ⟨fun n σ H2=>H2=H∧∃ t:Nat,n=t∧t≤i+1∧σ=[some (.ref fa),some (.ref za),some (.ref la),some (.int (i:Int)),some (.int (xAt xs i).1),some (.int ((xAt xs i).2+1+sumS zs t i)),some (.int ((t:Int) - 1))]∧(∀ n,t≤n→n≤i→(xAt xs n).1=(xAt xs i).1)∧∀ j',t≤j'→j'≤i→(xAt xs i).2+1+sumS zs j' i≤F.h,⟨i+1,rfl,i+1,rfl,Nat.le_refl _,by rw [sumS_out,es,Int.add_zero]; rfl,fun n a b=>by omega,fun j' a b=>by omega⟩,?_⟩
 rintro t σ H2 ⟨rfl,_,rfl,ti,rfl,te,tw⟩
 refine ⟨_,rfl,_,_,rfl,rfl,_,rfl,?_⟩
 cases t with
 | zero=>exact andG (fun _=>key [] _ ⟨rfl,fun j hj _=>tw j (Nat.zero_le _) hj⟩) (fun z=>absurd (of_decide_eq_true z) (by omega))
 | succ t =>
  have ej:((t+1:Nat) : Int) - 1=(t:Int):=by omega
  rw [ej]
  refine andG (fun z=>absurd (decide_eq_true (by omega)) z) (fun _=>?_)
  obtain ⟨yo,ey,hyo⟩:=LwAt.get (a:=la) hls (show t < xs.length by omega)
  obtain ⟨zo,ez,hzo⟩:=LwAt.get (a:=za) hzs (show t < zs.length by omega)
  refine ⟨_,rfl,_,rfl,_,_,_,_,rfl,rfl,hla,ey,_,_,_,_,rfl,rfl,hyo,rfl,_,rfl,rfl,_,rfl,?_⟩
  by_cases e:(xAt xs t).1=(xAt xs i).1
  ·refine ite2 (fun _=>?_) (fun z=>absurd (int_eq.mpr e) z)
   refine ⟨fun σ H2'=>∃ n,n < t+1∧H2' = H2∧∃ t:Nat,n=t∧t≤i+1∧σ=[some (.ref fa),some (.ref za),some (.ref la),some (.int (i:Int)),some (.int (xAt xs i).1),some (.int ((xAt xs i).2+1+sumS zs t i)),some (.int ((t:Int) - 1))]∧(∀ n,t≤n→n≤i→(xAt xs n).1=(xAt xs i).1)∧∀ j',t≤j'→j'≤i→(xAt xs i).2+1+sumS zs j' i≤F.h,fun _ _ h=>h,?_⟩
   refine ⟨_,rfl,_,rfl,_,rfl,_,_,_,_,rfl,rfl,hza,ez,_,_,_,_,rfl,rfl,hzo,rfl,_,_,rfl,rfl,?_⟩
   dsimp only [gName]
   have eh:(xAt xs i).2+1+sumS zs (t+1) i+(xAt zs t).2=(xAt xs i).2+1+sumS zs t i:=by
    rw [sumS_cons (show t≤i by omega) hiz]
    omega
   rw [eh]
   refine ⟨_,rfl,_,rfl,_,_,_,_,rfl,rfl,hf,rfl,_,_,rfl,rfl,_,rfl,?_⟩
   refine ite2 (fun c=>?_) (fun c=>?_)
   ·exact ⟨_,rfl,qs t (by omega) e (of_decide_eq_true c)⟩
   ·have c:¬ F.h < (xAt xs i).2+1+sumS zs t i:=fun z=>c (decide_eq_true z)
    refine ⟨_,rfl,_,_,rfl,rfl,?_⟩
    refine ⟨t,by omega,rfl,t,rfl,by omega,rfl,fun n a b=>?_,fun j' a b=>?_⟩
    ·by_cases c2:n=t
     ·rw [c2]; exact e
     ·exact te n (by omega) b
    ·by_cases c2:j' = t
     ·rw [c2]; omega
     ·exact tw j' (by omega) b
  ·refine ite2 (fun z=>absurd (int_eq.mp z) e) (fun _=>?_)
   refine key [] _ ⟨rfl,fun j hj hn=>?_⟩
   by_cases c:j≤t
   ·exact absurd (hn t c (by omega)) e
   ·exact tw j (by omega) hj
def sp_too_wide_from (K:PySem.W.Frag) : Sp:=fun vs H Q _=>∃ (fa za la:Addr) (F:Frm) (zs xs:List (Int × Int)) (i:Nat),vs=[.ref fa,.ref za,.ref la,.int (i:Int)]∧SqT K H fa (fm F.w F.h F.f F.m)∧LwAt K H za zs∧LwAt K H la xs∧i < xs.length∧zs.length=xs.length∧((∀ j,j < i→(∀ n,j≤n→n≤i→xAt xs n=xAt xs i)→togS zs j i≤F.w)→Q .non H)∧∀ j:Nat,j < i→(∀ n,j≤n→n≤i→xAt xs n=xAt xs i)→F.w < togS zs j i→Q (.int (j:Int)) H
theorem sc_too_wide_from:FnScope ["form","sizes","bounds","i","wide","j"] ["form","sizes","bounds","i"] (defScope s_too_wide_from):=⟨rfl,rfl,rfl,by decide +kernel,rfl,by decide +kernel,by decide +kernel⟩
theorem ok_too_wide_from (T:Txt P w K mg a) : FnOk P w K mg base CX0 1 a.f_too_wide_from a.fd_too_wide_from ["form","sizes","bounds","i"] (sp_too_wide_from K):=by
 refine T.d_too_wide_from.fn.ok sc_too_wide_from (fun vs H Q E h=>?_) (fun cdv A outer s H vs Q E hr h=>?_)
 ·obtain ⟨fa,za,la,F,zs,xs,i,rfl,_⟩:=h
  rfl
 obtain ⟨fa,za,la,F,zs,xs,i,rfl,hf,hz,hl,hi,zl,qn,qs⟩:=h
 have hu:=Nat.lt_of_succ_lt (hu_of hr)
 refine ⟨_,(pss_cons (ps_set (i:=4) sc_too_wide_from.nd rfl (Or.inl rfl) (pe_ix ix_tup (pe_ix ix_list (pv 1) (pv 3) (fun _ _=>rfl)) pe_int (fun _ _=>rfl)))
   (pss_cons (ps_set (i:=5) sc_too_wide_from.nd rfl (Or.inl rfl) (pe_op op_sub (pv 3) pe_int))
   (pss_cons (ps_while PassesOwn.never (PW.pt (pw_and (pt_cmpR op_ge (pv 5) pe_int (nomark _)) (pw_and1 (pt_cmpR (op_eqT hu) (pe_ix ix_list (pv 2) (pv 5) (fun _ _=>rfl)) (pe_ix ix_list (pv 2) (pv 3) (fun _ _=>rfl)) (nomark _))))) (pss_cons (ps_set (i:=4) sc_too_wide_from.nd rfl (Or.inl rfl) (pe_op op_add (pe_op op_add (pv 4) pe_int) (pe_ix ix_tup (pe_ix ix_list (pv 1) (pv 5) (fun _ _=>rfl)) pe_int (fun _ _=>rfl))))
   (pss_cons (ps_if (pt_cmpR op_gt (pv 4) (pe_ix ix_tup (pv 0) pe_int (fun _ _=>rfl)) (nomark _)) (pss_one (ps_ret (pv 5))) pss_nil)
   (pss_one (ps_set (i:=5) sc_too_wide_from.nd rfl (Or.inl rfl) (pe_op op_sub (pv 5) pe_int))))))
   (pss_one (ps_ret pe_non))))),?_⟩
 obtain ⟨azs,hza,hzs⟩:=hz
 obtain ⟨als,hla,hls⟩:=hl
 obtain ⟨zo,ez,hzo⟩:=LwAt.get (a:=za) hzs (show i < zs.length by omega)
 obtain ⟨xo,ex,hxo⟩:=LwAt.get (a:=la) hls hi
 have hiz:i < zs.length:=by omega
 refine ⟨_,rfl,_,rfl,_,_,_,_,rfl,rfl,hza,ez,_,_,_,_,rfl,rfl,hzo,rfl,?_⟩
 refine ⟨_,rfl,_,_,rfl,rfl,?_⟩
 dsimp only [gName]
 refine cut_seq (fun σ' H'=>H' = H∧∀ j,j < i→(∀ n,j≤n→n≤i→xAt xs n=xAt xs i)→togS zs j i≤F.w) ?_ (fun key=>?_)
 ·rintro σ' H' ⟨rfl,hn⟩
  exact qn hn
 refine ⟨fun n σ H2=>H2=H∧∃ t:Nat,n=t∧t≤i∧σ=[some (.ref fa),some (.ref za),some (.ref la),some (.int (i:Int)),some (.int (togS zs t i)),some (.int ((t:Int) - 1))]∧(∀ n,t≤n→n≤i→xAt xs n=xAt xs i)∧∀ j',t≤j'→j' < i→togS zs j' i≤F.w,⟨i,rfl,i,rfl,Nat.le_refl _,by rw [togS_self hiz]; rfl,fun n a b=>by rw [show n=i by omega],fun j' a b=>by omega⟩,?_⟩
 rintro t σ H2 ⟨rfl,_,rfl,ti,rfl,te,tw⟩
 refine ⟨_,rfl,_,_,rfl,rfl,_,rfl,?_⟩
 cases t with
 | zero=>exact andG (fun _=>key [] _ ⟨rfl,fun j hj _=>tw j (Nat.zero_le _) hj⟩) (fun z=>absurd (of_decide_eq_true z) (by omega))
 | succ t =>
  have ej:((t+1:Nat) : Int) - 1=(t:Int):=by omega
  rw [ej]
  refine andG (fun z=>absurd (decide_eq_true (by omega)) z) (fun _=>?_)
  obtain ⟨yo,ey,hyo⟩:=LwAt.get (a:=la) hls (show t < xs.length by omega)
  obtain ⟨zo,ez,hzo⟩:=LwAt.get (a:=za) hzs (show t < zs.length by omega)
  refine ⟨_,rfl,_,rfl,_,_,_,_,rfl,rfl,hla,ey,_,rfl,_,rfl,_,_,_,_,rfl,rfl,hla,ex,_,_,_,_,rfl,rfl,hyo,hxo,rfl,rfl,_,rfl,?_⟩
  rw [if_neg (by decide),eq_pl2]
  by_cases e:xAt xs t=xAt xs i
  ·rw [decide_eq_true e]
   refine iteT ?_
   refine ⟨fun σ H2'=>∃ n,n < t+1∧H2' = H2∧∃ t:Nat,n=t∧t≤i∧σ=[some (.ref fa),some (.ref za),some (.ref la),some (.int (i:Int)),some (.int (togS zs t i)),some (.int ((t:Int) - 1))]∧(∀ n,t≤n→n≤i→xAt xs n=xAt xs i)∧∀ j',t≤j'→j' < i→togS zs j' i≤F.w,fun _ _ h=>h,?_⟩
   have te':∀ n,t≤n→n≤i→xAt xs n=xAt xs i:=fun n a b=>by
    by_cases c:n=t
    ·rw [c]; exact e
    ·exact te n (by omega) b
   refine ⟨_,rfl,_,_,rfl,rfl,_,rfl,_,rfl,_,_,_,_,rfl,rfl,hza,ez,_,_,_,_,rfl,rfl,hzo,rfl,_,_,rfl,rfl,?_⟩
   dsimp only [gName]
   rw [← togS_cons (show t≤i by omega) hiz]
   refine ⟨_,rfl,_,rfl,_,_,_,_,rfl,rfl,hf,rfl,_,_,rfl,rfl,_,rfl,?_⟩
   refine ite2 (fun c=>?_) (fun c=>?_)
   ·exact ⟨_,rfl,qs t (by omega) te' (of_decide_eq_true c)⟩
   ·have c:¬ F.w < togS zs t i:=fun z=>c (decide_eq_true z)
    refine ⟨_,rfl,_,_,rfl,rfl,?_⟩
    refine ⟨t,by omega,rfl,t,rfl,by omega,rfl,te',fun j' a b=>?_⟩
    by_cases c2:j' = t
    ·rw [c2]; omega
    ·exact tw j' (by omega) b
  ·rw [decide_eq_false e]
   refine iteF ?_
   refine key [] _ ⟨rfl,fun j hj hn=>?_⟩
   by_cases c:j≤t
   ·exact absurd (hn t c (by omega)) e
   ·exact tw j (by omega) hj
def sp_reason_for (K:PySem.W.Frag) : Sp:=fun vs H Q _=>∃ (ba za la:Addr) (F:Frm) (ds:List Wd) (xs zs:List (Int × Int)) (i:Nat),vs=[.ref ba,.ref za,.ref la,.int (i:Int)]∧BkAt K H ba F.w F.h F.f F.m ds∧LwAt K H la xs∧BkOk F ds xs∧LwAt K H za zs∧LeZ zs (sizesL F ds xs)∧i < ds.length∧(∀ H',Same H H'→(F.m≤(xAt xs i).1∨NoR F ds xs zs i)→Q .non H')∧∀ q H' k j y,Same H H'→SqT K H' q [.str k,.int j]→(xAt xs i).1 < F.m→reachI F ds xs k i j=some y→Q (.ref q) H'
theorem sc_reason_for:FnScope ["book","sizes","bounds","i","form","j"] ["book","sizes","bounds","i"] (defScope s_reason_for):=⟨rfl,rfl,rfl,by decide +kernel,rfl,by decide +kernel,by decide +kernel⟩
theorem ok_reason_for (T:Txt P w K mg a) : FnOk P w K mg base CX0 8 a.f_reason_for a.fd_reason_for ["book","sizes","bounds","i"] (sp_reason_for K):=by
 have g_reach:=ok_reach (P:=P) (w:=w) (base:=base) T
 have d_reach:=T.d_reach
 have g_stands_beyond:=ok_stands_beyond (P:=P) (w:=w) (base:=base) T
 have d_stands_beyond:=T.d_stands_beyond
 have g_too_high_from:=ok_too_high_from (P:=P) (w:=w) (base:=base) T
 have d_too_high_from:=T.d_too_high_from
 have g_too_wide_from:=ok_too_wide_from (P:=P) (w:=w) (base:=base) T
 have d_too_wide_from:=T.d_too_wide_from
 refine T.d_reason_for.fn.ok sc_reason_for (fun vs H Q E h=>?_) (fun cdv A outer s H vs Q E hr h=>?_)
 ·obtain ⟨ba,za,la,F,ds,xs,zs,i,rfl,_⟩:=h
  rfl
 obtain ⟨ba,za,la,F,ds,xs,zs,i,rfl,hbk,hlw,B,hz,lz,hi,qn,qs⟩:=h
 have hu:=Nat.lt_of_succ_lt (hu_of hr)
 refine ⟨_,(pss_cons (ps_set (i:=4) sc_reason_for.nd rfl (Or.inl rfl) (pe_ix ix_tup (pv 0) pe_int (fun _ _=>rfl)))
   (pss_cons (ps_if (pt_val (pe_callD d_stands_beyond g_stands_beyond (hr.mono (by decide)) rfl (pa_cons (pv 0) (pa_cons (pe_ix ix_list (pv 2) (pv 3) (fun _ _=>rfl)) pa_nil))) (fun _=>rfl)) (pss_one (ps_ret pe_non)) pss_nil)
   (pss_cons (ps_if (PW.pt (pw_or (pt_cmpR op_gt (pe_ix ix_tup (pe_ix ix_list (pv 1) (pv 3) (fun _ _=>rfl)) pe_int (fun _ _=>rfl)) (pe_ix ix_tup (pv 4) pe_int (fun _ _=>rfl)) (nomark _)) (pw_or1 (pt_cmpR op_gt (pe_op op_add (pe_ix ix_tup (pe_ix ix_list (pv 1) (pv 3) (fun _ _=>rfl)) pe_int (fun _ _=>rfl)) pe_int) (pe_ix ix_tup (pv 4) pe_int (fun _ _=>rfl)) (nomark _))))) (pss_one (ps_ret (pe_tup (pa_cons pe_str (pa_cons (pv 3) pa_nil))))) pss_nil)
   (pss_cons (ps_if (pt_cmpR op_notN (pe_callD d_reach g_reach (hr.mono (by decide)) rfl (pa_cons (pv 0) (pa_cons (pv 2) (pa_cons pe_str (pa_cons (pv 3) (pa_cons (pe_op op_sub (pv 3) pe_int) pa_nil)))))) pe_non (nomark _)) (pss_one (ps_ret (pe_tup (pa_cons pe_str (pa_cons (pe_op op_sub (pv 3) pe_int) pa_nil))))) pss_nil)
   (pss_cons (ps_set (i:=5) sc_reason_for.nd rfl (Or.inl rfl) (pe_callD d_too_wide_from g_too_wide_from (hr.mono (by decide)) rfl (pa_cons (pv 4) (pa_cons (pv 1) (pa_cons (pv 2) (pa_cons (pv 3) pa_nil))))))
   (pss_cons (ps_if (pt_cmpR op_notN (pv 5) pe_non (nomark _)) (pss_one (ps_ret (pe_tup (pa_cons pe_str (pa_cons (pv 5) pa_nil))))) pss_nil)
   (pss_cons (ps_set (i:=5) sc_reason_for.nd rfl (Or.inl rfl) (pe_callD d_too_high_from g_too_high_from (hr.mono (by decide)) rfl (pa_cons (pv 4) (pa_cons (pv 1) (pa_cons (pv 2) (pa_cons (pv 3) pa_nil))))))
   (pss_cons (ps_if (pt_cmpR op_notN (pv 5) pe_non (nomark _)) (pss_one (ps_ret (pe_tup (pa_cons pe_str (pa_cons (pv 5) pa_nil))))) pss_nil)
   (pss_one (ps_ret pe_non)))))))))),?_⟩
 have hbk0:=hbk
 have hlw0:=hlw
 have hz0:=hz
 obtain ⟨fa,wa,was,hb,hf,hw,hws⟩:=hbk
 obtain ⟨las,hla,hls⟩:=hlw
 obtain ⟨azs,hza,hzs⟩:=hz
 have zl:zs.length=ds.length:=by rw [lz.1,sizes_len]
 have hix:i < xs.length:=by rw [← B.len]; exact hi
 obtain ⟨xo,ex,hx⟩:=LwAt.get (a:=la) hls hix
 obtain ⟨zo,ez,hzo⟩:=LwAt.get (a:=za) hzs (show i < zs.length by omega)
 refine ⟨_,rfl,_,_,_,_,rfl,rfl,hb,rfl,?_⟩
 refine ⟨_,rfl,_,rfl,_,rfl,_,_,_,_,rfl,rfl,hla,ex,ba,xo,fa,wa,F.w,F.h,F.f,F.m,_,rfl,hb,hf,hx,_,rfl,?_⟩
 refine ite2 (fun c=>qn H (Same.refl _) (.inl (of_decide_eq_true c))) (fun c=>?_)
 have pg:(xAt xs i).1 < F.m:=by
  have:¬ F.m≤(xAt xs i).1:=fun z=>c (decide_eq_true z)
  omega
 dsimp only [tNext]
 refine cut_seq (fun σ' H'=>H' = H∧σ' = [some (.ref ba),some (.ref za),some (.ref la),some (.int (i:Int)),some (.ref fa),none]∧(xAt zs i).1≤F.w∧(xAt zs i).2+1≤F.h) ?_ (fun key=>?_)
 rotate_left
 ·have hnv:F.w < (xAt zs i).1∨F.h < (xAt zs i).2+1→∀ p,H p=none→Q (.ref p) (upd H p (.tup [V.str kN,V.int (i:Int)])):=fun h p hp=>by
   obtain ⟨y,hy⟩:=never_reach lz hi pg h
   exact qs p _ kN i y (same_new hp _) (SqT.of upd_same) pg hy
  refine ⟨_,rfl,_,rfl,_,_,_,_,rfl,rfl,hza,ez,_,_,_,_,rfl,rfl,hzo,rfl,_,rfl,_,_,_,_,rfl,rfl,hf,rfl,_,_,rfl,rfl,_,rfl,?_⟩
  by_cases w1:F.w < (xAt zs i).1
  ·refine orG (fun _=>?_) (fun z=>absurd (decide_eq_true w1) z)
   exact ⟨_,rfl,le2,fun p hp=>hnv (.inl w1) p hp⟩
  ·refine orG (fun z=>absurd (of_decide_eq_true z) w1) (fun _=>?_)
   refine ⟨_,rfl,_,rfl,_,_,_,_,rfl,rfl,hza,ez,_,_,_,_,rfl,rfl,hzo,rfl,_,_,rfl,rfl,_,rfl,_,_,_,_,rfl,rfl,hf,rfl,_,_,rfl,rfl,_,rfl,?_⟩
   refine ite2 (fun z=>?_) (fun z=>?_)
   ·have w2:F.h < (xAt zs i).2+1:=of_decide_eq_true z
    exact ⟨_,rfl,le2,fun p hp=>hnv (.inr w2) p hp⟩
   ·have w2:¬ F.h < (xAt zs i).2+1:=fun y=>z (decide_eq_true y)
    exact key _ _ ⟨rfl,rfl,by omega,by omega⟩
 rintro σ' H' ⟨rfl,rfl,zw,zh⟩
 refine ⟨_,rfl,_,rfl,_,rfl,_,rfl,_,_,rfl,rfl,ba,la,kB,i,(i:Int) - 1,F,ds,xs,rfl,hbk0,hlw0,B,hi,fun v H1 s1 h1=>?_⟩
 cases eb:reachI F ds xs kB i ((i:Int) - 1) with
 | some y =>
  rw [eb] at h1
  obtain ⟨yq,rfl,hyq⟩:=h1
  refine ⟨rfl,_,rfl,?_⟩
  refine iteT ?_
  refine ⟨_,rfl,_,_,rfl,rfl,le2,fun p hp=>?_⟩
  exact qs p _ kB _ y (s1.trans (same_new hp _)) (SqT.of upd_same) pg eb
 | none =>
  rw [eb] at h1
  cases h1
  refine ⟨rfl,_,rfl,?_⟩
  refine iteF ?_
  dsimp only [tNext]
  have nb:sooner (xAt xs i) (toldBehind F ds xs i)=false:=by
   cases s:sooner (xAt xs i) (toldBehind F ds xs i) with
   | false=>rfl
   | true =>
    have:=reach_of (k:=kB) (j:=(i:Int) - 1) (F:=F) (ds:=ds) (xs:=xs) (i:=i) (y:=toldBehind F ds xs i) (by rw [toldBy_k,if_pos ⟨rfl,rfl⟩]) s
    rw [eb] at this
    cases this
  refine ⟨_,rfl,_,rfl,_,rfl,_,rfl,fa,za,la,F,zs,xs,i,rfl,s1.tup hf,hz0.same s1,hlw0.same s1,hix,zl.trans B.len,fun nw=>?_,fun j hj je jw=>?_⟩
  rotate_left
  ·obtain ⟨y,hy⟩:=wide_reach B lz hi hj (je j (Nat.le_refl _) (by omega)) jw
   refine ⟨_,rfl,rfl,_,rfl,?_⟩
   refine iteT ?_
   refine ⟨_,rfl,le2,fun p hp=>?_⟩
   exact qs p _ kW _ y (s1.trans (same_new hp _)) (SqT.of upd_same) pg hy
  ·refine ⟨_,rfl,rfl,_,rfl,?_⟩
   refine iteF ?_
   dsimp only [tNext]
   refine ⟨_,rfl,_,rfl,_,rfl,_,rfl,fa,za,la,F,zs,xs,i,rfl,s1.tup hf,hz0.same s1,hlw0.same s1,hix,zl.trans B.len,fun nh=>?_,fun j hj je jh=>?_⟩
   rotate_left
   ·obtain ⟨y,hy⟩:=high_reach lz hi hj je jh
    refine ⟨_,rfl,rfl,_,rfl,?_⟩
    refine iteT ?_
    refine ⟨_,rfl,le2,fun p hp=>?_⟩
    exact qs p _ kH _ y (s1.trans (same_new hp _)) (SqT.of upd_same) pg hy
   ·refine ⟨_,rfl,rfl,_,rfl,?_⟩
    refine iteF ?_
    exact qn _ s1 (.inr ⟨zw,zh,nb,nw,nh⟩)
def sp_raise_word (K:PySem.W.Frag) : Sp:=fun vs H Q _=>∃ (H0:Hp) (ba za la pa:Addr) (i:Nat) (F:Frm) (ds:List Wd) (x0 xs zs:List (Int × Int)) (as:List Addr) (ps:List V),vs=[.ref ba,.ref za,.ref la,.ref pa,.int (i:Int)]∧BkAt K H0 ba F.w F.h F.f F.m ds∧Same H0 H∧H0 la=none∧H0 pa=none∧la≠pa∧H la=some (.lst (as.map V.ref))∧PlsA K H as xs∧H pa=some (.lst ps)∧LwAt K H0 za zs∧RunOk F ds x0 zs xs ps.length∧(∀ k,k < ds.length→(xAt xs k).1 < F.m)∧i < ds.length∧∀ H' as' ps' xs',Same H0 H'→H' la=some (.lst (as'.map V.ref))→PlsA K H' as' xs'→H' pa=some (.lst ps')→RunOk F ds x0 zs xs' ps'.length→(∀ k,k≠i→xAt xs' k=xAt xs k)→(xs' = xs∨(xs.map (rank F.h)).sum+1≤(xs'.map (rank F.h)).sum)→(F.m≤(xAt xs' i).1∨NoR F ds xs' zs i)→Q .non H'
theorem sc_raise_word:FnScope ["book","sizes","bounds","paper","i","reason"] ["book","sizes","bounds","paper","i"] (defScope s_raise_word):=⟨rfl,rfl,rfl,by decide +kernel,rfl,by decide +kernel,by decide +kernel⟩
theorem ok_raise_word (T:Txt P w K mg a) : FnOk P w K mg base CX0 9 a.f_raise_word a.fd_raise_word ["book","sizes","bounds","paper","i"] (sp_raise_word K):=by
 have g_raise_by:=ok_raise_by (P:=P) (w:=w) (base:=base) T
 have d_raise_by:=T.d_raise_by
 have g_reason_for:=ok_reason_for (P:=P) (w:=w) (base:=base) T
 have d_reason_for:=T.d_reason_for
 refine T.d_raise_word.fn.ok sc_raise_word (fun vs H Q E h=>?_) (fun cdv A outer s H vs Q E hr h=>?_)
 ·obtain ⟨H0,ba,za,la,pa,i,F,ds,x0,xs,zs,as,ps,rfl,_⟩:=h
  rfl
 obtain ⟨H0,ba,za,la,pa,i,F,ds,x0,xs,zs,as,ps,rfl,hbk,s0,nla,npa,nlp,hla,pxs,hpa,hz,R,all,hi,q⟩:=h
 have hu:=Nat.lt_of_succ_lt (hu_of hr)
 refine ⟨_,(pss_cons (ps_set (i:=5) sc_raise_word.nd rfl (Or.inl rfl) (pe_callD d_reason_for g_reason_for (hr.mono (by decide)) rfl (pa_cons (pv 0) (pa_cons (pv 1) (pa_cons (pv 2) (pa_cons (pv 4) pa_nil))))))
   (pss_one (ps_while PassesOwn.never (pt_cmpR op_notN (pv 5) pe_non (nomark _)) (pss_cons (ps_expr (pe_callD d_raise_by g_raise_by (hr.mono (by decide)) rfl (pa_cons (pv 0) (pa_cons (pv 2) (pa_cons (pv 3) (pa_cons (pe_ix ix_tup (pv 5) pe_int (fun _ _=>rfl)) (pa_cons (pv 4) (pa_cons (pe_ix ix_tup (pv 5) pe_int (fun _ _=>rfl)) pa_nil))))))))
   (pss_one (ps_set (i:=5) sc_raise_word.nd rfl (Or.inl rfl) (pe_callD d_reason_for g_reason_for (hr.mono (by decide)) rfl (pa_cons (pv 0) (pa_cons (pv 1) (pa_cons (pv 2) (pa_cons (pv 4) pa_nil))))))))))),?_⟩
 have hil:i < xs.length:=by rw [← R.B.len]; exact hi
 have start:∀ (v:V) (H1:Hp),Same H H1→((v = .non∧(F.m≤(xAt xs i).1∨NoR F ds xs zs i))∨∃ (tq:Addr) (k:Str) (j:Int) (y:Int × Int),v = .ref tq∧SqT K H1 tq [.str k,.int j]∧(xAt xs i).1 < F.m∧reachI F ds xs k i j=some y)→(fun n σ H2=>∃ (v:V) (as':List Addr) (ps':List V) (xs':List (Int × Int)),σ=[some (.ref ba),some (.ref za),some (.ref la),some (.ref pa),some (.int (i:Int)),some v]∧Same H0 H2∧H2 la=some (.lst (as'.map V.ref))∧PlsA K H2 as' xs'∧H2 pa=some (.lst ps')∧RunOk F ds x0 zs xs' ps'.length∧(∀ k,k≠i→xAt xs' k=xAt xs k)∧(xs' = xs∨(xs.map (rank F.h)).sum+1≤(xs'.map (rank F.h)).sum)∧n=(1512001 - (xs'.map (rank F.h)).sum).toNat∧((v = .non∧(F.m≤(xAt xs' i).1∨NoR F ds xs' zs i))∨∃ (tq:Addr) (k:Str) (j:Int) (y:Int × Int),v = .ref tq∧SqT K H2 tq [.str k,.int j]∧(xAt xs' i).1 < F.m∧reachI F ds xs' k i j=some y)) (1512001 - (xs.map (rank F.h)).sum).toNat [some (.ref ba),some (.ref za),some (.ref la),some (.ref pa),some (.int (i:Int)),some v] H1:=fun v H1 s1 h=>⟨v,as,ps,xs,rfl,s0.trans s1,s1 _ _ hla,pxs.same s1,s1 _ _ hpa,R,fun _ _=>rfl,.inl rfl,rfl,h⟩
 refine cut_seq (fun σ H2=>∃ n,(fun n σ H2=>∃ (v:V) (as':List Addr) (ps':List V) (xs':List (Int × Int)),σ=[some (.ref ba),some (.ref za),some (.ref la),some (.ref pa),some (.int (i:Int)),some v]∧Same H0 H2∧H2 la=some (.lst (as'.map V.ref))∧PlsA K H2 as' xs'∧H2 pa=some (.lst ps')∧RunOk F ds x0 zs xs' ps'.length∧(∀ k,k≠i→xAt xs' k=xAt xs k)∧(xs' = xs∨(xs.map (rank F.h)).sum+1≤(xs'.map (rank F.h)).sum)∧n=(1512001 - (xs'.map (rank F.h)).sum).toNat∧((v = .non∧(F.m≤(xAt xs' i).1∨NoR F ds xs' zs i))∨∃ (tq:Addr) (k:Str) (j:Int) (y:Int × Int),v = .ref tq∧SqT K H2 tq [.str k,.int j]∧(xAt xs' i).1 < F.m∧reachI F ds xs' k i j=some y)) n σ H2) ?_ (fun key=>?_)
 rotate_left
 ·exact ⟨_,rfl,_,rfl,_,rfl,_,rfl,ba,za,la,F,ds,xs,zs,i,rfl,hbk.same s0,⟨as,SqL.of hla,pxs⟩,R.B,hz.same s0,R.lz,hi,fun H1 s1 hn=>key _ _ ⟨_,start _ H1 s1 (.inl ⟨rfl,hn⟩)⟩,fun tq H1 k j y s1 ht pg hy=>key _ _ ⟨_,start _ H1 s1 (.inr ⟨tq,k,j,y,rfl,ht,pg,hy⟩)⟩⟩
 rintro σ0 H1 ⟨n0,w0⟩
 refine ⟨fun n σ H2=>∃ (v:V) (as':List Addr) (ps':List V) (xs':List (Int × Int)),σ=[some (.ref ba),some (.ref za),some (.ref la),some (.ref pa),some (.int (i:Int)),some v]∧Same H0 H2∧H2 la=some (.lst (as'.map V.ref))∧PlsA K H2 as' xs'∧H2 pa=some (.lst ps')∧RunOk F ds x0 zs xs' ps'.length∧(∀ k,k≠i→xAt xs' k=xAt xs k)∧(xs' = xs∨(xs.map (rank F.h)).sum+1≤(xs'.map (rank F.h)).sum)∧n=(1512001 - (xs'.map (rank F.h)).sum).toNat∧((v = .non∧(F.m≤(xAt xs' i).1∨NoR F ds xs' zs i))∨∃ (tq:Addr) (k:Str) (j:Int) (y:Int × Int),v = .ref tq∧SqT K H2 tq [.str k,.int j]∧(xAt xs' i).1 < F.m∧reachI F ds xs' k i j=some y),⟨n0,w0⟩,?_⟩
 clear w0
 rintro n σ H2 ⟨v,as',ps',xs',rfl,t2,hla2,px2,hpa2,R2,un,up,rfl,hv⟩
 refine ⟨_,rfl,rfl,_,rfl,?_⟩
 rcases hv with ⟨rfl,hn⟩ | ⟨tq,k,j,y,rfl,ht,pg,hy⟩
 ·refine iteF ?_
  exact q H2 as' ps' xs' t2 hla2 px2 hpa2 R2 un up hn
 ·refine iteT ?_
  refine ⟨fun σ H3=>∃ n,n < (1512001 - (xs'.map (rank F.h)).sum).toNat∧∃ (v:V) (as3:List Addr) (ps3:List V) (xs3:List (Int × Int)),σ=[some (.ref ba),some (.ref za),some (.ref la),some (.ref pa),some (.int (i:Int)),some v]∧Same H0 H3∧H3 la=some (.lst (as3.map V.ref))∧PlsA K H3 as3 xs3∧H3 pa=some (.lst ps3)∧RunOk F ds x0 zs xs3 ps3.length∧(∀ k,k≠i→xAt xs3 k=xAt xs k)∧(xs3=xs∨(xs.map (rank F.h)).sum+1≤(xs3.map (rank F.h)).sum)∧n=(1512001 - (xs3.map (rank F.h)).sum).toNat∧((v = .non∧(F.m≤(xAt xs3 i).1∨NoR F ds xs3 zs i))∨∃ (tq:Addr) (k:Str) (j:Int) (y:Int × Int),v = .ref tq∧SqT K H3 tq [.str k,.int j]∧(xAt xs3 i).1 < F.m∧reachI F ds xs3 k i j=some y),fun _ _ h=>h,?_⟩
  have all2:∀ k,k < ds.length→(xAt xs' k).1 < F.m:=fun k hk=>by
   by_cases c:k=i
   ·rw [c]; exact pg
   ·rw [un k c]; exact all k hk
  obtain ⟨R3,sm⟩:=R2.raise all2 hi hy
  have sl:=R3.sum_le
  refine ⟨_,rfl,_,rfl,_,rfl,_,rfl,_,_,_,_,rfl,rfl,ht,rfl,_,rfl,_,rfl,_,_,_,_,rfl,rfl,ht,rfl,H0,ba,la,pa,k,i,j,F,ds,xs',as',ps',y,rfl,hbk,t2,nla,npa,nlp,hla2,px2,hpa2,R2.B,hi,R2.np_le,hy,fun H3 as3 ps3 t3 hla3 px3 hpa3 pl3=>?_⟩
  rw [← pl3] at R3
  have un3:∀ k,k≠i→xAt (xs'.set i y) k=xAt xs k:=fun k hk=>by rw [xAt_set (show i < xs'.length by rw [← R2.B.len]; exact hi),if_neg hk]; exact un k hk
  have up3:(xs'.set i y)=xs∨(xs.map (rank F.h)).sum+1≤((xs'.set i y).map (rank F.h)).sum:=by
   rcases up with e | e
   ·rw [e] at sm ⊢; exact .inr sm
   ·exact .inr (by omega)
  exact ⟨_,rfl,_,rfl,_,rfl,_,rfl,ba,za,la,F,ds,xs'.set i y,zs,i,rfl,hbk.same t3,⟨as3,SqL.of hla3,px3⟩,R3.B,hz.same t3,R3.lz,hi,fun H4 s4 hn=>⟨_,by omega,_,as3,ps3,xs'.set i y,rfl,t3.trans s4,s4 _ _ hla3,px3.same s4,s4 _ _ hpa3,R3,un3,up3,rfl,.inl ⟨rfl,hn⟩⟩,fun tq k j y2 s4=>fun h1 h2 h3 h4=>⟨_,by omega,_,as3,ps3,xs'.set i y,rfl,t3.trans h1,h1 _ _ hla3,px3.same h1,h1 _ _ hpa3,R3,un3,up3,rfl,.inr ⟨tq,j,y2,s4,rfl,h2,h3,h4⟩⟩⟩
theorem KeptOk.congr {ds:List Wd} {xs xs':List (Int × Int)} {k:Nat} (h:KeptOk ds xs k) (e0:xAt xs' k=xAt xs k) (e1:xAt xs' (k+1)=xAt xs (k+1)) : KeptOk ds xs' k:=fun y e=>by
 unfold toldKept at e
 rw [e1] at e
 rw [e0]
 exact h y e
def sp_raise_from (K:PySem.W.Frag) : Sp:=fun vs H Q _=>∃ (H0:Hp) (ba za la pa:Addr) (st:Nat) (F:Frm) (ds:List Wd) (x0 xs zs:List (Int × Int)) (as:List Addr) (ps:List V),vs=[.ref ba,.ref za,.ref la,.ref pa,.int (st:Int)]∧BkAt K H0 ba F.w F.h F.f F.m ds∧Same H0 H∧H0 la=none∧H0 pa=none∧la≠pa∧H la=some (.lst (as.map V.ref))∧PlsA K H as xs∧H pa=some (.lst ps)∧LwAt K H0 za zs∧RunOk F ds x0 zs xs ps.length∧(∀ k,k < ds.length→(xAt xs k).1 < F.m)∧st≤ds.length∧(∀ k,k < st→NoR F ds xs zs k)∧(∀ k,k+1 < st→KeptOk ds xs k)∧(∀ H' as' ps' xs',Same H0 H'→H' la=some (.lst (as'.map V.ref))→PlsA K H' as' xs'→H' pa=some (.lst ps')→RunOk F ds x0 zs xs' ps'.length→(∃ k,k < ds.length∧F.m≤(xAt xs' k).1)→Q (.bl false) H')∧∀ H' as' ps' xs',Same H0 H'→H' la=some (.lst (as'.map V.ref))→PlsA K H' as' xs'→H' pa=some (.lst ps')→RunOk F ds x0 zs xs' ps'.length→(∀ k,k < ds.length→(xAt xs' k).1 < F.m)→(xs' = xs∨(xs.map (rank F.h)).sum+1≤(xs'.map (rank F.h)).sum)→(∀ k,k < ds.length→NoR F ds xs' zs k)→(∀ k,k+1 < ds.length→KeptOk ds xs' k)→Q (.bl true) H'
theorem sc_raise_from:FnScope ["book","sizes","bounds","paper","start","i"] ["book","sizes","bounds","paper","start"] (defScope s_raise_from):=⟨rfl,rfl,rfl,by decide +kernel,rfl,by decide +kernel,by decide +kernel⟩
theorem ok_raise_from (T:Txt P w K mg a) : FnOk P w K mg base CX0 10 a.f_raise_from a.fd_raise_from ["book","sizes","bounds","paper","start"] (sp_raise_from K):=by
 have g_raise_kept:=ok_raise_kept (P:=P) (w:=w) (base:=base) T
 have d_raise_kept:=T.d_raise_kept
 have g_raise_word:=ok_raise_word (P:=P) (w:=w) (base:=base) T
 have d_raise_word:=T.d_raise_word
 have g_stands_beyond:=ok_stands_beyond (P:=P) (w:=w) (base:=base) T
 have d_stands_beyond:=T.d_stands_beyond
 have z_len:=T.z_len
 refine T.d_raise_from.fn.ok sc_raise_from (fun vs H Q E h=>?_) (fun cdv A outer s H vs Q E hr h=>?_)
 ·obtain ⟨H0,ba,za,la,pa,st,F,ds,x0,xs,zs,as,ps,rfl,_⟩:=h
  rfl
 obtain ⟨H0,ba,za,la,pa,st,F,ds,x0,xs,zs,as,ps,rfl,hbk,s0,nla,npa,nlp,hla,pxs,hpa,hz,R,all,hst,nr,kp,qF,qT⟩:=h
 have hu:=Nat.lt_of_succ_lt (hu_of hr)
 refine ⟨_,(pss_cons (ps_set (i:=5) sc_raise_from.nd rfl (Or.inl rfl) (pv 4))
   (pss_cons (ps_while PassesOwn.never (pt_cmpR op_lt (pv 5) (pe_callB call_len_seq rfl z_len PySem.boot_len (pa_cons (pv 2) pa_nil)) (nomark _)) (pss_cons (ps_expr (pe_callD d_raise_word g_raise_word (hr.mono (by decide)) rfl (pa_cons (pv 0) (pa_cons (pv 1) (pa_cons (pv 2) (pa_cons (pv 3) (pa_cons (pv 5) pa_nil)))))))
   (pss_cons (ps_if (pt_val (pe_callD d_stands_beyond g_stands_beyond (hr.mono (by decide)) rfl (pa_cons (pv 0) (pa_cons (pe_ix ix_list (pv 2) (pv 5) (fun _ _=>rfl)) pa_nil))) (fun _=>rfl)) (pss_one (ps_ret pe_bl)) pss_nil)
   (pss_one (ps_set (i:=5) sc_raise_from.nd rfl (Or.inl rfl) (pe_callD d_raise_kept g_raise_kept (hr.mono (by decide)) rfl (pa_cons (pv 0) (pa_cons (pv 2) (pa_cons (pv 3) (pa_cons (pv 5) pa_nil))))))))))
   (pss_one (ps_ret pe_bl)))),?_⟩
 have n60:=R.B.n
 have zl:zs.length=ds.length:=by rw [R.lz.1,sizes_len]
 have hbk0:=hbk
 obtain ⟨fa,wa,was,hb,hf,hw,hws⟩:=hbk
 refine ⟨_,rfl,?_⟩
 dsimp only [gName]
 refine cut_seq (fun σ H2=>∃ n,(∃ (i:Nat) (as':List Addr) (ps':List V) (xs':List (Int × Int)),σ=[some (.ref ba),some (.ref za),some (.ref la),some (.ref pa),some (.int (st:Int)),some (.int (i:Int))]∧n=(1512001 - (xs'.map (rank F.h)).sum).toNat * 1000+(ds.length - i)∧i≤ds.length∧Same H0 H2∧H2 la=some (.lst (as'.map V.ref))∧PlsA K H2 as' xs'∧H2 pa=some (.lst ps')∧RunOk F ds x0 zs xs' ps'.length∧(∀ k,k < ds.length→(xAt xs' k).1 < F.m)∧(xs' = xs∨(xs.map (rank F.h)).sum+1≤(xs'.map (rank F.h)).sum)∧(∀ k,k < i→NoR F ds xs' zs k)∧(∀ k,k+1 < i→KeptOk ds xs' k))∧∃ i:Nat,σ=[some (.ref ba),some (.ref za),some (.ref la),some (.ref pa),some (.int (st:Int)),some (.int (i:Int))]∧ds.length≤i) ?_ (fun key=>?_)
 ·rintro σ H2 ⟨n,⟨i,as',ps',xs',rfl,_,hi,t2,hla2,px2,hpa2,R2,all2,up,nr2,kp2⟩,i',ei,hi'⟩
  have:i=i':=by
   have:=congrArg (fun l=>l[5]?) ei
   simp at this
   omega
  subst this
  have ei:i=ds.length:=by omega
  subst ei
  exact qT H2 as' ps' xs' t2 hla2 px2 hpa2 R2 all2 up nr2 kp2
 refine ⟨fun n σ H2=>∃ (i:Nat) (as':List Addr) (ps':List V) (xs':List (Int × Int)),σ=[some (.ref ba),some (.ref za),some (.ref la),some (.ref pa),some (.int (st:Int)),some (.int (i:Int))]∧n=(1512001 - (xs'.map (rank F.h)).sum).toNat * 1000+(ds.length - i)∧i≤ds.length∧Same H0 H2∧H2 la=some (.lst (as'.map V.ref))∧PlsA K H2 as' xs'∧H2 pa=some (.lst ps')∧RunOk F ds x0 zs xs' ps'.length∧(∀ k,k < ds.length→(xAt xs' k).1 < F.m)∧(xs' = xs∨(xs.map (rank F.h)).sum+1≤(xs'.map (rank F.h)).sum)∧(∀ k,k < i→NoR F ds xs' zs k)∧(∀ k,k+1 < i→KeptOk ds xs' k),⟨_,st,as,ps,xs,rfl,rfl,hst,s0,hla,pxs,hpa,R,all,.inl rfl,nr,kp⟩,?_⟩
 rintro n σ H2 ⟨i,as',ps',xs',rfl,rfl,hi,t2,hla2,px2,hpa2,R2,all2,up,nr2,kp2⟩
 have el:(as'.map V.ref).length=ds.length:=by rw [List.length_map,px2.1,R2.B.len]
 refine ⟨_,rfl,_,rfl,_,_,rfl,.inl (SqL.of hla2),_,_,rfl,rfl,_,rfl,?_⟩
 rw [el]
 refine ite2 (fun c=>?_) (fun c=>?_)
 rotate_left
 ·have c:¬ (i:Int) < (ds.length:Int):=fun z=>c (decide_eq_true z)
  exact key _ _ ⟨_,⟨i,as',ps',xs',rfl,rfl,hi,t2,hla2,px2,hpa2,R2,all2,up,nr2,kp2⟩,i,rfl,by omega⟩
 have c:(i:Int) < (ds.length:Int):=of_decide_eq_true c
 have hid:i < ds.length:=by omega
 refine ⟨fun σ H3=>∃ n,n < (1512001 - (xs'.map (rank F.h)).sum).toNat * 1000+(ds.length - i)∧∃ (i3:Nat) (as3:List Addr) (ps3:List V) (xs3:List (Int × Int)),σ=[some (.ref ba),some (.ref za),some (.ref la),some (.ref pa),some (.int (st:Int)),some (.int (i3:Int))]∧n=(1512001 - (xs3.map (rank F.h)).sum).toNat * 1000+(ds.length - i3)∧i3≤ds.length∧Same H0 H3∧H3 la=some (.lst (as3.map V.ref))∧PlsA K H3 as3 xs3∧H3 pa=some (.lst ps3)∧RunOk F ds x0 zs xs3 ps3.length∧(∀ k,k < ds.length→(xAt xs3 k).1 < F.m)∧(xs3=xs∨(xs.map (rank F.h)).sum+1≤(xs3.map (rank F.h)).sum)∧(∀ k,k < i3→NoR F ds xs3 zs k)∧(∀ k,k+1 < i3→KeptOk ds xs3 k),fun _ _ h=>h,?_⟩
 refine ⟨_,rfl,_,rfl,_,rfl,_,rfl,_,rfl,H0,ba,za,la,pa,i,F,ds,x0,xs',zs,as',ps',rfl,hbk0,t2,nla,npa,nlp,hla2,px2,hpa2,hz,R2,all2,hid,fun H3 as3 ps3 xs3 t3 hla3 px3 hpa3 R3 un3 up3 hn3=>?_⟩
 have hil3:i < xs3.length:=by rw [← R3.B.len]; exact hid
 obtain ⟨xo,ex,hx⟩:=px3.get hil3
 refine ⟨_,rfl,_,rfl,_,rfl,_,_,_,_,rfl,rfl,SqL.of hla3,ex,ba,xo,fa,wa,F.w,F.h,F.f,F.m,xAt xs3 i,rfl,t3.tup hb,t3.tup hf,hx,_,rfl,?_⟩
 have upS:(xs'.map (rank F.h)).sum≤(xs3.map (rank F.h)).sum:=by
  rcases up3 with e | e
  ·rw [e]; exact Int.le_refl _
  ·omega
 have up13:xs3=xs∨(xs.map (rank F.h)).sum+1≤(xs3.map (rank F.h)).sum:=by
  rcases up3 with e | e
  ·rw [e]; exact up
  ·rcases up with e2 | e2
   ·rw [e2] at e; exact .inr e
   ·exact .inr (by omega)
 refine ite2 (fun c=>qF H3 as3 ps3 xs3 t3 hla3 px3 hpa3 R3 ⟨i,hid,of_decide_eq_true c⟩) (fun c=>?_)
 have c3:(xAt xs3 i).1 < F.m:=by
  have:¬ F.m≤(xAt xs3 i).1:=fun z=>c (decide_eq_true z)
  omega
 dsimp only [tNext]
 have all3:∀ k,k < ds.length→(xAt xs3 k).1 < F.m:=fun k hk=>by
  by_cases c:k=i
  ·rw [c]; exact c3
  ·rw [un3 k c]; exact all2 k hk
 have nr3:∀ k,k < i→NoR F ds xs3 zs k:=fun k hk=>(nr2 k hk).congr (fun n hn=>un3 n (by omega)) (fun _ _=>rfl) rfl (by omega)
 have nri:NoR F ds xs3 zs i:=by
  rcases hn3 with h | h
  ·omega
  ·exact h
 have kp3:∀ k,k+1 < i→KeptOk ds xs3 k:=fun k hk=>(kp2 k hk).congr (un3 k (by omega)) (un3 (k+1) (by omega))
 have sl3:=R3.sum_le
 refine ⟨_,rfl,_,rfl,_,rfl,_,rfl,H0,ba,la,pa,i,F,ds,x0,xs3,zs,as3,ps3,rfl,hbk0,t3,nla,npa,nlp,hla3,px3,hpa3,R3,all3,hid,fun H4 as4 ps4 t4 hla4 px4 hpa4 R4 hk4=>?_,fun f H4 as4 ps4 xs4 fi t4 hla4 px4 hpa4 R4 all4 un4 up4=>?_⟩
 ·refine ⟨_,?_,i+1,as4,ps4,xs3,rfl,rfl,hid,t4,hla4,px4,hpa4,R4,all3,up13,fun k hk=>?_,fun k hk=>?_⟩
  ·omega
  ·by_cases c:k=i
   ·rw [c]; exact nri
   ·exact nr3 k (by omega)
  ·by_cases c:k+1=i
   ·have:=hk4 (by omega)
    rw [show i - 1=k by omega] at this
    exact this
   ·exact kp3 k (by omega)
 ·have sl4:=R4.sum_le
  refine ⟨_,?_,f,as4,ps4,xs4,rfl,rfl,by omega,t4,hla4,px4,hpa4,R4,all4,?_,fun k hk=>(nr3 k (by omega)).congr (fun n hn=>un4 n (by omega)) (fun _ _=>rfl) rfl (by omega),fun k hk=>(kp3 k (by omega)).congr (un4 k (by omega)) (un4 (k+1) hk)⟩
  ·omega
  ·rcases up13 with e | e
   ·rw [e] at up4; exact .inr up4
   ·exact .inr (by omega)
def sp_sizes_under (K:PySem.W.Frag) : Sp:=fun vs H Q _=>∃ (ba la:Addr) (F:Frm) (ds:List Wd) (xs:List (Int × Int)),vs=[.ref ba,.ref la]∧BkAt K H ba F.w F.h F.f F.m ds∧LwAt K H la xs∧BkOk F ds xs∧∀ q as H',Same H H'→H q=none→H' q=some (.lst (as.map V.ref))→PlsA K H' as (sizesL F ds xs)→Q (.ref q) H'
theorem sc_sizes_under:FnScope ["book","bounds","last"] ["book","bounds"] (defScope s_sizes_under):=⟨rfl,rfl,rfl,by decide +kernel,rfl,by decide +kernel,by decide +kernel⟩
theorem ok_sizes_under (T:Txt P w K mg a) : FnOk P w K mg base CX0 6 a.f_sizes_under a.fd_sizes_under ["book","bounds"] (sp_sizes_under K):=by
 have g_highs_of:=ok_highs_of (P:=P) (w:=w) (base:=base) T
 have d_highs_of:=T.d_highs_of
 have g_wides_of:=ok_wides_of (P:=P) (w:=w) (base:=base) T
 have d_wides_of:=T.d_wides_of
 have z_len:=T.z_len
 have z_list:=T.z_list
 have z_zip:=T.z_zip
 refine T.d_sizes_under.fn.ok sc_sizes_under (fun vs H Q E h=>?_) (fun cdv A outer s H vs Q E hr h=>?_)
 ·obtain ⟨ba,la,F,ds,xs,rfl,_⟩:=h
  rfl
 obtain ⟨ba,la,F,ds,xs,rfl,hbk,hlw,B,q⟩:=h
 have hu:=Nat.lt_of_succ_lt (hu_of hr)
 refine ⟨_,(pss_cons (ps_set (i:=2) sc_sizes_under.nd rfl (Or.inl rfl) (pe_op op_sub (pe_callB call_len_seq rfl z_len PySem.boot_len (pa_cons (pv 1) pa_nil)) pe_int))
   (pss_one (ps_ret (pe_lz rfl rfl z_list rfl z_zip (pe_callD d_wides_of g_wides_of (hr.mono (by decide)) rfl (pa_cons (pv 0) (pa_cons (pv 1) (pa_cons pe_int (pa_cons (pv 2) pa_nil))))) (pe_callD d_highs_of g_highs_of (hr.mono (by decide)) rfl (pa_cons (pv 0) (pa_cons (pv 1) (pa_cons pe_int (pa_cons (pv 2) pa_nil))))))))),?_⟩
 have hlw0:=hlw
 obtain ⟨las,hla,hls⟩:=hlw
 have ell:(las.map V.ref).length=ds.length:=by rw [List.length_map,hls.1,B.len]
 refine ⟨_,rfl,_,_,rfl,.inl hla,_,_,rfl,rfl,?_⟩
 rw [ell]
 dsimp only [gName]
 refine ⟨_,rfl,_,rfl,_,rfl,ba,la,(0:Nat),ds.length,_,F,ds,xs,rfl,(by omega),hbk,hlw0,B,Nat.le_refl _,Nat.zero_le _,fun wa H1 s1 n1 h1=>?_⟩
 refine ⟨_,rfl,_,rfl,_,rfl,ba,la,(0:Nat),ds.length,_,F,ds,xs,rfl,(by omega),hbk.same s1,hlw0.same s1,B,Nat.le_refl _,Nat.zero_le _,fun ha H2 s2 n2 h2=>?_⟩
 rw [segP_all] at h1 h2
 refine ⟨wa,ha,_,_,rfl,rfl,SqL.of (s2 _ _ h1),SqL.of h2,by simp,fun p as H3 s3 np hp al it=>?_⟩
 have al:as.length=ds.length:=by rw [al]; simp
 refine q p as H3 (s1.trans (s2.trans s3)) ((s1.trans s2).free np) hp ⟨by unfold sizesL; rw [al,List.length_map],fun i a x ea ex=>?_⟩
 have hi:i < ds.length:=by rw [← al]; exact (List.getElem?_eq_some_iff.mp ea).1
 have e1:((ds.map (wideW F xs)).map V.int)[i]? = some (V.int (wideW F xs ds[i])):=by rw [List.getElem?_map,List.getElem?_map,List.getElem?_eq_getElem hi]; rfl
 have e2:((ds.map (highW F xs)).map V.int)[i]? = some (V.int (highW F xs ds[i])):=by rw [List.getElem?_map,List.getElem?_map,List.getElem?_eq_getElem hi]; rfl
 have:=it i a _ _ ea e1 e2
 have ex':x=(wideW F xs ds[i],highW F xs ds[i]):=by
  rw [sizesL,List.getElem?_map,List.getElem?_eq_getElem hi] at ex
  exact (Option.some.inj ex).symm
 rw [ex']
 exact SqT.of this
def er (H:Hp) (la pa:Addr) : Hp:=fun b=>if b=la∨b=pa then none else H b
theorem er_same (H:Hp) (la pa:Addr) : Same (er H la pa) H:=fun b o h=>by
 unfold er at h
 split at h
 ·cases h
 ·exact h
theorem er_at {H:Hp} {la pa b:Addr} (n1:b≠la) (n2:b≠pa) : er H la pa b=H b:=by
 unfold er
 rw [if_neg (by intro z; rcases z with z | z; exact n1 z; exact n2 z)]
theorem er_keep {H H2:Hp} {la pa:Addr} (s:Same H H2) (n1:H la=none) (n2:H pa=none) : Same H (er H2 la pa):=fun b o h=>by
 rw [er_at (ne_of_none h n1) (ne_of_none h n2)]
 exact s b o h
theorem er_tup {K:PySem.W.Frag} {H:Hp} {la pa a:Addr} {xs ys zs:List V} (h1:H la=some (.lst ys)) (h2:H pa=some (.lst zs)) (h:SqT K H a xs) : SqT K (er H la pa) a xs:=by
 have ne:∀ o,H a=some o→(∀ l,o≠.lst l)→er H la pa a=some o:=fun o e n=>by
  rw [er_at (fun z=>by rw [z,h1] at e; cases e; exact n _ rfl) (fun z=>by rw [z,h2] at e; cases e; exact n _ rfl)]
  exact e
 rcases h with (h | ⟨o,h⟩) | h
 ·exact .inl (.inl (ne _ h (fun l z=>by cases z)))
 ·exact .inl (.inr ⟨o,ne _ h (fun l z=>by cases z)⟩)
 ·exact .inr h
theorem er_pls {K:PySem.W.Frag} {H:Hp} {la pa:Addr} {ys zs:List V} {as:List Addr} {xs:List (Int × Int)} (h1:H la=some (.lst ys)) (h2:H pa=some (.lst zs)) (h:PlsA K H as xs) : PlsA K (er H la pa) as xs:=⟨h.1,fun i a x e e'=>er_tup h1 h2 (h.2 i a x e e')⟩
theorem LeZ.refl (a:List (Int × Int)) : LeZ a a:=⟨rfl,fun k _=>⟨Int.le_refl _,Int.le_refl _⟩⟩
theorem any_page {m:Int} {xs:List (Int × Int)} (h:(xs.map fun x=>decide (m≤x.1)).any id=true) : ∃ k,k < xs.length∧m≤(xAt xs k).1:=by
 rw [List.any_map,List.any_eq_true] at h
 obtain ⟨x,hx,e⟩:=h
 obtain ⟨k,hk,rfl⟩:=List.mem_iff_getElem.mp hx
 refine ⟨k,hk,?_⟩
 have ex:xAt xs k=xs[k]:=by
  show xs.getD k (0,0)=_
  rw [List.getD_eq_getElem?_getD,List.getElem?_eq_getElem hk]
  rfl
 rw [ex]
 exact of_decide_eq_true e
theorem none_page {m:Int} {xs:List (Int × Int)} (h:¬ (xs.map fun x=>decide (m≤x.1)).any id=true) : ∀ k,k < xs.length→(xAt xs k).1 < m:=fun k hk=>by
 have:¬ m≤(xAt xs k).1:=fun z=>h (by
  rw [List.any_map,List.any_eq_true]
  exact ⟨xAt xs k,xAt_mem hk,decide_eq_true z⟩)
 omega
theorem sum_nonneg {h:Int} {xs:List (Int × Int)} (o:PlsOk h xs) (h0:0≤h) : 0≤(xs.map (rank h)).sum:=by
 induction xs with
 | nil=>exact Int.le_refl _
 | cons x r ih =>
  have i1:=ih fun y hy=>o y (List.mem_cons_of_mem _ hy)
  have rx:=(o x List.mem_cons_self).1
  have a:=Int.mul_nonneg rx.p1 h0
  have b:=rx.r1
  rw [List.map_cons,List.sum_cons]
  unfold rank
  unfold rank at i1
  omega
def sp_settle (K:PySem.W.Frag) : Sp:=fun vs H Q _=>∃ (ba:Addr) (v0:V) (F:Frm) (ds:List Wd) (x0:List (Int × Int)),vs=[.ref ba,v0]∧BkAt K H ba F.w F.h F.f F.m ds∧BkOk F ds x0∧((v0 = .non∧x0=List.replicate ds.length (0,0))∨∃ lo,v0 = .ref lo∧LwAt K H lo x0)∧∀ q pp u ps H',Same H H'→SqT K H' q [u,.ref pp]→H' pp=some (.lst ps)→((u = .non∧∃ (xs:List (Int × Int)) (k:Nat),BkOk F ds xs∧LowF F ds x0 xs∧k < ds.length∧F.m≤(xAt xs k).1)∨∃ (la:Addr) (as:List Addr) (xs:List (Int × Int)),u = .ref la∧H' la=some (.lst (as.map V.ref))∧PlsA K H' as xs∧BkOk F ds xs∧Fixd F ds xs∧Pages F.m xs∧LowF F ds x0 xs∧PlsLe x0 xs∧H la=none)→Q (.ref q) H'
theorem sc_settle:FnScope ["book","low","bounds","paper","sizes","start","newer"] ["book","low"] (defScope s_settle):=⟨rfl,rfl,rfl,by decide +kernel,rfl,by decide +kernel,by decide +kernel⟩
theorem ok_settle (T:Txt P w K mg a) : FnOk P w K mg base CX0 11 a.f_settle a.fd_settle ["book","low"] (sp_settle K):=by
 have g_first_bounds:=ok_first_bounds (P:=P) (w:=w) (base:=base) T
 have d_first_bounds:=T.d_first_bounds
 have g_first_unlike:=ok_first_unlike (P:=P) (w:=w) (base:=base) T
 have d_first_unlike:=T.d_first_unlike
 have g_raise_from:=ok_raise_from (P:=P) (w:=w) (base:=base) T
 have d_raise_from:=T.d_raise_from
 have g_sizes_under:=ok_sizes_under (P:=P) (w:=w) (base:=base) T
 have d_sizes_under:=T.d_sizes_under
 have g_stands_beyond:=ok_stands_beyond (P:=P) (w:=w) (base:=base) T
 have d_stands_beyond:=T.d_stands_beyond
 have z_any:=T.z_any
 have z_len:=T.z_len
 have z_list:=T.z_list
 refine T.d_settle.fn.ok sc_settle (fun vs H Q E h=>?_) (fun cdv A outer s H vs Q E hr h=>?_)
 ·obtain ⟨ba,v0,F,ds,x0,rfl,_⟩:=h
  rfl
 obtain ⟨ba,v0,F,ds,x0,rfl,hbk,B0,hv,q⟩:=h
 have hu:=Nat.lt_of_succ_lt (hu_of hr)
 refine ⟨_,(pss_cons (ps_set (i:=2) sc_settle.nd rfl (Or.inl rfl) (pe_callD d_first_bounds g_first_bounds (hr.mono (by decide)) rfl (pa_cons (pv 0) pa_nil)))
   (pss_cons (ps_if (pt_cmpR op_notN (pv 1) pe_non (nomark _)) (pss_one (ps_set (i:=2) sc_settle.nd rfl (Or.inl rfl) (pe_callTy call_list_of rfl z_list PyProof.Rows.boot_list (pa_cons (pv 1) pa_nil)))) pss_nil)
   (pss_cons (ps_set (i:=3) sc_settle.nd rfl (Or.inl rfl) (pe_lst pa_nil))
   (pss_cons (ps_if (pt_val (pe_callB (call_any rfl) rfl z_any PyProof.Rows.boot_any (pa_cons (pe_lc rfl (lcok (caps:=["book"]) (js:=[0]) (cap:=⟨⟨rfl,.inl rfl,rfl,.inl rfl⟩,trivial⟩)) (pi_list (pv 2)) (fun _ _ _ _=>pts_nil) (fun _ _ _ _=>(pe_callD d_stands_beyond g_stands_beyond (hr.mono (by decide)) rfl (pa_cons (pv 1) (pa_cons (pv 0) pa_nil))))) pa_nil)) (fun _=>rfl)) (pss_one (ps_ret (pe_tup (pa_cons pe_non (pa_cons (pv 3) pa_nil))))) pss_nil)
   (pss_cons (ps_set (i:=4) sc_settle.nd rfl (Or.inl rfl) (pe_callD d_sizes_under g_sizes_under (hr.mono (by decide)) rfl (pa_cons (pv 0) (pa_cons (pv 2) pa_nil))))
   (pss_cons (ps_set (i:=5) sc_settle.nd rfl (Or.inl rfl) pe_int)
   (pss_cons (ps_while PassesOwn.never (pt_cmpR op_lt (pv 5) (pe_callB call_len_seq rfl z_len PySem.boot_len (pa_cons (pv 2) pa_nil)) (nomark _)) (pss_cons (ps_if (pt_not (pt_val (pe_callD d_raise_from g_raise_from (hr.mono (by decide)) rfl (pa_cons (pv 0) (pa_cons (pv 4) (pa_cons (pv 2) (pa_cons (pv 3) (pa_cons (pv 5) pa_nil)))))) (fun _=>rfl))) (pss_one (ps_ret (pe_tup (pa_cons pe_non (pa_cons (pv 3) pa_nil))))) pss_nil)
   (pss_cons (ps_set (i:=6) sc_settle.nd rfl (Or.inl rfl) (pe_callD d_sizes_under g_sizes_under (hr.mono (by decide)) rfl (pa_cons (pv 0) (pa_cons (pv 2) pa_nil))))
   (pss_cons (ps_set (i:=5) sc_settle.nd rfl (Or.inl rfl) (pe_callD d_first_unlike g_first_unlike (hr.mono (by decide)) rfl (pa_cons (pv 4) (pa_cons (pv 6) pa_nil))))
   (pss_one (ps_set (i:=4) sc_settle.nd rfl (Or.inl rfl) (pv 6)))))))
   (pss_one (ps_ret (pe_tup (pa_cons (pv 2) (pa_cons (pv 3) pa_nil)))))))))))),?_⟩
 have n60:=B0.n
 have h1':=B0.fo.h1
 have hbk0:=hbk
 obtain ⟨fa,wa,was,hb,hf,hw,hws⟩:=hbk
 refine ⟨_,rfl,ba,_,_,_,_,ds,rfl,hbk0,by omega,fun q1 as1 H1 s1 n1 e1 pa1=>?_⟩
 dsimp only [gName]
 refine cut_seq (fun σ' H'=>Same H H'∧∃ (la:Addr) (as:List Addr),σ' = [some (.ref ba),some v0,some (.ref la),none,none,none,none]∧H la=none∧H' la=some (.lst (as.map V.ref))∧PlsA K H' as x0) ?_ (fun key=>?_)
 rotate_left
 ·refine ⟨_,rfl,rfl,_,rfl,?_⟩
  rcases hv with ⟨rfl,rfl⟩ | ⟨lo,rfl,los,hlo,hlos⟩
  ·refine iteF ?_
   exact key _ _ ⟨s1,q1,as1,rfl,n1,e1,pa1⟩
  ·refine iteT ?_
   refine ⟨_,rfl,_,_,rfl,.inl (s1.seq hlo),fun p hp=>?_⟩
   have s2:=same_new hp (.lst (los.map V.ref))
   exact key _ _ ⟨s1.trans s2,p,los,rfl,s1.free hp,upd_same,hlos.same (s1.trans s2)⟩
 clear e1 pa1 s1 n1
 rintro σ' H1 ⟨s1,la,as,rfl,nla,hla,pxs⟩
 refine ⟨Nat.zero_le _,fun pa hpa=>?_⟩
 have s2:=same_new hpa (.lst [])
 have npa:H pa=none:=s1.free hpa
 have nlp:la≠pa:=ne_of_none hla hpa
 have t2:=s1.trans s2
 have hla2:=s2 _ _ hla
 have px2:=pxs.same s2
 have hpa2:(upd H1 pa (.lst [])) pa=some (.lst []):=upd_same
 generalize upd H1 pa (.lst [])=H2 at s2 t2 hla2 px2 hpa2 ⊢
 dsimp only [gName]
 refine ⟨_,rfl,_,rfl,⟨_,SqL.of hla2⟩,lc_list (K:=K) (a:=la) (xs:=as.map V.ref) (fun i ys H3=>H3=H2∧ys=((x0.take i).map fun x=>decide (F.m≤x.1)).map V.bl) ⟨rfl,rfl⟩ (fun i ys H3 _ h3=>by rw [h3.1]; exact SqL.of hla2) ?_ ?_ ?_⟩
 ·rintro i ys H3 hi ⟨_,rfl⟩
  rw [List.length_map,List.length_map,List.length_take]
  have:=B0.len
  exact Nat.lt_of_lt_of_le (show _ < 1000 by omega) (small (Nat.le_refl _))
 ·rintro i y ys H3 hi ⟨rfl,rfl⟩
  rw [List.getElem?_map] at hi
  cases ea:as[i]? with
  | none=>rw [ea] at hi; cases hi
  | some a =>
   rw [ea] at hi
   cases hi
   have hil:i < x0.length:=by rw [← px2.1]; exact (List.getElem?_eq_some_iff.mp ea).1
   have exi:x0[i]? = some x0[i]:=List.getElem?_eq_getElem hil
   refine yes_go ?_
   refine ⟨_,rfl,_,rfl,ba,a,fa,wa,F.w,F.h,F.f,F.m,x0[i],rfl,t2.tup hb,t2.tup hf,px2.2 i a x0[i] ea exi,rfl,?_⟩
   rw [take_snoc exi,List.map_append,List.map_append]
   rfl
 rintro ys H3 ⟨rfl,rfl⟩ pb hpb
 rw [List.length_map,px2.1,List.take_length] at *
 have s4:=same_new hpb (.lst ((x0.map fun x=>decide (F.m≤x.1)).map V.bl))
 refine ⟨_,_,rfl,SqL.of upd_same,_,rfl,?_⟩
 have t4:=t2.trans s4
 have hla4:=s4 _ _ hla2
 have hpa4:=s4 _ _ hpa2
 have px4:=px2.same s4
 generalize upd H3 pb (.lst ((x0.map fun x=>decide (F.m≤x.1)).map V.bl))=H4 at s4 t4 hla4 hpa4 px4 ⊢
 refine ite2 (fun c=>?_) (fun c=>?_)
 ·obtain ⟨k,hk,hm⟩:=any_page c
  refine ⟨_,rfl,le2,fun p hp=>?_⟩
  have s5:=same_new hp (.tup [V.non,V.ref pa])
  exact q p pa .non [] _ (t4.trans s5) (SqT.of upd_same) (s5 _ _ hpa4) (.inl ⟨rfl,x0,k,B0,fun X _ _ h=>h,by rw [B0.len]; exact hk,hm⟩)
 have all0:∀ k,k < ds.length→(xAt x0 k).1 < F.m:=fun k hk=>none_page c k (by rw [← B0.len]; exact hk)
 dsimp only [tNext]
 have m1:=B0.fo.m1
 have mk:∀ xs ps,BkOk F ds xs→LowF F ds x0 xs→PlsLe x0 xs→(∀ k,k < ds.length→(xAt xs k).1 < F.m)→(ps:List V).length≤((xs.map (rank F.h)).sum).toNat→0≤(xs.map (rank F.h)).sum→RunOk F ds x0 (sizesL F ds xs) xs ps.length:=fun xs ps B L l0 a p p0=>⟨B,L,l0,LeZ.refl _,fun k hk=>by have:=a k hk; omega,by omega⟩
 have sn:∀ xs,BkOk F ds xs→0≤(xs.map (rank F.h)).sum:=fun xs B=>sum_nonneg B.po (by omega)
 refine ⟨_,rfl,_,rfl,ba,la,F,ds,x0,rfl,hbk0.same t4,⟨as,SqL.of hla4,px4⟩,B0,fun za zas H5 s5 nz hz pz5=>?_⟩
 have t5:=t4.trans s5
 have hla5:=s5 _ _ hla4
 have hpa5:=s5 _ _ hpa4
 have nzl:za≠la:=fun z=>by rw [z,hla4] at nz; cases nz
 have nzp:za≠pa:=fun z=>by rw [z,hpa4] at nz; cases nz
 dsimp only [gName]
 refine cut_seq (fun σ' H'=>H' = H5∧σ' = [some (.ref ba),some v0,some (.ref la),some (.ref pa),some (.ref za),some (.int 0),none]) ?_ (fun key=>key _ _ ⟨rfl,rfl⟩)
 rintro σ' H' ⟨rfl,rfl⟩
 refine cut_seq (fun σ H2=>∃ n,(∃ (st:Nat) (za:Addr) (vn:Option V) (zas as':List Addr) (ps':List V) (xs':List (Int × Int)),σ=[some (.ref ba),some v0,some (.ref la),some (.ref pa),some (.ref za),some (.int (st:Int)),vn]∧n=(1512001 - (xs'.map (rank F.h)).sum).toNat * 2+(if st < ds.length then 1 else 0)∧Same H H2∧H2 la=some (.lst (as'.map V.ref))∧PlsA K H2 as' xs'∧H2 pa=some (.lst ps')∧H2 za=some (.lst (zas.map V.ref))∧za≠la∧za≠pa∧PlsA K H2 zas (sizesL F ds xs')∧RunOk F ds x0 (sizesL F ds xs') xs' ps'.length∧(∀ k,k < ds.length→(xAt xs' k).1 < F.m)∧st≤ds.length∧(∀ k,k < st→NoR F ds xs' (sizesL F ds xs') k)∧(∀ k,k+1 < st→KeptOk ds xs' k))∧∃ (st:Nat) (za:Addr) (vn:Option V),σ=[some (.ref ba),some v0,some (.ref la),some (.ref pa),some (.ref za),some (.int (st:Int)),vn]∧ds.length≤st) ?_ (fun key=>?_)
 ·rintro σ H2 ⟨n,⟨st,za,vn,zas,as',ps',xs',rfl,_,u2,gla,gpx,gpa,gza,g1,g2,gz,R,all,hst,nr,kp⟩,st',za',vn',es,hs⟩
  have:st=st':=by
   have:=congrArg (fun l=>l[5]?) es
   simp at this
   omega
  subst this
  have est:st=ds.length:=by omega
  subst est
  refine ⟨_,rfl,_,rfl,le2,fun p hp=>?_⟩
  have s6:=same_new hp (.tup [V.ref la,V.ref pa])
  have pgs:Pages F.m xs':=fun x hx=>by
   obtain ⟨k,hk,rfl⟩:=List.mem_iff_getElem.mp hx
   have:=all k (by rw [R.B.len]; exact hk)
   have ex:xAt xs' k=xs'[k]:=by
    show xs'.getD k (0,0)=_
    rw [List.getD_eq_getElem?_getD,List.getElem?_eq_getElem hk]
    rfl
   rw [ex] at this
   exact this
  refine q p pa (.ref la) ps' _ (u2.trans s6) (SqT.of upd_same) (s6 _ _ gpa) (.inr ⟨la,as',xs',rfl,s6 _ _ gla,gpx.same s6,R.B,fix_of R.B pgs nr (fun i y hi e=>?_),pgs,R.low,R.le0,nla⟩)
  by_cases c:i+1 < ds.length
  ·exact kp i c y e
  ·unfold toldKept at e
   rw [if_pos (by omega)] at e
   cases e
 refine ⟨fun n σ H2=>∃ (st:Nat) (za:Addr) (vn:Option V) (zas as':List Addr) (ps':List V) (xs':List (Int × Int)),σ=[some (.ref ba),some v0,some (.ref la),some (.ref pa),some (.ref za),some (.int (st:Int)),vn]∧n=(1512001 - (xs'.map (rank F.h)).sum).toNat * 2+(if st < ds.length then 1 else 0)∧Same H H2∧H2 la=some (.lst (as'.map V.ref))∧PlsA K H2 as' xs'∧H2 pa=some (.lst ps')∧H2 za=some (.lst (zas.map V.ref))∧za≠la∧za≠pa∧PlsA K H2 zas (sizesL F ds xs')∧RunOk F ds x0 (sizesL F ds xs') xs' ps'.length∧(∀ k,k < ds.length→(xAt xs' k).1 < F.m)∧st≤ds.length∧(∀ k,k < st→NoR F ds xs' (sizesL F ds xs') k)∧(∀ k,k+1 < st→KeptOk ds xs' k),⟨_,0,za,none,zas,as,[],x0,rfl,rfl,t5,hla5,px4.same s5,hpa5,hz,nzl,nzp,pz5,mk x0 [] B0 (fun X _ _ h=>h) (PlsLe.refl _) all0 (Nat.zero_le _) (sn x0 B0),all0,Nat.zero_le _,fun k hk=>absurd hk (Nat.not_lt_zero _),fun k hk=>absurd hk (Nat.not_lt_zero _)⟩,?_⟩
 clear hz nzl nzp pz5 nz
 rintro n σ H2 ⟨st,za,vn,zas,as',ps',xs',rfl,rfl,u2,gla,gpx,gpa,gza,g1,g2,gz,R,all,hst,nr,kp⟩
 have el:(as'.map V.ref).length=ds.length:=by rw [List.length_map,gpx.1,R.B.len]
 refine ⟨_,rfl,_,rfl,_,_,rfl,.inl (SqL.of gla),_,_,rfl,rfl,_,rfl,?_⟩
 rw [el]
 refine ite2 (fun c=>?_) (fun c=>?_)
 rotate_left
 ·have c:¬ (st:Int) < (ds.length:Int):=fun z=>c (decide_eq_true z)
  exact key _ _ ⟨_,⟨st,za,vn,zas,as',ps',xs',rfl,rfl,u2,gla,gpx,gpa,gza,g1,g2,gz,R,all,hst,nr,kp⟩,st,za,vn,rfl,by omega⟩
 have c:(st:Int) < (ds.length:Int):=of_decide_eq_true c
 have c':st < ds.length:=by omega
 rw [if_pos c']
 refine ⟨fun σ H3=>∃ n,n < (1512001 - (xs'.map (rank F.h)).sum).toNat * 2+1∧∃ (st3:Nat) (za:Addr) (vn:Option V) (zas as3:List Addr) (ps3:List V) (xs3:List (Int × Int)),σ=[some (.ref ba),some v0,some (.ref la),some (.ref pa),some (.ref za),some (.int (st3:Int)),vn]∧n=(1512001 - (xs3.map (rank F.h)).sum).toNat * 2+(if st3 < ds.length then 1 else 0)∧Same H H3∧H3 la=some (.lst (as3.map V.ref))∧PlsA K H3 as3 xs3∧H3 pa=some (.lst ps3)∧H3 za=some (.lst (zas.map V.ref))∧za≠la∧za≠pa∧PlsA K H3 zas (sizesL F ds xs3)∧RunOk F ds x0 (sizesL F ds xs3) xs3 ps3.length∧(∀ k,k < ds.length→(xAt xs3 k).1 < F.m)∧st3≤ds.length∧(∀ k,k < st3→NoR F ds xs3 (sizesL F ds xs3) k)∧(∀ k,k+1 < st3→KeptOk ds xs3 k),fun _ _ h=>h,?_⟩
 have sB:=er_same H2 la pa
 have hbE:BkAt K (er H2 la pa) ba F.w F.h F.f F.m ds:=hbk0.same (er_keep u2 nla npa)
 have hzE:LwAt K (er H2 la pa) za (sizesL F ds xs'):=⟨zas,SqL.of (by rw [er_at g1 g2]; exact gza),er_pls gla gpa gz⟩
 have eLa:er H2 la pa la=none:=by unfold er; rw [if_pos (.inl rfl)]
 have ePa:er H2 la pa pa=none:=by unfold er; rw [if_pos (.inr rfl)]
 have uE:∀ {H3:Hp},Same (er H2 la pa) H3→Same H H3:=fun h=>(er_keep u2 nla npa).trans h
 refine ⟨_,rfl,_,rfl,_,rfl,_,rfl,_,rfl,er H2 la pa,ba,za,la,pa,st,F,ds,x0,xs',sizesL F ds xs',as',ps',rfl,hbE,sB,eLa,ePa,nlp,gla,gpx,gpa,hzE,R,all,hst,nr,kp,fun H3 as3 ps3 xs3 t3 hla3 px3 hpa3 R3 hk=>?_,fun H3 as3 ps3 xs3 t3 hla3 px3 hpa3 R3 all3 up3 nr3 kp3=>?_⟩
 ·refine ⟨_,rfl,?_⟩
  refine iteT ?_
  refine ⟨_,rfl,le2,fun p hp=>?_⟩
  have s5:=same_new hp (.tup [V.non,V.ref pa])
  obtain ⟨k,hk,hm⟩:=hk
  exact q p pa .non ps3 _ ((uE t3).trans s5) (SqT.of upd_same) (s5 _ _ hpa3) (.inl ⟨rfl,xs3,k,R3.B,R3.low,hk,hm⟩)
 ·refine ⟨_,rfl,?_⟩
  refine iteF ?_
  dsimp only [tNext]
  refine ⟨_,rfl,_,rfl,ba,la,F,ds,xs3,rfl,hbE.same t3,⟨as3,SqL.of hla3,px3⟩,R3.B,fun ya yas H6 s6 ny hy py=>?_⟩
  refine ⟨_,rfl,_,rfl,za,ya,sizesL F ds xs',sizesL F ds xs3,rfl,(hzE.same t3).same s6,⟨yas,SqL.of hy,py⟩,by rw [sizes_len,sizes_len],by rw [sizes_len]; omega,fun k k1 k2 k3=>?_⟩
  rw [sizes_len] at k1 k3
  refine ⟨_,rfl,?_⟩
  dsimp only [gName]
  have R6:=mk xs3 ps3 R3.B R3.low R3.le0 all3 (by have:=R3.ps; omega) (sn xs3 R3.B)
  have sl:=R3.sum_le
  refine ⟨_,?_,k,ya,some (.ref ya),yas,as3,ps3,xs3,rfl,rfl,(uE t3).trans s6,s6 _ _ hla3,px3.same s6,s6 _ _ hpa3,hy,(fun z=>by rw [z,hla3] at ny; cases ny),(fun z=>by rw [z,hpa3] at ny; cases ny),py,R6,all3,k1,fun j hj=>(nr3 j (by omega)).congr (fun _ _=>rfl) (fun n hn=>(k2 n (by omega)).symm) (by rw [sizes_len,sizes_len]) (by rw [sizes_len]; omega),fun j hj=>kp3 j (by omega)⟩
  rcases up3 with e | e
  ·have:¬ k < ds.length:=fun z=>k3 z (by rw [e])
   rw [if_neg this,e]
   omega
  ·split <;> omega
theorem low_not {m:Int} {xs ys:List (Int × Int)} {k:Nat} (le:PlsLe ys xs) (pg:Pages m xs) (hk:k < ys.length) (h:m≤(xAt ys k).1) : False:=by
 have a:=le.2 k hk
 have hx:k < xs.length:=by rw [← le.1]; exact hk
 have b:(xAt xs k).1 < m:=pg _ (xAt_mem hx)
 have a':¬ ((xAt xs k).1 < (xAt ys k).1∨_):=not_sooner.mp a
 exact a' (.inl (Int.lt_of_lt_of_le b h))
theorem le_eq {xs ys:List (Int × Int)} (a:PlsLe xs ys) (b:PlsLe ys xs) : xs=ys:=places_eq a.1 fun k hk=>le_anti (a.2 k hk) (b.2 k (by rw [← a.1]; exact hk))
theorem no_false (n:Nat) : inV (.bl false) ((List.replicate n true).map V.bl)=false:=by
 induction n with
 | zero=>rfl
 | succ n ih =>
  rw [List.replicate_succ,List.map_cons]
  exact ih
theorem bls_flat (bs:List Bool) : (bs.map V.bl).all flatV=true:=by
 rw [List.all_eq_true]
 intro x hx
 obtain ⟨b,_,rfl⟩:=List.mem_map.mp hx
 rfl
theorem sc_law:FnScope ["script","old","count","xs","many","at","run","new","told","one","two","low","moved"] ["script"] (defScope s_law):=⟨rfl,rfl,rfl,by decide +kernel,rfl,by decide +kernel,by decide +kernel⟩
theorem ok_law (T:Txt P w K mg a) : FnOk P w K mg base CX0 12 a.f_law a.fd_law ["script"] (sp_law K):=by
 have g_l_cell_at:=ok_l_cell_at (P:=P) (w:=w) (base:=base) T
 have d_l_cell_at:=T.d_l_cell_at
 have g_l_elder:=ok_l_elder (P:=P) (w:=w) (base:=base) T
 have d_l_elder:=T.d_l_elder
 have g_l_laid:=ok_l_laid (P:=P) (w:=w) (base:=base) T
 have d_l_laid:=T.d_l_laid
 have g_l_place:=ok_l_place (P:=P) (w:=w) (base:=base) T
 have d_l_place:=T.d_l_place
 have g_l_put_in:=ok_l_put_in (P:=P) (w:=w) (base:=base) T
 have d_l_put_in:=T.d_l_put_in
 have g_l_stream:=ok_l_stream (P:=P) (w:=w) (base:=base) T
 have d_l_stream:=T.d_l_stream
 have g_l_word:=ok_l_word (P:=P) (w:=w) (base:=base) T
 have d_l_word:=T.d_l_word
 have g_carried:=ok_carried (P:=P) (w:=w) (base:=base) T
 have d_carried:=T.d_carried
 have g_growth:=ok_growth (P:=P) (w:=w) (base:=base) T
 have d_growth:=T.d_growth
 have g_settle:=ok_settle (P:=P) (w:=w) (base:=base) T
 have d_settle:=T.d_settle
 have z_len:=T.z_len
 have z_range:=T.z_range
 refine T.d_law.fn.ok sc_law (fun vs H Q E h=>?_) (fun cdv A outer s H vs Q E hr h=>?_)
 ·obtain ⟨a,ns,rfl,_⟩:=h
  rfl
 obtain ⟨sa,ns,rfl,hS,h63,q⟩:=h
 have hu:=Nat.lt_of_succ_lt (hu_of hr)
 refine ⟨_,(@pss_cons _ _ _ _ _ (ps_set (i:=1) sc_law.nd rfl (Or.inl rfl) (pe_callD d_l_elder g_l_elder (hr.mono (by decide)) rfl (pa_cons (pv 0) pa_nil)))
   (@pss_cons _ _ _ _ _ (ps_set (i:=2) sc_law.nd rfl (Or.inr rfl) (pe_callB call_len_seq rfl z_len PySem.boot_len (pa_cons (pe_ix ix_tup (pv 1) pe_int (fun _ _=>rfl)) pa_nil)))
   (@pss_cons _ _ _ _ _ (ps_set (i:=3) sc_law.nd rfl (Or.inr rfl) (pe_callD d_l_stream g_l_stream (hr.mono (by decide)) rfl (pa_cons (pe_callD d_l_cell_at g_l_cell_at (hr.mono (by decide)) rfl (pa_cons (pv 0) (pa_cons pe_int pa_nil))) (pa_cons pe_int pa_nil))))
   (@pss_cons _ _ _ _ _ (ps_set (i:=4) sc_law.nd rfl (Or.inr rfl) (pe_op op_mod (pe_ix ix_list (pv 3) pe_int (fun _ _=>rfl)) pe_int))
   (@pss_cons _ _ _ _ _ (ps_set (i:=5) sc_law.nd rfl (Or.inl rfl) (pe_op op_mod (pe_ix ix_list (pv 3) pe_int (fun _ _=>rfl)) (pe_op op_add (pv 2) pe_int)))
   (@pss_cons _ _ _ _ _ (ps_lc (k:=6) rfl (lcok (caps:=["count","xs","many"]) (js:=[2,3,4]) (cap:=⟨⟨rfl,.inl rfl,rfl,.inl rfl⟩,⟨⟨rfl,.inl rfl,rfl,.inl rfl⟩,⟨⟨rfl,.inl rfl,rfl,.inl rfl⟩,trivial⟩⟩⟩)) (pi_range1 rfl z_range (pa_cons (pv 4) pa_nil)) (fun _ _ _ _=>pts_nil) (fun _ _ _ _=>(pe_callD d_l_word g_l_word (hr.mono (by decide)) rfl (pa_cons (pe_op op_add (pe_op op_fdiv (pe_ix (r:=rIxL K) ix_list (pv 2) pe_int (fun _ _=>rfl)) (pe_op op_add (pv 0) pe_int)) (pv 0)) (pa_cons (pe_op op_add (pv 1) (pv 3)) pa_nil)))) sc_law.nd rfl rfl)
   (@pss_cons _ _ _ _ _ (ps_set (i:=7) sc_law.nd rfl (Or.inl rfl) (pe_callD d_l_put_in g_l_put_in (hr.mono (by decide)) rfl (pa_cons (pv 1) (pa_cons (pv 5) (pa_cons (pv 6) pa_nil)))))
   (@pss_cons _ _ _ _ _ (ps_set (i:=8) sc_law.nd rfl (Or.inl rfl) (pe_callD d_growth g_growth (hr.mono (by decide)) rfl (pa_cons (pv 1) (pa_cons (pv 7) pa_nil))))
   (@pss_cons _ _ _ _ _ (ps_if (PW.pt (pw_or (pt_not (pt_val (pe_callD d_l_place g_l_place (hr.mono (by decide)) rfl (pa_cons (pv 8) pa_nil)) (fun _=>rfl))) (pw_or (pt_cmpR op_ne (pe_ix ix_tup (pv 8) pe_int (fun _ _=>rfl)) (pv 4) (nomark _)) (pw_or (pt_cmpR op_lt (pe_ix ix_tup (pv 8) pe_int (fun _ _=>rfl)) pe_int (nomark _)) (pw_or1 (pt_cmpR op_gt (pe_ix ix_tup (pv 8) pe_int (fun _ _=>rfl)) (pv 5) (nomark _))))))) (pss_one (ps_ret pe_bl)) pss_nil)
   (@pss_cons _ _ _ _ _ (ps_set (i:=9) sc_law.nd rfl (Or.inr rfl) (pe_ix ix_tup (pe_callV1 (dx:=.non) d_settle rfl g_settle (hr.mono (by decide)) rfl (pa_cons (pv 1) pa_nil)) pe_int (fun _ _=>rfl)))
   (@pss_cons _ _ _ _ _ (ps_set (i:=10) sc_law.nd rfl (Or.inl rfl) (pe_ix ix_tup (pe_callV1 (dx:=.non) d_settle rfl g_settle (hr.mono (by decide)) rfl (pa_cons (pv 7) pa_nil)) pe_int (fun _ _=>rfl)))
   (@pss_cons _ _ _ _ _ (ps_if (PW.pt (pw_and (pt_cmpR op_notN (pv 10) pe_non (nomark _)) (pw_and1 (pt_not (pt_val (pe_callD d_l_laid g_l_laid (hr.mono (by decide)) rfl (pa_cons (pv 10) (pa_cons (pe_op op_add (pv 2) (pv 4)) pa_nil))) (fun _=>rfl)))))) (pss_one (ps_ret pe_bl)) pss_nil)
   (@pss_cons _ _ _ _ _ (ps_if (pt_cmpR op_isN (pv 9) pe_non (nomark _)) (pss_one (ps_ret (pe_cmpR op_isN (pv 10) pe_non (nomark _)))) pss_nil)
   (@pss_cons _ _ _ _ _ (ps_if (pt_not (pt_val (pe_callD d_l_laid g_l_laid (hr.mono (by decide)) rfl (pa_cons (pv 9) (pa_cons (pv 2) pa_nil))) (fun _=>rfl))) (pss_one (ps_ret pe_bl)) pss_nil)
   (@pss_cons _ _ _ _ _ (ps_set (i:=11) sc_law.nd rfl (Or.inl rfl) (pe_callD d_carried g_carried (hr.mono (by decide)) rfl (pa_cons (pv 1) (pa_cons (pv 7) (pa_cons (pv 9) pa_nil)))))
   (@pss_cons _ _ _ _ _ (ps_if (pt_not (pt_val (pe_callD d_l_laid g_l_laid (hr.mono (by decide)) rfl (pa_cons (pv 11) (pa_cons (pe_op op_add (pv 2) (pv 4)) pa_nil))) (fun _=>rfl))) (pss_one (ps_ret pe_bl)) pss_nil)
   (@pss_cons _ _ _ _ _ (ps_if (pt_cmpR (op_orE op_ne (op_neQ (hu100 hr))) (pe_ix ix_tup (pe_callV d_settle g_settle (hr.mono (by decide)) rfl (pa_cons (pv 7) (pa_cons (pv 11) pa_nil))) pe_int (fun _ _=>rfl)) (pv 10) (nomark _)) (pss_one (ps_ret pe_bl)) pss_nil)
   (@pss_cons _ _ _ _ _ (ps_if (pt_cmpR op_isN (pv 10) pe_non (nomark _)) (pss_one (ps_ret pe_bl)) pss_nil)
   (@pss_cons _ _ _ _ _ (ps_set (i:=12) sc_law.nd rfl (Or.inr rfl) (pe_op op_cat (pe_slice sl_list (pv 10) po_none (po_some (pe_ix ix_tup (pv 8) pe_int (fun _ _=>rfl)))) (pe_slice sl_list (pv 10) (po_some (pe_op op_add (pe_ix ix_tup (pv 8) pe_int (fun _ _=>rfl)) (pv 4))) po_none)))
   (pss_one (ps_ret (pe_cmpR op_notIn_seq pe_bl (pe_lc rfl (lcok (caps:=["one","moved"]) (js:=[9,12]) (cap:=⟨⟨rfl,.inl rfl,rfl,.inl rfl⟩,⟨⟨rfl,.inl rfl,rfl,.inl rfl⟩,trivial⟩⟩)) (pi_range1 rfl z_range (pa_cons (pv 2) pa_nil)) (fun _ _ _ _=>pts_nil) (fun _ _ _ _=>(pe_cmpR (r:=rLtET K) (op_leT hu) (pe_ix (r:=rIxL K) ix_list (pv 1) (pv 0) (fun _ _=>rfl)) (pe_ix (r:=rIxL K) ix_list (pv 2) (pv 0) (fun _ _=>rfl)) (nomark _)))) (by with_unfolding_all rfl))))))))))))))))))))))),?_⟩
 refine ⟨_,rfl,sa,ns,rfl,hS,fun ob H1 w h f m ds s1 hbk fo d10 dn wd f20=>?_⟩
 dsimp only [gName]
 have hbk0:=hbk
 obtain ⟨fa,wa,was,hb,hf,hw,hws⟩:=hbk
 have el:(was.map V.ref).length=ds.length:=by rw [List.length_map,hws.1]
 refine ⟨_,rfl,_,_,_,_,rfl,rfl,hb,rfl,_,_,rfl,.inl hw,?_⟩
 rw [el]
 dsimp only [gName]
 refine ⟨_,rfl,_,_,(1:Nat),rfl,s1.seq hS,_,(3:Nat),rfl,by decide,fun xa H2 zs s2 nx hz ok=>?_⟩
 have a0:=ok.at (k:=0) (by decide)
 have a1:=ok.at (k:=1) (by decide)
 have a2:=ok.at (k:=2) (by decide)
 dsimp only [gName]
 refine ⟨_,rfl,_,_,_,_,rfl,rfl,SqL.of hz,a0,_,_,rfl,rfl,(by (first | decide | (show (0:Int) < _; first | decide | omega))),?_⟩
 dsimp only [gName]
 have r0:0≤zs.getD 0 0 % 5∧zs.getD 0 0 % 5≤4:=by omega
 generalize zs.getD 0 0 % 5=ri at r0 ⊢
 obtain ⟨r,rfl⟩:=Int.eq_ofNat_of_zero_le r0.1
 have r3:r≤4:=by omega
 have n1:(0:Int) < (ds.length:Int)+1:=by omega
 refine ⟨_,rfl,_,_,_,_,rfl,rfl,SqL.of hz,a1,_,rfl,_,_,rfl,rfl,_,_,rfl,rfl,n1,?_⟩
 dsimp only [gName]
 have b1:=Int.emod_nonneg (zs.getD 1 0) (show (ds.length:Int)+1≠0 by omega)
 have b2:=Int.emod_lt_of_pos (zs.getD 1 0) n1
 generalize zs.getD 1 0 % ((ds.length:Int)+1)=ai at b1 b2 ⊢
 obtain ⟨at_,rfl⟩:=Int.eq_ofNat_of_zero_le b1
 have al:at_≤ds.length:=by omega
 refine ⟨_,rfl,_,rfl,(by omega),(by omega),?_⟩
 refine lc_range (fun i ys H5=>Same H2 H5∧∃ (cs:List Addr) (rs:List Wd),rs.length=i∧ys=cs.map V.ref∧WdsA K H5 cs rs∧(∀ e ∈ rs,WdOk (ds.length+r) e)) ⟨Same.refl _,[],[],rfl,rfl,WdsA.nil,fun e he=>(by cases he)⟩ ?_ ?_ ?_
 ·rintro i ys H5 hi ⟨_,cs,rs,rL,rfl,hc,_⟩
  rw [List.length_map,hc.1,rL]
  exact Nat.lt_of_lt_of_le (show i < 1000 by simp at hi; omega) (small (Nat.le_refl _))
 ·rintro i ys H5 hi ⟨s5,cs,rs,rL,rfl,hc,wr⟩
  have hi:i < r:=by simp at hi; omega
  have i1:(0:Int) < 0+(i:Int)+1:=by omega
  refine yes_go ?_
  refine ⟨_,rfl,_,_,_,_,rfl,rfl,s5.seq (SqL.of hz),a2,_,rfl,_,_,rfl,rfl,_,_,rfl,rfl,⟨i1,by omega⟩,_,rfl,_,_,rfl,rfl,_,rfl,_,rfl,_,_,rfl,rfl,_,ds.length+r,(by show [_,V.int ((ds.length:Int)+(r:Int))]=[_,V.int ((ds.length+r:Nat) : Int)]; rw [Int.natCast_add]),by omega,fun q6 H6 d s6 hd od _=>?_⟩
  refine ⟨s5.trans s6,cs++[q6],rs++[d],by simp [rL],refs_snoc _ _,(hc.same s6).snoc hd,fun x hx=>?_⟩
  rcases List.mem_append.mp hx with hx | hx
  ·exact wr x hx
  ·rw [List.mem_singleton.mp hx]; exact od
 rintro ys H5 ⟨s5,cs,rs,rL,rfl,hc,wr⟩ ru hru
 simp only [Int.toNat_natCast] at rL
 have s6:=same_new hru (.lst (cs.map V.ref))
 have hru6:(upd H5 ru (.lst (cs.map V.ref))) ru=some (.lst (cs.map V.ref)):=upd_same
 generalize upd H5 ru (.lst (cs.map V.ref))=H6 at s6 hru6 ⊢
 have hc6:=hc.same s6
 dsimp only [gName]
 have t6:=s2.trans (s5.trans s6)
 have f40:∀ e ∈ ds,e.foot.length≤40:=fun e he=>Nat.le_trans (f20 e he) (by decide)
 refine ⟨_,rfl,_,rfl,_,rfl,ob,ru,at_,cs,w,h,f,m,ds,rs,rfl,hbk0.same t6,SqL.of hru6,hc6,al,(by omega),(by omega),f40,fun nq H8 s8 hnq=>?_⟩
 dsimp only [gName]
 have t8:=t6.trans s8
 have B0:BkOk ⟨w,h,f,m⟩ ds (List.replicate ds.length (0,0)):=zero_ok (F:=⟨w,h,f,m⟩) fo wd (by omega)
 have G0:Grown ds (L2.putIn at_ ds rs) at_ r:=by
  have:=put_grown (rs:=rs) al
  rw [rL] at this
  exact this
 have wn:∀ d ∈ L2.putIn at_ ds rs,WdOk (L2.putIn at_ ds rs).length d:=by
  rw [G0.len]
  exact put_ok al (by rw [rL]) wd wr
 have C0:BkOk ⟨w,h,f,m⟩ (L2.putIn at_ ds rs) (List.replicate (L2.putIn at_ ds rs).length (0,0)):=zero_ok (F:=⟨w,h,f,m⟩) fo wn (by rw [G0.len]; omega)
 generalize L2.putIn at_ ds rs=ns' at hnq G0 wn C0
 have nl:=G0.len
 refine ⟨_,rfl,_,rfl,ob,nq,w,h,f,m,ds,ns',at_,r,rfl,hbk0.same t8,hnq,G0,(by omega),(by omega),f40,fun tq t HT sT htq Gt ng=>?_⟩
 dsimp only [gName]
 have ta:t≤at_:=by
  rcases Nat.lt_or_ge at_ t with z | z
  ·exact absurd G0 (ng at_ z)
  ·exact z
 have tl:=Gt.at1
 have hrst:∀ ys2,BkOk ⟨w,h,f,m⟩ ns' ys2→Fixd ⟨w,h,f,m⟩ ns' ys2→Pages m ys2→BkOk ⟨w,h,f,m⟩ ds (ys2.take t++ys2.drop (t+r))∧Fixd ⟨w,h,f,m⟩ ds (ys2.take t++ys2.drop (t+r))∧Pages m (ys2.take t++ys2.drop (t+r)):=fun ys2 C fy py=>by
  have Bm:=cut_ok (F:=⟨w,h,f,m⟩) (ds:=ds) (a:=t) (r:=r) fo wd (by omega) C nl tl
  have R:=grown_rst (F:=⟨w,h,f,m⟩) (ys:=ys2) Gt Bm (cut_out (by rw [← C.len]; exact nl) tl).2
  exact ⟨Bm,rst_fix R Bm C fy py,rst_pages R Bm C py⟩
 refine ⟨_,rfl,tq,((t:Int),(r:Int)),rfl,htq,fun HU sU=>?_⟩
 refine ⟨_,rfl,?_⟩
 refine iteF ?_
 have htU:=sU.tup htq
 refine ⟨_,rfl,_,_,_,_,rfl,rfl,htU,rfl,_,rfl,rfl,_,rfl,?_⟩
 rw [decide_eq_true rfl]
 refine iteF ?_
 refine ⟨_,rfl,_,_,_,_,rfl,rfl,htU,rfl,_,_,rfl,rfl,_,rfl,?_⟩
 refine orG (fun z=>absurd (of_decide_eq_true z) (by omega)) (fun _=>?_)
 refine ⟨_,rfl,_,_,_,_,rfl,rfl,htU,rfl,_,rfl,_,_,rfl,rfl,_,rfl,?_⟩
 refine ite2 (fun z=>absurd (of_decide_eq_true z) (by omega)) (fun _=>?_)
 dsimp only [tNext]
 have tU:=t8.trans (sT.trans sU)
 have nU:=sT.trans sU
 refine ⟨_,rfl,ob,.non,⟨w,h,f,m⟩,ds,(List.replicate ds.length (0,0)),rfl,hbk0.same tU,B0,.inl ⟨rfl,rfl⟩,fun fq pp u ps H9 s9 hq _ hu=>?_⟩
 refine ⟨_,_,_,_,rfl,rfl,hq,rfl,?_⟩
 dsimp only [gName]
 refine ⟨_,rfl,nq,.non,⟨w,h,f,m⟩,ns',(List.replicate ns'.length (0,0)),rfl,hnq.same (nU.trans s9),C0,.inl ⟨rfl,rfl⟩,fun fq2 pp2 u2 ps2 HA sA hq2 _ hu2=>?_⟩
 refine ⟨_,_,_,_,rfl,rfl,hq2,rfl,?_⟩
 dsimp only [gName]
 have nA:=nU.trans (s9.trans sA)
 have tA:=t8.trans nA
 have hu2':(u2 = .non∧∃ (x2:List (Int × Int)) (k2:Nat),BkOk ⟨w,h,f,m⟩ ns' x2∧LowX ⟨w,h,f,m⟩ ns' x2∧k2 < ns'.length∧m≤(xAt x2 k2).1)∨(∃ (l2:Addr) (a2:List Addr) (ys2:List (Int × Int)),u2 = .ref l2∧HA l2=some (.lst (a2.map V.ref))∧PlsA K HA a2 ys2∧BkOk ⟨w,h,f,m⟩ ns' ys2∧Fixd ⟨w,h,f,m⟩ ns' ys2∧Pages m ys2∧LowX ⟨w,h,f,m⟩ ns' ys2):=by
  rcases hu2 with ⟨rfl,x2,k2,B2,L2,hk2,hm2⟩ | ⟨l2,a2,x2,rfl,hl2,p2,B2,f2,g2,L2,_,_⟩
  ·exact .inl ⟨rfl,x2,k2,B2,low_zero L2,hk2,hm2⟩
  ·exact .inr ⟨l2,a2,x2,rfl,hl2,p2,B2,f2,g2,low_zero L2⟩
 clear hu2
 have nle:ns'.length≤400:=by omega
 have cnt:V.int ((ds.length:Int)+(r:Int))=V.int ((ns'.length:Nat) : Int):=by rw [nl,Int.natCast_add]
 refine cut_seq (fun σ' H'=>Same HA H'∧σ' = [some (.ref sa),some (.ref ob),some (.int (ds.length:Int)),some (.ref xa),some (.int (r:Int)),some (.int (at_:Int)),some (.ref ru),some (.ref nq),some (.ref tq),some u,some u2,none,none]) ?_ (fun key=>?_)
 rotate_left
 ·refine ⟨_,rfl,rfl,_,rfl,?_⟩
  rcases hu2' with ⟨rfl,_⟩ | ⟨l2,a2',ys2,rfl,hl2,p2,C2,f2,g2,L2⟩
  ·refine iteF (iteF ?_)
   exact key _ _ ⟨Same.refl _,rfl⟩
  ·refine iteT ?_
   refine ⟨_,rfl,_,rfl,_,rfl,_,_,rfl,rfl,l2,a2',ys2,(by rw [p2.1,← C2.len,← cnt]; rfl),SqL.of hl2,p2,(by rw [p2.1,← C2.len]; exact nle),fun HB sB=>?_⟩
   refine ⟨_,rfl,?_⟩
   refine iteF ?_
   exact key _ _ ⟨sB,rfl⟩
 rintro σ' HB ⟨sB,rfl⟩
 refine ⟨_,rfl,rfl,_,rfl,?_⟩
 rcases hu with ⟨rfl,x1,k1,B1,L1,hk1,hm1⟩ | ⟨l1,a1',x1,rfl,hl1,p1',B1,f1,g1,L1,_,_⟩
 ·refine iteT ?_
  rcases hu2' with ⟨rfl,_⟩ | ⟨l2,a2',ys2,rfl,hl2,p2,C2,f2,g2,L2⟩
  ·exact ⟨_,rfl,rfl,q _⟩
  ·obtain ⟨Bm,fm,pm⟩:=hrst ys2 C2 f2 g2
   exact absurd (fix_not B1 Bm fm (low_zero L1) pm hk1 hm1) id
 refine iteF ?_
 dsimp only [tNext]
 have hl1B:=(sA.trans sB) _ _ hl1
 have p1B:=p1'.same (sA.trans sB)
 refine ⟨_,rfl,_,rfl,l1,a1',x1,(by rw [p1'.1,← B1.len]; rfl),SqL.of hl1B,p1B,(by rw [p1'.1,← B1.len]; omega),fun HC sC=>?_⟩
 refine ⟨_,rfl,?_⟩
 refine iteF ?_
 dsimp only [tNext]
 have tC:=sB.trans sC
 have hl1C:=sC _ _ hl1B
 have p1C:=p1B.same sC
 refine ⟨_,rfl,_,rfl,_,rfl,ob,nq,l1,w,h,f,m,ds,ns',at_,r,x1,rfl,hbk0.same (tA.trans tC),hnq.same (nA.trans tC),G0,(by omega),(by omega),f40,⟨a1',SqL.of hl1C,p1C⟩,B1.len.symm,fun lw lws t' HD sD hlw plw Gt' ng'=>?_⟩
 have tt:t' = t:=by
  rcases Nat.lt_trichotomy t' t with z | z | z
  ·exact absurd Gt' (ng t' z)
  ·exact z
  ·exact absurd Gt (ng' t z)
 subst tt
 dsimp only [gName]
 have Cc:=carry_ok (F:=⟨w,h,f,m⟩) B1 tl C0 nl
 have ll:lws.length=ns'.length:=by rw [plw.1,← Cc.len]
 refine ⟨_,rfl,_,rfl,_,rfl,_,_,rfl,rfl,lw,lws,carry t' r x1,(by rw [ll,← cnt]; rfl),SqL.of hlw,plw,(by rw [ll]; exact nle),fun HE sE=>?_⟩
 refine ⟨_,rfl,?_⟩
 refine iteF ?_
 dsimp only [tNext]
 have tE:=tC.trans (sD.trans sE)
 refine ⟨_,rfl,_,rfl,nq,.ref lw,⟨w,h,f,m⟩,ns',carry t' r x1,rfl,hnq.same (nA.trans tE),Cc,.inr ⟨lw,rfl,lws,SqL.of (sE _ _ hlw),plw.same sE⟩,fun fq3 pp3 u3 ps3 HF sF hq3 _ hu3=>?_⟩
 have tF:=tE.trans sF
 rcases hu2' with ⟨rfl,x2,k2,B2,L2,hk2,hm2⟩ | ⟨l2,a2',ys2,rfl,hl2,p2,C2,f2,g2,L2⟩
 ·rcases hu3 with ⟨rfl,_⟩ | ⟨l3,a3,x3,rfl,hl3,p3,B3,f3,g3,L3,_,_⟩
  ·refine ⟨_,_,_,_,rfl,rfl,hq3,rfl,_,rfl,.inl ⟨rfl,_,rfl,?_⟩⟩
   rw [decide_eq_true rfl]
   refine iteF ?_
   dsimp only [tNext]
   refine ⟨_,rfl,rfl,_,rfl,?_⟩
   refine iteT ?_
   exact q _
  ·exact absurd (fix_not B2 B3 f3 L2 g3 hk2 hm2) id
 obtain ⟨Bm,fm,pm⟩:=hrst ys2 C2 f2 g2
 have le:=low_zero L1 _ Bm fm
 have cle:=carry_le (F:=⟨w,h,f,m⟩) B1 tl C2 nl le
 have hl2F:=tF _ _ hl2
 have p2F:=p2.same tF
 rcases hu3 with ⟨rfl,x3,k3,B3,L3,hk3,hm3⟩ | ⟨l3,a3,x3,rfl,hl3,p3,B3,f3,g3,L3,_,_⟩
 ·exact absurd (low_not (L3 ys2 C2 f2 cle) g2 (by rw [← B3.len]; exact hk3) hm3) id
 have e3:x3=ys2:=le_eq (L3 ys2 C2 f2 cle) (L2 x3 B3 f3)
 subst e3
 refine ⟨_,_,_,_,rfl,rfl,hq3,rfl,_,rfl,.inr ⟨1,l3,l2,a3.map V.ref,a2'.map V.ref,by decide,rfl,rfl,.inl ⟨SqL.of hl3,SqL.of hl2F⟩,(by rw [List.length_map,List.length_map,p3.1,p2F.1]),PlsA.dq p3 p2F,_,rfl,?_⟩⟩
 refine iteF ?_
 dsimp only [tNext]
 refine ⟨_,rfl,rfl,_,rfl,?_⟩
 refine iteF ?_
 dsimp only [tNext]
 have hl1F:=(sD.trans (sE.trans sF)) _ _ hl1C
 have p1F:=p1C.same (sD.trans (sE.trans sF))
 have htF:=(s9.trans (sA.trans tF)).tup htU
 clear hq3 hl3 p3 cle
 refine ⟨_,rfl,_,rfl,_,_,_,_,rfl,rfl,htF,rfl,_,rfl,_,_,rfl,SqL.of hl2F,fun p2' hp2'=>?_⟩
 have c2:cutV (a2'.map V.ref) none (some (t':Int))=(a2'.take t').map V.ref:=by rw [cutV_map,cut_to]
 have k2:=same_new hp2' (.lst (cutV (a2'.map V.ref) none (some (t':Int))))
 have h2:(upd HF p2' (.lst (cutV (a2'.map V.ref) none (some (t':Int))))) p2' = some (.lst ((a2'.take t').map V.ref)):=by rw [upd_same,c2]
 generalize upd HF p2' (.lst (cutV (a2'.map V.ref) none (some (t':Int))))=HG at k2 h2 ⊢
 refine ⟨_,rfl,_,rfl,_,_,_,_,rfl,rfl,k2.tup htF,rfl,_,rfl,_,_,rfl,rfl,_,rfl,_,_,rfl,SqL.of (k2 _ _ hl2F),fun p3 hp3=>?_⟩
 have c3:cutV (a2'.map V.ref) (some ((t':Int)+(r:Int))) none=(a2'.drop (t'+r)).map V.ref:=by rw [cutV_map,show (t':Int)+(r:Int)=((t'+r:Nat) : Int) by omega,cut_fr]
 have k3:=same_new hp3 (.lst (cutV (a2'.map V.ref) (some ((t':Int)+(r:Int))) none))
 have h3:(upd HG p3 (.lst (cutV (a2'.map V.ref) (some ((t':Int)+(r:Int))) none))) p3=some (.lst ((a2'.drop (t'+r)).map V.ref)):=by rw [upd_same,c3]
 generalize upd HG p3 (.lst (cutV (a2'.map V.ref) (some ((t':Int)+(r:Int))) none))=HH at k3 h3 ⊢
 have a2l:a2'.length=ns'.length:=by rw [p2.1,← C2.len]
 refine ⟨_,_,_,_,rfl,rfl,k3 _ _ h2,h3,small (by rw [List.length_map,List.length_map,List.length_take,List.length_drop,a2l]; omega),fun p4 hp4=>?_⟩
 have k4:=same_new hp4 (.lst ((a2'.take t').map V.ref++(a2'.drop (t'+r)).map V.ref))
 have h4:(upd HH p4 (.lst ((a2'.take t').map V.ref++(a2'.drop (t'+r)).map V.ref))) p4=some (.lst ((a2'.take t'++a2'.drop (t'+r)).map V.ref)):=by rw [upd_same,List.map_append]
 generalize upd HH p4 (.lst ((a2'.take t').map V.ref++(a2'.drop (t'+r)).map V.ref))=HI at k4 h4 ⊢
 have kk:=k2.trans (k3.trans k4)
 have pG:=((p2F.same kk).take t').app ((p2F.same kk).drop (t'+r))
 have hl1G:=kk _ _ hl1F
 have p1G:=p1F.same kk
 generalize x3.take t'++x3.drop (t'+r)=mv at Bm fm pm le pG
 dsimp only [gName]
 refine ⟨_,rfl,_,rfl,(by omega),(by omega),?_⟩
 refine lc_range (fun i zs2 HJ=>HJ=HI∧zs2=(List.replicate i true).map V.bl) ⟨rfl,rfl⟩ ?_ ?_ ?_
 ·rintro i zs2 HJ hi ⟨_,rfl⟩
  rw [List.length_map,List.length_replicate]
  exact Nat.lt_of_lt_of_le (show i < 1000 by simp at hi; omega) (small (Nat.le_refl _))
 ·rintro i zs2 HJ hi ⟨rfl,rfl⟩
  have hi:i < ds.length:=by simp at hi; omega
  obtain ⟨xo,ex,hx⟩:=p1G.get (show i < x1.length by rw [← B1.len]; exact hi)
  obtain ⟨yo,ey,hy⟩:=pG.get (show i < mv.length by rw [← Bm.len]; exact hi)
  have la1:sooner (xAt mv i) (xAt x1 i)=false:=le.2 i (by rw [← B1.len]; exact hi)
  refine yes_go ?_
  refine ⟨_,rfl,_,rfl,_,_,_,_,rfl,rfl,SqL.of hl1G,(by rw [Int.zero_add]; exact ex),_,rfl,_,rfl,_,_,_,_,rfl,rfl,SqL.of h4,(by rw [Int.zero_add]; exact ey),xo,yo,[(xAt x1 i).1,(xAt x1 i).2],[(xAt mv i).1,(xAt mv i).2],rfl,rfl,hx,hy,rfl,?_⟩
  rw [lex_le,la1,List.replicate_succ',List.map_append]
  rfl
 rintro zs2 HJ ⟨rfl,rfl⟩ p hp
 refine ⟨p,_,rfl,.inl (SqL.of upd_same),rfl,bls_flat _,?_⟩
 rw [if_pos rfl,no_false]
 exact q _
end
noncomputable abbrev fdA (n:Str) (s:Stmt) (d kV dc pm:Value) (an:Option Addr) (cd ct:Value) : FuncData:=PySem.W.fnOf n n (defArgs s) (defBody s) (defScope s) d kV dc pm an cd ct
abbrev Na (K:PySem.W.Frag) (n:Str) (f:Addr) : Prop:=PySem.W.nsIn K mainGlobals n=some (some (.ref f))
abbrev Lk (K:PySem.W.Frag) (f:Addr) (n:Str) (s:Stmt) (d oc:Value) (od:Option Addr) (sl:Array (Option Value)) (kV dc pm:Value) (an:Option Addr) (cd ct:Value) : Prop:=K.lookup f=some ⟨oc,od,.func (fdA n s d kV dc pm an cd ct),sl⟩
abbrev Cd (K:PySem.W.Frag) (c:Value) (n:Str) : Prop:=PySem.W.codeIn K c n=true
abbrev Kp (K:PySem.W.Frag) (f:Addr) : Prop:=PySem.W.keepIn K (.ref f)=true
abbrev Zn (K:PySem.W.Frag) (n:Str) : Prop:=PySem.W.nsIn K mainGlobals n=some none
theorem us1 {us:List Value} (h:us.length=1) : ∃ a0,us=[a0]:=by
 match us,h with
 | [a0],_=>exact ⟨a0,rfl⟩
theorem us2 {us:List Value} (h:us.length=2) : ∃ a0 a1,us=[a0,a1]:=by
 match us,h with
 | [a0,a1],_=>exact ⟨a0,a1,rfl⟩
theorem us3 {us:List Value} (h:us.length=3) : ∃ a0 a1 a2,us=[a0,a1,a2]:=by
 match us,h with
 | [a0,a1,a2],_=>exact ⟨a0,a1,a2,rfl⟩
theorem us4 {us:List Value} (h:us.length=4) : ∃ a0 a1 a2 a3,us=[a0,a1,a2,a3]:=by
 match us,h with
 | [a0,a1,a2,a3],_=>exact ⟨a0,a1,a2,a3,rfl⟩
theorem us5 {us:List Value} (h:us.length=5) : ∃ a0 a1 a2 a3 a4,us=[a0,a1,a2,a3,a4]:=by
 match us,h with
 | [a0,a1,a2,a3,a4],_=>exact ⟨a0,a1,a2,a3,a4,rfl⟩
theorem us6 {us:List Value} (h:us.length=6) : ∃ a0 a1 a2 a3 a4 a5,us=[a0,a1,a2,a3,a4,a5]:=by
 match us,h with
 | [a0,a1,a2,a3,a4,a5],_=>exact ⟨a0,a1,a2,a3,a4,a5,rfl⟩
theorem txt_mk {P:Program} {w:World} {K:PySem.W.Frag} {h:Heap} {mg:Str→Option Value} (X:K.In h) (G:h.Ns mainGlobals mg)
  {od0 an0 od1 an1 od2 an2 od3 an3 od4 an4 od5 an5 od6 an6 od7 an7 od8 an8 od9 an9 od10 an10 od11 an11 od12 an12 od13 an13 od14 an14 od15 an15 od16 an16 od17 an17 od18 an18 od19 an19 od20 an20 od21 an21 od22 an22 od23 an23 od24 an24 od25 an25 od26 an26 od27 an27 od28 an28 od29 an29 od30 an30 od31 an31 od32 an32 od33 an33 od34 an34 od35 an35 od36 an36 od37 an37 od38 an38 od39 an39 od40 an40 od41 an41 od42 an42 od43 an43 od44 an44 od45 an45 od46 an46 od47 an47 od48 an48 od49 an49 od50 an50 od51 an51 od52 an52 od53 an53 od54 an54 od55 an55 od56 an56 od57 an57 od58 an58 od59 an59 od60 an60:Option Addr} {sl0 sl1 sl2 sl3 sl4 sl5 sl6 sl7 sl8 sl9 sl10 sl11 sl12 sl13 sl14 sl15 sl16 sl17 sl18 sl19 sl20 sl21 sl22 sl23 sl24 sl25 sl26 sl27 sl28 sl29 sl30 sl31 sl32 sl33 sl34 sl35 sl36 sl37 sl38 sl39 sl40 sl41 sl42 sl43 sl44 sl45 sl46 sl47 sl48 sl49 sl50 sl51 sl52 sl53 sl54 sl55 sl56 sl57 sl58 sl59 sl60:Array (Option Value)} {oc0 kV0 dc0 pm0 cd0 ct0 oc1 kV1 dc1 pm1 cd1 ct1 oc2 kV2 dc2 pm2 cd2 ct2 oc3 kV3 dc3 pm3 cd3 ct3 oc4 kV4 dc4 pm4 cd4 ct4 oc5 kV5 dc5 pm5 cd5 ct5 oc6 kV6 dc6 pm6 cd6 ct6 oc7 kV7 dc7 pm7 cd7 ct7 oc8 kV8 dc8 pm8 cd8 ct8 oc9 kV9 dc9 pm9 cd9 ct9 oc10 kV10 dc10 pm10 cd10 ct10 oc11 kV11 dc11 pm11 cd11 ct11 oc12 kV12 dc12 pm12 cd12 ct12 oc13 kV13 dc13 pm13 cd13 ct13 oc14 kV14 dc14 pm14 cd14 ct14 oc15 kV15 dc15 pm15 cd15 ct15 oc16 kV16 dc16 pm16 cd16 ct16 oc17 kV17 dc17 pm17 cd17 ct17 oc18 kV18 dc18 pm18 cd18 ct18 oc19 kV19 dc19 pm19 cd19 ct19 oc20 kV20 dc20 pm20 cd20 ct20 oc21 kV21 dc21 pm21 cd21 ct21 oc22 kV22 dc22 pm22 cd22 ct22 oc23 kV23 dc23 pm23 cd23 ct23 oc24 kV24 dc24 pm24 cd24 ct24 oc25 kV25 dc25 pm25 cd25 ct25 oc26 kV26 dc26 pm26 cd26 ct26 oc27 kV27 dc27 pm27 cd27 ct27 oc28 kV28 dc28 pm28 cd28 ct28 oc29 kV29 dc29 pm29 cd29 ct29 oc30 kV30 dc30 pm30 cd30 ct30 oc31 kV31 dc31 pm31 cd31 ct31 oc32 kV32 dc32 pm32 cd32 ct32 oc33 kV33 dc33 pm33 cd33 ct33 oc34 kV34 dc34 pm34 cd34 ct34 oc35 kV35 dc35 pm35 cd35 ct35 oc36 kV36 dc36 pm36 cd36 ct36 oc37 kV37 dc37 pm37 cd37 ct37 oc38 kV38 dc38 pm38 cd38 ct38 oc39 kV39 dc39 pm39 cd39 ct39 oc40 kV40 dc40 pm40 cd40 ct40 oc41 kV41 dc41 pm41 cd41 ct41 oc42 kV42 dc42 pm42 cd42 ct42 oc43 kV43 dc43 pm43 cd43 ct43 oc44 kV44 dc44 pm44 cd44 ct44 oc45 kV45 dc45 pm45 cd45 ct45 oc46 kV46 dc46 pm46 cd46 ct46 oc47 kV47 dc47 pm47 cd47 ct47 oc48 kV48 dc48 pm48 cd48 ct48 oc49 kV49 dc49 pm49 cd49 ct49 oc50 kV50 dc50 pm50 cd50 ct50 oc51 kV51 dc51 pm51 cd51 ct51 oc52 kV52 dc52 pm52 cd52 ct52 oc53 kV53 dc53 pm53 cd53 ct53 oc54 kV54 dc54 pm54 cd54 ct54 oc55 kV55 dc55 pm55 cd55 ct55 oc56 kV56 dc56 pm56 cd56 ct56 oc57 kV57 dc57 pm57 cd57 ct57 oc58 kV58 dc58 pm58 cd58 ct58 oc59 kV59 dc59 pm59 cd59 ct59 oc60 kV60 dc60 pm60 cd60 ct60:Value} {f0 f1 f2 f3 f4 f5 f6 f7 f8 f9 f10 f11 f12 f13 f14 f15 f16 f17 f18 f19 f20 f21 f22 f23 f24 f25 f26 f27 f28 f29 f30 f31 f32 f33 f34 f35 f36 f37 f38 f39 f40 f41 f42 f43 f44 f45 f46 f47 f48 f49 f50 f51 f52 f53 f54 f55 f56 f57 f58 f59 f60:Addr}
  (a0:Na K "_law_cell_at" f0) (l0:Lk K f0 "_law_cell_at" s_l_cell_at .none oc0 od0 sl0 kV0 dc0 pm0 an0 cd0 ct0) (c0:Cd K cd0 "_law_cell_at") (k0:Kp K f0)
  (a1:Na K "_law_first" f1) (l1:Lk K f1 "_law_first" s_l_first .none oc1 od1 sl1 kV1 dc1 pm1 an1 cd1 ct1) (c1:Cd K cd1 "_law_first") (k1:Kp K f1)
  (a2:Na K "_law_form" f2) (l2:Lk K f2 "_law_form" s_l_form .none oc2 od2 sl2 kV2 dc2 pm2 an2 cd2 ct2) (c2:Cd K cd2 "_law_form") (k2:Kp K f2)
  (a3:Na K "_law_text" f3) (l3:Lk K f3 "_law_text" s_l_text .none oc3 od3 sl3 kV3 dc3 pm3 an3 cd3 ct3) (c3:Cd K cd3 "_law_text") (k3:Kp K f3)
  (a4:Na K "_law_saying" f4) (l4:Lk K f4 "_law_saying" s_l_saying .none oc4 od4 sl4 kV4 dc4 pm4 an4 cd4 ct4) (c4:Cd K cd4 "_law_saying") (k4:Kp K f4)
  (a5:Na K "_law_stream" f5) (l5:Lk K f5 "_law_stream" s_l_stream .none oc5 od5 sl5 kV5 dc5 pm5 an5 cd5 ct5) (c5:Cd K cd5 "_law_stream") (k5:Kp K f5)
  (a6:Na K "_law_word" f6) (l6:Lk K f6 "_law_word" s_l_word .none oc6 od6 sl6 kV6 dc6 pm6 an6 cd6 ct6) (c6:Cd K cd6 "_law_word") (k6:Kp K f6)
  (a7:Na K "_law_book" f7) (l7:Lk K f7 "_law_book" s_l_book .none oc7 od7 sl7 kV7 dc7 pm7 an7 cd7 ct7) (c7:Cd K cd7 "_law_book") (k7:Kp K f7)
  (a8:Na K "_law_short" f8) (l8:Lk K f8 "_law_short" s_l_short .none oc8 od8 sl8 kV8 dc8 pm8 an8 cd8 ct8) (c8:Cd K cd8 "_law_short") (k8:Kp K f8)
  (a9:Na K "_law_behind" f9) (l9:Lk K f9 "_law_behind" s_l_behind .none oc9 od9 sl9 kV9 dc9 pm9 an9 cd9 ct9) (c9:Cd K cd9 "_law_behind") (k9:Kp K f9)
  (a10:Na K "_law_from" f10) (l10:Lk K f10 "_law_from" s_l_from .none oc10 od10 sl10 kV10 dc10 pm10 an10 cd10 ct10) (c10:Cd K cd10 "_law_from") (k10:Kp K f10)
  (a11:Na K "_law_spots" f11) (l11:Lk K f11 "_law_spots" s_l_spots .none oc11 od11 sl11 kV11 dc11 pm11 an11 cd11 ct11) (c11:Cd K cd11 "_law_spots") (k11:Kp K f11)
  (a12:Na K "_law_said" f12) (l12:Lk K f12 "_law_said" s_l_said .none oc12 od12 sl12 kV12 dc12 pm12 an12 cd12 ct12) (c12:Cd K cd12 "_law_said") (k12:Kp K f12)
  (a13:Na K "_law_widest" f13) (l13:Lk K f13 "_law_widest" s_l_widest .none oc13 od13 sl13 kV13 dc13 pm13 an13 cd13 ct13) (c13:Cd K cd13 "_law_widest") (k13:Kp K f13)
  (a14:Na K "_law_borne" f14) (l14:Lk K f14 "_law_borne" s_l_borne .none oc14 od14 sl14 kV14 dc14 pm14 an14 cd14 ct14) (c14:Cd K cd14 "_law_borne") (k14:Kp K f14)
  (a15:Na K "_law_elder" f15) (l15:Lk K f15 "_law_elder" s_l_elder .none oc15 od15 sl15 kV15 dc15 pm15 an15 cd15 ct15) (c15:Cd K cd15 "_law_elder") (k15:Kp K f15)
  (a16:Na K "_law_whole" f16) (l16:Lk K f16 "_law_whole" s_l_whole .none oc16 od16 sl16 kV16 dc16 pm16 an16 cd16 ct16) (c16:Cd K cd16 "_law_whole") (k16:Kp K f16)
  (a17:Na K "_law_place" f17) (l17:Lk K f17 "_law_place" s_l_place .none oc17 od17 sl17 kV17 dc17 pm17 an17 cd17 ct17) (c17:Cd K cd17 "_law_place") (k17:Kp K f17)
  (a18:Na K "_law_laid" f18) (l18:Lk K f18 "_law_laid" s_l_laid .none oc18 od18 sl18 kV18 dc18 pm18 an18 cd18 ct18) (c18:Cd K cd18 "_law_laid") (k18:Kp K f18)
  (a19:Na K "_law_moved_saying" f19) (l19:Lk K f19 "_law_moved_saying" s_l_moved_saying .none oc19 od19 sl19 kV19 dc19 pm19 an19 cd19 ct19) (c19:Cd K cd19 "_law_moved_saying") (k19:Kp K f19)
  (a20:Na K "_law_moved" f20) (l20:Lk K f20 "_law_moved" s_l_moved .none oc20 od20 sl20 kV20 dc20 pm20 an20 cd20 ct20) (c20:Cd K cd20 "_law_moved") (k20:Kp K f20)
  (a21:Na K "_law_put_in" f21) (l21:Lk K f21 "_law_put_in" s_l_put_in .none oc21 od21 sl21 kV21 dc21 pm21 an21 cd21 ct21) (c21:Cd K cd21 "_law_put_in") (k21:Kp K f21)
  (a22:Na K "shifted" f22) (l22:Lk K f22 "shifted" s_shifted .none oc22 od22 sl22 kV22 dc22 pm22 an22 cd22 ct22) (c22:Cd K cd22 "shifted") (k22:Kp K f22)
  (a23:Na K "saying_shifted" f23) (l23:Lk K f23 "saying_shifted" s_saying_shifted .none oc23 od23 sl23 kV23 dc23 pm23 an23 cd23 ct23) (c23:Cd K cd23 "saying_shifted") (k23:Kp K f23)
  (a24:Na K "word_shifted" f24) (l24:Lk K f24 "word_shifted" s_word_shifted .none oc24 od24 sl24 kV24 dc24 pm24 an24 cd24 ct24) (c24:Cd K cd24 "word_shifted") (k24:Kp K f24)
  (a25:Na K "grown_at" f25) (l25:Lk K f25 "grown_at" s_grown_at .none oc25 od25 sl25 kV25 dc25 pm25 an25 cd25 ct25) (c25:Cd K cd25 "grown_at") (k25:Kp K f25)
  (a26:Na K "growth" f26) (l26:Lk K f26 "growth" s_growth .none oc26 od26 sl26 kV26 dc26 pm26 an26 cd26 ct26) (c26:Cd K cd26 "growth") (k26:Kp K f26)
  (a27:Na K "carried" f27) (l27:Lk K f27 "carried" s_carried .none oc27 od27 sl27 kV27 dc27 pm27 an27 cd27 ct27) (c27:Cd K cd27 "carried") (k27:Kp K f27)
  (a28:Na K "first_bounds" f28) (l28:Lk K f28 "first_bounds" s_first_bounds .none oc28 od28 sl28 kV28 dc28 pm28 an28 cd28 ct28) (c28:Cd K cd28 "first_bounds") (k28:Kp K f28)
  (a29:Na K "first_unlike" f29) (l29:Lk K f29 "first_unlike" s_first_unlike .none oc29 od29 sl29 kV29 dc29 pm29 an29 cd29 ct29) (c29:Cd K cd29 "first_unlike") (k29:Kp K f29)
  (a30:Na K "figures_of" f30) (l30:Lk K f30 "figures_of" s_figures_of .none oc30 od30 sl30 kV30 dc30 pm30 an30 cd30 ct30) (c30:Cd K cd30 "figures_of") (k30:Kp K f30)
  (a31:Na K "said" f31) (l31:Lk K f31 "said" s_said .none oc31 od31 sl31 kV31 dc31 pm31 an31 cd31 ct31) (c31:Cd K cd31 "said") (k31:Kp K f31)
  (a32:Na K "foot_rows" f32) (l32:Lk K f32 "foot_rows" s_foot_rows .none oc32 od32 sl32 kV32 dc32 pm32 an32 cd32 ct32) (c32:Cd K cd32 "foot_rows") (k32:Kp K f32)
  (a33:Na K "foot_high" f33) (l33:Lk K f33 "foot_high" s_foot_high .none oc33 od33 sl33 kV33 dc33 pm33 an33 cd33 ct33) (c33:Cd K cd33 "foot_high") (k33:Kp K f33)
  (a34:Na K "highs_of" f34) (l34:Lk K f34 "highs_of" s_highs_of .none oc34 od34 sl34 kV34 dc34 pm34 an34 cd34 ct34) (c34:Cd K cd34 "highs_of") (k34:Kp K f34)
  (a35:Na K "together" f35) (l35:Lk K f35 "together" s_together .none oc35 od35 sl35 kV35 dc35 pm35 an35 cd35 ct35) (c35:Cd K cd35 "together") (k35:Kp K f35)
  (a36:Na K "next_top" f36) (l36:Lk K f36 "next_top" s_next_top .none oc36 od36 sl36 kV36 dc36 pm36 an36 cd36 ct36) (c36:Cd K cd36 "next_top") (k36:Kp K f36)
  (a37:Na K "first_from" f37) (l37:Lk K f37 "first_from" s_first_from .none oc37 od37 sl37 kV37 dc37 pm37 an37 cd37 ct37) (c37:Cd K cd37 "first_from") (k37:Kp K f37)
  (a38:Na K "rows_on" f38) (l38:Lk K f38 "rows_on" s_rows_on .none oc38 od38 sl38 kV38 dc38 pm38 an38 cd38 ct38) (c38:Cd K cd38 "rows_on") (k38:Kp K f38)
  (a39:Na K "behind" f39) (l39:Lk K f39 "behind" s_behind .none oc39 od39 sl39 kV39 dc39 pm39 an39 cd39 ct39) (c39:Cd K cd39 "behind") (k39:Kp K f39)
  (a40:Na K "later" f40) (l40:Lk K f40 "later" s_later .none oc40 od40 sl40 kV40 dc40 pm40 an40 cd40 ct40) (c40:Cd K cd40 "later") (k40:Kp K f40)
  (a41:Na K "told_behind" f41) (l41:Lk K f41 "told_behind" s_told_behind .none oc41 od41 sl41 kV41 dc41 pm41 an41 cd41 ct41) (c41:Cd K cd41 "told_behind") (k41:Kp K f41)
  (a42:Na K "told_high" f42) (l42:Lk K f42 "told_high" s_told_high .none oc42 od42 sl42 kV42 dc42 pm42 an42 cd42 ct42) (c42:Cd K cd42 "told_high") (k42:Kp K f42)
  (a43:Na K "told_kept" f43) (l43:Lk K f43 "told_kept" s_told_kept .none oc43 od43 sl43 kV43 dc43 pm43 an43 cd43 ct43) (c43:Cd K cd43 "told_kept") (k43:Kp K f43)
  (a44:Na K "wide_of" f44) (l44:Lk K f44 "wide_of" s_wide_of .none oc44 od44 sl44 kV44 dc44 pm44 an44 cd44 ct44) (c44:Cd K cd44 "wide_of") (k44:Kp K f44)
  (a45:Na K "told_never" f45) (l45:Lk K f45 "told_never" s_told_never .none oc45 od45 sl45 kV45 dc45 pm45 an45 cd45 ct45) (c45:Cd K cd45 "told_never") (k45:Kp K f45)
  (a46:Na K "told_wide" f46) (l46:Lk K f46 "told_wide" s_told_wide .none oc46 od46 sl46 kV46 dc46 pm46 an46 cd46 ct46) (c46:Cd K cd46 "told_wide") (k46:Kp K f46)
  (a47:Na K "wides_of" f47) (l47:Lk K f47 "wides_of" s_wides_of .none oc47 od47 sl47 kV47 dc47 pm47 an47 cd47 ct47) (c47:Cd K cd47 "wides_of") (k47:Kp K f47)
  (a48:Na K "told_by_kind" f48) (l48:Lk K f48 "told_by_kind" s_told_by_kind .none oc48 od48 sl48 kV48 dc48 pm48 an48 cd48 ct48) (c48:Cd K cd48 "told_by_kind") (k48:Kp K f48)
  (a49:Na K "reach" f49) (l49:Lk K f49 "reach" s_reach .none oc49 od49 sl49 kV49 dc49 pm49 an49 cd49 ct49) (c49:Cd K cd49 "reach") (k49:Kp K f49)
  (a50:Na K "raise_by" f50) (l50:Lk K f50 "raise_by" s_raise_by .none oc50 od50 sl50 kV50 dc50 pm50 an50 cd50 ct50) (c50:Cd K cd50 "raise_by") (k50:Kp K f50)
  (a51:Na K "raise_kept" f51) (l51:Lk K f51 "raise_kept" s_raise_kept .none oc51 od51 sl51 kV51 dc51 pm51 an51 cd51 ct51) (c51:Cd K cd51 "raise_kept") (k51:Kp K f51)
  (a52:Na K "stands_beyond" f52) (l52:Lk K f52 "stands_beyond" s_stands_beyond .none oc52 od52 sl52 kV52 dc52 pm52 an52 cd52 ct52) (c52:Cd K cd52 "stands_beyond") (k52:Kp K f52)
  (a53:Na K "too_high_from" f53) (l53:Lk K f53 "too_high_from" s_too_high_from .none oc53 od53 sl53 kV53 dc53 pm53 an53 cd53 ct53) (c53:Cd K cd53 "too_high_from") (k53:Kp K f53)
  (a54:Na K "too_wide_from" f54) (l54:Lk K f54 "too_wide_from" s_too_wide_from .none oc54 od54 sl54 kV54 dc54 pm54 an54 cd54 ct54) (c54:Cd K cd54 "too_wide_from") (k54:Kp K f54)
  (a55:Na K "reason_for" f55) (l55:Lk K f55 "reason_for" s_reason_for .none oc55 od55 sl55 kV55 dc55 pm55 an55 cd55 ct55) (c55:Cd K cd55 "reason_for") (k55:Kp K f55)
  (a56:Na K "raise_word" f56) (l56:Lk K f56 "raise_word" s_raise_word .none oc56 od56 sl56 kV56 dc56 pm56 an56 cd56 ct56) (c56:Cd K cd56 "raise_word") (k56:Kp K f56)
  (a57:Na K "raise_from" f57) (l57:Lk K f57 "raise_from" s_raise_from .none oc57 od57 sl57 kV57 dc57 pm57 an57 cd57 ct57) (c57:Cd K cd57 "raise_from") (k57:Kp K f57)
  (a58:Na K "sizes_under" f58) (l58:Lk K f58 "sizes_under" s_sizes_under .none oc58 od58 sl58 kV58 dc58 pm58 an58 cd58 ct58) (c58:Cd K cd58 "sizes_under") (k58:Kp K f58)
  {T59:Addr} (a59:Na K "settle" f59) (l59:Lk K f59 "settle" s_settle (.ref T59) oc59 od59 sl59 kV59 dc59 pm59 an59 cd59 ct59) (c59:Cd K cd59 "settle") (k59:Kp K f59) {oe59:Value} {oo59:Option Addr} {os59:Array (Option Value)} {on59:Nat} (lt59:K.lookup T59=some ⟨oe59,oo59,.seq #[.none] on59,os59⟩)
  (a60:Na K "law" f60) (l60:Lk K f60 "law" s_law .none oc60 od60 sl60 kV60 dc60 pm60 an60 cd60 ct60) (c60:Cd K cd60 "law") (k60:Kp K f60)
  (z_all:Zn K "all")
  (z_any:Zn K "any")
  (z_bool:Zn K "bool")
  (z_enumerate:Zn K "enumerate")
  (z_int:Zn K "int")
  (z_isinstance:Zn K "isinstance")
  (z_len:Zn K "len")
  (z_list:Zn K "list")
  (z_max:Zn K "max")
  (z_min:Zn K "min")
  (z_range:Zn K "range")
  (z_str:Zn K "str")
  (z_sum:Zn K "sum")
  (z_tuple:Zn K "tuple")
  (z_zip:Zn K "zip") :
  ∃ a:Adr,Txt P w K mg a:=by
 refine ⟨{ f_l_cell_at:=f0,fd_l_cell_at:=fdA "_law_cell_at" s_l_cell_at .none kV0 dc0 pm0 an0 cd0 ct0,f_l_first:=f1,fd_l_first:=fdA "_law_first" s_l_first .none kV1 dc1 pm1 an1 cd1 ct1,f_l_form:=f2,fd_l_form:=fdA "_law_form" s_l_form .none kV2 dc2 pm2 an2 cd2 ct2,f_l_text:=f3,fd_l_text:=fdA "_law_text" s_l_text .none kV3 dc3 pm3 an3 cd3 ct3,f_l_saying:=f4,fd_l_saying:=fdA "_law_saying" s_l_saying .none kV4 dc4 pm4 an4 cd4 ct4,f_l_stream:=f5,fd_l_stream:=fdA "_law_stream" s_l_stream .none kV5 dc5 pm5 an5 cd5 ct5,f_l_word:=f6,fd_l_word:=fdA "_law_word" s_l_word .none kV6 dc6 pm6 an6 cd6 ct6,f_l_book:=f7,fd_l_book:=fdA "_law_book" s_l_book .none kV7 dc7 pm7 an7 cd7 ct7,f_l_short:=f8,fd_l_short:=fdA "_law_short" s_l_short .none kV8 dc8 pm8 an8 cd8 ct8,f_l_behind:=f9,fd_l_behind:=fdA "_law_behind" s_l_behind .none kV9 dc9 pm9 an9 cd9 ct9,f_l_from:=f10,fd_l_from:=fdA "_law_from" s_l_from .none kV10 dc10 pm10 an10 cd10 ct10,f_l_spots:=f11,fd_l_spots:=fdA "_law_spots" s_l_spots .none kV11 dc11 pm11 an11 cd11 ct11,f_l_said:=f12,fd_l_said:=fdA "_law_said" s_l_said .none kV12 dc12 pm12 an12 cd12 ct12,f_l_widest:=f13,fd_l_widest:=fdA "_law_widest" s_l_widest .none kV13 dc13 pm13 an13 cd13 ct13,f_l_borne:=f14,fd_l_borne:=fdA "_law_borne" s_l_borne .none kV14 dc14 pm14 an14 cd14 ct14,f_l_elder:=f15,fd_l_elder:=fdA "_law_elder" s_l_elder .none kV15 dc15 pm15 an15 cd15 ct15,f_l_whole:=f16,fd_l_whole:=fdA "_law_whole" s_l_whole .none kV16 dc16 pm16 an16 cd16 ct16,f_l_place:=f17,fd_l_place:=fdA "_law_place" s_l_place .none kV17 dc17 pm17 an17 cd17 ct17,f_l_laid:=f18,fd_l_laid:=fdA "_law_laid" s_l_laid .none kV18 dc18 pm18 an18 cd18 ct18,f_l_moved_saying:=f19,fd_l_moved_saying:=fdA "_law_moved_saying" s_l_moved_saying .none kV19 dc19 pm19 an19 cd19 ct19,f_l_moved:=f20,fd_l_moved:=fdA "_law_moved" s_l_moved .none kV20 dc20 pm20 an20 cd20 ct20,f_l_put_in:=f21,fd_l_put_in:=fdA "_law_put_in" s_l_put_in .none kV21 dc21 pm21 an21 cd21 ct21,f_shifted:=f22,fd_shifted:=fdA "shifted" s_shifted .none kV22 dc22 pm22 an22 cd22 ct22,f_saying_shifted:=f23,fd_saying_shifted:=fdA "saying_shifted" s_saying_shifted .none kV23 dc23 pm23 an23 cd23 ct23,f_word_shifted:=f24,fd_word_shifted:=fdA "word_shifted" s_word_shifted .none kV24 dc24 pm24 an24 cd24 ct24,f_grown_at:=f25,fd_grown_at:=fdA "grown_at" s_grown_at .none kV25 dc25 pm25 an25 cd25 ct25,f_growth:=f26,fd_growth:=fdA "growth" s_growth .none kV26 dc26 pm26 an26 cd26 ct26,f_carried:=f27,fd_carried:=fdA "carried" s_carried .none kV27 dc27 pm27 an27 cd27 ct27,f_first_bounds:=f28,fd_first_bounds:=fdA "first_bounds" s_first_bounds .none kV28 dc28 pm28 an28 cd28 ct28,f_first_unlike:=f29,fd_first_unlike:=fdA "first_unlike" s_first_unlike .none kV29 dc29 pm29 an29 cd29 ct29,f_figures_of:=f30,fd_figures_of:=fdA "figures_of" s_figures_of .none kV30 dc30 pm30 an30 cd30 ct30,f_said:=f31,fd_said:=fdA "said" s_said .none kV31 dc31 pm31 an31 cd31 ct31,f_foot_rows:=f32,fd_foot_rows:=fdA "foot_rows" s_foot_rows .none kV32 dc32 pm32 an32 cd32 ct32,f_foot_high:=f33,fd_foot_high:=fdA "foot_high" s_foot_high .none kV33 dc33 pm33 an33 cd33 ct33,f_highs_of:=f34,fd_highs_of:=fdA "highs_of" s_highs_of .none kV34 dc34 pm34 an34 cd34 ct34,f_together:=f35,fd_together:=fdA "together" s_together .none kV35 dc35 pm35 an35 cd35 ct35,f_next_top:=f36,fd_next_top:=fdA "next_top" s_next_top .none kV36 dc36 pm36 an36 cd36 ct36,f_first_from:=f37,fd_first_from:=fdA "first_from" s_first_from .none kV37 dc37 pm37 an37 cd37 ct37,f_rows_on:=f38,fd_rows_on:=fdA "rows_on" s_rows_on .none kV38 dc38 pm38 an38 cd38 ct38,f_behind:=f39,fd_behind:=fdA "behind" s_behind .none kV39 dc39 pm39 an39 cd39 ct39,f_later:=f40,fd_later:=fdA "later" s_later .none kV40 dc40 pm40 an40 cd40 ct40,f_told_behind:=f41,fd_told_behind:=fdA "told_behind" s_told_behind .none kV41 dc41 pm41 an41 cd41 ct41,f_told_high:=f42,fd_told_high:=fdA "told_high" s_told_high .none kV42 dc42 pm42 an42 cd42 ct42,f_told_kept:=f43,fd_told_kept:=fdA "told_kept" s_told_kept .none kV43 dc43 pm43 an43 cd43 ct43,f_wide_of:=f44,fd_wide_of:=fdA "wide_of" s_wide_of .none kV44 dc44 pm44 an44 cd44 ct44,f_told_never:=f45,fd_told_never:=fdA "told_never" s_told_never .none kV45 dc45 pm45 an45 cd45 ct45,f_told_wide:=f46,fd_told_wide:=fdA "told_wide" s_told_wide .none kV46 dc46 pm46 an46 cd46 ct46,f_wides_of:=f47,fd_wides_of:=fdA "wides_of" s_wides_of .none kV47 dc47 pm47 an47 cd47 ct47,f_told_by_kind:=f48,fd_told_by_kind:=fdA "told_by_kind" s_told_by_kind .none kV48 dc48 pm48 an48 cd48 ct48,f_reach:=f49,fd_reach:=fdA "reach" s_reach .none kV49 dc49 pm49 an49 cd49 ct49,f_raise_by:=f50,fd_raise_by:=fdA "raise_by" s_raise_by .none kV50 dc50 pm50 an50 cd50 ct50,f_raise_kept:=f51,fd_raise_kept:=fdA "raise_kept" s_raise_kept .none kV51 dc51 pm51 an51 cd51 ct51,f_stands_beyond:=f52,fd_stands_beyond:=fdA "stands_beyond" s_stands_beyond .none kV52 dc52 pm52 an52 cd52 ct52,f_too_high_from:=f53,fd_too_high_from:=fdA "too_high_from" s_too_high_from .none kV53 dc53 pm53 an53 cd53 ct53,f_too_wide_from:=f54,fd_too_wide_from:=fdA "too_wide_from" s_too_wide_from .none kV54 dc54 pm54 an54 cd54 ct54,f_reason_for:=f55,fd_reason_for:=fdA "reason_for" s_reason_for .none kV55 dc55 pm55 an55 cd55 ct55,f_raise_word:=f56,fd_raise_word:=fdA "raise_word" s_raise_word .none kV56 dc56 pm56 an56 cd56 ct56,f_raise_from:=f57,fd_raise_from:=fdA "raise_from" s_raise_from .none kV57 dc57 pm57 an57 cd57 ct57,f_sizes_under:=f58,fd_sizes_under:=fdA "sizes_under" s_sizes_under .none kV58 dc58 pm58 an58 cd58 ct58,f_settle:=f59,fd_settle:=fdA "settle" s_settle (.ref T59) kV59 dc59 pm59 an59 cd59 ct59,f_law:=f60,fd_law:=fdA "law" s_law .none kV60 dc60 pm60 an60 cd60 ct60 },{
  d_l_cell_at:=defok_mk X G a0 l0 c0 k0 fun _ _ _ _ _ _ us hl=>by obtain ⟨_,⟨_,rfl⟩⟩:=us2 hl; rfl,
  d_l_first:=defok_mk X G a1 l1 c1 k1 fun _ _ _ _ _ _ us hl=>by obtain ⟨_,rfl⟩:=us1 hl; rfl,
  d_l_form:=defok_mk X G a2 l2 c2 k2 fun _ _ _ _ _ _ us hl=>by obtain ⟨_,rfl⟩:=us1 hl; rfl,
  d_l_text:=defok_mk X G a3 l3 c3 k3 fun _ _ _ _ _ _ us hl=>by obtain ⟨_,⟨_,⟨_,rfl⟩⟩⟩:=us3 hl; rfl,
  d_l_saying:=defok_mk X G a4 l4 c4 k4 fun _ _ _ _ _ _ us hl=>by obtain ⟨_,⟨_,rfl⟩⟩:=us2 hl; rfl,
  d_l_stream:=defok_mk X G a5 l5 c5 k5 fun _ _ _ _ _ _ us hl=>by obtain ⟨_,⟨_,rfl⟩⟩:=us2 hl; rfl,
  d_l_word:=defok_mk X G a6 l6 c6 k6 fun _ _ _ _ _ _ us hl=>by obtain ⟨_,⟨_,rfl⟩⟩:=us2 hl; rfl,
  d_l_book:=defok_mk X G a7 l7 c7 k7 fun _ _ _ _ _ _ us hl=>by obtain ⟨_,⟨_,rfl⟩⟩:=us2 hl; rfl,
  d_l_short:=defok_mk X G a8 l8 c8 k8 fun _ _ _ _ _ _ us hl=>by obtain ⟨_,⟨_,rfl⟩⟩:=us2 hl; rfl,
  d_l_behind:=defok_mk X G a9 l9 c9 k9 fun _ _ _ _ _ _ us hl=>by obtain ⟨_,⟨_,⟨_,rfl⟩⟩⟩:=us3 hl; rfl,
  d_l_from:=defok_mk X G a10 l10 c10 k10 fun _ _ _ _ _ _ us hl=>by obtain ⟨_,⟨_,⟨_,rfl⟩⟩⟩:=us3 hl; rfl,
  d_l_spots:=defok_mk X G a11 l11 c11 k11 fun _ _ _ _ _ _ us hl=>by obtain ⟨_,⟨_,⟨_,rfl⟩⟩⟩:=us3 hl; rfl,
  d_l_said:=defok_mk X G a12 l12 c12 k12 fun _ _ _ _ _ _ us hl=>by obtain ⟨_,⟨_,⟨_,rfl⟩⟩⟩:=us3 hl; rfl,
  d_l_widest:=defok_mk X G a13 l13 c13 k13 fun _ _ _ _ _ _ us hl=>by obtain ⟨_,⟨_,rfl⟩⟩:=us2 hl; rfl,
  d_l_borne:=defok_mk X G a14 l14 c14 k14 fun _ _ _ _ _ _ us hl=>by obtain ⟨_,⟨_,rfl⟩⟩:=us2 hl; rfl,
  d_l_elder:=defok_mk X G a15 l15 c15 k15 fun _ _ _ _ _ _ us hl=>by obtain ⟨_,rfl⟩:=us1 hl; rfl,
  d_l_whole:=defok_mk X G a16 l16 c16 k16 fun _ _ _ _ _ _ us hl=>by obtain ⟨_,rfl⟩:=us1 hl; rfl,
  d_l_place:=defok_mk X G a17 l17 c17 k17 fun _ _ _ _ _ _ us hl=>by obtain ⟨_,rfl⟩:=us1 hl; rfl,
  d_l_laid:=defok_mk X G a18 l18 c18 k18 fun _ _ _ _ _ _ us hl=>by obtain ⟨_,⟨_,rfl⟩⟩:=us2 hl; rfl,
  d_l_moved_saying:=defok_mk X G a19 l19 c19 k19 fun _ _ _ _ _ _ us hl=>by obtain ⟨_,⟨_,⟨_,rfl⟩⟩⟩:=us3 hl; rfl,
  d_l_moved:=defok_mk X G a20 l20 c20 k20 fun _ _ _ _ _ _ us hl=>by obtain ⟨_,⟨_,⟨_,rfl⟩⟩⟩:=us3 hl; rfl,
  d_l_put_in:=defok_mk X G a21 l21 c21 k21 fun _ _ _ _ _ _ us hl=>by obtain ⟨_,⟨_,⟨_,rfl⟩⟩⟩:=us3 hl; rfl,
  d_shifted:=defok_mk X G a22 l22 c22 k22 fun _ _ _ _ _ _ us hl=>by obtain ⟨_,⟨_,⟨_,rfl⟩⟩⟩:=us3 hl; rfl,
  d_saying_shifted:=defok_mk X G a23 l23 c23 k23 fun _ _ _ _ _ _ us hl=>by obtain ⟨_,⟨_,⟨_,rfl⟩⟩⟩:=us3 hl; rfl,
  d_word_shifted:=defok_mk X G a24 l24 c24 k24 fun _ _ _ _ _ _ us hl=>by obtain ⟨_,⟨_,⟨_,rfl⟩⟩⟩:=us3 hl; rfl,
  d_grown_at:=defok_mk X G a25 l25 c25 k25 fun _ _ _ _ _ _ us hl=>by obtain ⟨_,⟨_,⟨_,⟨_,rfl⟩⟩⟩⟩:=us4 hl; rfl,
  d_growth:=defok_mk X G a26 l26 c26 k26 fun _ _ _ _ _ _ us hl=>by obtain ⟨_,⟨_,rfl⟩⟩:=us2 hl; rfl,
  d_carried:=defok_mk X G a27 l27 c27 k27 fun _ _ _ _ _ _ us hl=>by obtain ⟨_,⟨_,⟨_,rfl⟩⟩⟩:=us3 hl; rfl,
  d_first_bounds:=defok_mk X G a28 l28 c28 k28 fun _ _ _ _ _ _ us hl=>by obtain ⟨_,rfl⟩:=us1 hl; rfl,
  d_first_unlike:=defok_mk X G a29 l29 c29 k29 fun _ _ _ _ _ _ us hl=>by obtain ⟨_,⟨_,rfl⟩⟩:=us2 hl; rfl,
  d_figures_of:=defok_mk X G a30 l30 c30 k30 fun _ _ _ _ _ _ us hl=>by obtain ⟨_,rfl⟩:=us1 hl; rfl,
  d_said:=defok_mk X G a31 l31 c31 k31 fun _ _ _ _ _ _ us hl=>by obtain ⟨_,⟨_,⟨_,rfl⟩⟩⟩:=us3 hl; rfl,
  d_foot_rows:=defok_mk X G a32 l32 c32 k32 fun _ _ _ _ _ _ us hl=>by obtain ⟨_,⟨_,⟨_,rfl⟩⟩⟩:=us3 hl; rfl,
  d_foot_high:=defok_mk X G a33 l33 c33 k33 fun _ _ _ _ _ _ us hl=>by obtain ⟨_,⟨_,⟨_,rfl⟩⟩⟩:=us3 hl; rfl,
  d_highs_of:=defok_mk X G a34 l34 c34 k34 fun _ _ _ _ _ _ us hl=>by obtain ⟨_,⟨_,⟨_,⟨_,rfl⟩⟩⟩⟩:=us4 hl; rfl,
  d_together:=defok_mk X G a35 l35 c35 k35 fun _ _ _ _ _ _ us hl=>by obtain ⟨_,rfl⟩:=us1 hl; rfl,
  d_next_top:=defok_mk X G a36 l36 c36 k36 fun _ _ _ _ _ _ us hl=>by obtain ⟨_,rfl⟩:=us1 hl; rfl,
  d_first_from:=defok_mk X G a37 l37 c37 k37 fun _ _ _ _ _ _ us hl=>by obtain ⟨_,⟨_,⟨_,rfl⟩⟩⟩:=us3 hl; rfl,
  d_rows_on:=defok_mk X G a38 l38 c38 k38 fun _ _ _ _ _ _ us hl=>by obtain ⟨_,⟨_,⟨_,rfl⟩⟩⟩:=us3 hl; rfl,
  d_behind:=defok_mk X G a39 l39 c39 k39 fun _ _ _ _ _ _ us hl=>by obtain ⟨_,⟨_,⟨_,rfl⟩⟩⟩:=us3 hl; rfl,
  d_later:=defok_mk X G a40 l40 c40 k40 fun _ _ _ _ _ _ us hl=>by obtain ⟨_,⟨_,rfl⟩⟩:=us2 hl; rfl,
  d_told_behind:=defok_mk X G a41 l41 c41 k41 fun _ _ _ _ _ _ us hl=>by obtain ⟨_,⟨_,⟨_,rfl⟩⟩⟩:=us3 hl; rfl,
  d_told_high:=defok_mk X G a42 l42 c42 k42 fun _ _ _ _ _ _ us hl=>by obtain ⟨_,⟨_,⟨_,⟨_,⟨_,rfl⟩⟩⟩⟩⟩:=us5 hl; rfl,
  d_told_kept:=defok_mk X G a43 l43 c43 k43 fun _ _ _ _ _ _ us hl=>by obtain ⟨_,⟨_,⟨_,rfl⟩⟩⟩:=us3 hl; rfl,
  d_wide_of:=defok_mk X G a44 l44 c44 k44 fun _ _ _ _ _ _ us hl=>by obtain ⟨_,⟨_,⟨_,rfl⟩⟩⟩:=us3 hl; rfl,
  d_told_never:=defok_mk X G a45 l45 c45 k45 fun _ _ _ _ _ _ us hl=>by obtain ⟨_,⟨_,⟨_,rfl⟩⟩⟩:=us3 hl; rfl,
  d_told_wide:=defok_mk X G a46 l46 c46 k46 fun _ _ _ _ _ _ us hl=>by obtain ⟨_,⟨_,⟨_,⟨_,rfl⟩⟩⟩⟩:=us4 hl; rfl,
  d_wides_of:=defok_mk X G a47 l47 c47 k47 fun _ _ _ _ _ _ us hl=>by obtain ⟨_,⟨_,⟨_,⟨_,rfl⟩⟩⟩⟩:=us4 hl; rfl,
  d_told_by_kind:=defok_mk X G a48 l48 c48 k48 fun _ _ _ _ _ _ us hl=>by obtain ⟨_,⟨_,⟨_,⟨_,⟨_,rfl⟩⟩⟩⟩⟩:=us5 hl; rfl,
  d_reach:=defok_mk X G a49 l49 c49 k49 fun _ _ _ _ _ _ us hl=>by obtain ⟨_,⟨_,⟨_,⟨_,⟨_,rfl⟩⟩⟩⟩⟩:=us5 hl; rfl,
  d_raise_by:=defok_mk X G a50 l50 c50 k50 fun _ _ _ _ _ _ us hl=>by obtain ⟨_,⟨_,⟨_,⟨_,⟨_,⟨_,rfl⟩⟩⟩⟩⟩⟩:=us6 hl; rfl,
  d_raise_kept:=defok_mk X G a51 l51 c51 k51 fun _ _ _ _ _ _ us hl=>by obtain ⟨_,⟨_,⟨_,⟨_,rfl⟩⟩⟩⟩:=us4 hl; rfl,
  d_stands_beyond:=defok_mk X G a52 l52 c52 k52 fun _ _ _ _ _ _ us hl=>by obtain ⟨_,⟨_,rfl⟩⟩:=us2 hl; rfl,
  d_too_high_from:=defok_mk X G a53 l53 c53 k53 fun _ _ _ _ _ _ us hl=>by obtain ⟨_,⟨_,⟨_,⟨_,rfl⟩⟩⟩⟩:=us4 hl; rfl,
  d_too_wide_from:=defok_mk X G a54 l54 c54 k54 fun _ _ _ _ _ _ us hl=>by obtain ⟨_,⟨_,⟨_,⟨_,rfl⟩⟩⟩⟩:=us4 hl; rfl,
  d_reason_for:=defok_mk X G a55 l55 c55 k55 fun _ _ _ _ _ _ us hl=>by obtain ⟨_,⟨_,⟨_,⟨_,rfl⟩⟩⟩⟩:=us4 hl; rfl,
  d_raise_word:=defok_mk X G a56 l56 c56 k56 fun _ _ _ _ _ _ us hl=>by obtain ⟨_,⟨_,⟨_,⟨_,⟨_,rfl⟩⟩⟩⟩⟩:=us5 hl; rfl,
  d_raise_from:=defok_mk X G a57 l57 c57 k57 fun _ _ _ _ _ _ us hl=>by obtain ⟨_,⟨_,⟨_,⟨_,⟨_,rfl⟩⟩⟩⟩⟩:=us5 hl; rfl,
  d_sizes_under:=defok_mk X G a58 l58 c58 k58 fun _ _ _ _ _ _ us hl=>by obtain ⟨_,⟨_,rfl⟩⟩:=us2 hl; rfl,
  d_settle:=defokV_mk X G a59 l59 c59 k59 lt59 (fun _ _ _ _ _ _ us hl=>by obtain ⟨_,⟨_,rfl⟩⟩:=us2 hl; exact ⟨_,rfl,rfl⟩) (fun _ _ _ _ _ _ us hl=>by obtain ⟨_,rfl⟩:=us1 (Nat.succ.inj hl); exact ⟨_,rfl,rfl⟩),
  d_law:=defok_mk X G a60 l60 c60 k60 fun _ _ _ _ _ _ us hl=>by obtain ⟨_,rfl⟩:=us1 hl; rfl,
  z_all:=PySem.W.mg_none_of X G z_all,
  z_any:=PySem.W.mg_none_of X G z_any,
  z_bool:=PySem.W.mg_none_of X G z_bool,
  z_enumerate:=PySem.W.mg_none_of X G z_enumerate,
  z_int:=PySem.W.mg_none_of X G z_int,
  z_isinstance:=PySem.W.mg_none_of X G z_isinstance,
  z_len:=PySem.W.mg_none_of X G z_len,
  z_list:=PySem.W.mg_none_of X G z_list,
  z_max:=PySem.W.mg_none_of X G z_max,
  z_min:=PySem.W.mg_none_of X G z_min,
  z_range:=PySem.W.mg_none_of X G z_range,
  z_str:=PySem.W.mg_none_of X G z_str,
  z_sum:=PySem.W.mg_none_of X G z_sum,
  z_tuple:=PySem.W.mg_none_of X G z_tuple,
  z_zip:=PySem.W.mg_none_of X G z_zip }⟩
theorem walk {l:PySem.W.OpenLaw} {q:Program} {loose:List Str} {XP:(Str→Option Value)→Heap→Prop} {YP:World→Heap→Prop} {d:DefRec} {K:Params→PySem.W.Frag} (hn:l.most=some 63) (hdf:d.params.defaults=[]) (hnm:d.name = "law")
  (hY:∀ (w:World) (h:Heap),YP w h→(K w.params).In h)
  (F:∀ (w:World) (mg:Str→Option Value) (h:Heap),(K w.params).In h→h.Ns mainGlobals mg→∃ a:Adr,Txt l.prog w (K w.params) mg a) :
  PySem.W.WalkO q loose XP YP l.row.toRowW d [] (fun f vs=>PySem.call f vs):=
 L2.walk_of (n:=63) (k:=12) (x := "script") (CX:=fun _=>CX0) (sp:=fun w=>sp_law (K w.params)) hn (by decide) hdf ⟨rfl,by decide,by decide⟩ hY (fun w mg fa h KX G hmg=>by
  obtain ⟨a,T⟩:=F w mg h KX G
  have e0:=hmg.symm.trans (hnm ▸ T.d_law.mg)
  cases e0
  refine ⟨a.fd_law,fun s u=>.of_eq (T.d_law.ba [u] rfl),fun base _ _=>ok_law T⟩) (fun _ _ a ns hl _ hS=>⟨a,ns,rfl,hS,hl,fun _=>rfl⟩) fun _ _ _ _ _ z=>z
end K52
open PySem PySem.W PyProof.Rows
set_option maxRecDepth 100000 in
set_option maxHeartbeats 0 in
theorem PySem.Challenge.cw_trueleaf_k52_whole_carried_bounds_lead_t_holds : PySem.Challenge.rw_trueleaf_k52_whole_carried_bounds_lead_t.Holds := by
 w_on; o_law
 refine holds_open (q:=K52.vw) (loose:=K52.ls) (Xt:=K52.xt) (XP:=XL K52.vw []) (Yf:=Hook.obs K52.hk) (Ya:=Hook.val K52.hk) (YP:=InK K52.kk) K52.left
  (Hook.of K52.hk) (Hook.keeps K52.hk) (fun s e=>xl_of s (Bool.and_eq_true_iff.mp e).1) XL.keeps (by rfl) (by rfl) (by rfl)
  (fun s e=>recFacts_of (Bool.and_eq_true_iff.mp e).2) (by rfl) (by assumption) (by decide +kernel) ⟨rfl,rfl,rfl,rfl,rfl,by decide +kernel⟩ ?hw ?hc
 (case hw=>w_witness2)
 k_fill
 refine K52.walk (l:=PySem.Challenge.rw_trueleaf_k52_whole_carried_bounds_lead_t) rfl rfl rfl (fun w h Y=>Y) ?F
 case F =>
  intro w mg h KX G
  refine' K52.txt_mk KX G ?a0 ?l0 ?c0 ?k0 ?a1 ?l1 ?c1 ?k1 ?a2 ?l2 ?c2 ?k2 ?a3 ?l3 ?c3 ?k3 ?a4 ?l4 ?c4 ?k4 ?a5 ?l5 ?c5 ?k5 ?a6 ?l6 ?c6 ?k6 ?a7 ?l7 ?c7 ?k7 ?a8 ?l8 ?c8 ?k8 ?a9 ?l9 ?c9 ?k9 ?a10 ?l10 ?c10 ?k10 ?a11 ?l11 ?c11 ?k11 ?a12 ?l12 ?c12 ?k12 ?a13 ?l13 ?c13 ?k13 ?a14 ?l14 ?c14 ?k14 ?a15 ?l15 ?c15 ?k15 ?a16 ?l16 ?c16 ?k16 ?a17 ?l17 ?c17 ?k17 ?a18 ?l18 ?c18 ?k18 ?a19 ?l19 ?c19 ?k19 ?a20 ?l20 ?c20 ?k20 ?a21 ?l21 ?c21 ?k21 ?a22 ?l22 ?c22 ?k22 ?a23 ?l23 ?c23 ?k23 ?a24 ?l24 ?c24 ?k24 ?a25 ?l25 ?c25 ?k25 ?a26 ?l26 ?c26 ?k26 ?a27 ?l27 ?c27 ?k27 ?a28 ?l28 ?c28 ?k28 ?a29 ?l29 ?c29 ?k29 ?a30 ?l30 ?c30 ?k30 ?a31 ?l31 ?c31 ?k31 ?a32 ?l32 ?c32 ?k32 ?a33 ?l33 ?c33 ?k33 ?a34 ?l34 ?c34 ?k34 ?a35 ?l35 ?c35 ?k35 ?a36 ?l36 ?c36 ?k36 ?a37 ?l37 ?c37 ?k37 ?a38 ?l38 ?c38 ?k38 ?a39 ?l39 ?c39 ?k39 ?a40 ?l40 ?c40 ?k40 ?a41 ?l41 ?c41 ?k41 ?a42 ?l42 ?c42 ?k42 ?a43 ?l43 ?c43 ?k43 ?a44 ?l44 ?c44 ?k44 ?a45 ?l45 ?c45 ?k45 ?a46 ?l46 ?c46 ?k46 ?a47 ?l47 ?c47 ?k47 ?a48 ?l48 ?c48 ?k48 ?a49 ?l49 ?c49 ?k49 ?a50 ?l50 ?c50 ?k50 ?a51 ?l51 ?c51 ?k51 ?a52 ?l52 ?c52 ?k52 ?a53 ?l53 ?c53 ?k53 ?a54 ?l54 ?c54 ?k54 ?a55 ?l55 ?c55 ?k55 ?a56 ?l56 ?c56 ?k56 ?a57 ?l57 ?c57 ?k57 ?a58 ?l58 ?c58 ?k58 ?a59 ?l59 ?c59 ?k59 ?lt59 ?a60 ?l60 ?c60 ?k60 ?z_all ?z_any ?z_bool ?z_enumerate ?z_int ?z_isinstance ?z_len ?z_list ?z_max ?z_min ?z_range ?z_str ?z_sum ?z_tuple ?z_zip
  (case a0 | l0 | c0 | k0 | a1 | l1 | c1 | k1 | a2 | l2 | c2 | k2 | a3 | l3 | c3 | k3 | a4 | l4 | c4 | k4 | a5 | l5 | c5 | k5 | a6 | l6 | c6 | k6 | a7 | l7 | c7 | k7 | a8 | l8 | c8 | k8 | a9 | l9 | c9 | k9 | a10 | l10 | c10 | k10 | a11 | l11 | c11 | k11 | a12 | l12 | c12 | k12 | a13 | l13 | c13 | k13 | a14 | l14 | c14 | k14 | a15 | l15 | c15 | k15 | a16 | l16 | c16 | k16 | a17 | l17 | c17 | k17 | a18 | l18 | c18 | k18 | a19 | l19 | c19 | k19 | a20 | l20 | c20 | k20 | a21 | l21 | c21 | k21 | a22 | l22 | c22 | k22 | a23 | l23 | c23 | k23 | a24 | l24 | c24 | k24 | a25 | l25 | c25 | k25 | a26 | l26 | c26 | k26 | a27 | l27 | c27 | k27 | a28 | l28 | c28 | k28 | a29 | l29 | c29 | k29 | a30 | l30 | c30 | k30 | a31 | l31 | c31 | k31 | a32 | l32 | c32 | k32 | a33 | l33 | c33 | k33 | a34 | l34 | c34 | k34 | a35 | l35 | c35 | k35 | a36 | l36 | c36 | k36 | a37 | l37 | c37 | k37 | a38 | l38 | c38 | k38 | a39 | l39 | c39 | k39 | a40 | l40 | c40 | k40 | a41 | l41 | c41 | k41 | a42 | l42 | c42 | k42 | a43 | l43 | c43 | k43 | a44 | l44 | c44 | k44 | a45 | l45 | c45 | k45 | a46 | l46 | c46 | k46 | a47 | l47 | c47 | k47 | a48 | l48 | c48 | k48 | a49 | l49 | c49 | k49 | a50 | l50 | c50 | k50 | a51 | l51 | c51 | k51 | a52 | l52 | c52 | k52 | a53 | l53 | c53 | k53 | a54 | l54 | c54 | k54 | a55 | l55 | c55 | k55 | a56 | l56 | c56 | k56 | a57 | l57 | c57 | k57 | a58 | l58 | c58 | k58 | a59 | l59 | c59 | k59 | lt59 | a60 | l60 | c60 | k60 | z_all | z_any | z_bool | z_enumerate | z_int | z_isinstance | z_len | z_list | z_max | z_min | z_range | z_str | z_sum | z_tuple | z_zip=>(first | k_is | (delta K52.Na; k_is) | (delta K52.Lk K52.fdA; k_is) | (delta K52.Cd; k_is) | (delta K52.Kp; k_is) | (delta K52.Zn; k_is)))
