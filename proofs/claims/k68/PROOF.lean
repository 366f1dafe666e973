import PyProof.Rows.All
import Wide.All
import OpenK.AllK
import Wide.FinOn
import Lean
import PyProof.EqAt
import PyProof.EqKinds
import PyProof.TupleCall
import PyProof.NeKinds
import KE.LcSums
import PyProof.ExcBaseAll.ValueError
import KE.KTryMore
import KE.RegKTryMore
import PyProof.StrLawsRepr
import PyProof.ReprStr
import PyProof.EnumMake
import PyProof.EnumFor
import KE.KEqDict
import PyProof.Rows.Range3
import PyProof.SumWalkG
import PyProof.ZipIter
import PySem.Challenge.RW_trueleaf_k68_whole_pages_tell_the_truth
set_option Elab.async false
set_option linter.all false
set_option maxRecDepth 100000
set_option maxHeartbeats 4000000
open List renaming getElem?_eq_getElem→c7,length_map→B3,getD_eq_getElem?_getD→B6,getElem?_map→B_,length_append→Ca,getElem?_append_left→Ce,mem_of_getElem?→Cg,map_append→Ch,size_toArray→Ci,getElem?_append_right→Cj,mem_cons_of_mem→Ck,replicate→Co,mem_cons_self→Cp,length_cons→CA,length_take→CB,mem_append_right→CQ,length_singleton→CS,getElem_mem→CV,length_replicate→C0,append_nil→C4,take_length→C8,mem_append_left→C9,mem_of_mem_take→Dg,map_cons→Dh,sum_cons→Di,replicate_succ→Dk,take_of_length_le→Dv,mem_of_mem_drop→DC,flatten_cons→DD,append_assoc→DE,range→DF,length_nil→DG,drop_of_length_le→DJ,map_singleton→DM,map_map→DS,eq_of_mem_replicate→DV,getElem?_range→DW,eq_nil_of_length_eq_zero→DZ,sum_append→D9,getElem?_eq_none→Ea,flatten_append→En,getElem?_take_of_lt→Eo,length_set→Ep,any_append→Er,zip_cons_cons→Es,getElem?_replicate→Et,foldl_cons→EQ,filterMap_cons→EU,foldl_append→E9,length_range→Fa,all_cons→Fc,map_take→Fe,map_drop→Ff,any_eq_true→Fm,toArray→Fn,map_nil→Fq,any_map→Fx,of_mem_zip→Fz,any_cons→FI,foldl→F9
open Nat renaming le_refl→B4,lt_of_lt_of_le→B7,ne_of_lt→Cn,zero_le→Cv,not_lt_zero→Cy,lt_irrefl→CI,le_add_right→CN,lt_of_succ_lt→C2,ne_of_gt→Dl,lt_succ_self→Dp,le_trans→Ds,sub_self→DT,add_sub_cancel→D5,succ_pos→D6,lt_succ_of_lt→Ef,lt_trans→Ej,le_succ→Ew,lt_or_ge→EA,min_eq_left→ES,le_of_lt→EW,lt_of_le_of_lt→E1,mul_le_mul→E3,add_assoc→Fg,le_of_not_lt→Fi,min_eq_right→Fk,add_comm→Fu,toDigits→Fv,add_mul→FY
open PySem renaming Value→B5,wpAny_bind→B8,Shared→B9,FuncData→Cf,sizeLine→Cr,wpAny_pure→Cs,wpAny→Cz,model→CF,World→CG,starEach→CJ,Program→CK,Params→CM,Around→CY,DictEntry→C6,compareOp→C7,mainGlobals→Db,wpAny_truthy_bool→Dc,wpAny_updateSeq→Dm,wpAny_mono→Dn,IsPair→Do,OsState→Dq,wpAny_holding→Dr,plainId_quiet→DA,wpAny_seqItems→DB,codeAny_builtin→DI,wpAny_tryCatch→DN,wpAny_passesOwn→DQ,bootBuiltins→DR,richCompare→D0,wpAny_letGo→D1,wpAny_Call_Name_kw→D3,wpAny_loadPart'→D8,ZipApart→D_,wpAny_pyIter_list→Ec,foldedSetIterable→Ed,codeAny→Ee,binaryOp→Eg,wpAny_field→Eh,pyNext→El,sliceBounds→Eu,wpAny_newObj_type→Ey,argBest→Ez,call_meets→EF,seqItems?→EG,updateSeq→EH,importedModules→EJ,backTo→EK,wpAny_execs_nil→EL,letOwnedTupleGo→EM,rawInt→EN,relabel→EY,assignEach→EZ,behindInMarks→Fb,wpAny_pyIter_zip→Fl,typeIs_str→Fs,cLine→Fy,bindArgs→FA,NameKind→FB,loadIfAlive→FD,callerA→FG,wpAny_standAt→FH,builtinsNs→FJ,assign→FL,Result→FM,holding→FP,codeAny_mono→FR,seqIndex_neg→FS,swapsWith→FV,seqIndex_of→FX,Keyword→FZ,Builtin→F0,wpAny_Name→F4,bindL→F5,bindC→F6,typeLookup→F7,typeIs_int→F8
open Or renaming inl→Cb,inr→Ex
open PySem.Heap renaming lt_size→Cc,get?_push_of_some→Cd,get?_update_other→Cq,get?_push_size→Cu,get?_update_self→C3,size_push→Du,size_update→EI,SameBut→EX
open Bool renaming false_ne_true→Cm,false_eq_true→DO,and_eq_true→Ei,eq_iff_iff→EO
open PySem.PassesOwn renaming never→Ct
open Option.some renaming inj→Cw
open Int renaming le_refl→CC,eq_ofNat_of_zero_le→CP,emod_lt_of_pos→CZ,emod_nonneg→C5,le_trans→Dj,toNat_natCast→Dt,mul_le_mul_of_nonneg_right→Dy,zero_add→D4,add_mul→E_,add_zero→Fw,mul_nonneg→FC,le_of_eq→FT
open PyProof.Rows renaming boot_isinstance→CD,boot_max→C1,callWith_type1→Dd,boot_list→Dw,boot_str→Dx,IntsAre→Dz,boot_int→DP,boot_min→Eb,boot_sum→EB,boot_any→EC,kindOf→EE,AllBare→E6,envOfC→Fp
open Ne renaming symm→CO
open PySem.Obj renaming mapSeq→CT
open PySem.Builtin.SmallTypes renaming ownedTupleIsFree→CU,nextOf→Ek
open PySem.F renaming plain_max_loop→CW,entry_max_loop→DY,plain_extend_loop→Em,slot_zip_next→ET,args_str_split_2→E2,entry_str_split→E8,slot_str_split→Fj
open Array renaming getElem?_eq_getElem→C_,mk→Da,getElem?_eq_none→D7,toList→FQ
open PySem.Around renaming under_plainId→Df
open PySem.Builtin.Builtins renaming bindParams→DK
open PySem.Builtin.List renaming listExtendWith→DL,listTooLong→DU
open ToString renaming toString→DX
open False renaming elim→D2
open PySem.Builtin.Str renaming occurrences→Ev
open PySem.Value renaming none→ED,ref→Fh,type→Fo,bool→FK,int→FU
open ForInStep renaming yield→ER
open PySem.Str renaming ofString→EV,join→F_
open MonadExcept renaming tryCatch→E4
open Option renaming some→E5
open PyProof.Rows.LCg renaming lst→E7
open PySem.NameKind renaming free→Fd
open Sum renaming inl→FE,inr→FF
open PySem.SeqAt renaming EqAt→FN
open PySem.Walks renaming list→FO
open LawfulBEq renaming eq_of_beq→FW
open Prod renaming ext→F3
namespace L2
open PySem
def cA(s:Stmt):Arguments:=match s with
 |.FunctionDef _ a _ _ _ _ _ _ _ _=>a
 |_=>{ posonlyargs:=[],args:=[],vararg:=none,kwonlyargs:=[],kw_defaults:=[],kwarg:=none,defaults:=[] }
def cc(s:Stmt):List Stmt:=match s with
 |.FunctionDef _ _ b _ _ _ _ _ _ _=>b
 |_=>[]
def aw(s:Stmt):Scope:=match s with
 |.FunctionDef _ _ _ _ _ _ sc _ _ _=>sc
 |_=>{ kind:=.function,names:=[],isGenerator:=false,isCoroutine:=false }

end L2
namespace K68
open PySem PySem.W L2 PyProof.Rows
noncomputable def top(i:Nat):Stmt:=PySem.Challenge.pw_trueleaf_k68_whole_pages_tell_the_truth.main.body.getD i (.Pass ⟨0,0,0,0⟩)
set_option maxHeartbeats 0 in
theorem wsL:PySem.Challenge.rw_trueleaf_k68_whole_pages_tell_the_truth.wellSaid=true:=by kernel_rfl
set_option maxHeartbeats 0 in
theorem wsR:PySem.Challenge.rw_trueleaf_k68_whole_pages_tell_the_truth.row.wellSaid=true:=by kernel_rfl
noncomputable abbrev os(s:String):Str:=EV s
noncomputable abbrev kh(P:CM)(s:Str):Int:=PyData.keyHash P s
noncomputable abbrev fO(n:String)(i:Nat)(d:B5)(m:String)(k:Nat)(r:Addr):Obj:=⟨.type "function",none,.func (fnOf (os n) (os n) (cA (top i)) (cc (top i)) (aw (top i)) d .none .none (.str (os m) k) none (.ref r) .none),#[]⟩
noncomputable abbrev sv(s:String)(k:Nat):B5:=.str (os s) k
noncomputable abbrev dE(P:CM)(s:String)(k:Nat)(v:B5):C6:=⟨kh P (os s),.str (os s) k,v⟩
noncomputable abbrev cV(n q:String)(a b c:Nat)(l1 l2 l5:Int)(r0:Addr)(m:Int)(r1:Addr)(v0 v1 v2 v3:B5)(x y:Int)(d:Nat):Obj:=⟨.type "code",none,.fields #[.str (os n) a,.str (os q) b,.str (os "/claim/cut.py") c,.int l1 0,.int l2 0,.int 0 0,.int 0 0,.int l5 0,.ref r0,.bool true,.int m 0,.ref r1,v0,v1,v2,v3,.int x 0,.int y 0,.str (os "/claim/cut.py") d],#[]⟩
noncomputable abbrev gA(n q:String)(s:Stmt):Obj:=⟨.none,none,.func (FuncData.mk (os n) (os q) (cA s) (FuncBody.stmts (cc s)) (aw s) 0 [] .none .none .none .none none .none .none 0),#[]⟩
noncomputable def kk:CM->Frag:=λP=>(nat_lit 2,⟨(.none),none,.dict ([]).toArray 0,#[]⟩)::
 (nat_lit 3,⟨(.type "dict"),none,.dict (Fn (dE P "__name__" 165 (sv "law_trueleaf_k68_whole_pages_tell_the_truth" 521)::dE P "__doc__" 166 (.none)::dE P "__package__" 167 (.none)::dE P "__loader__" 168 (.builtin "__main__.__loader__#opaque")::dE P "__spec__" 169 (.none)::dE P "__annotations__" 170 (.ref 6)::dE P "__builtins__" 171 (.ref 4)::dE P "__file__" 173 (sv "/claim/cut.py" 172)::dE P "__cached__" 174 (.none)::dE P "figures_of" 195 (.ref 21)::dE P "later" 205 (.ref 28)::dE P "behind" 214 (.ref 35)::dE P "first_from" 223 (.ref 42)::dE P "rows_on" 233 (.ref 49)::dE P "next_top" 240 (.ref 56)::dE P "said" 252 (.ref 63)::dE P "wide_of" 261 (.ref 70)::dE P "together" 268 (.ref 77)::dE P "foot_rows" 280 (.ref 84)::dE P "foot_high" 286 (.ref 89)::dE P "first_bounds" 295 (.ref 96)::dE P "reach" 307 (.ref 103)::dE P "told_by_kind" 318 (.ref 110)::dE P "wides_of" 324 (.ref 115)::dE P "highs_of" 330 (.ref 120)::dE P "told_behind" 342 (.ref 127)::dE P "told_wide" 353 (.ref 134)::dE P "told_high" 365 (.ref 141)::dE P "told_kept" 376 (.ref 148)::dE P "told_never" 387 (.ref 155)::dE P "settle" 395 (.ref 161)::dE P "stands_beyond" 403 (.ref 168)::dE P "sizes_under" 412 (.ref 175)::dE P "first_unlike" 421 (.ref 182)::dE P "raise_from" 433 (.ref 189)::dE P "raise_word" 445 (.ref 196)::dE P "raise_by" 458 (.ref 203)::dE P "raise_kept" 469 (.ref 210)::dE P "reason_for" 481 (.ref 217)::dE P "too_wide_from" 493 (.ref 224)::dE P "too_high_from" 506 (.ref 231)::dE P "pages_of" 514 (.ref 236)::dE P "page_rows" 520 (.ref 241)::dE P "_law_cell_at" 530 (.ref 248)::dE P "_law_mixed" 537 (.ref 255)::dE P "_law_first" 546 (.ref 262)::dE P "_law_signs" 552 (.ref 267)::dE P "_law_said_by" 563 (.ref 274)::dE P "_law_high_by" 576 (.ref 281)::dE P "_law_behind_by" 589 (.ref 288)::dE P "_law_sooner" 597 (.ref 295)::dE P "_law_numbers" 610 (.ref 302)::dE P "_law_rising" 628 (.ref 309)::dE P "_law_some" 639 (.ref 316)::dE P "_law_parts" 645 (.ref 321)::dE P "_law_sizes" 651 (.ref 326)::dE P "_law_fitting" 657 (.ref 331)::dE P "_law_let" 668 (.ref 338)::dE P "_law_words" 674 (.ref 343)::dE P "_law_drawn" 680 (.ref 348)::dE P "_law_is_place" 688 (.ref 355)::dE P "_law_is_pages" 694 (.ref 360)::dE P "_law_truly" 706 (.ref 367)::dE P "_law_words_read" 723 (.ref 374)::dE P "_law_feet_read" 729 (.ref 379)::dE P "_law_laid" 740 (.ref 386)::dE P "law" 746 (.ref 391)::[])) 67,#[]⟩) ::
 (nat_lit 20,cV "figures_of" "figures_of" 189 190 191 2 1 3 15 181 16 .none (.ref 17) (.ref 18) (.ref 19) 193 2 194) ::
 (nat_lit 21,fO "figures_of" 1 (.none) "trueleaf.signs" 187 20) ::
 (nat_lit 27,cV "later" "later" 198 199 200 5 2 3 22 181 23 .none (.ref 24) (.ref 25) (.ref 26) 203 5 204) ::
 (nat_lit 28,fO "later" 3 (.none) "trueleaf.places" 196 27) ::
 (nat_lit 34,cV "behind" "behind" 206 207 208 7 3 3 29 181 30 .none (.ref 31) (.ref 32) (.ref 33) 212 7 213) ::
 (nat_lit 35,fO "behind" 4 (.none) "trueleaf.places" 196 34) ::
 (nat_lit 41,cV "first_from" "first_from" 215 216 217 15 3 3 36 181 37 .none (.ref 38) (.ref 39) (.ref 40) 221 15 222) ::
 (nat_lit 42,fO "first_from" 5 (.none) "trueleaf.places" 196 41) ::
 (nat_lit 48,cV "rows_on" "rows_on" 224 225 226 19 3 3 43 181 44 .none (.ref 45) (.ref 46) (.ref 47) 231 19 232) ::
 (nat_lit 49,fO "rows_on" 6 (.none) "trueleaf.places" 196 48) ::
 (nat_lit 55,cV "next_top" "next_top" 234 235 236 24 1 3 50 181 51 .none (.ref 52) (.ref 53) (.ref 54) 238 24 239) ::
 (nat_lit 56,fO "next_top" 7 (.none) "trueleaf.places" 196 55) ::
 (nat_lit 62,cV "said" "said" 243 244 245 27 3 3 57 181 58 .none (.ref 59) (.ref 60) (.ref 61) 250 27 251) ::
 (nat_lit 63,fO "said" 9 (.none) "trueleaf.widths" 241 62) ::
 (nat_lit 69,cV "wide_of" "wide_of" 253 254 255 34 3 3 64 181 65 .none (.ref 66) (.ref 67) (.ref 68) 259 34 260) ::
 (nat_lit 70,fO "wide_of" 10 (.none) "trueleaf.widths" 241 69) ::
 (nat_lit 76,cV "together" "together" 262 263 264 36 1 3 71 181 72 .none (.ref 73) (.ref 74) (.ref 75) 266 36 267) ::
 (nat_lit 77,fO "together" 11 (.none) "trueleaf.widths" 241 76) ::
 (nat_lit 83,cV "foot_rows" "foot_rows" 269 270 271 38 3 3 78 181 79 .none (.ref 80) (.ref 81) (.ref 82) 278 38 279) ::
 (nat_lit 84,fO "foot_rows" 12 (.none) "trueleaf.widths" 241 83) ::
 (nat_lit 88,cV "foot_high" "foot_high" 281 282 283 47 3 3 85 181 86 .none .none .none (.ref 87) 284 47 285) ::
 (nat_lit 89,fO "foot_high" 13 (.none) "trueleaf.widths" 241 88) ::
 (nat_lit 95,cV "first_bounds" "first_bounds" 289 290 291 53 1 3 90 181 91 .none (.ref 92) (.ref 93) (.ref 94) 293 53 294) ::
 (nat_lit 96,fO "first_bounds" 15 (.none) "trueleaf.bounds" 287 95) ::
 (nat_lit 102,cV "reach" "reach" 296 297 298 55 5 3 97 181 98 .none (.ref 99) (.ref 100) (.ref 101) 305 55 306) ::
 (nat_lit 103,fO "reach" 16 (.none) "trueleaf.bounds" 287 102) ::
 (nat_lit 109,cV "told_by_kind" "told_by_kind" 308 309 310 60 5 3 104 181 105 .none (.ref 106) (.ref 107) (.ref 108) 316 60 317) ::
 (nat_lit 110,fO "told_by_kind" 17 (.none) "trueleaf.bounds" 287 109) ::
 (nat_lit 114,cV "wides_of" "wides_of" 319 320 321 72 4 3 111 181 112 .none .none .none (.ref 113) 322 72 323) ::
 (nat_lit 115,fO "wides_of" 18 (.none) "trueleaf.bounds" 287 114) ::
 (nat_lit 119,cV "highs_of" "highs_of" 325 326 327 74 4 3 116 181 117 .none .none .none (.ref 118) 328 74 329) ::
 (nat_lit 120,fO "highs_of" 19 (.none) "trueleaf.bounds" 287 119) ::
 (nat_lit 126,cV "told_behind" "told_behind" 331 332 333 76 3 3 121 181 122 .none (.ref 123) (.ref 124) (.ref 125) 340 76 341) ::
 (nat_lit 127,fO "told_behind" 20 (.none) "trueleaf.bounds" 287 126) ::
 (nat_lit 133,cV "told_wide" "told_wide" 343 344 345 83 4 3 128 181 129 .none (.ref 130) (.ref 131) (.ref 132) 351 83 352) ::
 (nat_lit 134,fO "told_wide" 21 (.none) "trueleaf.bounds" 287 133) ::
 (nat_lit 140,cV "told_high" "told_high" 354 355 356 88 5 3 135 181 136 .none (.ref 137) (.ref 138) (.ref 139) 363 88 364) ::
 (nat_lit 141,fO "told_high" 22 (.none) "trueleaf.bounds" 287 140) ::
 (nat_lit 147,cV "told_kept" "told_kept" 366 367 368 93 3 3 142 181 143 .none (.ref 144) (.ref 145) (.ref 146) 374 93 375) ::
 (nat_lit 148,fO "told_kept" 23 (.none) "trueleaf.bounds" 287 147) ::
 (nat_lit 154,cV "told_never" "told_never" 377 378 379 99 3 3 149 181 150 .none (.ref 151) (.ref 152) (.ref 153) 385 99 386) ::
 (nat_lit 155,fO "told_never" 24 (.none) "trueleaf.bounds" 287 154) ::
 (nat_lit 156,⟨(.type "tuple"),none,(.seq #[.none]),#[]⟩) ::
 (nat_lit 160,cV "settle" "settle" 390 391 392 106 2 3 157 181 158 .none .none .none (.ref 159) 393 106 394) ::
 (nat_lit 161,fO "settle" 26 (.ref 156) "trueleaf.settle" 388 160) ::
 (nat_lit 167,cV "stands_beyond" "stands_beyond" 396 397 398 122 2 3 162 181 163 .none (.ref 164) (.ref 165) (.ref 166) 401 122 402) ::
 (nat_lit 168,fO "stands_beyond" 27 (.none) "trueleaf.settle" 388 167) ::
 (nat_lit 174,cV "sizes_under" "sizes_under" 404 405 406 124 2 3 169 181 170 .none (.ref 171) (.ref 172) (.ref 173) 410 124 411) ::
 (nat_lit 175,fO "sizes_under" 28 (.none) "trueleaf.settle" 388 174) ::
 (nat_lit 181,cV "first_unlike" "first_unlike" 413 414 415 127 2 3 176 181 177 .none (.ref 178) (.ref 179) (.ref 180) 419 127 420) ::
 (nat_lit 182,fO "first_unlike" 29 (.none) "trueleaf.settle" 388 181) ::
 (nat_lit 188,cV "raise_from" "raise_from" 422 423 424 132 5 3 183 181 184 .none (.ref 185) (.ref 186) (.ref 187) 431 132 432) ::
 (nat_lit 189,fO "raise_from" 30 (.none) "trueleaf.settle" 388 188) ::
 (nat_lit 195,cV "raise_word" "raise_word" 434 435 436 140 5 3 190 181 191 .none (.ref 192) (.ref 193) (.ref 194) 443 140 444) ::
 (nat_lit 196,fO "raise_word" 31 (.none) "trueleaf.settle" 388 195) ::
 (nat_lit 202,cV "raise_by" "raise_by" 446 447 448 145 6 3 197 181 198 .none (.ref 199) (.ref 200) (.ref 201) 456 145 457) ::
 (nat_lit 203,fO "raise_by" 32 (.none) "trueleaf.settle" 388 202) ::
 (nat_lit 209,cV "raise_kept" "raise_kept" 459 460 461 149 4 3 204 181 205 .none (.ref 206) (.ref 207) (.ref 208) 467 149 468) ::
 (nat_lit 210,fO "raise_kept" 33 (.none) "trueleaf.settle" 388 209) ::
 (nat_lit 216,cV "reason_for" "reason_for" 470 471 472 157 4 3 211 181 212 .none (.ref 213) (.ref 214) (.ref 215) 479 157 480) ::
 (nat_lit 217,fO "reason_for" 34 (.none) "trueleaf.settle" 388 216) ::
 (nat_lit 223,cV "too_wide_from" "too_wide_from" 482 483 484 172 4 3 218 181 219 .none (.ref 220) (.ref 221) (.ref 222) 491 172 492) ::
 (nat_lit 224,fO "too_wide_from" 35 (.none) "trueleaf.settle" 388 223) ::
 (nat_lit 230,cV "too_high_from" "too_high_from" 494 495 496 181 4 3 225 181 226 .none (.ref 227) (.ref 228) (.ref 229) 504 181 505) ::
 (nat_lit 231,fO "too_high_from" 36 (.none) "trueleaf.settle" 388 230) ::
 (nat_lit 235,cV "pages_of" "pages_of" 509 510 511 192 2 3 232 181 233 .none .none .none (.ref 234) 512 192 513) ::
 (nat_lit 236,fO "pages_of" 38 (.none) "trueleaf.pages" 507 235) ::
 (nat_lit 240,cV "page_rows" "page_rows" 515 516 517 197 3 3 237 181 238 .none .none .none (.ref 239) 518 197 519) ::
 (nat_lit 241,fO "page_rows" 39 (.none) "trueleaf.pages" 507 240) ::
 (nat_lit 247,cV "_law_cell_at" "_law_cell_at" 523 524 525 208 2 3 242 181 243 .none (.ref 244) (.ref 245) (.ref 246) 528 208 529) ::
 (nat_lit 248,fO "_law_cell_at" 41 (.none) "law_trueleaf_k68_whole_pages_tell_the_truth" 521 247) ::
 (nat_lit 254,cV "_law_mixed" "_law_mixed" 531 532 533 212 1 3 249 181 250 .none (.ref 251) (.ref 252) (.ref 253) 535 212 536) ::
 (nat_lit 255,fO "_law_mixed" 42 (.none) "law_trueleaf_k68_whole_pages_tell_the_truth" 521 254) ::
 (nat_lit 261,cV "_law_first" "_law_first" 538 539 540 214 1 3 256 181 257 .none (.ref 258) (.ref 259) (.ref 260) 544 214 545) ::
 (nat_lit 262,fO "_law_first" 43 (.none) "law_trueleaf_k68_whole_pages_tell_the_truth" 521 261) ::
 (nat_lit 266,cV "_law_signs" "_law_signs" 547 548 549 224 2 3 263 181 264 .none .none .none (.ref 265) 550 224 551) ::
 (nat_lit 267,fO "_law_signs" 44 (.none) "law_trueleaf_k68_whole_pages_tell_the_truth" 521 266) ::
 (nat_lit 273,cV "_law_said_by" "_law_said_by" 553 554 555 229 3 3 268 181 269 .none (.ref 270) (.ref 271) (.ref 272) 561 229 562) ::
 (nat_lit 274,fO "_law_said_by" 45 (.none) "law_trueleaf_k68_whole_pages_tell_the_truth" 521 273) ::
 (nat_lit 280,cV "_law_high_by" "_law_high_by" 564 565 566 236 3 3 275 181 276 .none (.ref 277) (.ref 278) (.ref 279) 574 236 575) ::
 (nat_lit 281,fO "_law_high_by" 46 (.none) "law_trueleaf_k68_whole_pages_tell_the_truth" 521 280) ::
 (nat_lit 287,cV "_law_behind_by" "_law_behind_by" 577 578 579 249 3 3 282 181 283 .none (.ref 284) (.ref 285) (.ref 286) 587 249 588) ::
 (nat_lit 288,fO "_law_behind_by" 47 (.none) "law_trueleaf_k68_whole_pages_tell_the_truth" 521 287) ::
 (nat_lit 294,cV "_law_sooner" "_law_sooner" 590 591 592 260 2 3 289 181 290 .none (.ref 291) (.ref 292) (.ref 293) 595 260 596) ::
 (nat_lit 295,fO "_law_sooner" 48 (.none) "law_trueleaf_k68_whole_pages_tell_the_truth" 521 294) ::
 (nat_lit 301,cV "_law_numbers" "_law_numbers" 598 599 600 262 2 3 296 181 297 .none (.ref 298) (.ref 299) (.ref 300) 608 262 609) ::
 (nat_lit 302,fO "_law_numbers" 49 (.none) "law_trueleaf_k68_whole_pages_tell_the_truth" 521 301) ::
 (nat_lit 308,cV "_law_rising" "_law_rising" 611 612 613 273 3 3 303 181 304 .none (.ref 305) (.ref 306) (.ref 307) 626 273 627) ::
 (nat_lit 309,fO "_law_rising" 50 (.none) "law_trueleaf_k68_whole_pages_tell_the_truth" 521 308) ::
 (nat_lit 315,cV "_law_some" "_law_some" 629 630 631 296 3 3 310 181 311 .none (.ref 312) (.ref 313) (.ref 314) 637 296 638) ::
 (nat_lit 316,fO "_law_some" 51 (.none) "law_trueleaf_k68_whole_pages_tell_the_truth" 521 315) ::
 (nat_lit 320,cV "_law_parts" "_law_parts" 640 641 642 307 2 3 317 181 318 .none .none .none (.ref 319) 643 307 644) ::
 (nat_lit 321,fO "_law_parts" 52 (.none) "law_trueleaf_k68_whole_pages_tell_the_truth" 521 320) ::
 (nat_lit 325,cV "_law_sizes" "_law_sizes" 646 647 648 318 3 3 322 181 323 .none .none .none (.ref 324) 649 318 650) ::
 (nat_lit 326,fO "_law_sizes" 53 (.none) "law_trueleaf_k68_whole_pages_tell_the_truth" 521 325) ::
 (nat_lit 330,cV "_law_fitting" "_law_fitting" 652 653 654 335 5 3 327 181 328 .none .none .none (.ref 329) 655 335 656) ::
 (nat_lit 331,fO "_law_fitting" 54 (.none) "law_trueleaf_k68_whole_pages_tell_the_truth" 521 330) ::
 (nat_lit 337,cV "_law_let" "_law_let" 658 659 660 343 4 3 332 181 333 .none (.ref 334) (.ref 335) (.ref 336) 666 343 667) ::
 (nat_lit 338,fO "_law_let" 55 (.none) "law_trueleaf_k68_whole_pages_tell_the_truth" 521 337) ::
 (nat_lit 342,cV "_law_words" "_law_words" 669 670 671 350 4 3 339 181 340 .none .none .none (.ref 341) 672 350 673) ::
 (nat_lit 343,fO "_law_words" 56 (.none) "law_trueleaf_k68_whole_pages_tell_the_truth" 521 342) ::
 (nat_lit 347,cV "_law_drawn" "_law_drawn" 675 676 677 359 3 3 344 181 345 .none .none .none (.ref 346) 678 359 679) ::
 (nat_lit 348,fO "_law_drawn" 57 (.none) "law_trueleaf_k68_whole_pages_tell_the_truth" 521 347) ::
 (nat_lit 354,cV "_law_is_place" "_law_is_place" 681 682 683 371 1 3 349 181 350 .none (.ref 351) (.ref 352) (.ref 353) 686 371 687) ::
 (nat_lit 355,fO "_law_is_place" 58 (.none) "law_trueleaf_k68_whole_pages_tell_the_truth" 521 354) ::
 (nat_lit 359,cV "_law_is_pages" "_law_is_pages" 689 690 691 378 3 3 356 181 357 .none .none .none (.ref 358) 692 378 693) ::
 (nat_lit 360,fO "_law_is_pages" 59 (.none) "law_trueleaf_k68_whole_pages_tell_the_truth" 521 359) ::
 (nat_lit 366,cV "_law_truly" "_law_truly" 695 696 697 389 4 3 361 181 362 .none (.ref 363) (.ref 364) (.ref 365) 704 389 705) ::
 (nat_lit 367,fO "_law_truly" 60 (.none) "law_trueleaf_k68_whole_pages_tell_the_truth" 521 366) ::
 (nat_lit 373,cV "_law_words_read" "_law_words_read" 707 708 709 396 3 3 368 181 369 .none (.ref 370) (.ref 371) (.ref 372) 721 396 722) ::
 (nat_lit 374,fO "_law_words_read" 61 (.none) "law_trueleaf_k68_whole_pages_tell_the_truth" 521 373) ::
 (nat_lit 378,cV "_law_feet_read" "_law_feet_read" 724 725 726 411 3 3 375 181 376 .none .none .none (.ref 377) 727 411 728) ::
 (nat_lit 379,fO "_law_feet_read" 62 (.none) "law_trueleaf_k68_whole_pages_tell_the_truth" 521 378) ::
 (nat_lit 385,cV "_law_laid" "_law_laid" 730 731 732 432 3 3 380 181 381 .none (.ref 382) (.ref 383) (.ref 384) 738 432 739) ::
 (nat_lit 386,fO "_law_laid" 63 (.none) "law_trueleaf_k68_whole_pages_tell_the_truth" 521 385) ::
 (nat_lit 390,cV "law" "law" 741 742 743 441 1 3 387 181 388 .none .none .none (.ref 389) 744 441 745) ::
 (nat_lit 391,fO "law" 64 (.none) "law_trueleaf_k68_whole_pages_tell_the_truth" 521 390)::[]
noncomputable def vw:CK:={ PySem.Challenge.pw_trueleaf_k68_whole_pages_tell_the_truth with main:={ PySem.Challenge.pw_trueleaf_k68_whole_pages_tell_the_truth.main with body:=top 1::top 3::top 4::top 5::top 6::top 7::top 9::top 10::top 11::top 12::top 13::top 15::top 16::top 17::top 18::top 19::top 20::top 21::top 22::top 23::top 24::top 27::top 28::top 29::top 30::top 31::top 32::top 33::top 34::top 35::top 36::top 38::top 39::top 41::top 42::top 43::top 44::top 45::top 46::top 47::top 48::top 49::top 50::top 51::top 52::top 53::top 54::top 55::top 56::top 57::top 58::top 59::top 60::top 61::top 62::top 63::top 64::[] } }
noncomputable abbrev ls:List Str:=[os "settle"]
noncomputable abbrev hk:Hook:=kHook kk (nat_lit 2::nat_lit 3::nat_lit 20::nat_lit 21::nat_lit 27::nat_lit 28::nat_lit 34::nat_lit 35::nat_lit 41::nat_lit 42::nat_lit 48::nat_lit 49::nat_lit 55::nat_lit 56::nat_lit 62::nat_lit 63::nat_lit 69::nat_lit 70::nat_lit 76::nat_lit 77::nat_lit 83::nat_lit 84::nat_lit 88::nat_lit 89::nat_lit 95::nat_lit 96::nat_lit 102::nat_lit 103::nat_lit 109::nat_lit 110::nat_lit 114::nat_lit 115::nat_lit 119::nat_lit 120::nat_lit 126::nat_lit 127::nat_lit 133::nat_lit 134::nat_lit 140::nat_lit 141::nat_lit 147::nat_lit 148::nat_lit 154::nat_lit 155::nat_lit 156::nat_lit 160::nat_lit 161::nat_lit 167::nat_lit 168::nat_lit 174::nat_lit 175::nat_lit 181::nat_lit 182::nat_lit 188::nat_lit 189::nat_lit 195::nat_lit 196::nat_lit 202::nat_lit 203::nat_lit 209::nat_lit 210::nat_lit 216::nat_lit 217::nat_lit 223::nat_lit 224::nat_lit 230::nat_lit 231::nat_lit 235::nat_lit 236::nat_lit 240::nat_lit 241::nat_lit 247::nat_lit 248::nat_lit 254::nat_lit 255::nat_lit 261::nat_lit 262::nat_lit 266::nat_lit 267::nat_lit 273::nat_lit 274::nat_lit 280::nat_lit 281::nat_lit 287::nat_lit 288::nat_lit 294::nat_lit 295::nat_lit 301::nat_lit 302::nat_lit 308::nat_lit 309::nat_lit 315::nat_lit 316::nat_lit 320::nat_lit 321::nat_lit 325::nat_lit 326::nat_lit 330::nat_lit 331::nat_lit 337::nat_lit 338::nat_lit 342::nat_lit 343::nat_lit 347::nat_lit 348::nat_lit 354::nat_lit 355::nat_lit 359::nat_lit 360::nat_lit 366::nat_lit 367::nat_lit 373::nat_lit 374::nat_lit 378::nat_lit 379::nat_lit 385::nat_lit 386::nat_lit 390::nat_lit 391::[]) (λ_=>by kernel_rfl)
noncomputable abbrev rr:RowW:=OpenRow.toRowW (OpenLaw.row PySem.Challenge.rw_trueleaf_k68_whole_pages_tell_the_truth)
noncomputable abbrev xt:B9->Bool:=λs=>xlAt vw [] s&&recOk (RowW.records rr) s
noncomputable def Am:List (Addr×Obj)->Nat->Obj
 |[],_=>⟨.none,none,.fields #[],#[]⟩
 |x::_,0=>x.2
 |_::t,n+1=>Am t n
noncomputable abbrev aE(P:CM)(i:Nat):Obj:=Am (kk P) i
noncomputable def Bg(P:CM)(t:List C6):List C6:=dE P "__name__" 165 (sv "trueleaf.bounds" 287)::dE P "__doc__" 166 (.none)::dE P "__package__" 167 (.none)::dE P "__loader__" 168 (.builtin "__main__.__loader__#opaque")::dE P "__spec__" 169 (.none)::dE P "__annotations__" 170 (.ref 6)::dE P "__builtins__" 171 (.ref 4)::dE P "__file__" 173 (sv "/claim/cut.py" 172)::t
noncomputable def wc(P:CM)(t:List C6):List C6:=dE P "__cached__" 174 (.none)::dE P "figures_of" 195 (.ref 21)::dE P "later" 205 (.ref 28)::dE P "behind" 214 (.ref 35)::dE P "first_from" 223 (.ref 42)::dE P "rows_on" 233 (.ref 49)::dE P "next_top" 240 (.ref 56)::dE P "said" 252 (.ref 63)::t
noncomputable def Bh(P:CM)(t:List C6):List C6:=dE P "wide_of" 261 (.ref 70)::dE P "together" 268 (.ref 77)::dE P "foot_rows" 280 (.ref 84)::dE P "foot_high" 286 (.ref 89)::dE P "first_bounds" 295 (.ref 96)::dE P "reach" 307 (.ref 103)::dE P "told_by_kind" 318 (.ref 110)::t
noncomputable def An(P:CM):Obj:=⟨(.type "dict"),none,.dict (Fn (Bg P (wc P (Bh P [])))) 23,#[]⟩
noncomputable def Bi(P:CM)(t:List C6):List C6:=dE P "__name__" 165 (sv "trueleaf.settle" 388)::dE P "__doc__" 166 (.none)::dE P "__package__" 167 (.none)::dE P "__loader__" 168 (.builtin "__main__.__loader__#opaque")::dE P "__spec__" 169 (.none)::dE P "__annotations__" 170 (.ref 6)::dE P "__builtins__" 171 (.ref 4)::dE P "__file__" 173 (sv "/claim/cut.py" 172)::t
noncomputable def zF(P:CM)(t:List C6):List C6:=dE P "wide_of" 261 (.ref 70)::dE P "together" 268 (.ref 77)::dE P "foot_rows" 280 (.ref 84)::dE P "foot_high" 286 (.ref 89)::dE P "first_bounds" 295 (.ref 96)::dE P "reach" 307 (.ref 103)::dE P "told_by_kind" 318 (.ref 110)::dE P "wides_of" 324 (.ref 115)::t
noncomputable def zG(P:CM)(t:List C6):List C6:=dE P "highs_of" 330 (.ref 120)::dE P "told_behind" 342 (.ref 127)::dE P "told_wide" 353 (.ref 134)::dE P "told_high" 365 (.ref 141)::dE P "told_kept" 376 (.ref 148)::dE P "told_never" 387 (.ref 155)::dE P "settle" 395 (.ref 161)::dE P "stands_beyond" 403 (.ref 168)::t
noncomputable def Bj(P:CM)(t:List C6):List C6:=dE P "sizes_under" 412 (.ref 175)::dE P "first_unlike" 421 (.ref 182)::dE P "raise_from" 433 (.ref 189)::dE P "raise_word" 445 (.ref 196)::dE P "raise_by" 458 (.ref 203)::dE P "raise_kept" 469 (.ref 210)::t
noncomputable def Ao(P:CM):Obj:=⟨(.type "dict"),none,.dict (Fn (Bi P (wc P (zF P (zG P (Bj P [])))))) 38,#[]⟩
noncomputable def Bk(P:CM)(t:List C6):List C6:=dE P "__name__" 165 (sv "law_trueleaf_k68_whole_pages_tell_the_truth" 521)::dE P "__doc__" 166 (.none)::dE P "__package__" 167 (.none)::dE P "__loader__" 168 (.builtin "__main__.__loader__#opaque")::dE P "__spec__" 169 (.none)::dE P "__annotations__" 170 (.ref 6)::dE P "__builtins__" 171 (.ref 4)::dE P "__file__" 173 (sv "/claim/cut.py" 172)::t
noncomputable def Bl(P:CM)(t:List C6):List C6:=dE P "sizes_under" 412 (.ref 175)::dE P "first_unlike" 421 (.ref 182)::dE P "raise_from" 433 (.ref 189)::dE P "raise_word" 445 (.ref 196)::dE P "raise_by" 458 (.ref 203)::dE P "raise_kept" 469 (.ref 210)::dE P "reason_for" 481 (.ref 217)::dE P "too_wide_from" 493 (.ref 224)::t
noncomputable def Bm(P:CM)(t:List C6):List C6:=dE P "too_high_from" 506 (.ref 231)::dE P "pages_of" 514 (.ref 236)::dE P "page_rows" 520 (.ref 241)::dE P "_law_cell_at" 530 (.ref 248)::dE P "_law_mixed" 537 (.ref 255)::dE P "_law_first" 546 (.ref 262)::dE P "_law_signs" 552 (.ref 267)::dE P "_law_said_by" 563 (.ref 274)::t
noncomputable def Ap(P:CM)(t:List C6):List C6:=dE P "_law_high_by" 576 (.ref 281)::dE P "_law_behind_by" 589 (.ref 288)::dE P "_law_sooner" 597 (.ref 295)::dE P "_law_numbers" 610 (.ref 302)::dE P "_law_rising" 628 (.ref 309)::t
noncomputable def Aq(P:CM):Obj:=⟨(.type "dict"),none,.dict (Fn (Bk P (wc P (zF P (zG P (Bl P (Bm P (Ap P [])))))))) 53,#[]⟩
noncomputable def vt(P:CM):Obj:=⟨(.none),none,(.fields #[]),#[]⟩
noncomputable def zP(P:CM):Obj:=⟨(.none),none,(.fields #[.int 2 0,.int 0 0,.ref 20,.int 5 0,.int 0 0,.ref 27,.int 7 0,.int 0 0,.ref 34,.int 15 0,.int 0 0,.ref 41,.int 19 0,.int 0 0,.ref 48,.int 24 0,.int 0 0,.ref 55,.int 27 0,.int 0 0,.ref 62,.int 34 0,.int 0 0,.ref 69,.int 36 0,.int 0 0,.ref 76,.int 38 0,.int 0 0,.ref 83,.int 47 0,.int 0 0,.ref 88,.int 53 0,.int 0 0,.ref 95,.int 55 0,.int 0 0,.ref 102,.int 60 0,.int 0 0,.ref 109]),#[]⟩
noncomputable def zQ(P:CM):Obj:=⟨(.none),none,(.fields #[.int 2 0,.int 0 0,.ref 20,.int 5 0,.int 0 0,.ref 27,.int 7 0,.int 0 0,.ref 34,.int 15 0,.int 0 0,.ref 41,.int 19 0,.int 0 0,.ref 48,.int 24 0,.int 0 0,.ref 55,.int 27 0,.int 0 0,.ref 62,.int 34 0,.int 0 0,.ref 69,.int 36 0,.int 0 0,.ref 76,.int 38 0,.int 0 0,.ref 83,.int 47 0,.int 0 0,.ref 88,.int 53 0,.int 0 0,.ref 95,.int 55 0,.int 0 0,.ref 102,.int 60 0,.int 0 0,.ref 109,.int 72 0,.int 0 0,.ref 114,.int 74 0,.int 0 0,.ref 119,.int 76 0,.int 0 0,.ref 126,.int 83 0,.int 0 0,.ref 133,.int 88 0,.int 0 0,.ref 140,.int 93 0,.int 0 0,.ref 147,.int 99 0,.int 0 0,.ref 154,.int 106 0,.int 0 0,.ref 160,.int 122 0,.int 0 0,.ref 167,.int 124 0,.int 0 0,.ref 174,.int 127 0,.int 0 0,.ref 181,.int 132 0,.int 0 0,.ref 188,.int 140 0,.int 0 0,.ref 195,.int 145 0,.int 0 0,.ref 202,.int 149 0,.int 0 0,.ref 209]),#[]⟩
noncomputable def zR(P:CM):Obj:=⟨(.none),none,(.fields #[.int 2 0,.int 0 0,.ref 20,.int 5 0,.int 0 0,.ref 27,.int 7 0,.int 0 0,.ref 34,.int 15 0,.int 0 0,.ref 41,.int 19 0,.int 0 0,.ref 48,.int 24 0,.int 0 0,.ref 55,.int 27 0,.int 0 0,.ref 62,.int 34 0,.int 0 0,.ref 69,.int 36 0,.int 0 0,.ref 76,.int 38 0,.int 0 0,.ref 83,.int 47 0,.int 0 0,.ref 88,.int 53 0,.int 0 0,.ref 95,.int 55 0,.int 0 0,.ref 102,.int 60 0,.int 0 0,.ref 109,.int 72 0,.int 0 0,.ref 114,.int 74 0,.int 0 0,.ref 119,.int 76 0,.int 0 0,.ref 126,.int 83 0,.int 0 0,.ref 133,.int 88 0,.int 0 0,.ref 140,.int 93 0,.int 0 0,.ref 147,.int 99 0,.int 0 0,.ref 154,.int 106 0,.int 0 0,.ref 160,.int 122 0,.int 0 0,.ref 167,.int 124 0,.int 0 0,.ref 174,.int 127 0,.int 0 0,.ref 181,.int 132 0,.int 0 0,.ref 188,.int 140 0,.int 0 0,.ref 195,.int 145 0,.int 0 0,.ref 202,.int 149 0,.int 0 0,.ref 209,.int 157 0,.int 0 0,.ref 216,.int 172 0,.int 0 0,.ref 223,.int 181 0,.int 0 0,.ref 230,.int 192 0,.int 0 0,.ref 235,.int 197 0,.int 0 0,.ref 240,.int 208 0,.int 0 0,.ref 247,.int 212 0,.int 0 0,.ref 254,.int 214 0,.int 0 0,.ref 261,.int 224 0,.int 0 0,.ref 266,.int 229 0,.int 0 0,.ref 273,.int 236 0,.int 0 0,.ref 280,.int 249 0,.int 0 0,.ref 287,.int 260 0,.int 0 0,.ref 294,.int 262 0,.int 0 0,.ref 301,.int 273 0,.int 0 0,.ref 308]),#[]⟩
noncomputable def vv(P:CM):Obj:=⟨(.none),none,(.fields #[.int 2 0,.int 0 0,.ref 20,.int 5 0,.int 0 0,.ref 27,.int 7 0,.int 0 0,.ref 34,.int 15 0,.int 0 0,.ref 41,.int 19 0,.int 0 0,.ref 48,.int 24 0,.int 0 0,.ref 55,.int 27 0,.int 0 0,.ref 62,.int 34 0,.int 0 0,.ref 69,.int 36 0,.int 0 0,.ref 76,.int 38 0,.int 0 0,.ref 83,.int 47 0,.int 0 0,.ref 88,.int 53 0,.int 0 0,.ref 95,.int 55 0,.int 0 0,.ref 102,.int 60 0,.int 0 0,.ref 109,.int 72 0,.int 0 0,.ref 114,.int 74 0,.int 0 0,.ref 119,.int 76 0,.int 0 0,.ref 126,.int 83 0,.int 0 0,.ref 133,.int 88 0,.int 0 0,.ref 140,.int 93 0,.int 0 0,.ref 147,.int 99 0,.int 0 0,.ref 154,.int 106 0,.int 0 0,.ref 160,.int 122 0,.int 0 0,.ref 167,.int 124 0,.int 0 0,.ref 174,.int 127 0,.int 0 0,.ref 181,.int 132 0,.int 0 0,.ref 188,.int 140 0,.int 0 0,.ref 195,.int 145 0,.int 0 0,.ref 202,.int 149 0,.int 0 0,.ref 209,.int 157 0,.int 0 0,.ref 216,.int 172 0,.int 0 0,.ref 223,.int 181 0,.int 0 0,.ref 230,.int 192 0,.int 0 0,.ref 235,.int 197 0,.int 0 0,.ref 240,.int 208 0,.int 0 0,.ref 247,.int 212 0,.int 0 0,.ref 254,.int 214 0,.int 0 0,.ref 261,.int 224 0,.int 0 0,.ref 266,.int 229 0,.int 0 0,.ref 273,.int 236 0,.int 0 0,.ref 280,.int 249 0,.int 0 0,.ref 287,.int 260 0,.int 0 0,.ref 294,.int 262 0,.int 0 0,.ref 301,.int 273 0,.int 0 0,.ref 308,.int 296 0,.int 0 0,.ref 315,.int 307 0,.int 0 0,.ref 320,.int 318 0,.int 0 0,.ref 325,.int 335 0,.int 0 0,.ref 330,.int 343 0,.int 0 0,.ref 337,.int 350 0,.int 0 0,.ref 342,.int 359 0,.int 0 0,.ref 347,.int 371 0,.int 0 0,.ref 354,.int 378 0,.int 0 0,.ref 359,.int 389 0,.int 0 0,.ref 366,.int 396 0,.int 0 0,.ref 373,.int 411 0,.int 0 0,.ref 378,.int 432 0,.int 0 0,.ref 385,.int 441 0,.int 0 0,.ref 390]),#[]⟩
noncomputable abbrev aB:Obj:=⟨(.type "tuple"),none,(.seq #[]),#[]⟩
noncomputable abbrev aN:Obj:=⟨(.none),none,(.fields #[]),#[]⟩
noncomputable def lE(P:CM)(x3:Obj)(x12:Obj)(t:List Obj):List Obj:=boot_o_0 P::boot_o_1 P::boot_o_2 P::x3::boot_o_4 P::boot_o_5 P::boot_o_6 P::boot_o_7 P::boot_o_8 P::boot_o_9 P::boot_o_10 P::aB::x12::⟨(.type "code"),none,(.fields #[sv "<module>" 182,sv "<module>" 183,sv "/claim/cut.py" 184,.int 1 0,.int 0 0,.int 0 0,.int 0 0,.int 0 0,.ref 11,.bool false,.int 181 0,.ref 12,.none,.none,.none,.none,.int 185 0,.int 1 0,sv "/claim/cut.py" 186]),#[]⟩::⟨(.type "frame"),none,(.plain),#[E5 (.ref 13),E5 (.ref 3),E5 (.ref 3),none,E5 (sv "__main__" 164),none,E5 (.ref 0)]⟩::t
noncomputable def pJ(P:CM)(t:List Obj):List Obj:=aB::aN::⟨(.type "tuple"),none,(.seq #[sv "number" 192]),#[]⟩::aB::gA "figures_of" "figures_of" (top 1)::aE P 2::aE P 3::aB::aN::⟨(.type "tuple"),none,(.seq #[sv "one" 201,sv "other" 202]),#[]⟩::aB::gA "later" "later" (top 3)::aE P 4::aE P 5::aB::aN::t
noncomputable def pL(P:CM)(t:List Obj):List Obj:=⟨(.type "tuple"),none,(.seq #[sv "form" 209,sv "place" 210,sv "lead" 211]),#[]⟩::aB::gA "behind" "behind" (top 4)::aE P 6::aE P 7::aB::aN::⟨(.type "tuple"),none,(.seq #[sv "form" 218,sv "place" 219,sv "lead" 220]),#[]⟩::aB::gA "first_from" "first_from" (top 5)::aE P 8::aE P 9::aB::aN::⟨(.type "tuple"),none,(.seq #[sv "form" 227,sv "place" 228,sv "rows" 229,sv "row" 230]),#[]⟩::aB::t
noncomputable def pM(P:CM)(t:List Obj):List Obj:=gA "rows_on" "rows_on" (top 6)::aE P 10::aE P 11::aB::aN::⟨(.type "tuple"),none,(.seq #[sv "place" 237]),#[]⟩::aB::gA "next_top" "next_top" (top 7)::aE P 12::aE P 13::aB::aN::⟨(.type "tuple"),none,(.seq #[sv "form" 246,sv "saying" 247,sv "places" 248,sv "place" 249]),#[]⟩::aB::gA "said" "said" (top 9)::aE P 14::t
noncomputable def pN(P:CM)(t:List Obj):List Obj:=aE P 15::aB::aN::⟨(.type "tuple"),none,(.seq #[sv "form" 256,sv "saying" 257,sv "places" 258]),#[]⟩::aB::gA "wide_of" "wide_of" (top 10)::aE P 16::aE P 17::aB::aN::⟨(.type "tuple"),none,(.seq #[sv "wides" 265]),#[]⟩::aB::gA "together" "together" (top 11)::aE P 18::aE P 19::aB::t
noncomputable def pO(P:CM)(t:List Obj):List Obj:=aN::⟨(.type "tuple"),none,(.seq #[sv "form" 272,sv "foot" 273,sv "places" 274,sv "rows" 275,sv "saying" 276,sv "text" 277]),#[]⟩::aB::gA "foot_rows" "foot_rows" (top 12)::aE P 20::aE P 21::aB::aN::gA "foot_high" "foot_high" (top 13)::aE P 22::aE P 23::aB::aN::⟨(.type "tuple"),none,(.seq #[sv "book" 292]),#[]⟩::aB::gA "first_bounds" "first_bounds" (top 15)::t
noncomputable def pP(P:CM)(t:List Obj):List Obj:=aE P 24::aE P 25::aB::aN::⟨(.type "tuple"),none,(.seq #[sv "book" 299,sv "low" 300,sv "kind" 301,sv "i" 302,sv "j" 303,sv "place" 304]),#[]⟩::aB::gA "reach" "reach" (top 16)::aE P 26::aE P 27::aB::aN::⟨(.type "tuple"),none,(.seq #[sv "book" 311,sv "low" 312,sv "kind" 313,sv "i" 314,sv "j" 315]),#[]⟩::aB::gA "told_by_kind" "told_by_kind" (top 17)::aE P 28::aE P 29::t
noncomputable def sR(P:CM)(t:List Obj):List Obj:=aB::aN::gA "wides_of" "wides_of" (top 18)::aE P 30::aE P 31::aB::aN::gA "highs_of" "highs_of" (top 19)::aE P 32::aE P 33::aB::aN::⟨(.type "tuple"),none,(.seq #[sv "book" 334,sv "low" 335,sv "i" 336,sv "form" 337,sv "lead" 338,sv "place" 339]),#[]⟩::aB::gA "told_behind" "told_behind" (top 20)::aE P 34::t
noncomputable def sS(P:CM)(t:List Obj):List Obj:=aE P 35::aB::aN::⟨(.type "tuple"),none,(.seq #[sv "book" 346,sv "low" 347,sv "j" 348,sv "wide" 349,sv "form" 350]),#[]⟩::aB::gA "told_wide" "told_wide" (top 21)::aE P 36::aE P 37::aB::aN::⟨(.type "tuple"),none,(.seq #[sv "book" 357,sv "low" 358,sv "i" 359,sv "j" 360,sv "high" 361,sv "page" 362]),#[]⟩::aB::gA "told_high" "told_high" (top 22)::aE P 38::aE P 39::aB::t
noncomputable def sT(P:CM)(t:List Obj):List Obj:=aN::⟨(.type "tuple"),none,(.seq #[sv "book" 369,sv "low" 370,sv "i" 371,sv "words" 372,sv "j" 373]),#[]⟩::aB::gA "told_kept" "told_kept" (top 23)::aE P 40::aE P 41::aB::aN::⟨(.type "tuple"),none,(.seq #[sv "book" 380,sv "low" 381,sv "i" 382,sv "form" 383,sv "word" 384]),#[]⟩::aB::gA "told_never" "told_never" (top 24)::aE P 42::aE P 43::aE P 44::aB::aN::t
noncomputable def pQ(P:CM)(t:List Obj):List Obj:=gA "settle" "settle" (top 26)::aE P 45::aE P 46::aB::aN::⟨(.type "tuple"),none,(.seq #[sv "book" 399,sv "place" 400]),#[]⟩::aB::gA "stands_beyond" "stands_beyond" (top 27)::aE P 47::aE P 48::aB::aN::⟨(.type "tuple"),none,(.seq #[sv "book" 407,sv "bounds" 408,sv "last" 409]),#[]⟩::aB::gA "sizes_under" "sizes_under" (top 28)::aE P 49::t
noncomputable def pR(P:CM)(t:List Obj):List Obj:=aE P 50::aB::aN::⟨(.type "tuple"),none,(.seq #[sv "sizes" 416,sv "newer" 417,sv "k" 418]),#[]⟩::aB::gA "first_unlike" "first_unlike" (top 29)::aE P 51::aE P 52::aB::aN::⟨(.type "tuple"),none,(.seq #[sv "book" 425,sv "sizes" 426,sv "bounds" 427,sv "paper" 428,sv "start" 429,sv "i" 430]),#[]⟩::aB::gA "raise_from" "raise_from" (top 30)::aE P 53::aE P 54::aB::t
noncomputable def pS(P:CM)(t:List Obj):List Obj:=aN::⟨(.type "tuple"),none,(.seq #[sv "book" 437,sv "sizes" 438,sv "bounds" 439,sv "paper" 440,sv "i" 441,sv "reason" 442]),#[]⟩::aB::gA "raise_word" "raise_word" (top 31)::aE P 55::aE P 56::aB::aN::⟨(.type "tuple"),none,(.seq #[sv "book" 449,sv "bounds" 450,sv "paper" 451,sv "kind" 452,sv "i" 453,sv "j" 454,sv "place" 455]),#[]⟩::aB::gA "raise_by" "raise_by" (top 32)::aE P 57::aE P 58::aB::aN::⟨(.type "tuple"),none,(.seq #[sv "book" 462,sv "bounds" 463,sv "paper" 464,sv "i" 465,sv "first" 466]),#[]⟩::t
noncomputable def pT(P:CM)(t:List Obj):List Obj:=aB::gA "raise_kept" "raise_kept" (top 33)::aE P 59::aE P 60::t
noncomputable def sV(P:CM)(t:List Obj):List Obj:=aB::aN::⟨(.type "tuple"),none,(.seq #[sv "book" 473,sv "sizes" 474,sv "bounds" 475,sv "i" 476,sv "form" 477,sv "j" 478]),#[]⟩::aB::gA "reason_for" "reason_for" (top 34)::aE P 61::aE P 62::aB::aN::⟨(.type "tuple"),none,(.seq #[sv "form" 485,sv "sizes" 486,sv "bounds" 487,sv "i" 488,sv "wide" 489,sv "j" 490]),#[]⟩::aB::gA "too_wide_from" "too_wide_from" (top 35)::aE P 63::aE P 64::aB::aN::t
noncomputable def sW(P:CM)(t:List Obj):List Obj:=⟨(.type "tuple"),none,(.seq #[sv "form" 497,sv "sizes" 498,sv "bounds" 499,sv "i" 500,sv "page" 501,sv "high" 502,sv "j" 503]),#[]⟩::aB::gA "too_high_from" "too_high_from" (top 36)::aE P 65::aE P 66::aB::aN::gA "pages_of" "pages_of" (top 38)::aE P 67::aE P 68::aB::aN::gA "page_rows" "page_rows" (top 39)::aE P 69::aE P 70::aB::t
noncomputable def sX(P:CM)(t:List Obj):List Obj:=aN::⟨(.type "tuple"),none,(.seq #[sv "script" 526,sv "k" 527]),#[]⟩::aB::gA "_law_cell_at" "_law_cell_at" (top 41)::aE P 71::aE P 72::aB::aN::⟨(.type "tuple"),none,(.seq #[sv "cell" 534]),#[]⟩::aB::gA "_law_mixed" "_law_mixed" (top 42)::aE P 73::aE P 74::aB::aN::⟨(.type "tuple"),none,(.seq #[sv "cell" 541,sv "kind" 542,sv "rest" 543]),#[]⟩::t
noncomputable def sY(P:CM)(t:List Obj):List Obj:=aB::gA "_law_first" "_law_first" (top 43)::aE P 75::aE P 76::aB::aN::gA "_law_signs" "_law_signs" (top 44)::aE P 77::aE P 78::aB::aN::⟨(.type "tuple"),none,(.seq #[sv "form" 556,sv "saying" 557,sv "places" 558,sv "page" 559,sv "row" 560]),#[]⟩::aB::gA "_law_said_by" "_law_said_by" (top 45)::aE P 79::aE P 80::t
noncomputable def sZ(P:CM)(t:List Obj):List Obj:=aB::aN::⟨(.type "tuple"),none,(.seq #[sv "form" 567,sv "foot" 568,sv "places" 569,sv "rows" 570,sv "used" 571,sv "saying" 572,sv "size" 573]),#[]⟩::aB::gA "_law_high_by" "_law_high_by" (top 46)::aE P 81::aE P 82::aB::aN::⟨(.type "tuple"),none,(.seq #[sv "form" 580,sv "place" 581,sv "lead" 582,sv "page" 583,sv "row" 584,sv "high" 585,sv "count" 586]),#[]⟩::aB::gA "_law_behind_by" "_law_behind_by" (top 47)::aE P 83::aE P 84::aB::aN::t
noncomputable def s_(P:CM)(t:List Obj):List Obj:=⟨(.type "tuple"),none,(.seq #[sv "one" 593,sv "other" 594]),#[]⟩::aB::gA "_law_sooner" "_law_sooner" (top 48)::aE P 85::aE P 86::aB::aN::⟨(.type "tuple"),none,(.seq #[sv "script" 601,sv "most" 602,sv "cells" 603,sv "first" 604,sv "many" 605,sv "found" 606,sv "k" 607]),#[]⟩::aB::gA "_law_numbers" "_law_numbers" (top 49)::aE P 87::aE P 88::aB::aN::⟨(.type "tuple"),none,(.seq #[sv "numbers" 614,sv "base" 615,sv "room" 616,sv "found" 617,sv "page" 618,sv "row" 619,sv "count" 620,sv "k" 621,sv "number" 622,sv "old" 623,sv "step" 624,sv "far" 625]),#[]⟩::aB::t
noncomputable def tf(P:CM)(t:List Obj):List Obj:=gA "_law_rising" "_law_rising" (top 50)::aE P 89::aE P 90::t
noncomputable def xw(P:CM)(t:List Obj):List Obj:=aB::aN::⟨(.type "tuple"),none,(.seq #[sv "number" 632,sv "many" 633,sv "big" 634,sv "kind" 635,sv "size" 636]),#[]⟩::aB::gA "_law_some" "_law_some" (top 51)::aE P 91::aE P 92::aB::aN::gA "_law_parts" "_law_parts" (top 52)::aE P 93::aE P 94::aB::aN::gA "_law_sizes" "_law_sizes" (top 53)::aE P 95::t
noncomputable def xx(P:CM)(t:List Obj):List Obj:=aE P 96::aB::aN::gA "_law_fitting" "_law_fitting" (top 54)::aE P 97::aE P 98::aB::aN::⟨(.type "tuple"),none,(.seq #[sv "form" 661,sv "layings" 662,sv "k" 663,sv "lead" 664,sv "places" 665]),#[]⟩::aB::gA "_law_let" "_law_let" (top 55)::aE P 99::aE P 100::aB::aN::gA "_law_words" "_law_words" (top 56)::t
noncomputable def xy(P:CM)(t:List Obj):List Obj:=aE P 101::aE P 102::aB::aN::gA "_law_drawn" "_law_drawn" (top 57)::aE P 103::aE P 104::aB::aN::⟨(.type "tuple"),none,(.seq #[sv "found" 684,sv "part" 685]),#[]⟩::aB::gA "_law_is_place" "_law_is_place" (top 58)::aE P 105::aE P 106::aB::aN::t
noncomputable def xz(P:CM)(t:List Obj):List Obj:=gA "_law_is_pages" "_law_is_pages" (top 59)::aE P 107::aE P 108::aB::aN::⟨(.type "tuple"),none,(.seq #[sv "form" 698,sv "saying" 699,sv "places" 700,sv "pages" 701,sv "page" 702,sv "row" 703]),#[]⟩::aB::gA "_law_truly" "_law_truly" (top 60)::aE P 109::aE P 110::aB::aN::⟨(.type "tuple"),none,(.seq #[sv "book" 710,sv "places" 711,sv "pages" 712,sv "form" 713,sv "words" 714,sv "at" 715,sv "k" 716,sv "word" 717,sv "page" 718,sv "row" 719,sv "some" 720]),#[]⟩::aB::gA "_law_words_read" "_law_words_read" (top 61)::aE P 111::t
noncomputable def xA(P:CM)(t:List Obj):List Obj:=aE P 112::aB::aN::gA "_law_feet_read" "_law_feet_read" (top 62)::aE P 113::aE P 114::aB::aN::⟨(.type "tuple"),none,(.seq #[sv "found" 733,sv "many" 734,sv "high" 735,sv "page" 736,sv "place" 737]),#[]⟩::aB::gA "_law_laid" "_law_laid" (top 63)::aE P 115::aE P 116::aB::aN::gA "law" "law" (top 64)::t
noncomputable def xB(P:CM)(t:List Obj):List Obj:=aE P 117::aE P 118::t
noncomputable def zzhA(P:CM):Heap:=⟨⟨(lE P (boot_o_3 P) (vt P) [])⟩,{}⟩
noncomputable def zzhB(P:CM):Heap:=⟨⟨(lE P (boot_o_3 P) (vt P) [])⟩,{}⟩
noncomputable def zzh1(P:CM):Heap:=⟨⟨(lE P (An P) (zP P) (pJ P (pL P (pM P (pN P (pO P (pP P [])))))))⟩,{}⟩
noncomputable def zzh2(P:CM):Heap:=⟨⟨(lE P (Ao P) (zQ P) (pJ P (pL P (pM P (pN P (pO P (pP P (sR P (sS P (sT P (pQ P (pR P (pS P (pT P []))))))))))))))⟩,{}⟩
noncomputable def zzh3(P:CM):Heap:=⟨⟨(lE P (Aq P) (zR P) (pJ P (pL P (pM P (pN P (pO P (pP P (sR P (sS P (sT P (pQ P (pR P (pS P (pT P (sV P (sW P (sX P (sY P (sZ P (s_ P (tf P [])))))))))))))))))))))⟩,{}⟩
noncomputable def zzh4(P:CM):Heap:=⟨⟨(lE P (aE P 1) (vv P) (pJ P (pL P (pM P (pN P (pO P (pP P (sR P (sS P (sT P (pQ P (pR P (pS P (pT P (sV P (sW P (sX P (sY P (sZ P (s_ P (tf P (xw P (xx P (xy P (xz P (xA P (xB P [])))))))))))))))))))))))))))⟩,{}⟩
noncomputable def zzhF(P:CM):Heap:=⟨⟨(lE P (aE P 1) (vv P) (pJ P (pL P (pM P (pN P (pO P (pP P (sR P (sS P (sT P (pQ P (pR P (pS P (pT P (sV P (sW P (sX P (sY P (sZ P (s_ P (tf P (xw P (xx P (xy P (xz P (xA P (xB P [])))))))))))))))))))))))))))⟩,{}⟩
noncomputable abbrev zzbE:List Stmt:=behindTheImports PySem.Challenge.pw_trueleaf_k68_whole_pages_tell_the_truth
noncomputable abbrev zzev:Env:={ scope:=PySem.Challenge.pw_trueleaf_k68_whole_pages_tell_the_truth.main.scope,locals:=mainNs,globals:=mainNs,cells:=[],code:=.ref 13,frame:=some 14 }
noncomputable abbrev zzcE:Code:=.body zzbE zzev
noncomputable abbrev zzbF:List Frame:=[topFrame (PySem.Pos.mk 0 0 0 0)]
set_option maxHeartbeats 0 in
theorem zzpreL(w:CG)(os:Dq):topGo PySem.treeTable PySem.Challenge.pw_trueleaf_k68_whole_pages_tell_the_truth w 11 (some (.ref 6)) 12 ⟨boot_heap w.params,Da [],boot_drawn,boot_toks,os⟩ (topStub PySem.Challenge.pw_trueleaf_k68_whole_pages_tell_the_truth)=some (⟨zzhA w.params,Da [],⟨0,0,0,0⟩,187,os⟩,⟨denote PySem.treeTable zzcE,zzcE,PySem.Pos.mk 0 0 0 0,zzbF⟩):=by kernel_rfl
set_option maxHeartbeats 0 in
theorem zzblkL(w:CG)(os:Dq):segRun PySem.treeTable PySem.Challenge.pw_trueleaf_k68_whole_pages_tell_the_truth w 11 (some (.ref 6)) 1 1 ⟨zzhA w.params,Da [],⟨0,0,0,0⟩,187,os⟩ (blockOf zzbE zzev zzcE (PySem.Pos.mk 0 0 0 0) zzbF)=some (.next,⟨zzhB w.params,Da [],⟨0,0,0,0⟩,187,os⟩,zzcE,PySem.Pos.mk 0 0 0 0):=by kernel_rfl
set_option maxHeartbeats 0 in
theorem zzseg0(w:CG)(os:Dq):segRun PySem.treeTable PySem.Challenge.pw_trueleaf_k68_whole_pages_tell_the_truth w 11 (some (.ref 6)) 1 467 ⟨zzhB w.params,Da [],⟨0,0,0,0⟩,187,os⟩ (piecesOf ((zzbE.drop 0).take 18) zzev zzcE (PySem.Pos.mk 0 0 0 0) zzbF)=some (.next,⟨zzh1 w.params,Da [],⟨0,0,0,0⟩,319,os⟩,zzcE,PySem.Pos.mk 60 0 71 15):=by kernel_rfl
set_option maxHeartbeats 0 in
theorem zzseg1(w:CG)(os:Dq):segRun PySem.treeTable PySem.Challenge.pw_trueleaf_k68_whole_pages_tell_the_truth w 11 (some (.ref 6)) 1 484 ⟨zzh1 w.params,Da [],⟨0,0,0,0⟩,319,os⟩ (piecesOf ((zzbE.drop 18).take 16) zzev zzcE (PySem.Pos.mk 60 0 71 15) zzbF)=some (.next,⟨zzh2 w.params,Da [],⟨0,0,0,0⟩,470,os⟩,zzcE,PySem.Pos.mk 149 0 156 16):=by kernel_rfl
set_option maxHeartbeats 0 in
theorem zzseg2(w:CG)(os:Dq):segRun PySem.treeTable PySem.Challenge.pw_trueleaf_k68_whole_pages_tell_the_truth w 11 (some (.ref 6)) 1 498 ⟨zzh2 w.params,Da [],⟨0,0,0,0⟩,470,os⟩ (piecesOf ((zzbE.drop 34).take 17) zzev zzcE (PySem.Pos.mk 149 0 156 16) zzbF)=some (.next,⟨zzh3 w.params,Da [],⟨0,0,0,0⟩,629,os⟩,zzcE,PySem.Pos.mk 273 0 295 16):=by kernel_rfl
set_option maxHeartbeats 0 in
theorem zzseg3(w:CG)(os:Dq):segRun PySem.treeTable PySem.Challenge.pw_trueleaf_k68_whole_pages_tell_the_truth w 11 (some (.ref 6)) 1 411 ⟨zzh3 w.params,Da [],⟨0,0,0,0⟩,629,os⟩ (piecesOf ((zzbE.drop 51).take 14) zzev zzcE (PySem.Pos.mk 273 0 295 16) zzbF)=some (.next,⟨zzh4 w.params,Da [],⟨0,0,0,0⟩,747,os⟩,zzcE,PySem.Pos.mk 441 0 459 87):=by kernel_rfl
set_option maxHeartbeats 0 in
theorem zzfinL(w:CG)(os:Dq):topRun PySem.treeTable PySem.Challenge.pw_trueleaf_k68_whole_pages_tell_the_truth w 11 (some (.ref 6)) 2 ⟨zzh4 w.params,Da [],⟨0,0,0,0⟩,747,os⟩ ⟨doneF .next,zzcE,PySem.Pos.mk 441 0 459 87,zzbF⟩=some ⟨zzhF w.params,Da [],⟨0,0,0,0⟩,747,os⟩:=by kernel_rfl
set_option maxHeartbeats 0 in
theorem zzbodyE:zzbE=(((zzbE.drop 0).take 18)++(((zzbE.drop 18).take 16)++(((zzbE.drop 34).take 17)++(((zzbE.drop 51).take 14)++[])))):=by kernel_rfl
theorem zzrunL(w:CG)(os:Dq):topRun PySem.treeTable PySem.Challenge.pw_trueleaf_k68_whole_pages_tell_the_truth w 11 (some (.ref 6)) (12+(1+(467+(484+(498+(411+2)))))) ⟨boot_heap w.params,Da [],boot_drawn,boot_toks,os⟩ (topStub PySem.Challenge.pw_trueleaf_k68_whole_pages_tell_the_truth)=some ⟨zzhF w.params,Da [],⟨0,0,0,0⟩,747,os⟩:=by
 have k0:topRun PySem.treeTable PySem.Challenge.pw_trueleaf_k68_whole_pages_tell_the_truth w 11 (some (.ref 6)) (467+(484+(498+(411+2)))) ⟨zzhB w.params,Da [],⟨0,0,0,0⟩,187,os⟩ (restOf (((zzbE.drop 0).take 18)++(((zzbE.drop 18).take 16)++(((zzbE.drop 34).take 17)++(((zzbE.drop 51).take 14)++[])))) zzev zzcE (PySem.Pos.mk 0 0 0 0) zzbF)=some ⟨zzhF w.params,Da [],⟨0,0,0,0⟩,747,os⟩:=piece_app (zzseg0 w os) (piece_app (zzseg1 w os) (piece_app (zzseg2 w os) (piece_app (zzseg3 w os) (piece_nil (env:=zzev) (q:=PySem.Pos.mk 0 0 0 0) (zzfinL w os)))));have k1:topRun PySem.treeTable PySem.Challenge.pw_trueleaf_k68_whole_pages_tell_the_truth w 11 (some (.ref 6)) (467+(484+(498+(411+2)))) ⟨zzhB w.params,Da [],⟨0,0,0,0⟩,187,os⟩ (restOf zzbE zzev zzcE (PySem.Pos.mk 0 0 0 0) zzbF)=some ⟨zzhF w.params,Da [],⟨0,0,0,0⟩,747,os⟩:=(congrArg (λb=>topRun PySem.treeTable PySem.Challenge.pw_trueleaf_k68_whole_pages_tell_the_truth w 11 (some (.ref 6)) (467+(484+(498+(411+2)))) ⟨zzhB w.params,Da [],⟨0,0,0,0⟩,187,os⟩ (restOf b zzev zzcE (PySem.Pos.mk 0 0 0 0) zzbF)) zzbodyE).trans k0;exact go_top (zzpreL w os) (piece_block (zzblkL w os) k1)
set_option maxHeartbeats 0 in
theorem zzopE:opening PySem.Challenge.pw_trueleaf_k68_whole_pages_tell_the_truth=plainProg PySem.Challenge.pw_trueleaf_k68_whole_pages_tell_the_truth.main.scope.names:=by kernel_rfl
set_option maxHeartbeats 0 in
theorem Bn(w:CG):((boot_heap w.params).isNs Db&&(Da []:Array GenState).size==0,(boot_heap w.params).objs.size,(boot_heap w.params).nsMap Db "__annotations__")=(true,11,some (.ref 6)):=by kernel_rfl
set_option maxHeartbeats 0 in
theorem zzlkA(w:CG)(os:Dq):staticsOk (EJ PySem.Challenge.pw_trueleaf_k68_whole_pages_tell_the_truth.main.body) (boot_heap w.params) (zzhF w.params)=true:=by kernel_rfl
set_option maxHeartbeats 0 in
theorem zzlkB(w:CG)(os:Dq):namesBound PySem.Challenge.pw_trueleaf_k68_whole_pages_tell_the_truth (zzhF w.params)=true:=by kernel_rfl
set_option maxHeartbeats 0 in
theorem zzlkC(w:CG)(os:Dq):gensDone (⟨zzhF w.params,Da [],⟨0,0,0,0⟩,747,os⟩)=true:=by kernel_rfl
set_option maxHeartbeats 0 in
theorem zzlkD(w:CG)(os:Dq):laidKept (boot_heap w.params) (zzhF w.params)=true:=by kernel_rfl
noncomputable abbrev zzzF(w:CG)(os:Dq):B9:=⟨zzhF w.params,Da [],⟨0,0,0,0⟩,747,os⟩
set_option maxHeartbeats 0 in
theorem zzlc0(w:CG)(os:Dq):seen ((recsOf vw).map (·.name)) (ownsOf vw) [] { zzzF w os with gens:=#[] }=expectedOf vw:=by kernel_rfl
set_option maxHeartbeats 0 in
theorem zzlc1(w:CG)(os:Dq):(zzzF w os).heap.bltView=bltViewBooted:=by kernel_rfl
set_option maxHeartbeats 0 in
theorem zzlc2(w:CG)(os:Dq):((zzzF w os).heap.keysOk (looseW vw ls) ((recsOf vw).map (·.name)) ((litsOf vw).map (·.1)) ((clssOf vw (looseW vw ls)).map (·.name))&&(zzzF w os).heap.accountedOkI (EJ PySem.Challenge.pw_trueleaf_k68_whole_pages_tell_the_truth.main.body)&&(zzzF w os).heap.isNs Db&&(zzzF w os).heap.isNs FJ&&tablesOk vw (zzzF w os).heap&&xt (zzzF w os)&&(if true=true then(zzzF w os).gens.size==0 else !leftWithCleanup (zzzF w os).gens))=true:=by kernel_rfl
set_option maxHeartbeats 0 in
theorem zzlc3(w:CG)(os:Dq):tabsOk vw (zzzF w os)=true:=by kernel_rfl
set_option maxHeartbeats 0 in
theorem zzlc4(w:CG)(os:Dq):pinSeenD vw (drecsOf vw) (zzzF w os)=pinGoodD (drecsOf vw):=by kernel_rfl
set_option maxHeartbeats 0 in
theorem zzlc5(w:CG)(os:Dq):plainSeenE vw (looseW vw ls) (zzzF w os)=plainGoodE vw (looseW vw ls):=by kernel_rfl
set_option maxHeartbeats 0 in
theorem zzlc6(w:CG)(os:Dq):plainSeenD vw ls (zzzF w os)=plainGoodD vw ls:=by kernel_rfl
set_option maxHeartbeats 0 in
theorem zzlc7(w:CG)(os:Dq):wideSeen vw (zzzF w os)=wideGood vw:=by kernel_rfl
set_option maxHeartbeats 0 in
theorem zzlc8(w:CG)(os:Dq):clsSeenW vw ls (zzzF w os)=clsGoodW vw ls:=by kernel_rfl
theorem zzmk9{A B C D E F G H I:Type}{a a':A}{b b':B}{c c':C}{d d':D}{e e':E}{f f':F}{g g':G}{h h':H}{i i':I}(zzh0:a=a')(zzh1:b=b')(zzh2:c=c')(zzh3:d=d')(zzh4:e=e')(zzh5:f=f')(zzh6:g=g')(zzh7:h=h')(zzh8:i=i'):(a,b,c,d,e,f,g,h,i)=(a',b',c',d',e',f',g',h',i'):=by
 subst zzh0 zzh1 zzh2 zzh3 zzh4 zzh5 zzh6 zzh7 zzh8;rfl
theorem zzlkO(w:CG)(os:Dq):openSeen vw ls (EJ PySem.Challenge.pw_trueleaf_k68_whole_pages_tell_the_truth.main.body) xt true (zzzF w os)=openGood vw ls:=zzmk9 (zzlc0 w os) (zzlc1 w os) (zzlc2 w os) (zzlc3 w os) (zzlc4 w os) (zzlc5 w os) (zzlc6 w os) (zzlc7 w os) (zzlc8 w os)
set_option maxHeartbeats 0 in
theorem Bo(w:CG)(os:Dq):Hook.obs hk (⟨zzhF w.params,Da [],⟨0,0,0,0⟩,747,os⟩)=Hook.val hk w:=by kernel_rfl
theorem zzlkP(w:CG)(os:Dq):(staticsOk (EJ PySem.Challenge.pw_trueleaf_k68_whole_pages_tell_the_truth.main.body) (boot_heap w.params) (zzhF w.params)&&namesBound PySem.Challenge.pw_trueleaf_k68_whole_pages_tell_the_truth (zzhF w.params)&&gensDone (⟨zzhF w.params,Da [],⟨0,0,0,0⟩,747,os⟩)&&laidKept (boot_heap w.params) (zzhF w.params))=true:=by rw[zzlkA w os,zzlkB w os,zzlkC w os,zzlkD w os];rfl
theorem left:LeftO PySem.Challenge.pw_trueleaf_k68_whole_pages_tell_the_truth vw ls xt (Hook.obs hk) (Hook.val hk) 3838:=
 LeftO.of_pieces (boot_open zzopE (by decide) (λs=>rfl)) Bn zzrunL (by decide) λw=>funext λos=>F3 (zzlkP w os) (F3 (zzlkO w os) (Bo w os))

end K68
set_option maxHeartbeats 4000000
namespace L2
open PySem PySem.Spec PyProof.Rows

abbrev Key:=Sum Int Str
def zH:Key->B5->Bool
 |.inl k,v=>Value.isInt k v
 |.inr x,v=>Value.isStrOf x v
def BD(w:CG):Key->Int
 |.inl k=>hashInt k
 |.inr x=>hashStr w x
theorem cG:∀{k:Key} {v:B5},zH k v=true->(∃i t,k=FE i/\v=FU i t)\/(∃x t,k=FF x/\v=Value.str x t)
 |.inl i,v,h=>by
  obtain⟨t,e⟩:=Value.isInt_shape (k:=i) (v:=v) h;exact .inl ⟨i,t,rfl,e⟩
 |.inr x,v,h=>by
  obtain⟨t,e⟩:=Value.isStrOf_shape (x:=x) (v:=v) h;exact .inr ⟨x,t,rfl,e⟩
theorem Ar(a b:Int):decide ((FE a:Key)=FE b)=(a==b):=by
 by_cases e:a=b
 .subst e;simp
 .have h:¬ (FE a:Key)=FE b:=λq=>e (Sum.inl.inj q);rw[decide_eq_false h];exact(beq_eq_false_iff_ne.mpr e).symm
theorem As(a b:Str):decide ((FF a:Key)=FF b)=decide (a=b):=by
 by_cases e:a=b
 .subst e;simp
 .have h:¬ (FF a:Key)=FF b:=λq=>e (Sum.inr.inj q);rw[decide_eq_false h,decide_eq_false e]
theorem At(a:Int)(b:Str):decide ((FE a:Key)=FF b)=false:=decide_eq_false (λq=>nomatch q)
theorem Au(a:Str)(b:Int):decide ((FF a:Key)=FE b)=false:=decide_eq_false (λq=>nomatch q)

def vx(prog:CK)(w:CG):PySem.KeyKind prog w Key where
 is:=zH
 hash:=BD w
 inj:=λv a b ha hb=>by
  rcases cG ha with⟨i,t,rfl,rfl⟩|⟨x,t,rfl,rfl⟩
  .rcases cG hb with⟨j,u,rfl,e⟩|⟨y,u,rfl,e⟩
   .injection e with e1 _;rw[e1]
   .exact nomatch e
  .rcases cG hb with⟨j,u,rfl,e⟩|⟨y,u,rfl,e⟩
   .exact nomatch e
   .injection e with e1 _;rw[e1]
 byValue:=λk v h=>by
  rcases cG h with⟨i,t,rfl,rfl⟩|⟨x,t,rfl,rfl⟩<;>rfl
 pyHash:=λhv h=>by
  rcases cG hv with⟨i,t,rfl,rfl⟩|⟨x,t,rfl,rfl⟩
  .exact wpAny_pyHash_int h
  .exact wpAny_pyHash_str h
 eqBool:=λhu hv h=>by
  rcases cG hu with⟨i,t,rfl,rfl⟩|⟨x,t,rfl,rfl⟩
  .rcases cG hv with⟨j,u,rfl,rfl⟩|⟨y,u,rfl,rfl⟩
   .rw[Ar]at h;exact wpAny_eqBool_int h
   .rw[At]at h;exact SeqAt.EqAt.int_str i t y u _ _ _ _ h
  .rcases cG hv with⟨j,u,rfl,rfl⟩|⟨y,u,rfl,rfl⟩
   .rw[Au]at h;exact SeqAt.EqAt.str_int x t j u _ _ _ _ h
   .rw[As]at h;exact wpAny_eqBool_str h
 «strs»:=λk x t v h=>by
  rcases cG h with⟨i,u,rfl,e⟩|⟨y,u,rfl,e⟩
  .exact nomatch e
  .injection e with e1 _;subst e1;cases v<;>rfl


inductive V where
 |non|bl (b:Bool)|int (i:Int)|str (x:Str)|byt (b:Array UInt8)|flt (b:UInt64)|ref (a:Addr)|ty (n:String)
 deriving DecidableEq

def bA:V->B5->Prop
 |.non,u=>u=ED
 |.bl b,u=>u=FK b
 |.int i,u=>∃t,u=FU i t
 |.str x,u=>∃t,u=Value.str x t
 |.byt b,u=>∃t,u=Value.bytes b t
 |.flt b,u=>∃t,u=Value.float b t
 |.ref a,u=>u=Fh a
 |.ty n,u=>u=Fo n

abbrev aP:List V->List B5->Prop:=Paired bA
theorem aP.length{xs:List V}{us:List B5}(r:aP xs us):xs.length=us.length:=Paired.length r
theorem aP.get:∀{xs:List V} {us:List B5} {i:Nat} {x:V},aP xs us->xs[i]?=some x->∃u,us[i]?=some u/\bA x u
 |_,_,_,_,.nil,e=>by simp at e
 |_,_,0,_,.cons r _,e=>by simp at e;subst e;exact⟨_,rfl,r⟩
 |_,_,i+1,x,.cons _ t,e=>by
  obtain⟨u,h1,h2⟩:=aP.get (i:=i) (x:=x) t (by simpa using e);exact⟨u,by simpa using h1,h2⟩
theorem aP.set{x:V}{u:B5}(r:bA x u):∀{xs:List V} {us:List B5} (i:Nat),aP xs us->aP (xs.set i x) (us.set i u)
 |_,_,_,.nil=>.nil
 |_,_,0,.cons _ t=>.cons r t
 |_,_,i+1,.cons q t=>.cons q (aP.set r i t)
theorem aP.append:∀{xs ys:List V} {us ws:List B5},aP xs us->aP ys ws->aP (xs++ys) (us++ws)
 |_,_,_,_,.nil,s=>s
 |_,_,_,_,.cons r t,s=>.cons r (aP.append t s)
theorem aP.take:∀{xs:List V} {us:List B5} (n:Nat),aP xs us->aP (xs.take n) (us.take n)
 |_,_,0,_=>.nil
 |_,_,_+1,.nil=>.nil
 |_,_,n+1,.cons r t=>.cons r (aP.take n t)
theorem aP.drop:∀{xs:List V} {us:List B5} (n:Nat),aP xs us->aP (xs.drop n) (us.drop n)
 |_,_,0,r=>r
 |_,_,_+1,.nil=>.nil
 |_,_,n+1,.cons _ t=>aP.drop n t
def Av:Option V->Option B5->Prop
 |some v,some u=>bA v u
 |none,none=>True
 |_,_=>False
def KV{κ:Type}:List (κ×V)->List (κ×B5)->Prop:=Paired λ(p:κ×V) (q:κ×B5)=>p.1=q.1/\bA p.2 q.2

def kV:Key->V
 |.inl i=>.int i
 |.inr x=>.str x

inductive HO where
  |lst (xs:List V)
  |tup (xs:List V)
  |dK (kvs:List (Key×V))|dT (kvs:List (List Key×V))
  |set (S:Int->Bool) (n:Nat)
  |ins (C dx:Addr) (fs:List (Str×V))
  |own (x:Addr)
  |xd (fs:List (Str×V))
  |met (f x:Addr)
  |rng (lo hi:Int)
  |frz (o:Obj) (u:HO)
  |tbl (ps:Array B5)
  |ext (φ:Heap->Prop)

abbrev Hp:=Addr->Option HO
def upd(H:Hp)(a:Addr)(o:HO):Hp:=λb=>if b=a then some o else H b
theorem ah{H:Hp}{a:Addr}{o:HO}:upd H a o a=some o:=by unfold upd;rw[if_pos rfl]
theorem aK{H:Hp}{a b:Addr}{o:HO}(h:b≠a):upd H a o b=H b:=by unfold upd;rw[if_neg h]
theorem zI{H:Hp}{a b:Addr}{o u:HO}(h:H a=some o)(h':H b=some u)(d:o≠u):a≠b:=by
 intro e;subst e;rw[h]at h';exact d (Cw h')
theorem bR{H:Hp}{a b:Addr}{o:HO}(h:H a=some o)(h':H b=none):a≠b:=by
 intro e;subst e;rw[h]at h';cases h'

section
variable (P:CK)(w:CG)
def d9(H:Hp)(h:Heap)(a:Addr):HO->Prop
 |.lst xs=>xs.length<=Cr/\∃(its:List B5) (n:Nat),aP xs its/\h.get? a=some { cls:=.type "list",data:=.seq its.toArray n }
 |.tup xs=>xs.length<=Cr/\∃its:List B5,aP xs its/\IsTup h a its.toArray
 |.dK kvs=>kvs.length<=Cr/\(a==sysModules)=false/\∃vs,KV kvs vs/\h.DictOf (vx P w) a vs
 |.dT kvs=>kvs.length<=Cr/\(a==sysModules)=false/\∃xs:List (List Key×Addr×B5),
   Paired (λ(p:List Key×V) (q:List Key×Addr×B5)=>p.1=q.1/\H q.2.1=some (.tup (p.1.map kV))/\bA p.2 q.2.2) kvs xs/\
   ∃o es ep,h.get? a=some o/\o.ExactDict/\o.data=.dict es ep/\es.toList=xs.map (entryOfKey (tupleKind (vx P w)))/\(xs.map (·.1)).Nodup
 |.set S n=>h.SetOf (intKind P w) a S n
 |.ins C dx fs=>H dx=some (.own a)/\fs.length<=1000/\dx≠a/\h.get? a=some (PySem.W.instObj C dx)/\
   ∃mA,h.Ns1 dx mA/\(∀f,Av (fs.lookup f) (mA f))/\PySem.Within mA (fs.map (·.1))
 |.own _=>∃o,h.get? a=some o
 |.xd fs=>∃mA,h.Ns1 a mA/\∀f,Av (fs.lookup f) (mA f)
 |.rng lo hi=>∃t u v,h.get? a=some { cls:=.type "range",data:=.fields #[.int lo t,.int hi u,.int 1 v] }
 |.frz o u=>h.get? a=some o/\d9 H h a u
 |.tbl ps=>h.get? a=some { cls:=.none,data:=.fields ps }
 |.met f x=>h.get? a=some (PySem.W.methodObj (.ref f) (.ref x))
 |.ext φ=>φ h/\(∃o,h.get? a=some o)/\∀h1 h2:Heap,φ h1->(∀o,h1.get? a=some o->h2.get? a=some o)->φ h2
def HOk(H:Hp)(h:Heap):Prop:=∀a o,H a=some o->d9 P w H h a o
end

section
variable {P:CK}{w:CG}{H H':Hp}{h h':Heap}{a:Addr}{o:HO}
theorem d9.lt(x:d9 P w H h a o):a<h.objs.size:=by
 cases o with
 |lst xs=>obtain⟨_,_,_,_,e⟩:=x;exact Cc e
 |tup xs=>obtain⟨_,_,_,p⟩:=x;exact p.lt
 |dK kvs=>obtain⟨_,_,_,_,o,_,_,e,_⟩:=x;exact Cc e
 |dT kvs=>obtain⟨_,_,_,_,o,_,_,e,_⟩:=x;exact Cc e
 |set S n=>obtain⟨o,_,_,_,e,_⟩:=x;exact Cc e
 |ins C dx fs=>obtain⟨_,_,_,e,_⟩:=x;exact Cc e
 |own y=>obtain⟨_,e⟩:=x;exact Cc e
 |xd fs=>obtain⟨_,⟨_,_,_,e,_⟩,_⟩:=x;exact Cc e
 |rng lo hi=>obtain⟨_,_,_,e⟩:=x;exact Cc e
 |frz ob u=>obtain⟨e,_⟩:=x;exact Cc e
 |tbl ps=>exact Cc (show h.get? a=some _ from x)
 |met f y=>exact Cc (show h.get? a=some _ from x)
 |ext φ=>obtain⟨_,⟨_,e⟩,_⟩:=x;exact Cc e
theorem Paired.mapP{α β:Type}{F G:α->β->Prop}:∀{l₁:List α} {l₂:List β},Paired F l₁ l₂->(∀a b,F a b->G a b)->Paired G l₁ l₂
 |_,_,.nil,_=>.nil
 |_,_,.cons r t,f=>.cons (f _ _ r) (Paired.mapP t f)
theorem d9.stay(x:d9 P w H h a o)(k:∀b u,(b=a\/H b=some (.own a))->h.get? b=some u->h'.get? b=some u)
  (ho:∀b,H b=some (.own a)->H' b=some (.own a))(ht:∀b xs,H b=some (.tup xs)->H' b=some (.tup xs)):d9 P w H' h' a o:=by
 induction o with
 |lst xs=>obtain⟨z,its,n,r,e⟩:=x;exact⟨z,its,n,r,k _ _ (.inl rfl) e⟩
 |tup xs=>obtain⟨z,its,r,ob,e,c⟩:=x;exact⟨z,its,r,ob,k _ _ (.inl rfl) e,c⟩
 |dK kvs=>obtain⟨z,y,vs,r,ob,es,ep,e,c⟩:=x;exact⟨z,y,vs,r,ob,es,ep,k _ _ (.inl rfl) e,c⟩
 |dT kvs =>
  obtain⟨z,y,xs,r,ob,es,ep,e,c⟩:=x;exact⟨z,y,xs,Paired.mapP r λp q z=>⟨z.1,ht _ _ z.2.1,z.2.2⟩,ob,es,ep,k _ _ (.inl rfl) e,c⟩
 |set S n=>obtain⟨ob,es,ep,t,e,c⟩:=x;exact⟨ob,es,ep,t,k _ _ (.inl rfl) e,c⟩
 |ins C dx fs =>
  obtain⟨d,z,ne,e,mA,⟨od,es,ep,e2,c⟩,r⟩:=x;exact⟨ho _ d,z,ne,k _ _ (.inl rfl) e,mA,⟨od,es,ep,k _ _ (.inr d) e2,c⟩,r⟩
 |own y=>obtain⟨ob,e⟩:=x;exact⟨ob,k _ _ (.inl rfl) e⟩
 |xd fs=>obtain⟨mA,⟨od,es,ep,e,c⟩,r⟩:=x;exact⟨mA,⟨od,es,ep,k _ _ (.inl rfl) e,c⟩,r⟩
 |rng lo hi=>obtain⟨t,u,v,e⟩:=x;exact⟨t,u,v,k _ _ (.inl rfl) e⟩
 |frz ob u ih=>obtain⟨e,q⟩:=x;exact⟨k _ _ (.inl rfl) e,ih q⟩
 |tbl ps =>
  have e:h.get? a=some { cls:=.none,data:=.fields ps }:=x;show h'.get? a=some { cls:=.none,data:=.fields ps };exact k a _ (.inl rfl) e
 |met f y =>
  have e:h.get? a=some (PySem.W.methodObj (.ref f) (.ref y)):=x;show h'.get? a=some (PySem.W.methodObj (.ref f) (.ref y));exact k a _ (.inl rfl) e
 |ext φ=>obtain⟨p,⟨o,e⟩,st⟩:=x;exact⟨st _ _ p λo q=>k _ _ (.inl rfl) q,⟨o,k _ _ (.inl rfl) e⟩,st⟩
theorem HOk.lt(x:HOk P w H h)(e:H a=some o):a<h.objs.size:=(x a o e).lt
theorem HOk.fresh(x:HOk P w H h)(e:h.objs.size<=a):H a=none:=by
 cases q:H a with
 |none=>rfl
 |some u=>exact absurd (B7 (x.lt q) e) (CI _)
theorem HOk.kept(x:HOk P w H h)(k:∀b u,h.get? b=some u->h'.get? b=some u):HOk P w H h':=λa o e =>
 (x a o e).stay (λb u _ q=>k b u q) (λ_ q=>q) λ_ _ q=>q
theorem HOk.laid(x:HOk P w H h)(k:∀b u,h.get? b=some u->h'.get? b=some u)(hp:h.objs.size<=a)(new:d9 P w (upd H a o) h' a o):HOk P w (upd H a o) h':=λb u e=>by
 have hn:=x.fresh hp;by_cases hb:b=a
 .subst hb;rw[ah]at e;cases e;exact new
 .rw[aK hb]at e;exact(x b u e).stay (λc v _ q=>k c v q) (λc q=>by rw[aK (bR q hn)];exact q) λc xs q=>by rw[aK (bR q hn)];exact q
end

def Rd(H:Hp)(a:Addr)(u:HO):Prop:=H a=some u\/∃o,H a=some (.frz o u)
theorem Rd.ok{P:CK}{w:CG}{H:Hp}{h:Heap}{a:Addr}{u:HO}(r:Rd H a u)(x:HOk P w H h):d9 P w H h a u:=by
 rcases r with r|⟨o,r⟩
 .exact x a u r
 .obtain⟨_,q⟩:=x a _ r;exact q
def Mut:Option HO->Prop
 |some (.lst _)=>True
 |some (.dK _)=>True
 |some (.dT _)=>True
 |some (.set _ _)=>True
 |some (.ins _ _ _)=>True
 |some (.ext _)=>True
 |_=>False
section
variable {P:CK}{w:CG}{H:Hp}{h h':Heap}{x e:Addr}{o':HO}
theorem HOk.write(ok:HOk P w H h)(mu:Mut (H x))(he:e=x\/H e=some (.own x))(k:∀b u,b≠e->h.get? b=some u->h'.get? b=some u)(heo:∃u,h'.get? e=some u)
  (new:d9 P w (upd H x o') h' x o'):HOk P w (upd H x o') h':=λb u q=>by
 have nown:∀c y,H c=some (.own y)->c≠x:=λc y r z=>by subst z;rw[r]at mu;exact mu
 have ntup:∀c xs,H c=some (.tup xs)->c≠x:=λc xs r z=>by subst z;rw[r]at mu;exact mu
 by_cases hb:b=x
 .subst hb;rw[ah]at q;cases q;exact new
 .rw[aK hb]at q;by_cases hbe:b=e
  .have q':H b=some (.own x):=by
    rcases he with z|z
    .exact absurd (hbe.trans z) hb
    .rw[hbe];exact z
   rw[q]at q';cases q';obtain⟨v,hv⟩:=heo;exact⟨v,by rw[hbe];exact hv⟩
  .refine(ok b u q).stay (λc v hc r=>k c v ?_ r) (λc r=>by rw[aK (nown c b r)];exact r) λc xs r=>by rw[aK (ntup c xs r)];exact r
   rcases hc with rfl|hc
   .exact hbe
   .rintro rfl;rcases he with z|z
    .exact nown c b hc z
    .rw[hc]at z;cases z;exact hb rfl
end

structure Un(fs ex:List Addr)(H H':Hp)(h h':Heap):Prop where
 keep:∀b o,h.get? b=some o->H b=none->b∉fs->b∉ex->h'.get? b=some o
 slot:∀b o,h.get? b=some o->H b=none->b∈fs->b∉ex->∃sl,h'.get? b=some { o with slots:=sl }
 free:∀b o,h.get? b=some o->H b=none->b∉ex->H' b=none
 there:∀b o,h.get? b=some o->b∉ex->∃o',h'.get? b=some o'
 tups:∀b xs,H b=some (.tup xs)->H' b=some (.tup xs)
 frzs:∀b o u,H b=some (.frz o u)->H' b=some (.frz o u)
 tbls:∀b ps,H b=some (.tbl ps)->∃more,H' b=some (.tbl (ps++more))
section
variable {fs fs' ex ex':List Addr}{H H1 H2:Hp}{h h1 h2 h':Heap}{a x e:Addr}{o:HO}
theorem Un.any(u:Un fs ex H H1 h h1){b:Addr}{ob:Obj}(q:h.get? b=some ob)(n:H b=none)(hx:b∉ex):∃sl,h1.get? b=some { ob with slots:=sl }:=by
 by_cases hb:b∈fs
 .exact u.slot b ob q n hb hx
 .exact⟨ob.slots,u.keep b ob q n hb hx⟩
theorem Un.trans(a:Un fs ex H H1 h h1)(b:Un fs ex H1 H2 h1 h2):Un fs ex H H2 h h2 where
 keep:=λc ob q n hc hx=>b.keep c ob (a.keep c ob q n hc hx) (a.free c ob q n hx) hc hx
 slot:=λc ob q n hc hx=>by
  obtain⟨sl,e1⟩:=a.slot c ob q n hc hx;obtain⟨sl',e2⟩:=b.slot c _ e1 (a.free c ob q n hx) hc hx;exact⟨sl',e2⟩
 free:=λc ob q n hx=>by
  obtain⟨o',e1⟩:=a.there c ob q hx;exact b.free c o' e1 (a.free c ob q n hx) hx
 there:=λc ob q hx=>by
  obtain⟨o',e1⟩:=a.there c ob q hx;exact b.there c o' e1 hx
 tups:=λc xs q=>b.tups c xs (a.tups c xs q)
 frzs:=λc ob xs q=>b.frzs c ob xs (a.frzs c ob xs q)
 tbls:=λc ps q=>by
  obtain⟨m1,e1⟩:=a.tbls c ps q;obtain⟨m2,e2⟩:=b.tbls c _ e1;exact⟨m1++m2,by rw[e2,Array.append_assoc]⟩
theorem Un.kept(k:∀b u,h.get? b=some u->h'.get? b=some u):Un fs ex H H h h':=
 ⟨λb ob q _ _ _=>k b ob q,λb ob q _ _ _=>⟨ob.slots,k b ob q⟩,λ_ _ _ n _=>n,λb ob q _=>⟨ob,k b ob q⟩,λ_ _ q=>q,λ_ _ _ q=>q,λ_ ps q=>⟨#[],by rw[q];simp⟩⟩
theorem Un.refl:Un fs ex H H h h:=Un.kept λ_ _ q=>q
theorem Un.laid(k:∀b u,h.get? b=some u->h'.get? b=some u)(hp:h.objs.size<=a)(hn:H a=none):Un fs ex H (upd H a o) h h' where
 keep:=λb u q _ _ _=>k b u q
 slot:=λb u q _ _ _=>⟨u.slots,k b u q⟩
 free:=λb u q n _=>by rw[aK (Cn (B7 (Cc q) hp))];exact n
 there:=λb u q _=>⟨u,k b u q⟩
 tups:=λb xs q=>by rw[aK (bR q hn)];exact q
 frzs:=λb u xs q=>by rw[aK (bR q hn)];exact q
 tbls:=λb ps q=>⟨#[],by rw[aK (bR q hn),q];simp⟩
theorem Un.write(mu:Mut (H x))(he:e=x\/H e=some (.own x))(k:∀b u,b≠e->h.get? b=some u->h'.get? b=some u)(heo:∃u,h'.get? e=some u):Un fs ex H (upd H x o) h h':=by
 have hx:∀b,H b=none->b≠x:=λb n z=>by subst z;rw[n]at mu;exact mu
 have hb:∀b,H b=none->b≠e:=λb n z=>by
  subst z;rcases he with r|r
  .exact hx b n r
  .rw[n]at r;cases r
 have hm:∀b u,H b=some u->¬ Mut (some u)->b≠x:=λb u q nm z=>by subst z;rw[q]at mu;exact nm mu
 refine⟨λb u q n _ _=>k b u (hb b n) q,λb u q n _ _=>⟨u.slots,k b u (hb b n) q⟩,λb u q n _=>by rw[aK (hx b n)];exact n,λb u q _=>?_,
  λb xs q=>by rw[aK (hm b _ q λz=>z)];exact q,λb u xs q=>by rw[aK (hm b _ q λz=>z)];exact q,λb ps q=>⟨#[],by rw[aK (hm b _ q λz=>z),q];simp⟩⟩
 by_cases hbe:b=e
 .subst hbe;exact heo
 .exact⟨u,k b u hbe q⟩
end

def trk(h:Heap)(H:Hp):List Addr:=(DF h.objs.size).filter λa=>(H a).isSome
def lF(h:Heap)(H:Hp):Heap:=PySem.W.hideAll h (trk h H)
theorem xC(h:Heap)(H:Hp):(lF h H).objs.size=h.objs.size:=PySem.W.hideAll_size _ _
theorem yB{h:Heap}{H:Hp}{b:Addr}{o:Obj}(e:h.get? b=some o)(n:H b=none):(lF h H).get? b=some o:=
 PySem.W.hideAll_get _ e λhm=>by
  have q:(H b).isSome=true:=(List.mem_filter.mp hm).2;rw[n]at q;simp at q
theorem zS{h:Heap}{H:Hp}{b:Addr}{o:Obj}(e:(lF h H).get? b=some o):h.get? b=some o/\H b=none:=by
 have e':h.get? b=some o:=PySem.W.of_hideAll (trk h H) e;refine⟨e',?_⟩;cases q:H b with
 |none=>rfl
 |some x =>
  have hm:b∈trk h H:=List.mem_filter.mpr ⟨List.mem_range.mpr (Cc e'),by simp[q]⟩;have z:(lF h H).get? b=none:=PySem.W.hideAll_none (trk h H) hm;rw[z]at e;cases e

def zT(g h:Heap)(L:Addr):List (Addr×Obj):=(DF h.objs.size).filterMap λa=>if a=L\/(g.get? a).isSome=true then none else(h.get? a).map λo=>(a,o)
def d5(g h:Heap)(L d:Addr):List (Addr×Obj):=(zT g h L).filter λp=>decide (p.1≠d)

structure Mod(K:PySem.W.Frag)(mg:Str->Option B5)(base:Heap):Prop where
 kin:K.In base
 glob:base.Ns Db mg
 blt:∃mb,base.Ns FJ mb/\∀x:Str,x≠"__name__"->mb x=DR x
 nolimit:base.NoLimit

structure Cx where
 prog:CK
 w:CG
 K:PySem.W.Frag
 mg:Str->Option B5
 base:Heap
 A:CY
 N:List Str
 s₀:B9
 H₀:Hp
 env:Env
 outer:List Env
 stack:List Env
 ex:List Addr
 fn:Str->Bool
 calm:Bool
 pn:List (Addr×Obj)
 xe:B5->B9->Prop
def frs(l:List Env):List Addr:=l.filterMap (·.frame)
abbrev Cx.fs(X:Cx):List Addr:=frs X.outer

def Vis(sc:Scope)(x:Str):Prop:=sc.names.lookup x=some .local\/sc.names.lookup x=some .cell\/sc.names.lookup x=some .free
def Loc(sc:Scope)(x:Str):Prop:=sc.names.lookup x=some .local\/sc.names.lookup x=some .cell
def BE(env:Env)(h:Heap)(m:Str->Option B5)(x:Str)(u:B5):Prop:=
 (env.kindOf x=some .local/\m x=some u)\/((env.kindOf x=some .cell\/env.kindOf x=some .free)/\∃c,env.cells.lookup x=some c/\h.IsCell c (some u))

structure Cx.Ok(X:Cx):Prop where
 mod:Mod X.K X.mg X.base
 kind:X.env.scope.kind=.function
 glob:X.env.globals=Db
 blt:X.env.builtins=FJ
 above:X.s₀.heap.objs.size<=X.env.locals
 inj:∀x y c,X.env.cells.lookup x=some c->X.env.cells.lookup y=some c->x=y
 has:∀x,(X.env.kindOf x=some .cell\/X.env.kindOf x=some .free)->∃c,X.env.cells.lookup x=some c
 cab:∀x c,X.fn x=true->X.env.cells.lookup x=some c->X.s₀.heap.objs.size<=c
 hd:X.calm=true->X.A.handled=none
 frames:X.A.frames=some X.stack
 stk:X.stack=X.outer\/(X.stack=X.env::X.outer/\X.env.frame=some X.env.locals)
 exf:∀b∈X.ex,b≠X.env.locals/\∀x c,X.env.cells.lookup x=some c->c≠b
 bs:∀b o,X.base.get? b=some o->X.s₀.heap.get? b=some o/\X.H₀ b=none
 bsz:X.base.objs.size<=X.s₀.heap.objs.size
 noex:∀b o,X.base.get? b=some o->b∉X.ex
 exfs:∀b∈X.ex,b∉X.fs
 funs:X.s₀.heap.FunFrames X.base X.outer
 frf:∀b∈X.fs,X.H₀ b=none

structure Inv(X:Cx)(pins:List (Addr×Obj))(σ:List (Option V))(H:Hp)(s:B9):Prop where
 ok:X.Ok
 os:s.os=X.s₀.os
 bare:E6 s.gens
 base:Un X.fs X.ex X.H₀ H X.s₀.heap s.heap
 loc:∃m,s.heap.Ns X.env.locals m/\∀(i:Nat) (x:Str) (v:V),X.N[i]?=some x->σ[i]?=some (some v)->Vis X.env.scope x->∃u,bA v u/\BE X.env s.heap m x u
 cell:∀x c,X.env.cells.lookup x=some c->∃v,s.heap.IsCell c v
 free:H X.env.locals=none
 freeC:∀x c,X.env.cells.lookup x=some c->H c=none
 pin:∀p∈X.pn++pins,s.heap.get? p.1=some p.2/\H p.1=none/\p.1≠X.env.locals/\p.1∉X.fs/\∀v,p.2.data≠.cell v
 hok:HOk X.prog X.w H s.heap
 len:σ.length=X.N.length

section
variable {X:Cx}{pins:List (Addr×Obj)}{σ:List (Option V)}{H H':Hp}{s:B9}{h':Heap}

theorem Cx.Ok.nofr(ok:X.Ok){b:Addr}{o:Obj}(e:X.base.get? b=some o):b∉X.fs:=λhb=>by
 have:=(ok.funs.mem hb).1;rw[e]at this;cases this
theorem Inv.bs(I:Inv X pins σ H s):∀b o,X.base.get? b=some o->s.heap.get? b=some o/\H b=none:=λb o e =>
 ⟨I.base.keep b o (I.ok.bs b o e).1 (I.ok.bs b o e).2 (I.ok.nofr e) (I.ok.noex b o e),I.base.free b o (I.ok.bs b o e).1 (I.ok.bs b o e).2 (I.ok.noex b o e)⟩
theorem Inv.bk(I:Inv X pins σ H s):∀b o,X.base.get? b=some o->s.heap.get? b=some o:=λb o e=>(I.bs b o e).1
theorem Inv.mod(I:Inv X pins σ H s):Mod X.K X.mg X.base:=I.ok.mod
theorem Inv.kIn(I:Inv X pins σ H s):X.K.In s.heap:=I.ok.mod.kin.keeps I.bk
theorem Inv.lt(I:Inv X pins σ H s):X.env.locals<s.heap.objs.size:=let⟨_,hn,_⟩:=I.loc;hn.lt
theorem Inv.sz(I:Inv X pins σ H s):X.s₀.heap.objs.size<=s.heap.objs.size:=Ds I.ok.above (EW I.lt)
theorem Inv.nofs(I:Inv X pins σ H s){a:Addr}(h:s.heap.objs.size<=a):a∉X.fs:=λhb=>by
 obtain⟨_,o,ho,_⟩:=I.ok.funs.mem hb;exact absurd (B7 (Cc ho) (Ds I.sz h)) (CI _)
theorem Inv.cne(I:Inv X pins σ H s):∀x c,X.env.cells.lookup x=some c->c≠X.env.locals:=λx c e z=>by
 obtain⟨v,o,ho,hd⟩:=I.cell x c e;obtain⟨m,⟨o',es,ep,ho',hd',_⟩,_⟩:=I.loc;rw[z,ho']at ho;cases ho;rw[hd']at hd;cases hd
theorem Inv.funs(I:Inv X pins σ H s):s.heap.FunFrames X.base X.outer:=by
 have all:∀(l:List Env),(∀b∈frs l,b∈X.fs)->X.s₀.heap.FunFrames X.base l->s.heap.FunFrames X.base l:=by
  intro l;induction l with
  |nil=>intro _ _;trivial
  |cons env r ih =>
   intro hs hl;obtain⟨hk,⟨L,o,hf,hn,ho,hd⟩,hr⟩:=hl;have hL:L∈X.fs:=hs L (by unfold frs;rw[EU,hf];exact Cp);obtain⟨sl,e⟩:=I.base.slot L o ho (I.ok.frf L hL) hL λz=>I.ok.exfs L z hL;exact⟨hk,⟨L,_,hf,hn,e,hd⟩,ih (λb hb=>hs b (by unfold frs;rw[EU,hf];exact Ck _ hb)) hr⟩
 exact all X.outer (λ_ hb=>hb) I.ok.funs

theorem Inv.stack(I:Inv X pins σ H s):s.heap.FunFrames X.base X.stack:=by
 rcases I.ok.stk with e|⟨e,hf⟩
 .rw[e];exact I.funs
 .rw[e];obtain⟨m,hn,_⟩:=I.loc;refine .cons (by rw[I.ok.kind];decide) hf hn ?_ I.funs;exact Heap.get?_none_of_le (Ds I.ok.bsz I.ok.above)
theorem Inv.stkSub(I:Inv X pins σ H s):∀b∈frs X.stack,b∈X.env.locals::X.fs:=λb hb=>by
 rcases I.ok.stk with e|⟨e,hf⟩
 .rw[e]at hb;exact Ck _ hb
 .rw[e]at hb;unfold frs at hb;rw[EU,hf]at hb;exact hb
theorem Inv.stkFree(I:Inv X pins σ H s):∀b∈frs X.stack,H b=none:=λb hb=>by
 rcases List.mem_cons.mp (I.stkSub b hb)with e|hb
 .rw[e];exact I.free
 .obtain⟨_,o,ho,_⟩:=I.ok.funs.mem hb;exact I.base.free b o ho (I.ok.frf b hb) λz=>I.ok.exfs b z hb

theorem Inv.step{g':Array GenState}{t':Nat}{d':Drawn}{ch:List Addr}(I:Inv X pins σ H s)
  (hch:∀b∈ch,(b∈X.ex\/X.s₀.heap.objs.size<=b)/\b≠X.env.locals/\(∀x c,X.env.cells.lookup x=some c->c≠b)/\∀p∈X.pn++pins,p.1≠b)
  (keep:∀b o,b≠X.env.locals->b∉X.fs->b∉ch->s.heap.get? b=some o->H b=none->h'.get? b=some o)
  (slot:∀b o,b≠X.env.locals->b∈X.fs->b∉ch->s.heap.get? b=some o->H b=none->∃sl,h'.get? b=some { o with slots:=sl })(free:∀b o,b∉ch->s.heap.get? b=some o->H b=none->H' b=none)
  (there:∀b o,b∉ch->s.heap.get? b=some o->∃o',h'.get? b=some o')
  (tups:∀b xs,H b=some (.tup xs)->H' b=some (.tup xs))(frzs:∀b o u,H b=some (.frz o u)->H' b=some (.frz o u))(tbls:∀b ps,H b=some (.tbl ps)->∃more,H' b=some (.tbl (ps++more)))
  (ns:∀m,s.heap.Ns X.env.locals m->h'.Ns X.env.locals m)(hok:HOk X.prog X.w H' h')(hg:E6 g') :
  Inv X pins σ H' { s with heap:=h',gens:=g',drawn:=d',toks:=t' }:=by
 have neL:∀b o,X.s₀.heap.get? b=some o->b≠X.env.locals:=λb o e=>Cn (B7 (Cc e) I.ok.above);have neC:∀b o,X.s₀.heap.get? b=some o->b∉X.ex->b∉ch:=λb o e hx hb=>by
  rcases(hch b hb).1 with z|z
  .exact hx z
  .exact absurd (B7 (Cc e) z) (CI _)
 have cellK:∀x c,X.env.cells.lookup x=some c->∀v,s.heap.IsCell c v->h'.IsCell c v:=λx c e v ⟨o,ho,hd⟩=>by
  have nch:c∉ch:=λz=>(hch c z).2.2.1 x c e rfl;by_cases hc:c∈X.fs
  .obtain⟨sl,q⟩:=slot c o (I.cne x c e) hc nch ho (I.freeC x c e);exact⟨_,q,hd⟩
  .exact⟨o,keep c o (I.cne x c e) hc nch ho (I.freeC x c e),hd⟩
 refine⟨I.ok,I.os,hg,⟨λb o e n hb hx=>?_,λb o e n hb hx=>?_,λb o e n hx=>?_,λb o e hx=>?_,λb xs e=>tups b xs (I.base.tups b xs e),λb o xs e=>frzs b o xs (I.base.frzs b o xs e),λb ps e=>?_⟩,?_,λx c e=>?_,?_,λx c e=>?_,λp hp=>?_,hok,I.len⟩
 .exact keep b o (neL b o e) hb (neC b o e hx) (I.base.keep b o e n hb hx) (I.base.free b o e n hx)
 .obtain⟨sl,e1⟩:=I.base.slot b o e n hb hx;obtain⟨sl',e2⟩:=slot b _ (neL b o e) hb (neC b o e hx) e1 (I.base.free b o e n hx);exact⟨sl',e2⟩
 .obtain⟨o',e1⟩:=I.base.there b o e hx;exact free b o' (neC b o e hx) e1 (I.base.free b o e n hx)
 .obtain⟨o',e1⟩:=I.base.there b o e hx;exact there b o' (neC b o e hx) e1
 .obtain⟨m1,e1⟩:=I.base.tbls b ps e;obtain⟨m2,e2⟩:=tbls b _ e1;exact⟨m1++m2,by rw[e2,Array.append_assoc]⟩
 .obtain⟨m,hn,hl⟩:=I.loc;refine⟨m,ns m hn,λi x v e1 e2 e3=>?_⟩;obtain⟨u,r,l⟩:=hl i x v e1 e2 e3;refine⟨u,r,?_⟩;rcases l with l|⟨k,c,e,z⟩
  .exact .inl l
  .exact .inr ⟨k,c,e,cellK x c e _ z⟩
 .obtain⟨v,z⟩:=I.cell x c e;exact⟨v,cellK x c e v z⟩
 .obtain⟨m,⟨o,_,_,ho,_⟩,_⟩:=I.loc;exact free _ o (λz=>(hch _ z).2.1 rfl) ho I.free
 .obtain⟨v,o,ho,hd⟩:=I.cell x c e;exact free c o (λz=>(hch c z).2.2.1 x c e rfl) ho (I.freeC x c e)
 .obtain⟨e,n,ne,nf,d⟩:=I.pin p hp;have nch:p.1∉ch:=λz=>(hch p.1 z).2.2.2 p hp rfl;exact⟨keep p.1 p.2 ne nf nch e n,free p.1 p.2 nch e n,ne,nf,d⟩
theorem Inv.un{t':Nat}(I:Inv X pins σ H s)(u:Un X.fs [] H H' s.heap h')(hok:HOk X.prog X.w H' h'):Inv X pins σ H' { s with heap:=h',toks:=t' }:=by
 obtain⟨m,⟨o,es,ep,ho,r⟩,_⟩:=id I.loc;obtain⟨sl,hL⟩:=u.any ho I.free (by simp);exact I.step (g':=s.gens) (d':=s.drawn) (ch:=[]) (λ_ z=>nomatch z) (λb o _ hb _ e n=>u.keep b o e n hb (by simp)) (λb o _ hb _ e n=>u.slot b o e n hb (by simp)) (λb o _ e n=>u.free b o e n (by simp)) (λb o _ e=>u.there b o e (by simp)) u.tups u.frzs u.tbls (λm' hm=>by
  obtain⟨o',es',ep',ho',r'⟩:=hm;rw[ho]at ho';cases ho';exact⟨_,es',ep',hL,r'⟩) hok I.bare
theorem Inv.call{g':Array GenState}{t':Nat}{d':Drawn}{ch:List Addr}(I:Inv X pins σ H s)(u:Un (frs X.stack) ch H H' s.heap h')(hok:HOk X.prog X.w H' h')(hg:E6 g')
  (hch:∀b∈ch,(b∈X.ex\/X.s₀.heap.objs.size<=b)/\b≠X.env.locals/\(∀x c,X.env.cells.lookup x=some c->c≠b)/\∀p∈X.pn++pins,p.1≠b) :
  Inv X pins σ H' { s with heap:=h',gens:=g',drawn:=d',toks:=t' }:=by
 obtain⟨m,⟨o,es,ep,ho,r⟩,_⟩:=id I.loc;obtain⟨sl,hL⟩:=u.any ho I.free λz=>(hch _ z).2.1 rfl;exact I.step (ch:=ch) hch (λb o hL hb hc e n=>u.keep b o e n (λz=>(List.mem_cons.mp (I.stkSub b z)).elim hL hb) hc) (λb o _ _ hc e n=>u.any e n hc) (λb o hc e n=>u.free b o e n hc) (λb o hc e=>u.there b o e hc) u.tups u.frzs u.tbls (λm' hm=>by
  obtain⟨o',es',ep',ho',r'⟩:=hm;rw[ho]at ho';cases ho';exact⟨_,es',ep',hL,r'⟩) hok hg
theorem Inv.turned{t':Nat}{it:Addr}(I:Inv X pins σ H s)(k:∀b o,b≠it->s.heap.get? b=some o->h'.get? b=some o)(hn:H it=none)(hL:it≠X.env.locals)
  (h1:it∈X.ex\/X.s₀.heap.objs.size<=it)(h2:∀x c,X.env.cells.lookup x=some c->c≠it)(h3:∀p∈X.pn++pins,p.1≠it):Inv X pins σ H { s with heap:=h',toks:=t' }:=by
 have nit:∀b u,H b=some u->b≠it:=λb u e z=>by rw[z,hn]at e;cases e
 refine I.step (g':=s.gens) (d':=s.drawn) (ch:=[it]) (λb hb=>?_) (λb o _ _ hc e _=>k b o (λz=>hc (by simp[z])) e) (λb o _ _ hc e _=>⟨o.slots,k b o (λz=>hc (by simp[z])) e⟩) (λ_ _ _ _ n=>n)
  (λb o hc e=>⟨o,k b o (λz=>hc (by simp[z])) e⟩) (λ_ _ e=>e) (λ_ _ _ e=>e) (λb ps e=>⟨#[],by rw[e];simp⟩) (λm hm=>?_) (λb u e=>?_) I.bare
 .have e:b=it:=by simpa using hb
  subst e;exact⟨h1,hL,h2,h3⟩
 .obtain⟨o,es,ep,ho,r⟩:=hm;exact⟨o,es,ep,k _ o (CO hL) ho,r⟩
 .refine(I.hok b u e).stay (λc v hc q=>k c v ?_ q) (λ_ q=>q) λ_ _ q=>q;rcases hc with z|z
  .rw[z];exact nit b u e
  .exact nit c _ z
theorem Inv.tok(I:Inv X pins σ H s)(t:Nat):Inv X pins σ H { s with toks:=t }:=I.un (h':=s.heap) (t':=t) Un.refl I.hok
theorem Inv.kept{t':Nat}(I:Inv X pins σ H s)(k:∀b u,s.heap.get? b=some u->h'.get? b=some u):Inv X pins σ H { s with heap:=h',toks:=t' }:=I.un (Un.kept k) (I.hok.kept k)
theorem Inv.laid{a:Addr}{o:HO}{t':Nat}(I:Inv X pins σ H s)(k:∀b u,s.heap.get? b=some u->h'.get? b=some u)(hp:s.heap.objs.size<=a)(new:d9 X.prog X.w (upd H a o) h' a o) :
  Inv X pins σ (upd H a o) { s with heap:=h',toks:=t' }:=I.un (Un.laid k hp (I.hok.fresh hp)) (I.hok.laid k hp new)
theorem Inv.write{x e:Addr}{o:HO}{t':Nat}(I:Inv X pins σ H s)(mu:Mut (H x))(he:e=x\/H e=some (.own x))(k:∀b u,b≠e->s.heap.get? b=some u->h'.get? b=some u)(heo:∃u,h'.get? e=some u)
  (new:d9 X.prog X.w (upd H x o) h' x o):Inv X pins σ (upd H x o) { s with heap:=h',toks:=t' }:=I.un (Un.write mu he k heo) (I.hok.write mu he k heo new)
theorem Inv.pins_of{pins':List (Addr×Obj)}(I:Inv X pins σ H s)(h:∀p∈pins',s.heap.get? p.1=some p.2/\H p.1=none/\p.1≠X.env.locals/\p.1∉X.fs/\∀v,p.2.data≠.cell v):Inv X pins' σ H s:=
 ⟨I.ok,I.os,I.bare,I.base,I.loc,I.cell,I.free,I.freeC,λp hp=>(List.mem_append.mp hp).elim (λz=>I.pin p (C9 _ z)) (h p),I.hok,I.len⟩

theorem tj{N:List Str}(hN:N.Nodup){i j:Nat}{x:Str}(a:N[i]?=some x)(b:N[j]?=some x):i=j:=by
 obtain⟨h1,e1⟩:=List.getElem?_eq_some_iff.mp a;obtain⟨h2,e2⟩:=List.getElem?_eq_some_iff.mp b;exact(List.getElem_inj hN).mp (e1.trans e2.symm)

theorem rA{M:Model}{A:CY}{E:B5->B9->Prop}{i:Nat}{x:Str}{v:V}{u:B5}{Q:Unit->B9->Prop}(I:Inv X pins σ H s)(hN:X.N.Nodup)(hi:X.N[i]?=some x)(hx:Loc X.env.scope x)(r:bA v u)
  (h:∀s',Inv X pins (σ.set i (some v)) H s'->(∃a,EX a s.heap s'.heap/\(a=X.env.locals\/X.env.cells.lookup x=some a))->Q () s')(hf:X.fn x=true\/X.env.scope.names.lookup x=some .local:=by first|exact .inl rfl|exact .inr rfl|assumption):Cz M A (storeName X.env x u) Q E s:=by
 obtain⟨m,hn,hl⟩:=id I.loc;have hcls:(X.env.scope.kind==.class||(X.env.scope.kind==.module&&X.env.locals != X.env.globals))=false:=by rw[I.ok.kind];rfl
 have hiσ:i<σ.length:=by rw[I.len];exact(List.getElem?_eq_some_iff.mp hi).1
 have cne:=I.cne;have tracked:∀{a:Addr} {h':Heap},(∃o,s.heap.get? a=some o/\H a=none)->EX a s.heap h'->HOk X.prog X.w H h':=λ{a h'} ha hs b ob e=>by
  obtain⟨_,_,hfree⟩:=ha;refine(I.hok b ob e).stay (λc w' hc q=>(hs.2 c ?_).trans q) (λ_ q=>q) λ_ _ q=>q;rintro rfl;rcases hc with rfl|hc
  .rw[hfree]at e;cases e
  .rw[hfree]at hc;cases hc
 rcases hx with hk|hk
 .refine wpAny_storeName_local hk hn (λh' hn' hs=>?_) hcls;obtain⟨oL,_,_,hoL,_⟩:=id hn;refine h _ ⟨I.ok,I.os,I.bare,⟨λb o e n hb hx=>?_,λb o e n hb hx=>?_,I.base.free,λb o e hx=>?_,I.base.tups,I.base.frzs,I.base.tbls⟩,⟨_,hn',λj y v' e1 e2 e3=>?_⟩,λy c e=>?_,I.free,I.freeC,λp hp=>?_,tracked ⟨oL,hoL,I.free⟩ hs,by simpa using I.len⟩ ⟨_,hs,.inl rfl⟩
  .exact(hs.2 b (Cn (B7 (Cc e) I.ok.above))).trans (I.base.keep b o e n hb hx)
  .obtain⟨sl,e1⟩:=I.base.slot b o e n hb hx;exact⟨sl,(hs.2 b (Cn (B7 (Cc e) I.ok.above))).trans e1⟩
  .obtain⟨o',e1⟩:=I.base.there b o e hx;exact⟨o',(hs.2 b (Cn (B7 (Cc e) I.ok.above))).trans e1⟩
  .by_cases hj:j=i
   .subst hj;rw[hi]at e1;cases e1;rw[List.getElem?_set_self hiσ]at e2;cases e2;exact⟨u,r,.inl ⟨hk,by simp⟩⟩
   .rw[List.getElem?_set_ne (CO hj)]at e2;obtain⟨u',r',q⟩:=hl j y v' e1 e2 e3;refine⟨u',r',?_⟩;rcases q with⟨k,e⟩|⟨k,c,e,z⟩
    .refine .inl ⟨k,?_⟩;have:y≠x:=λe=>hj (tj hN e1 (e▸hi));simp[this,e]
    .exact .inr ⟨k,c,e,z.sameBut hs (cne y c e)⟩
  .obtain⟨w',z⟩:=I.cell y c e;exact⟨w',z.sameBut hs (cne y c e)⟩
  .obtain⟨e,n,ne,nf,d⟩:=I.pin p hp;exact⟨(hs.2 p.1 ne).trans e,n,ne,nf,d⟩
 .have hfn:X.fn x=true:=by
   rcases hf with z|z
   .exact z
   .rw[z]at hk;cases hk
  obtain⟨c,hc⟩:=I.ok.has x (.inl hk);obtain⟨w',z⟩:=I.cell x c hc;refine wpAny_storeName_cell I.ok.kind hk hc z (λh' hc' hs=>?_);obtain⟨oc,hoc,hocd⟩:=id z;refine h { s with heap:=h' } ⟨I.ok,I.os,I.bare,⟨λb o e n hb hx=>?_,λb o e n hb hx=>?_,I.base.free,λb o e hx=>?_,I.base.tups,I.base.frzs,I.base.tbls⟩,⟨m,hn.sameBut hs (CO (cne x c hc)),λj y v' e1 e2 e3=>?_⟩,λy c' e=>?_,I.free,I.freeC,λp hp=>?_,tracked ⟨oc,hoc,I.freeC x c hc⟩ hs,by simpa using I.len⟩ ⟨c,hs,.inr hc⟩
  .exact(hs.2 b (Cn (B7 (Cc e) (I.ok.cab x c hfn hc)))).trans (I.base.keep b o e n hb hx)
  .obtain⟨sl,e1⟩:=I.base.slot b o e n hb hx;exact⟨sl,(hs.2 b (Cn (B7 (Cc e) (I.ok.cab x c hfn hc)))).trans e1⟩
  .obtain⟨o',e1⟩:=I.base.there b o e hx;exact⟨o',(hs.2 b (Cn (B7 (Cc e) (I.ok.cab x c hfn hc)))).trans e1⟩
  .by_cases hj:j=i
   .subst hj;rw[hi]at e1;cases e1;rw[List.getElem?_set_self hiσ]at e2;cases e2;exact⟨u,r,.inr ⟨.inl hk,c,hc,hc'⟩⟩
   .rw[List.getElem?_set_ne (CO hj)]at e2;obtain⟨u',r',q⟩:=hl j y v' e1 e2 e3;refine⟨u',r',?_⟩;rcases q with q|⟨k,c',e,z'⟩
    .exact .inl q
    .refine .inr ⟨k,c',e,z'.sameBut hs ?_⟩;rintro rfl;exact hj (tj hN e1 (I.ok.inj _ _ _ e hc▸hi))
  .by_cases hcc:c'=c
   .subst hcc;exact⟨_,hc'⟩
   .obtain⟨w2,z2⟩:=I.cell y c' e;exact⟨w2,z2.sameBut hs hcc⟩
  .obtain⟨e,n,ne,nf,d⟩:=I.pin p hp;refine⟨(hs.2 p.1 ?_).trans e,n,ne,nf,d⟩;intro q;rw[q,hoc]at e;have q':oc=p.2:=Cw e;exact d w' (by rw[<-q'];exact hocd)
theorem tz{M:Model}{A:CY}{E:B5->B9->Prop}{i:Nat}{x:Str}{v:V}{u:B5}{Q:Unit->B9->Prop}(I:Inv X pins σ H s)(hN:X.N.Nodup)(hi:X.N[i]?=some x)(hx:Loc X.env.scope x)(r:bA v u)
  (h:∀s',Inv X pins (σ.set i (some v)) H s'->Q () s')(hf:X.fn x=true\/X.env.scope.names.lookup x=some .local:=by first|exact .inl rfl|exact .inr rfl|assumption):Cz M A (storeName X.env x u) Q E s:=
 rA I hN hi hx r (λs' I' _=>h s' I') hf
theorem Inv.call'{s':B9}{ch:List Addr}(I:Inv X pins σ H s)(ho:s'.os=s.os)(u:Un (frs X.stack) ch H H' s.heap s'.heap)(hok:HOk X.prog X.w H' s'.heap)(hg:E6 s'.gens)
  (hch:∀b∈ch,(b∈X.ex\/X.s₀.heap.objs.size<=b)/\b≠X.env.locals/\(∀x c,X.env.cells.lookup x=some c->c≠b)/\∀p∈X.pn++pins,p.1≠b):Inv X pins σ H' s':=by
 obtain⟨h',g',d',t',o'⟩:=s';have e:o'=s.os:=ho;subst e;exact I.call (g':=g') (t':=t') (d':=d') u hok hg hch
end

abbrev XK:=B5->Option Addr->Hp->Prop
abbrev St:=List (Option V)
abbrev VK:=V->Hp->Prop
abbrev TE:=St->Hp->VK->Prop
abbrev TT:=St->Hp->(Bool->Hp->Prop)->Prop
abbrev TA:=St->Hp->(List V->Hp->Prop)->Prop
structure hJ where
 nx:St->Hp->Prop
 rt:VK
 bk:St->Hp->Prop:=λ_ _=>False
 ct:St->Hp->Prop:=λ_ _=>False
abbrev TS:=hJ->St->Hp->Prop

def EP(X:Cx)(pins:List (Addr×Obj))(σ:St)(Q:VK)(u:B5)(s':B9):Prop:=∃v H',Inv X pins σ H' s'/\bA v u/\Q v H'
def TP(X:Cx)(pins:List (Addr×Obj))(σ:St)(Q:Bool->Hp->Prop)(b:Bool)(s':B9):Prop:=∃H',Inv X pins σ H' s'/\Q b H'
def AP(X:Cx)(pins:List (Addr×Obj))(σ:St)(Q:List V->Hp->Prop)(us:List B5)(s':B9):Prop:=∃vs H',Inv X pins σ H' s'/\aP vs us/\Q vs H'
def SP(X:Cx)(pins:List (Addr×Obj))(D:hJ)(f:Flow)(s':B9):Prop:=
 match f with
 |.next=>∃σ' H',Inv X pins σ' H' s'/\D.nx σ' H'
 |.brk=>∃σ' H',Inv X pins σ' H' s'/\D.bk σ' H'
 |.cont=>∃σ' H',Inv X pins σ' H' s'/\D.ct σ' H'
 |.ret u=>∃v σ' H',Inv X pins σ' H' s'/\bA v u/\D.rt v H'

def PE(X:Cx)(e:Expr)(t:TE):Prop:=
 ∀(pins:List (Addr×Obj)) (s:B9) (σ:St) (H:Hp) (Q:VK),Inv X pins σ H s->t σ H Q->Cz (CF X.prog X.w) X.A (eval e X.env) (EP X pins σ Q) X.xe s
def PT(X:Cx)(e:Expr)(t:TT):Prop:=
 ∀(pins:List (Addr×Obj)) (s:B9) (σ:St) (H:Hp) (Q:Bool->Hp->Prop),Inv X pins σ H s->t σ H Q->Cz (CF X.prog X.w) X.A (isTrue e X.env (eval e X.env)) (TP X pins σ Q) X.xe s
def PW(X:Cx)(e:Expr)(t:TT):Prop:=
 ∀(whole:Sem B5) (pins:List (Addr×Obj)) (s:B9) (σ:St) (H:Hp) (Q:Bool->Hp->Prop),Inv X pins σ H s->t σ H Q->Cz (CF X.prog X.w) X.A (isTrue e X.env whole) (TP X pins σ Q) X.xe s
theorem PW.pt{X:Cx}{e:Expr}{t:TT}(h:PW X e t):PT X e t:=h _
def PA(X:Cx)(es:List Expr)(t:TA):Prop:=
 ∀(pos:Pos) (pins:List (Addr×Obj)) (s:B9) (σ:St) (H:Hp) (Q:List V->Hp->Prop),Inv X pins σ H s->t σ H Q->Cz (CF X.prog X.w) X.A (spliced (EK pos (CJ es X.env))) (AP X pins σ Q) X.xe s
def PS(X:Cx)(st:Stmt)(t:TS):Prop:=
 ∀(pins:List (Addr×Obj)) (s:B9) (σ:St) (H:Hp) (D:hJ),Inv X pins σ H s->t D σ H->Cz (CF X.prog X.w) X.A (exec st X.env) (SP X pins D) X.xe s
def PSs(X:Cx)(st:List Stmt)(t:TS):Prop:=
 ∀(pins:List (Addr×Obj)) (s:B9) (σ:St) (H:Hp) (D:hJ),Inv X pins σ H s->t D σ H->Cz (CF X.prog X.w) X.A (execs st X.env) (SP X pins D) X.xe s
theorem thn{α:Type}{t:Sem α}{Q Q':α->B9->Prop}{M:Model}{A:CY}{E:B5->B9->Prop}{s:B9}(h:Cz M A t Q E s)(hQ:∀a s,Q a s->Q' a s):Cz M A t Q' E s:=Dn h hQ λ_ _ x=>x
section
variable {X:Cx}

def Aw(i:Nat):TE:=λσ H Q=>∃v,σ[i]?=some (some v)/\Q v H
def tC(v:V):TE:=λ_ H Q=>Q v H
theorem Ax{i:Nat}{x:Str}{pos:Pos}(hN:X.N[i]?=some x)(hv:Vis X.env.scope x)(hd:(x==("__debug__" : Str))=false:=by decide)(hcd:(x==("__classdict__" : Str))=false:=by decide):PE X (.Name x pos) (Aw i):=by
 intro pins s σ H Q I h;obtain⟨v,e,h⟩:=h;obtain⟨m,hn,hl⟩:=I.loc;obtain⟨u,r,l⟩:=hl i x v hN e hv;have fin:EP X pins σ Q u s:=⟨v,H,I,r,h⟩;rcases l with⟨hk,hm⟩|⟨hk,c,hc,hcell⟩
 .exact F4 (wpAny_loadName_local I.ok.kind hk hn hm fin) hd
 .rcases hk with hk|hk
  .exact F4 (wpAny_loadName_cell I.ok.kind hk hc hcell fin) hd
  .exact F4 (wpAny_loadName_free I.ok.kind hk hc hcell fin hcd) hd
theorem ab{i j pos}:PE X (.Constant (.int i) j pos) (tC (.int i)):=λ_ _ _ H _ I h=>wpAny_Constant_int ⟨.int i,H,I.tok _,⟨_,rfl⟩,h⟩
theorem b9{b j pos}:PE X (.Constant (.bool b) j pos) (tC (.bl b)):=λ_ _ _ H _ I h=>Constant_bool ⟨.bl b,H,I,rfl,h⟩
theorem cf{j pos}:PE X (.Constant .none j pos) (tC .non):=λ_ _ _ H _ I h=>Constant_none ⟨.non,H,I,rfl,h⟩
theorem bv{x j pos}:PE X (.Constant (.str x) j pos) (tC (.str x)):=λ_ _ _ H _ I h=>Calls.Constant_str ⟨.str x,H,I.tok _,⟨_,rfl⟩,h⟩

def Gl(X:Cx)(x:Str):Prop:=X.env.kindOf x=some .globalImplicit
theorem zU{E:B5->B9->Prop}{pins:List (Addr×Obj)}{s:B9}{σ:St}{H:Hp}{x:Str}{u:B5}{pos:Pos}{Q:B5->B9->Prop}(I:Inv X pins σ H s)(hg:Gl X x)(hm:X.mg x=some u)(h:Q u s)
  (hd:(x==("__debug__" : Str))=false:=by decide):Cz (CF X.prog X.w) X.A (eval (.Name x pos) X.env) Q E s:=
 Calls.Name_function_global I.ok.kind hg (Calls.loadGlobal_global (by rw[I.ok.glob];exact I.mod.glob.keeps I.bk) hm h) hd
theorem gS{E:B5->B9->Prop}{pins:List (Addr×Obj)}{s:B9}{σ:St}{H:Hp}{x:Str}{u:B5}{pos:Pos}{Q:B5->B9->Prop}(I:Inv X pins σ H s)(hg:Gl X x)(hm:X.mg x=none)(hv:DR x=some u)(h:Q u s)
  (hn:x≠"__name__":=by decide)(hd:(x==("__debug__" : Str))=false:=by decide):Cz (CF X.prog X.w) X.A (eval (.Name x pos) X.env) Q E s:=by
 obtain⟨mb,h1,h2⟩:=I.mod.blt;exact Calls.Name_function_global I.ok.kind hg (Calls.loadGlobal_builtin (by rw[I.ok.glob];exact I.mod.glob.keeps I.bk) hm (by rw[I.ok.blt];exact h1.keeps I.bk) ((h2 x hn).trans hv) h) hd
theorem d3{x:Str}{v:V}{u:B5}{pos:Pos}(hg:Gl X x)(hm:X.mg x=none)(hv:DR x=some u)(r:bA v u)(hn:x≠"__name__":=by decide)(hd:(x==("__debug__" : Str))=false:=by decide):PE X (.Name x pos) (tC v):=
 λ_ _ _ H _ I h=>gS I hg hm hv ⟨v,H,I,r,h⟩ hn hd

variable {a b:Expr}{ta tb:TE}{pos:Pos}
def tB(t:TE):TT:=λσ H Q=>t σ H λx H1=>∃c,x=.bl c/\Q c H1
theorem bV{e:Expr}{t:TE}(h:PE X e t)(he:∀whole,isTrue e X.env whole=(do let v<-whole;standAt e.pos;FP [v] (truthy v)):=by intro _;rfl):PT X e (tB t):=by
 intro pins s σ H Q I hw;refine isTrue_plain (thn (h pins s σ H _ I hw) λv s1 ⟨x,H1,I1,r1,q1⟩=>?_) (he _);obtain⟨d,rfl,q⟩:=q1;cases r1;exact Dc ⟨H1,I1,q⟩

variable {tA tB':TT}{d5:List Expr}
def BF(t u:TT):TT:=λσ H Q=>t σ H λc H1=>if c=true then u σ H1 Q else Q false H1
def tOr(t u:TT):TT:=λσ H Q=>t σ H λc H1=>if c=true then Q true H1 else u σ H1 Q
def BG(t:TT):TT:=λσ H Q=>t σ H λc H1=>Q (!c) H1
theorem bK(ha:PT X a tA):PW X (.BoolOp .And [a] pos) tA:=by
 intro wh pins s σ H Q I h;refine isTrue_and (thn (ha pins s σ H Q I h) λc s1 e=>?_);cases c with
 |true=>exact isTrue_and_nil e
 |false=>exact e
theorem cx(ha:PT X a tA):PW X (.BoolOp .Or [a] pos) tA:=by
 intro wh pins s σ H Q I h;refine isTrue_or (thn (ha pins s σ H Q I h) λc s1 e=>?_);cases c with
 |false=>exact isTrue_or_nil e
 |true=>exact e
theorem bW(ha:PT X a tA)(hb:PW X (.BoolOp .And (b::d5) pos) tB'):PW X (.BoolOp .And (a::b::d5) pos) (BF tA tB'):=by
 intro wh pins s σ H Q I h;refine isTrue_and (thn (ha pins s σ H _ I h) λc s1 ⟨H1,I1,q1⟩=>?_);cases c with
 |true=>exact hb wh pins s1 σ H1 Q I1 q1
 |false=>exact⟨H1,I1,q1⟩
theorem cH(ha:PT X a tA)(hb:PW X (.BoolOp .Or (b::d5) pos) tB'):PW X (.BoolOp .Or (a::b::d5) pos) (tOr tA tB'):=by
 intro wh pins s σ H Q I h;refine isTrue_or (thn (ha pins s σ H _ I h) λc s1 ⟨H1,I1,q1⟩=>?_);cases c with
 |true=>exact⟨H1,I1,q1⟩
 |false=>exact hb wh pins s1 σ H1 Q I1 q1
theorem dm(ha:PT X a tA):PT X (.UnaryOp .Not a pos) (BG tA):=by
 intro pins s σ H Q I h;exact isTrue_not (ha pins s σ H (λc H1=>Q (!c) H1) I h)
def Bp(ta tb:TE):TE:=λσ H Q=>ta σ H λx H1=>∃c,x=.bl c/\if c=true then tb σ H1 Q else Q (.bl false) H1
def BH(ta tb:TE):TE:=λσ H Q=>ta σ H λx H1=>∃c,x=.bl c/\if c=true then Q (.bl true) H1 else tb σ H1 Q
theorem mO{op}{t:TE}(h:PE X a t):PE X (.BoolOp op [a] pos) t:=λpins s σ H Q I hw=>BoolOp_one (h pins s σ H Q I hw)
theorem pU(ha:PE X a ta)(hb:PE X (.BoolOp .And (b::d5) pos) tb):PE X (.BoolOp .And (a::b::d5) pos) (Bp ta tb):=by
 intro pins s σ H Q I h;refine BoolOp_and (thn (ha pins s σ H _ I h) λv s1 ⟨x,H1,I1,r1,q1⟩=>?_);obtain⟨c,rfl,q1⟩:=q1;cases r1;refine Dc ?_;cases c with
 |true=>exact hb pins s1 σ H1 Q I1 q1
 |false=>exact⟨.bl false,H1,I1,rfl,q1⟩
theorem Bq(ha:PE X a ta)(hb:PE X (.BoolOp .Or (b::d5) pos) tb):PE X (.BoolOp .Or (a::b::d5) pos) (BH ta tb):=by
 intro pins s σ H Q I h;refine BoolOp_or (thn (ha pins s σ H _ I h) λv s1 ⟨x,H1,I1,r1,q1⟩=>?_);obtain⟨c,rfl,q1⟩:=q1;cases r1;refine Dc ?_;cases c with
 |false=>exact hb pins s1 σ H1 Q I1 q1
 |true=>exact⟨.bl true,H1,I1,rfl,q1⟩
def tIf(t:TT)(ta tb:TE):TE:=λσ H Q=>t σ H λc H1=>if c=true then ta σ H1 Q else tb σ H1 Q
theorem yC{c:Expr}(hc:PT X c tA)(ha:PE X a ta)(hb:PE X b tb):PE X (.IfExp c a b pos) (tIf tA ta tb):=by
 intro pins s σ H Q I h;refine wpAny_IfExp (thn (hc pins s σ H _ I h) λd s1 ⟨H1,I1,q1⟩=>?_);cases d with
 |true=>exact ha pins s1 σ H1 Q I1 q1
 |false=>exact hb pins s1 σ H1 Q I1 q1
end

def SqL(K:PySem.W.Frag)(H:Hp)(a:Addr)(xs:List V):Prop:=
 Rd H a (.lst xs)\/
  ∃(o:Obj) (its:Array B5) (n:Nat),K.lookup a=some o/\o.cls=.type "list"/\o.dict=none/\o.data=.seq its n/\its.size<=Cr/\aP xs its.toList
def SqT(K:PySem.W.Frag)(H:Hp)(a:Addr)(xs:List V):Prop:=
 Rd H a (.tup xs)\/
  ∃(o:Obj) (its:Array B5) (n:Nat),K.lookup a=some o/\o.cls=.type "tuple"/\o.data=.seq its n/\its.size<=Cr/\aP xs its.toList
def BI:B5->Option V
 |.none=>some .non
 |.bool b=>some (.bl b)
 |.int i _=>some (.int i)
 |.str x _=>some (.str x)
 |.bytes b _=>some (.byt b)
 |.float b _=>some (.flt b)
 |.ref a=>some (.ref a)
 |.type n=>some (.ty n)
 |_=>none
theorem bA.abs{x:V}{u:B5}(r:bA x u):BI u=some x:=by
 cases x with
 |non=>cases r;rfl
 |bl _=>cases r;rfl
 |int _=>obtain⟨t,rfl⟩:=r;rfl
 |str _=>obtain⟨t,rfl⟩:=r;rfl
 |byt _=>obtain⟨t,rfl⟩:=r;rfl
 |flt _=>obtain⟨t,rfl⟩:=r;rfl
 |ref _=>cases r;rfl
 |ty _=>cases r;rfl
theorem bA.inj{x y:V}{u:B5}(r:bA x u)(q:bA y u):x=y:=Cw (r.abs.symm.trans q.abs)
theorem aP.inj:∀{xs ys:List V} {us:List B5},aP xs us->aP ys us->xs=ys
 |_,_,_,.nil,.nil=>rfl
 |_,_,_,.cons r t,.cons r' t'=>by rw[r.inj r',aP.inj t t']
section
variable {X:Cx}{pins:List (Addr×Obj)}{σ:St}{H:Hp}{s:B9}{a:Addr}{xs ys:List V}
theorem SqL.of{K:PySem.W.Frag}(h:H a=some (.lst xs)):SqL K H a xs:=.inl (.inl h)
theorem SqT.of{K:PySem.W.Frag}(h:H a=some (.tup xs)):SqT K H a xs:=.inl (.inl h)
theorem Inv.list(I:Inv X pins σ H s)(h:SqL X.K H a xs):∃its:List B5,aP xs its/\PlainL s.heap a its.toArray/\xs.length<=Cr:=by
 rcases h with h|⟨o,its,n,hk,hc,hd,hs,hz,r⟩
 .obtain⟨z,its,n,r,e⟩:=h.ok I.hok;exact⟨its,r,⟨_,n,e,rfl,rfl,rfl⟩,z⟩
 .refine⟨its.toList,r,⟨o,n,I.kIn a o hk,hc,hd,by simpa using hs⟩,?_⟩;have e:=r.length;simp only[Array.length_toList]at e;omega
theorem Inv.tuple(I:Inv X pins σ H s)(h:SqT X.K H a xs):∃its:List B5,aP xs its/\IsTup s.heap a its.toArray/\xs.length<=Cr:=by
 rcases h with h|⟨o,its,n,hk,hc,hs,hz,r⟩
 .obtain⟨z,its,r,p⟩:=h.ok I.hok;exact⟨its,r,p,z⟩
 .refine⟨its.toList,r,⟨o,I.kIn a o hk,hc,n,by simpa using hs⟩,?_⟩;have e:=r.length;simp only[Array.length_toList]at e;omega
theorem Inv.list_inj(I:Inv X pins σ H s)(h:SqL X.K H a xs)(h':SqL X.K H a ys):xs=ys:=by
 obtain⟨its,r,⟨o,n,e,_,_,d⟩,_⟩:=I.list h;obtain⟨its',r',⟨o',n',e',_,_,d'⟩,_⟩:=I.list h';rw[e]at e';cases e';rw[d]at d';injection d' with d1 _;have:its=its':=by simpa using congrArg FQ d1
 subst this;exact r.inj r'
theorem Inv.tuple_inj(I:Inv X pins σ H s)(h:SqT X.K H a xs)(h':SqT X.K H a ys):xs=ys:=by
 obtain⟨its,r,⟨o,e,_,n,d⟩,_⟩:=I.tuple h;obtain⟨its',r',⟨o',e',_,n',d'⟩,_⟩:=I.tuple h';rw[e]at e';cases e';rw[d]at d';injection d' with d1 _;have:its=its':=by simpa using congrArg FQ d1
 subst this;exact r.inj r'
end

abbrev Cx.wish(X:Cx)(E:B5->B9->Prop):Cx:={ X with xe:=E }
abbrev Cx.nox(X:Cx):Cx:=X.wish λ_ _=>False
theorem Cx.Ok.wish{X:Cx}(ok:X.Ok)(E:B5->B9->Prop):(X.wish E).Ok:=
 ⟨ok.mod,ok.kind,ok.glob,ok.blt,ok.above,ok.inj,ok.has,ok.cab,ok.hd,ok.frames,ok.stk,ok.exf,ok.bs,ok.bsz,ok.noex,ok.exfs,ok.funs,ok.frf⟩
theorem Cx.Ok.unwish{X:Cx}{E:B5->B9->Prop}(ok:(X.wish E).Ok):X.Ok:=
 ⟨ok.mod,ok.kind,ok.glob,ok.blt,ok.above,ok.inj,ok.has,ok.cab,ok.hd,ok.frames,ok.stk,ok.exf,ok.bs,ok.bsz,ok.noex,ok.exfs,ok.funs,ok.frf⟩
section
variable {X:Cx}{pins:List (Addr×Obj)}{σ:St}{H:Hp}{s:B9}{E:B5->B9->Prop}
theorem Inv.wish(I:Inv X pins σ H s)(E:B5->B9->Prop):Inv (X.wish E) pins σ H s:=⟨I.ok.wish E,I.os,I.bare,I.base,I.loc,I.cell,I.free,I.freeC,I.pin,I.hok,I.len⟩
theorem Inv.unwish(I:Inv (X.wish E) pins σ H s):Inv X pins σ H s:=⟨I.ok.unwish,I.os,I.bare,I.base,I.loc,I.cell,I.free,I.freeC,I.pin,I.hok,I.len⟩
theorem SP.unwish{D:hJ}{f:Flow}{s':B9}(h:SP (X.wish E) pins D f s'):SP X pins D f s':=by
 cases f with
 |next=>obtain⟨σ',H',I,q⟩:=h;exact⟨σ',H',I.unwish,q⟩
 |brk=>obtain⟨σ',H',I,q⟩:=h;exact⟨σ',H',I.unwish,q⟩
 |cont=>obtain⟨σ',H',I,q⟩:=h;exact⟨σ',H',I.unwish,q⟩
 |ret u=>obtain⟨v,σ',H',I,r,q⟩:=h;exact⟨v,σ',H',I.unwish,r,q⟩
theorem PSs.nox{st:List Stmt}{t:TS}(h:PSs X.nox st t):PSs X st t:=λpins s σ H D I hw =>
 Dn (h pins s σ H D (I.wish _) hw) (λ_ _ q=>q.unwish) λ_ _ z=>D2 z
end

section
variable {X:Cx}{st:Stmt}{d5:List Stmt}{t u:TS}{e:Expr}{te:TE}{pos:Pos}
def cm:TS:=λD σ H=>D.nx σ H
def Ay(t u:TS):TS:=λD σ H=>t { D with nx:=u D } σ H
theorem aD:PSs X [] cm:=λ_ _ σ H _ I h=>EL ⟨σ,H,I,h⟩
theorem ac(h1:PS X st t)(h2:PSs X d5 u):PSs X (st::d5) (Ay t u):=by
 intro pins s σ H D I h;refine wpAny_execs_cons (thn (h1 pins s σ H { D with nx:=u D } I h) λf s1 q=>?_);cases f with
 |next =>
  obtain⟨σ',H',I',q⟩:=q;exact h2 pins s1 σ' H' D I' q
 |ret v=>exact q
 |brk=>exact q
 |cont=>exact q
theorem af(h1:PS X st t):PSs X [st] t:=by
 intro pins s σ H D I h;refine wpAny_execs_cons (thn (h1 pins s σ H D I h) λf s1 q=>?_);cases f with
 |next=>exact EL q
 |ret v=>exact q
 |brk=>exact q
 |cont=>exact q
theorem Inv.quiet{pins:List (Addr×Obj)}{σ:St}{H:Hp}{s:B9}(I:Inv X pins σ H s):interactive X.env=false:=by simp[interactive,I.ok.kind]
def Br(te:TE):TS:=λD σ H=>te σ H λ_ H1=>D.nx σ H1
theorem cr(he:PE X e te)(hs:FV e none pos.line X.env=pure false:=by rfl):PS X (.Expr e pos) (Br te):=by
 intro pins s σ H D I h;exact wpAny_Expr_any (thn (he pins s σ H _ I h) λv s1 ⟨x,H1,I1,r1,q1⟩=>⟨σ,H1,I1,q1⟩) I.quiet hs
def BJ(te:TE):TS:=λD σ H=>te σ H D.rt
theorem au(he:PE X e te):PS X (.Return (some e) pos) (BJ te):=by
 intro pins s σ H D I h;exact wpAny_Return_some (thn (he pins s σ H _ I h) λv s1 ⟨x,H1,I1,r1,q1⟩=>⟨x,σ,H1,I1,r1,q1⟩)
def BK(c:TT)(t u:TS):TS:=λD σ H=>c σ H λb H1=>if b=true then t D σ H1 else u D σ H1
theorem aI{c:Expr}{a b:List Stmt}{tc:TT}(hc:PT X c tc)(ha:PSs X a t)(hb:PSs X b u):PS X (.If c a b pos) (BK tc t u):=by
 intro pins s σ H D I h;refine wpAny_If (thn (hc pins s σ H _ I h) λd s1 ⟨H1,I1,q1⟩=>?_);cases d with
 |true=>exact ha pins s1 σ H1 D I1 q1
 |false=>exact hb pins s1 σ H1 D I1 q1
end

abbrev TG:=V->St->Hp->(St->Hp->Prop)->Prop
abbrev TGs:=List V->St->Hp->(St->Hp->Prop)->Prop
def PG(X:Cx)(target:Expr)(t:TG):Prop:=
 ∀(pins:List (Addr×Obj)) (s:B9) (σ:St) (H:Hp) (v:V) (u:B5) (Q:St->Hp->Prop),Inv X pins σ H s->bA v u->t v σ H Q->
  Cz (CF X.prog X.w) X.A (FL target X.env u) (λ_ s'=>∃σ' H',Inv X pins σ' H' s'/\Q σ' H') X.xe s
def PGs(X:Cx)(ts:List Expr)(t:TGs):Prop:=
 ∀(pins:List (Addr×Obj)) (s:B9) (σ:St) (H:Hp) (vs:List V) (us:List B5) (Q:St->Hp->Prop),Inv X pins σ H s->aP vs us->t vs σ H Q->
  Cz (CF X.prog X.w) X.A (assignInOrder ((EZ ts X.env).map (·.2)) us) (λ_ s'=>∃σ' H',Inv X pins σ' H' s'/\Q σ' H') X.xe s
abbrev yD:=V->V->V->Hp->(Hp->Prop)->Prop
def Az(X:Cx)(t:yD):Prop:=
 ∀(pins:List (Addr×Obj)) (s:B9) (σ:St) (H:Hp) (o i v:V) (ov iv u:B5) (Q:Hp->Prop),Inv X pins σ H s->bA o ov->bA i iv->bA v u->t o i v H Q->
  Cz (CF X.prog X.w) X.A (setItem ov iv u) (λ_ s'=>∃H',Inv X pins σ H' s'/\Q H') X.xe s
section
variable {X:Cx}{pos:Pos}
def aF(i:Nat):TG:=λv σ H Q=>Q (σ.set i (some v)) H
theorem aO{i:Nat}{x:Str}(hN:X.N.Nodup)(hi:X.N[i]?=some x)(hx:Loc X.env.scope x)(hf:X.fn x=true\/X.env.scope.names.lookup x=some .local:=by first|exact .inl rfl|exact .inr rfl|assumption):PG X (.Name x pos) (aF i):=by
 intro pins s σ H v u Q I r h;exact wpAny_assign_Name (tz I hN hi hx r (λs' I'=>⟨_,H,I',h⟩) hf)
def BL:TGs:=λvs σ H Q=>vs=[]/\Q σ H
def Bs(t:TG)(u:TGs):TGs:=λvs σ H Q=>∃v r,vs=v::r/\t v σ H λσ' H'=>u r σ' H' Q
theorem cK:PGs X [] BL:=by
 intro pins s σ H vs us Q I r h;obtain⟨e,h⟩:=h;subst e;cases r;exact assignInOrder_nil ⟨σ,H,I,h⟩
theorem a8{e:Expr}{es:List Expr}{t:TG}{u:TGs}(h1:PG X e t)(h2:PGs X es u)
  (hs:(EZ (e::es) X.env).map (·.2)=FL e X.env::(EZ es X.env).map (·.2):=by rfl):PGs X (e::es) (Bs t u):=by
 intro pins s σ H vs us Q I r h;obtain⟨v,vr,e1,h⟩:=h;subst e1;cases r with
 |cons r rr =>
  rw[hs];refine assignInOrder_cons (thn (h1 pins s σ H _ _ _ I r h) λ_ s1 ⟨σ1,H1,I1,q1⟩=>?_);exact h2 pins s1 σ1 H1 _ _ Q I1 rr q1
def BM(K:PySem.W.Frag)(n:Nat)(t:TGs):TG:=λv σ H Q=>∃a xs,v=.ref a/\SqT K H a xs/\xs.length=n/\t xs σ H Q
theorem dn{es:List Expr}{k:Nat}{t:TGs}{n:Nat}(hc:X.calm=true)(h:PGs X es t)
  (hn:(EZ es X.env).length=n:=by rfl)(hst:(EZ es X.env).findIdx? (·.1)=none:=by rfl):PG X (.Tuple es k pos) (BM X.K n t):=by
 intro pins s σ H v u Q I r hw;obtain⟨a,xs,e1,hq,hl,hw⟩:=hw;subst e1;cases r;obtain⟨its,rv,ht,hz⟩:=I.tuple hq;refine assign_Tuple_tuple (I.ok.hd hc) ht (by simp[hn,<-hl,rv.length]) hst λh' hx=>?_;have I1:Inv X pins σ H { s with heap:=h' }:=I.kept (t':=s.toks) λb o e=>hx b o (Cn (Cc e)) e;exact h pins _ σ H xs _ Q I1 (by simpa using rv) hw
def BN(to ti:TE)(t:yD):TG:=λv σ H Q=>to σ H λo H1=>ti σ H1 λi H2=>t o i v H2 λH3=>Q σ H3
theorem xD{o i:Expr}{to ti:TE}{t:yD}(ho:PE X o to)(hi:PE X i ti)(hs:Az X t)
  (ha:∀ v,FL (.Subscript o i pos) X.env v=(do
   let ov<-FP [v] (eval o X.env)
   let iv<-FP [v,ov] (eval i X.env)
   standAt pos
   FP [v,ov,iv] (setItem ov iv v)
   release [v,ov,iv] []):=by intro _;rfl):PG X (.Subscript o i pos) (BN to ti t):=by
 intro pins s σ H v u Q I r h;rw[ha];refine B8 (Dr (thn (ho pins s σ H _ I h) λov s1 ⟨x,H1,I1,r1,q1⟩=>?_));refine B8 (Dr (thn (hi pins s1 σ H1 _ I1 q1) λiv s2 ⟨y,H2,I2,r2,q2⟩=>?_));refine B8 (FH (B8 (Dr (thn (hs pins s2 σ H2 x y v ov iv u _ I2 r1 r2 r q2) λ_ s3 ⟨H3,I3,q3⟩=>?_))));exact wpAny_release ⟨σ,H3,I3,q3⟩
def we(te:TE)(g:TG):TS:=λD σ H=>te σ H λx H1=>g x σ H1 D.nx
theorem fE{tg e:Expr}{te:TE}{g:TG}(he:PE X e te)(hg:PG X tg g)(hs:swapsWithSole [tg] e pos.line X.env=pure false:=by rfl)(hw:swappedStores [tg] e X.env=pure none:=by rfl)
  (h1:(EZ [tg] X.env).map (·.2)=[FL tg X.env]:=by rfl):PS X (.Assign [tg] e pos) (we te g):=by
 intro pins s σ H D I h;refine wpAny_Assign_stores (thn (he pins s σ H _ I h) λv s1 ⟨x,H1,I1,r1,q1⟩=>?_) hs hw;rw[h1];exact thn (hg pins s1 σ H1 x v _ I1 r1 q1) λ_ s2 q=>q
theorem am{i:Nat}{x:Str}{e:Expr}{te:TE}{pos':Pos}(hN:X.N.Nodup)(hi:X.N[i]?=some x)(hx:Loc X.env.scope x)(he:PE X e te)(hs:FV e (some (.Name x pos')) pos.line X.env=pure false:=by rfl)(hf:X.fn x=true\/X.env.scope.names.lookup x=some .local:=by first|exact .inl rfl|exact .inr rfl|assumption) :
  PS X (.Assign [.Name x pos'] e pos) (we te (aF i)):=by
 intro pins s σ H D I h;refine wpAny_Assign_Name (thn (he pins s σ H _ I h) λv s1 ⟨y,H1,I1,r1,q1⟩=>?_) hs;exact tz I1 hN hi hx r1 (λs2 I2=>⟨_,H1,I2,q1⟩) hf
end

section
variable {X:Cx}{pos:Pos}
def AA(c:TT)(tb:TS):TS:=λD σ H=>∃W:Nat->St->Hp->Prop,(∃m,W m σ H)/\∀m σ H,W m σ H->
 c σ H λb H1=>if b=true then ∃N:St->Hp->Prop,(∀σ' H',N σ' H'->∃m',m'<m/\W m' σ' H')/\tb { D with nx:=N,ct:=N,bk:=D.nx } σ H1 else D.nx σ H1
theorem eW{c:Expr}{body:List Stmt}{tc:TT}{tb:TS}(hp:PassesOwn (CF X.prog X.w) X.A X.env X.xe)(hc:PT X c tc)(hb:PSs X body tb):PS X (.While c body [] pos) (AA tc tb):=by
 intro pins s σ H D I h;obtain⟨W,⟨m0,w0⟩,turn⟩:=h;refine wpAny_While (codeAny_whileLoop (λn s'=>∃σ' H',Inv X pins σ' H' s'/\W n σ' H') ?_ m0 ⟨σ,H,I,w0⟩);rintro n s1 ⟨σ1,H1,I1,w1⟩;refine DQ hp (thn (hc pins s1 σ1 H1 _ I1 (turn n σ1 H1 w1)) λb s2 ⟨H2,I2,q2⟩=>?_);cases b with
 |true =>
  obtain⟨N,hN,q2⟩:=q2;rw[if_pos rfl];refine DQ hp (thn (hb pins s2 σ1 H2 _ I2 q2) λf s3 q3=>?_);cases f with
  |next =>
   obtain⟨σ3,H3,I3,n3⟩:=q3;obtain⟨m',hm,w3⟩:=hN σ3 H3 n3;exact⟨m',hm,σ3,H3,I3,w3⟩
  |cont =>
   obtain⟨σ3,H3,I3,n3⟩:=q3;obtain⟨m',hm,w3⟩:=hN σ3 H3 n3;exact⟨m',hm,σ3,H3,I3,w3⟩
  |brk=>exact q3
  |ret v=>exact q3
 |false =>
  rw[if_neg Cm];exact EL ⟨σ1,H2,I2,q2⟩
end

structure It where
 go:Nat->Hp->Prop
 yld:Nat->Hp->V->Hp->Prop
 stop:Nat->Hp->Prop
def mP(X:Cx)(pins:List (Addr×Obj))(H:Hp)(b:Addr):Prop:=
 H b=none/\b≠X.env.locals/\b∉X.fs/\(b∈X.ex\/X.s₀.heap.objs.size<=b)/\(∀x c,X.env.cells.lookup x=some c->c≠b)/\∀p∈X.pn++pins,p.1≠b
theorem Inv.fpOk{X:Cx}{pins:List (Addr×Obj)}{σ:St}{H H':Hp}{s:B9}{b:Addr}(I:Inv X pins σ H s)(hb:s.heap.objs.size<=b)(hn:H' b=none):mP X pins H' b:=by
 refine⟨hn,Dl (B7 I.lt hb),I.nofs hb,.inr (Ds I.sz hb),λx c e z=>?_,λp hp z=>?_⟩
 .obtain⟨v,q⟩:=I.cell x c e;exact absurd (B7 q.lt (by rw[z];exact hb)) (CI _)
 .exact absurd (B7 (Cc (I.pin p hp).1) (by rw[z];exact hb)) (CI _)
structure oN(P:CK)(w:CG)(K:PySem.W.Frag)(tg:Expr)(J:It)(fp:List Addr)(it:Addr)(tn:Nat->Heap->Prop):Prop where
 mem:it∈fp
 obj:∀i h,tn i h->∀b∈fp,∃o,h.get? b=some o/\∀v,o.data≠.cell v
 keep:∀i h h',tn i h->(∀b∈fp,∀o,h.get? b=some o->h'.get? b=some o)->tn i h'
 item:∀(X:Cx),X.prog=P->X.w=w->X.K=K->X.calm=true->∀(i:Nat) (pins:List (Addr×Obj)) (s:B9) (σ:St) (H:Hp) (E:B5->B9->Prop),Inv X pins σ H s->(∀b∈fp,mP X pins H b)->tn i s.heap->J.go i H->
  Cz (CF P w) X.A (El (.ref it)) (λr s1=>∃u,r=some u/\
   Cz (CF P w) X.A (EM tg (.ref it) u) (λ_ s2=>∃x H',Inv X pins σ H' s2/\bA x u/\J.yld i H x H'/\tn (i+1) s2.heap/\∀b∈fp,H' b=none) E s1) E s
 done:∀(X:Cx),X.prog=P->X.w=w->X.K=K->X.calm=true->∀(i:Nat) (pins:List (Addr×Obj)) (s:B9) (σ:St) (H:Hp) (E:B5->B9->Prop),Inv X pins σ H s->(∀b∈fp,mP X pins H b)->tn i s.heap->J.stop i H->
  Cz (CF P w) X.A (El (.ref it)) (λr s1=>r=none/\Inv X pins σ H s1) E s
 self:∀(A:CY) (i:Nat) (s:B9) (Q:B5->B9->Prop) (E:B5->B9->Prop),tn i s.heap->Q (.ref it) s->Cz (CF P w) A (pyIter (.ref it)) Q E s
abbrev TI:=St->Hp->(It->Hp->Prop)->Prop
def PIE(X:Cx)(pins:List (Addr×Obj))(σ:St)(tg:Expr)(R:It->Hp->Prop)(itv:B5)(s2:B9):Prop:=
 ∃(it:Addr) (fp:List Addr) (tn:Nat->Heap->Prop) (J:It) (H':Hp),itv=.ref it/\Inv X pins σ H' s2/\oN X.prog X.w X.K tg J fp it tn/\tn 0 s2.heap/\(∀b∈fp,mP X pins H' b)/\R J H'
def PI(X:Cx)(tg iter:Expr)(wi:TI):Prop:=
 ∀(pins:List (Addr×Obj)) (s:B9) (σ:St) (H:Hp) (R:It->Hp->Prop),Inv X pins σ H s->wi σ H R->
  Cz (CF X.prog X.w) X.A (eval iter X.env) (λv s1=>Cz (CF X.prog X.w) X.A (pyIter v) (PIE X pins σ tg R) X.xe s1) X.xe s

theorem wf{M:Model}{A:CY}{E:B5->B9->Prop}{s:B9}{tg:Expr}{it:Addr}{u:B5}{o:Obj}{n:String}{vs:Array B5}{Q:Unit->B9->Prop}(ho:s.heap.get? it=some o)(hc:o.cls=.type n)(hd:o.data=.fields vs)
  (hn:["enumerate","zip","dict_itemiterator","dict_reverseitemiterator","odict_iterator","itertools.zip_longest","itertools.pairwise"].contains n=false)(hQ:Q () s):Cz M A (EM tg (.ref it) u) Q E s:=by
 unfold EM;cases tg<;>first
  |exact Cs hQ
  |(cases u<;>first
    |exact Cs hQ
    | (refine B8 (wpAny_load ho ?_)
       rw[hc,hd];show Cz M A (if(["enumerate","zip","dict_itemiterator","dict_reverseitemiterator","odict_iterator","itertools.zip_longest","itertools.pairwise"].contains n&&vs[0]?==some (EN _))=true then _ else _) Q E s;rw[if_neg (by intro h;rw[hn,Bool.false_and]at h;cases h)];exact Cs hQ))

def Itl(K:PySem.W.Frag)(a:Addr):It:=
 ⟨λi H=>∃xs x,SqL K H a xs/\xs[i]?=some x,λi H x H'=>H'=H/\∀xs,SqL K H a xs->xs[i]?=some x,λi H=>∃xs,SqL K H a xs/\xs.length<=i⟩
def Itt(K:PySem.W.Frag)(a:Addr):It:=
 ⟨λi H=>∃xs x,SqT K H a xs/\xs[i]?=some x,λi H x H'=>H'=H/\∀xs,SqT K H a xs->xs[i]?=some x,λi H=>∃xs,SqT K H a xs/\xs.length<=i⟩
def Itr(lo:Int)(n:Nat):It:=⟨λi _=>i<n,λi H x H'=>H'=H/\x=.int (lo+i),λi _=>n<=i⟩
theorem xE{P:CK}{w:CG}{K:PySem.W.Frag}{tg:Expr}(a it:Addr):oN P w K tg (Itl K a) [it] it (λi h=>h.IsListIter it a i) where
 mem:=by simp
 obj:=λi h st b hb=>by
  have e:b=it:=by simpa using hb
  subst e;obtain⟨o,e,c,d⟩:=st;exact⟨o,e,λv z=>by rw[d]at z;cases z⟩
 keep:=λi h h' st k=>st.at λo e=>k it (by simp) o e
 item:=by
  intro X hP hw hK hc i pins s σ H E I hf st hg;subst hP hw hK;obtain⟨xs,x,hq,hx⟩:=hg;obtain⟨its,rv,p,hz⟩:=I.list hq;obtain⟨u,hu,ru⟩:=rv.get hx;obtain⟨f0,f1,f2,f3,f4,f5⟩:=hf it (by simp);refine wpAny_pyNext_list_item st p.isList (x:=u) (by simpa using hu) λh' st' sb=>?_;have I1:Inv X pins σ H { s with heap:=h' }:=I.turned (t':=s.toks) (λb o hb e=>(sb.2 b hb).trans e) f0 f1 f3 f4 f5;obtain⟨o,e,c,d⟩:=id st';exact⟨u,rfl,wf (s:={ s with heap:=h' }) e c d (by decide) ⟨x,H,I1,ru,⟨rfl,λys hy=>by rw[I.list_inj hy hq];exact hx⟩,st',λb hb=>(hf b hb).1⟩⟩
 done:=by
  intro X hP hw hK hc i pins s σ H E I hf st hg;subst hP hw hK;obtain⟨xs,hq,hx⟩:=hg;obtain⟨its,rv,p,hz⟩:=I.list hq;obtain⟨f0,f1,f2,f3,f4,f5⟩:=hf it (by simp);have hl:=rv.length;exact wpAny_pyNext_list_end (I.ok.hd hc) st p.isList (by simp;omega) λh' eb=>⟨rfl,I.turned (t':=s.toks) (λb o hb e=>eb b o hb e) f0 f1 f3 f4 f5⟩
 self:=λ_ _ _ _ _ st h=>wpAny_pyIter_listiter st h
theorem wg{P:CK}{w:CG}{K:PySem.W.Frag}{tg:Expr}(a it:Addr):oN P w K tg (Itt K a) [it] it (λi h=>h.IsTupleIter it a i) where
 mem:=by simp
 obj:=λi h st b hb=>by
  have e:b=it:=by simpa using hb
  subst e;obtain⟨o,e,c,d⟩:=st;exact⟨o,e,λv z=>by rw[d]at z;cases z⟩
 keep:=λi h h' st k=>st.at λo e=>k it (by simp) o e
 item:=by
  intro X hP hw hK hc i pins s σ H E I hf st hg;subst hP hw hK;obtain⟨xs,x,hq,hx⟩:=hg;obtain⟨its,rv,p,hz⟩:=I.tuple hq;obtain⟨u,hu,ru⟩:=rv.get hx;obtain⟨f0,f1,f2,f3,f4,f5⟩:=hf it (by simp);refine wpAny_pyNext_tuple_item st (show s.heap.IsTuple a its.toArray from p) (x:=u) (by simpa using hu) λh' st' sb=>?_;have I1:Inv X pins σ H { s with heap:=h' }:=I.turned (t':=s.toks) (λb o hb e=>(sb.2 b hb).trans e) f0 f1 f3 f4 f5;obtain⟨o,e,c,d⟩:=id st';exact⟨u,rfl,wf (s:={ s with heap:=h' }) e c d (by decide) ⟨x,H,I1,ru,⟨rfl,λys hy=>by rw[I.tuple_inj hy hq];exact hx⟩,st',λb hb=>(hf b hb).1⟩⟩
 done:=by
  intro X hP hw hK hc i pins s σ H E I hf st hg;subst hP hw hK;obtain⟨xs,hq,hx⟩:=hg;obtain⟨its,rv,p,hz⟩:=I.tuple hq;obtain⟨f0,f1,f2,f3,f4,f5⟩:=hf it (by simp);have hl:=rv.length;exact wpAny_pyNext_tuple_end (I.ok.hd hc) st (show s.heap.IsTuple a its.toArray from p) (by simp;omega) λh' eb=>⟨rfl,I.turned (t':=s.toks) (λb o hb e=>eb b o hb e) f0 f1 f3 f4 f5⟩
 self:=λ_ _ _ _ _ st h=>wpAny_pyIter_tupleiter st h
theorem wj{P:CK}{w:CG}{K:PySem.W.Frag}{tg:Expr}(it:Addr)(lo:Int)(n:Nat):oN P w K tg (Itr lo n) [it] it (λi h=>IsRangeIter h it (lo+(i:Nat)*1) ((n:Int)-(i:Nat)) 1) where
 mem:=by simp
 obj:=λi h st b hb=>by
  have e:b=it:=by simpa using hb
  subst e;exact⟨_,st,λv z=>by
   have z':Data.fields _=Data.cell v:=z;cases z'⟩
 keep:=λi h h' st k=>k it (by simp) _ st
 item:=by
  intro X hP hw hK hc i pins s σ H E I hf st hg;subst hP hw hK;obtain⟨f0,f1,f2,f3,f4,f5⟩:=hf it (by simp);have W:=Walks.range (prog:=X.prog) (w:=X.w) (I.ok.hd hc) it lo 1 n;refine W.item i s _ _ hg st λv h' tk hv st' kk=>?_;obtain⟨t,rfl⟩:=hv;have I1:Inv X pins σ H { s with heap:=h',toks:=tk }:=I.turned (λb o hb e=>kk b o (by simpa using hb) e) f0 f1 f3 f4 f5;refine⟨_,rfl,wf (s:={ s with heap:=h',toks:=tk }) (n := "range_iterator") st' rfl rfl (by decide) ⟨.int (lo+i),H,I1,⟨t,?_⟩,⟨rfl,rfl⟩,st',λb hb=>(hf b hb).1⟩⟩;rw[Int.mul_one]
 done:=by
  intro X hP hw hK hc i pins s σ H E I hf st hg;subst hP hw hK;obtain⟨f0,f1,f2,f3,f4,f5⟩:=hf it (by simp);exact wpAny_pyNext_range_end (I.ok.hd hc) st (by have:n<=i:=hg;omega) λh' eb=>⟨rfl,I.turned (t':=s.toks) (λb o hb e=>eb b o hb e) f0 f1 f3 f4 f5⟩
 self:=λ_ _ _ _ _ st h=>wpAny_pyIter_rangeiter st h
section
variable {X:Cx}{tg:Expr}
def Bt(K:PySem.W.Frag)(tl:TE):TI:=λσ H R=>tl σ H λx H1=>∃a,x=.ref a/\(∃xs,SqL K H1 a xs)/\R (Itl K a) H1
def BO(K:PySem.W.Frag)(tl:TE):TI:=λσ H R=>tl σ H λx H1=>∃a,x=.ref a/\(∃xs,SqT K H1 a xs)/\R (Itt K a) H1
theorem bL{l:Expr}{tl:TE}(hl:PE X l tl):PI X tg l (Bt X.K tl):=by
 intro pins s σ H R I h;refine thn (hl pins s σ H _ I h) λv s1 ⟨x,H1,I1,r1,q1⟩=>?_;obtain⟨a,e,⟨xs,hq⟩,q⟩:=q1;subst e;cases r1;obtain⟨its,rv,p,hz⟩:=I1.list hq;refine Ec p.isList ?_;refine⟨s1.heap.objs.size,[s1.heap.objs.size],_,_,H1,rfl,I1.kept (t':=s1.toks) λb o e=>Cd _ e,xE a _,⟨_,Cu _ rfl,rfl,rfl⟩,λb hb=>?_,q⟩;have e:b=s1.heap.objs.size:=by simpa using hb
 subst e;exact I1.fpOk (B4 _) (I1.hok.fresh (B4 _))
theorem AB{l:Expr}{tl:TE}(hl:PE X l tl):PI X tg l (BO X.K tl):=by
 intro pins s σ H R I h;refine thn (hl pins s σ H _ I h) λv s1 ⟨x,H1,I1,r1,q1⟩=>?_;obtain⟨a,e,⟨xs,hq⟩,q⟩:=q1;subst e;cases r1;obtain⟨its,rv,p,hz⟩:=I1.tuple hq;refine wpAny_pyIter_tuple (show s1.heap.IsTuple a its.toArray from p) ?_;refine⟨s1.heap.objs.size,[s1.heap.objs.size],_,_,H1,rfl,I1.kept (t':=s1.toks) λb o e=>Cd _ e,wg a _,⟨_,Cu _ rfl,rfl,rfl⟩,λb hb=>?_,q⟩;have e:b=s1.heap.objs.size:=by simpa using hb
 subst e;exact I1.fpOk (B4 _) (I1.hok.fresh (B4 _))
theorem yE{pins:List (Addr×Obj)}{σ:St}{H:Hp}{s:B9}{R:It->Hp->Prop}{E:B5->B9->Prop}{lo hi:Int}{t u v:Tok}{tk:Nat}(I:Inv X pins σ H s)(h1:-(2^62)<=lo)(h2:lo<2^62)(h3:-(2^62)<=hi)(h4:hi<2^62)
  (q:R (Itr lo (hi-lo).toNat) H):Cz (CF X.prog X.w) X.A (pyIter (.ref s.heap.objs.size)) (PIE X pins σ tg R) E { s with heap:=s.heap.push { cls:=.type "range",data:=.fields #[.int lo t,.int hi u,.int 1 v] },toks:=tk }:=by
 refine wpAny_pyIter_range (IsRange.new ..) (small_one h1 h2 h3 h4) ?_;have I1:Inv X pins σ H { s with heap:=s.heap.push { cls:=.type "range",data:=.fields #[.int lo t,.int hi u,.int 1 v] },toks:=tk }:=I.kept λb o e=>Cd _ e;refine⟨(s.heap.push { cls:=.type "range",data:=.fields #[.int lo t,.int hi u,.int 1 v] }).objs.size,[(s.heap.push { cls:=.type "range",data:=.fields #[.int lo t,.int hi u,.int 1 v] }).objs.size],_,_,H,rfl,
  I1.kept (t':=tk) λb o e=>Cd _ e,wj _ lo (hi-lo).toNat,?_,λb hb=>?_,q⟩
 .have e1:lo+((0:Nat):Int)*1=lo:=by simp
  have e2:(((hi-lo).toNat:Nat):Int)-((0:Nat):Int)=Builtin.Range.rangeSize lo hi 1:=by rw[rangeSize_one];split<;>omega
  show IsRangeIter _ _ (lo+((0:Nat):Int)*1) ((((hi-lo).toNat:Nat):Int)-((0:Nat):Int)) 1;rw[e1,e2];exact Cu _ rfl
 .have e:b=(s.heap.push { cls:=.type "range",data:=.fields #[.int lo t,.int hi u,.int 1 v] }).objs.size:=by simpa using hb
  subst e;exact I1.fpOk (B4 _) (I1.hok.fresh (B4 _))
def Bu(ta:TA):TI:=λσ H R=>ta σ H λvs H1=>∃j:Int,vs=[.int j]/\-(2^62)<=j/\j<2^62/\R (Itr 0 j.toNat) H1
theorem dS{a:Expr}{ta:TA}{p pos:Pos}(hg:Gl X "range")(hm:X.mg "range" = none)(ha:PA X [a] ta)(hs:CJ [a] X.env=[(false,eval a X.env)]:=by rfl):PI X tg (.Call (.Name "range" p) [a] [] pos) (Bu ta):=by
 intro pins s σ H R I h;refine Call_ (gS I hg hm boot_range (Dd (thn (ha pos pins s σ H _ I h) λus s1 ⟨vs,H1,I1,r1,q1⟩=>?_) hs rfl));obtain⟨j,e,q1,q2,q⟩:=q1;subst e;cases r1 with
 |cons r rr =>
  cases rr;obtain⟨t,rfl⟩:=r;exact call_range_1 (yE I1 (by omega) (by omega) q1 q2 (by simpa using q))
def BP(wi:TI)(g:TG)(tb:TS):TS:=λD σ H=>wi σ H λJ H1=>∃W:Nat->Nat->St->Hp->Prop,(∃m,W 0 m σ H1)/\∀i m σ H,W i m σ H->
 (J.stop i H/\D.nx σ H)\/(J.go i H/\∃N:St->Hp->Prop,(∀σ' H',N σ' H'->∃m',m'<m/\W (i+1) m' σ' H')/\∀x H',J.yld i H x H'->g x σ H' λσ2 H2=>tb { D with nx:=N,ct:=N,bk:=D.nx } σ2 H2)
def mQ(fp:List Addr)(h:Heap):List (Addr×Obj):=fp.filterMap λb=>(h.get? b).map λo=>(b,o)
theorem iA{fp:List Addr}{h:Heap}{b:Addr}{o:Obj}(hb:b∈fp)(e:h.get? b=some o):(b,o)∈mQ fp h:=List.mem_filterMap.mpr ⟨b,hb,by rw[e];rfl⟩
theorem xF{fp:List Addr}{h:Heap}{p:Addr×Obj}(hp:p∈mQ fp h):p.1∈fp/\h.get? p.1=some p.2:=by
 obtain⟨b,hb,e⟩:=List.mem_filterMap.mp hp;cases q:h.get? b with
 |none=>rw[q]at e;cases e
 |some o =>
  rw[q]at e;have e':(b,o)=p:=Cw e;subst e';exact⟨hb,q⟩
theorem Inv.pinned{pins:List (Addr×Obj)}{σ:St}{H:Hp}{s:B9}{fp:List Addr}(I:Inv X pins σ H s)(hf:∀b∈fp,mP X pins H b)(ho:∀b∈fp,∃o,s.heap.get? b=some o/\∀v,o.data≠.cell v):Inv X (pins++mQ fp s.heap) σ H s:=
 I.pins_of λp hp=>(List.mem_append.mp hp).elim (λz=>I.pin p (CQ _ z)) λz=>by
  obtain⟨hb,e⟩:=xF z;obtain⟨f0,f1,f2,_⟩:=hf p.1 hb;obtain⟨o,e',d⟩:=ho p.1 hb;rw[e]at e';cases e';exact⟨e,f0,f1,f2,d⟩
theorem Inv.unpinned{pins pl:List (Addr×Obj)}{σ:St}{H:Hp}{s:B9}(I:Inv X (pins++pl) σ H s):Inv X pins σ H s:=I.pins_of λp hp=>I.pin p (CQ _ (C9 _ hp))
theorem cy{iter:Expr}{body:List Stmt}{wi:TI}{g:TG}{tb:TS}{pos:Pos}(hp:PassesOwn (CF X.prog X.w) X.A X.env X.xe)(hc:X.calm=true)(hi:PI X tg iter wi)(hg:PG X tg g)(hb:PSs X body tb)
  (hs:∀x,Ed iter X.env x=pure x:=by intro _;rfl):PS X (.For tg iter body [] pos) (BP wi g tb):=by
 intro pins s σ H D I h;refine wpAny_For (thn (hi pins s σ H _ I h) λv s1 h1=>thn h1 λitv s2 h2=>?_) hs;obtain⟨it,fp,tn,J,H2,e,I2,T,st2,f2,W,⟨m0,w0⟩,turn⟩:=h2;subst e
 -- what stays true of the iterator's objects through the loop
 have stat:∀{H':Hp},(∀b∈fp,H' b=none)->∀b∈fp,mP X pins H' b:=λhn b hb=>⟨hn b hb,(f2 b hb).2⟩;refine codeAny_forLoop_any (λn s'=>∃i σ' H',Inv X pins σ' H' s'/\tn i s'.heap/\(∀b∈fp,H' b=none)/\W i n σ' H') ?_ m0 ⟨0,σ,H2,I2,st2,λb hb=>(f2 b hb).1,w0⟩;rintro n s3 ⟨i,σ3,H3,I3,st3,fr3,w3⟩;rcases turn i n σ3 H3 w3 with⟨stop,qn⟩|⟨go,N,hN,step⟩
 .refine DQ hp (thn (T.done X rfl rfl rfl hc i pins s3 σ3 H3 X.xe I3 (stat fr3) st3 stop) λr s4 ⟨hr,I4⟩=>?_);subst hr;exact EL ⟨σ3,H3,I4,qn⟩
 .refine DQ hp (thn (T.item X rfl rfl rfl hc i pins s3 σ3 H3 X.xe I3 (stat fr3) st3 go) λr s4 ⟨u,hr,h4⟩=>?_);subst hr;refine DQ hp (thn h4 λ_ s5 ⟨x,H5,I5,r5,y5,st5,fr5⟩=>?_);have I5':=I5.pinned (stat fr5) (T.obj _ _ st5);refine DQ hp (thn (hg _ s5 σ3 H5 x u _ I5' r5 (step x H5 y5)) λ_ s6 ⟨σ6,H6,I6,q6⟩=>?_);refine DQ hp (thn (hb _ s6 σ6 H6 _ I6 q6) λf s7 q7=>?_);have again:∀{σ7:St} {H7:Hp},Inv X (pins++mQ fp s5.heap) σ7 H7 s7->N σ7 H7->∃m,m<n/\∃i σ' H',Inv X pins σ' H' s7/\tn i s7.heap/\(∀b∈fp,H' b=none)/\W i m σ' H':=λ{σ7 H7} I7 n7=>by
   obtain⟨m',hm,w7⟩:=hN σ7 H7 n7;refine⟨m',hm,i+1,σ7,H7,I7.unpinned,T.keep _ _ _ st5 λb hb o e=>(I7.pin (b,o) (CQ _ (CQ _ (iA hb e)))).1,λb hb=>?_,w7⟩;obtain⟨o,e,d⟩:=T.obj _ _ st5 b hb;exact(I7.pin (b,o) (CQ _ (CQ _ (iA hb e)))).2.1
  cases f with
  |next=>obtain⟨σ7,H7,I7,n7⟩:=q7;exact again I7 n7
  |cont=>obtain⟨σ7,H7,I7,n7⟩:=q7;exact again I7 n7
  |brk=>obtain⟨σ7,H7,I7,q7⟩:=q7;exact⟨σ7,H7,I7.unpinned,q7⟩
  |ret v=>obtain⟨x7,σ7,H7,I7,r7,q7⟩:=q7;exact⟨x7,σ7,H7,I7.unpinned,r7,q7⟩
end

theorem eX{K:PySem.W.Frag}{a:Addr}{xs:List V}{g:TG}{tb:TS}{D:hJ}{σ:St}{H:Hp}(Pv:Nat->St->Hp->Prop)(h0:Pv 0 σ H)(hl:∀i σ H,i<=xs.length->Pv i σ H->SqL K H a xs)
  (hs:∀i x σ H,xs[i]?=some x->Pv i σ H->g x σ H λσ2 H2=>tb { D with nx:=Pv (i+1),ct:=Pv (i+1),bk:=D.nx } σ2 H2)(hd:∀σ H,Pv xs.length σ H->D.nx σ H) :
  ∃W:Nat->Nat->St->Hp->Prop,(∃m,W 0 m σ H)/\∀i m σ H,W i m σ H->
   ((Itl K a).stop i H/\D.nx σ H)\/((Itl K a).go i H/\∃N:St->Hp->Prop,(∀σ' H',N σ' H'->∃m',m'<m/\W (i+1) m' σ' H')/\∀x H',(Itl K a).yld i H x H'->g x σ H' λσ2 H2=>tb { D with nx:=N,ct:=N,bk:=D.nx } σ2 H2):=by
 refine⟨λi m σ H=>m=xs.length-i/\i<=xs.length/\Pv i σ H,⟨xs.length,by simp,Cv _,h0⟩,?_⟩;rintro i m σ H ⟨rfl,hi,p⟩;have q:=hl i σ H hi p;by_cases hlt:i<xs.length
 .refine .inr ⟨⟨xs,xs[i],q,by simp[hlt]⟩,Pv (i+1),λσ' H' p'=>⟨xs.length-(i+1),by omega,rfl,hlt,p'⟩,λx H' y=>?_⟩;obtain⟨e,y⟩:=y;subst e;exact hs i x σ _ (y xs q) p
 .have e:i=xs.length:=by omega
  subst e;exact .inl ⟨⟨xs,q,B4 _⟩,hd σ H p⟩
theorem zV{K:PySem.W.Frag}{a:Addr}{xs:List V}{g:TG}{tb:TS}{D:hJ}{σ:St}{H:Hp}(Pv:Nat->St->Hp->Prop)(h0:Pv 0 σ H)(hl:∀i σ H,i<=xs.length->Pv i σ H->SqT K H a xs)
  (hs:∀i x σ H,xs[i]?=some x->Pv i σ H->g x σ H λσ2 H2=>tb { D with nx:=Pv (i+1),ct:=Pv (i+1),bk:=D.nx } σ2 H2)(hd:∀σ H,Pv xs.length σ H->D.nx σ H) :
  ∃W:Nat->Nat->St->Hp->Prop,(∃m,W 0 m σ H)/\∀i m σ H,W i m σ H->
   ((Itt K a).stop i H/\D.nx σ H)\/((Itt K a).go i H/\∃N:St->Hp->Prop,(∀σ' H',N σ' H'->∃m',m'<m/\W (i+1) m' σ' H')/\∀x H',(Itt K a).yld i H x H'->g x σ H' λσ2 H2=>tb { D with nx:=N,ct:=N,bk:=D.nx } σ2 H2):=by
 refine⟨λi m σ H=>m=xs.length-i/\i<=xs.length/\Pv i σ H,⟨xs.length,by simp,Cv _,h0⟩,?_⟩;rintro i m σ H ⟨rfl,hi,p⟩;have q:=hl i σ H hi p;by_cases hlt:i<xs.length
 .refine .inr ⟨⟨xs,xs[i],q,by simp[hlt]⟩,Pv (i+1),λσ' H' p'=>⟨xs.length-(i+1),by omega,rfl,hlt,p'⟩,λx H' y=>?_⟩;obtain⟨e,y⟩:=y;subst e;exact hs i x σ _ (y xs q) p
 .have e:i=xs.length:=by omega
  subst e;exact .inl ⟨⟨xs,q,B4 _⟩,hd σ H p⟩
theorem mR{lo:Int}{n:Nat}{g:TG}{tb:TS}{D:hJ}{σ:St}{H:Hp}(Pv:Nat->St->Hp->Prop)(h0:Pv 0 σ H)
  (hs:∀i σ H,i<n->Pv i σ H->g (.int (lo+i)) σ H λσ2 H2=>tb { D with nx:=Pv (i+1),ct:=Pv (i+1),bk:=D.nx } σ2 H2)(hd:∀σ H,Pv n σ H->D.nx σ H) :
  ∃W:Nat->Nat->St->Hp->Prop,(∃m,W 0 m σ H)/\∀i m σ H,W i m σ H->
   ((Itr lo n).stop i H/\D.nx σ H)\/((Itr lo n).go i H/\∃N:St->Hp->Prop,(∀σ' H',N σ' H'->∃m',m'<m/\W (i+1) m' σ' H')/\∀x H',(Itr lo n).yld i H x H'->g x σ H' λσ2 H2=>tb { D with nx:=N,ct:=N,bk:=D.nx } σ2 H2):=by
 refine⟨λi m σ H=>m=n-i/\i<=n/\Pv i σ H,⟨n,by simp,Cv _,h0⟩,?_⟩;rintro i m σ H ⟨rfl,hi,p⟩;by_cases hlt:i<n
 .refine .inr ⟨hlt,Pv (i+1),λσ' H' p'=>⟨n-(i+1),by omega,rfl,hlt,p'⟩,λx H' y=>?_⟩;obtain⟨e,y⟩:=y;subst e y;exact hs i σ _ hlt p
 .have e:i=n:=by omega
  subst e;exact .inl ⟨B4 _,hd σ H p⟩

abbrev R2:=V->V->Hp->VK->Prop
def OpR(X:Cx)(f:B5->B5->Sem B5)(r:R2):Prop:=
 ∀(pins:List (Addr×Obj)) (s:B9) (σ:St) (H:Hp) (x y:V) (v u:B5) (Q:VK),Inv X pins σ H s->bA x v->bA y u->r x y H Q->
  Cz (CF X.prog X.w) X.A (f v u) (EP X pins σ Q) X.xe s
def UnR(X:Cx)(f:B5->Sem B5)(r:V->Hp->VK->Prop):Prop:=
 ∀(pins:List (Addr×Obj)) (s:B9) (σ:St) (H:Hp) (x:V) (v:B5) (Q:VK),Inv X pins σ H s->bA x v->r x H Q->
  Cz (CF X.prog X.w) X.A (f v) (EP X pins σ Q) X.xe s
def dr(X:Cx)(f:B5)(r:List V->Hp->VK->Prop):Prop:=
 ∀(pins:List (Addr×Obj)) (s:B9) (σ:St) (H:Hp) (xs:List V) (us:List B5) (Q:VK),Inv X pins σ H s->aP xs us->r xs H Q->
  Cz (CF X.prog X.w) X.A (call f us) (EP X pins σ Q) X.xe s
def tOp(r:R2)(ta tb:TE):TE:=λσ H Q=>ta σ H λx H1=>tb σ H1 λy H2=>r x y H2 Q
def tUn(r:V->Hp->VK->Prop)(ta:TE):TE:=λσ H Q=>ta σ H λx H1=>r x H1 Q
def rI(C:Int->Int->Prop)(g:Int->Int->V):R2:=λx y H Q=>∃i j,x=.int i/\y=.int j/\C i j/\Q (g i j) H
def rI0(g:Int->Int->V):R2:=λx y H Q=>∃i j,x=.int i/\y=.int j/\Q (g i j) H
def rU(g:Int->V):V->Hp->VK->Prop:=λx H Q=>∃i,x=.int i/\Q (g i) H

section
variable {X:Cx}{a b c:Expr}{ta tb tc:TE}{pos:Pos}

theorem yF(ha:PE X a ta)(hb:PE X b tb){pins:List (Addr×Obj)}{s:B9}{σ:St}{H:Hp}{R:V->V->Hp->Prop}(I:Inv X pins σ H s)
  (h:ta σ H λx H1=>tb σ H1 λy H2=>R x y H2){Q:B5->B9->Prop}{f:B5->B5->Sem B5}
  (hf:∀v u s2 x y H2,Inv X pins σ H2 s2->bA x v->bA y u->R x y H2->Cz (CF X.prog X.w) X.A (f v u) Q X.xe s2) :
  Cz (CF X.prog X.w) X.A (eval a X.env) (λv s₁=>Cz (CF X.prog X.w) X.A (eval b X.env) (λu s₂=>Cz (CF X.prog X.w) X.A (f v u) Q X.xe s₂) X.xe s₁) X.xe s:=by
 refine thn (ha pins s σ H _ I h) λv s1 ⟨x,H1,I1,r1,q1⟩=>?_;refine thn (hb pins s1 σ H1 _ I1 q1) λu s2 ⟨y,H2,I2,r2,q2⟩=>?_;exact hf v u s2 x y H2 I2 r1 r2 q2

theorem ai{op:Operator}{r:R2}(ho:OpR X (Eg op) r)(ha:PE X a ta)(hb:PE X b tb):PE X (.BinOp a op b pos) (tOp r ta tb):=by
 intro pins s σ H Q I h;exact wpAny_BinOp (yF ha hb I h λv u s2 x y H2 I2 rx ry q=>ho pins s2 σ H2 x y v u Q I2 rx ry q)
theorem pV{op:UnaryOp}{r:V->Hp->VK->Prop}(ho:UnR X (unaryOp op) r)(ha:PE X a ta):PE X (.UnaryOp op a pos) (tUn r ta):=by
 intro pins s σ H Q I h;exact UnaryOp_ (thn (ha pins s σ H _ I h) λv s1 ⟨x,H1,I1,r1,q1⟩=>ho pins s1 σ H1 x v Q I1 r1 q1)
theorem opI{f:B5->B5->Sem B5}{C:Int->Int->Prop}{g:Int->Int->Int}
  (rule:∀(i j:Int) (t u:Tok) (s:B9) (Q:B5->B9->Prop) (E:B5->B9->Prop),C i j->Q (.int (g i j) s.toks) { s with toks:=s.toks+1 }->Cz (CF X.prog X.w) X.A (f (.int i t) (.int j u)) Q E s) :
  OpR X f (rI C λi j=>.int (g i j)):=by
 intro pins s σ H x y v u Q I rx ry h;obtain⟨i,j,rfl,rfl,hc,q⟩:=h;obtain⟨t,rfl⟩:=rx;obtain⟨t',rfl⟩:=ry;exact rule i j t t' s _ _ hc ⟨.int (g i j),H,I.tok _,⟨_,rfl⟩,q⟩
theorem AC{f:B5->B5->Sem B5}{g:Int->Int->Int}
  (rule:∀(i j:Int) (t u:Tok) (s:B9) (Q:B5->B9->Prop) (E:B5->B9->Prop),Q (.int (g i j) s.toks) { s with toks:=s.toks+1 }->Cz (CF X.prog X.w) X.A (f (.int i t) (.int j u)) Q E s) :
  OpR X f (rI0 λi j=>.int (g i j)):=by
 intro pins s σ H x y v u Q I rx ry h;obtain⟨i,j,rfl,rfl,q⟩:=h;obtain⟨t,rfl⟩:=rx;obtain⟨t',rfl⟩:=ry;exact rule i j t t' s _ _ ⟨.int (g i j),H,I.tok _,⟨_,rfl⟩,q⟩
theorem wm{f:B5->B5->Sem B5}{g:Int->Int->Bool}
  (rule:∀(i j:Int) (t u:Tok) (s:B9) (Q:B5->B9->Prop) (E:B5->B9->Prop),Q (.bool (g i j)) s->Cz (CF X.prog X.w) X.A (f (.int i t) (.int j u)) Q E s) :
  OpR X f (rI0 λi j=>.bl (g i j)):=by
 intro pins s σ H x y v u Q I rx ry h;obtain⟨i,j,rfl,rfl,q⟩:=h;obtain⟨t,rfl⟩:=rx;obtain⟨t',rfl⟩:=ry;exact rule i j t t' s _ _ ⟨.bl (g i j),H,I,rfl,q⟩

def BQ(i j:Int):Prop:=0<j/\j<1073741824
def BR(i j:Int):Prop:=0<=j/\j<=1000000/\i.natAbs<2^64
def yG(i j:Int):Prop:=(-(2^64)<i/\i<2^64)\/(-(2^64)<j/\j<2^64)
theorem yG.ok{i j:Int}(h:yG i j):IntMulOk i j:=by
 rcases h with⟨h1,h2⟩|⟨h1,h2⟩
 .exact .of_left (intBits_le_64 h1 h2)
 .exact .of_right (intBits_le_64 h1 h2)
theorem aC:OpR X (Eg .Add) (rI0 λi j=>.int (i+j)):=AC λ_ _ _ _ _ _ _ q=>add_int q
theorem bZ:OpR X (Eg .Sub) (rI0 λi j=>.int (i-j)):=AC λ_ _ _ _ _ _ _ q=>sub_int q
theorem c5:OpR X (Eg .Mult) (rI yG λi j=>.int (i*j)):=opI λ_ _ _ _ _ _ _ hc q=>mul_int q hc.ok
theorem bP:OpR X (Eg .FloorDiv) (rI BQ λi j=>.int (i/j)):=opI λi j _ _ _ _ _ hc q=>by
 have h1:(0:Int)<j:=hc.1;have h2:j<1073741824:=hc.2;exact floordiv_int (by omega) (by rw[Int.fdiv_eq_ediv_of_nonneg i (by omega)];exact q) (.inl (PyProof.noPylong_small (by omega)))
theorem aZ:OpR X (Eg .Mod) (rI (λ_ j=>0<j) λi j=>.int (i%j)):=opI λi j _ _ _ _ _ hc q=>by
 have h1:(0:Int)<j:=hc;exact mod_int' (by omega) (by rw[Int.fmod_eq_emod_of_nonneg i (by omega)];exact q)
theorem tD:OpR X (Eg .Pow) (rI BR λi j=>.int (i^j.toNat)):=opI λ_ _ _ _ _ _ _ hc q=>pow_int_small hc.1 hc.2.1 hc.2.2 q
theorem unI{f:B5->Sem B5}{g:Int->Int}
  (rule:∀(i:Int) (t:Tok) (s:B9) (Q:B5->B9->Prop) (E:B5->B9->Prop),Q (.int (g i) s.toks) { s with toks:=s.toks+1 }->Cz (CF X.prog X.w) X.A (f (.int i t)) Q E s) :
  UnR X f (rU λi=>.int (g i)):=by
 intro pins s σ H x v Q I rx h;obtain⟨i,rfl,q⟩:=h;obtain⟨t,rfl⟩:=rx;exact rule i t s _ _ ⟨.int (g i),H,I.tok _,⟨_,rfl⟩,q⟩
theorem mS:UnR X (unaryOp .USub) (rU λi=>.int (-i)):=unI λ_ _ _ _ _ q=>neg_int q
end

def AD:V->V->Bool
 |.non,.non=>true|.non,.int _=>true|.int _,.non=>true|.non,.bl _=>true|.bl _,.non=>true|.non,.str _=>true|.str _,.non=>true
 |.int _,.int _=>true|.bl _,.bl _=>true|.str _,.str _=>true|.byt _,.byt _=>true
 |.int _,.str _=>true|.str _,.int _=>true|.bl _,.str _=>true|.str _,.bl _=>true
 |_,_=>false
def rEq:R2:=λx y H Q=>AD x y=true/\Q (.bl (decide (x=y))) H
def rNe:R2:=λx y H Q=>AD x y=true/\Q (.bl (!decide (x=y))) H

theorem vz{i j:Int}:decide (V.int i=V.int j)=(i==j):=by
 rw[EO];simp
theorem xG{i j:Bool}:decide (V.bl i=V.bl j)=(i==j):=by
 rw[EO];simp
theorem vA{i j:Str}:decide (V.str i=V.str j)=(i==j):=by
 rw[EO];simp
theorem vB{i j:Array UInt8}:decide (V.byt i=V.byt j)=(i.toList==j.toList):=by
 rw[EO];cases i;cases j;simp

section
variable {X:Cx}{a b c:Expr}{ta tb tc:TE}{pos:Pos}
theorem bw{pins:List (Addr×Obj)}{σ:St}{H:Hp}{s:B9}{Q:VK}{k k':Bool}(I:Inv X pins σ H s)(q:Q (.bl k) H)(e:k=k'):EP X pins σ Q (.bool k') s:=by
 subst e;exact⟨.bl k,H,I,rfl,q⟩
theorem a_:OpR X (C7 .Eq) rEq:=by
 intro pins s σ H x y v u Q I rx ry h;obtain⟨hs,q⟩:=h;cases x with
 |non =>
  cases rx;cases y with
  |non=>cases ry;exact PySem.EqNone.eq_none_none (bw I q (by simp))
  |bl j=>cases ry;exact PySem.EqNone.eq_none_bool (bw I q (by simp))
  |int j=>obtain⟨t',rfl⟩:=ry;exact PySem.EqNone.eq_none_int (bw I q (by simp))
  |str j=>obtain⟨t',rfl⟩:=ry;exact PySem.EqNone.eq_none_str (bw I q (by simp))
  |_=>exact absurd (show false=true from hs) Cm
 |bl i =>
  cases rx;cases y with
  |non=>cases ry;exact PySem.EqNone.eq_bool_none (bw I q (by simp))
  |bl j=>cases ry;exact eq_bool (bw I q xG)
  |str j=>obtain⟨t',rfl⟩:=ry;exact PySem.EqMixed.eq_bool_str (bw I q (by simp))
  |_=>exact absurd (show false=true from hs) Cm
 |int i =>
  obtain⟨t,rfl⟩:=rx;cases y with
  |non=>cases ry;exact PySem.EqNone.eq_int_none (bw I q (by simp))
  |int j=>obtain⟨t',rfl⟩:=ry;exact eq_int (bw I q vz)
  |str j=>obtain⟨t',rfl⟩:=ry;exact PySem.EqMixed.eq_int_str (bw I q (by simp))
  |_=>exact absurd (show false=true from hs) Cm
 |str i =>
  obtain⟨t,rfl⟩:=rx;cases y with
  |non=>cases ry;exact PySem.EqNone.eq_str_none (bw I q (by simp))
  |bl j=>cases ry;exact PySem.EqMixed.eq_str_bool (bw I q (by simp))
  |int j=>obtain⟨t',rfl⟩:=ry;exact PySem.EqMixed.eq_str_int (bw I q (by simp))
  |str j=>obtain⟨t',rfl⟩:=ry;exact eq_str (bw I q vA)
  |_=>exact absurd (show false=true from hs) Cm
 |byt i =>
  obtain⟨t,rfl⟩:=rx;cases y with
  |byt j=>obtain⟨t',rfl⟩:=ry;exact PySem.W.eq_bytes (bw I q vB)
  |_=>exact absurd (show false=true from hs) Cm
 |_=>cases y<;>exact absurd (show false=true from hs) Cm
theorem fF:OpR X (C7 .NotEq) rNe:=by
 intro pins s σ H x y v u Q I rx ry h;obtain⟨hs,q⟩:=h;cases x with
 |non =>
  cases rx;cases y with
  |non=>cases ry;exact PySem.EqNone.ne_none_none (bw I q (by simp))
  |bl j=>cases ry;exact PySem.EqNone.ne_none_bool (bw I q (by simp))
  |int j=>obtain⟨t',rfl⟩:=ry;exact PySem.EqNone.ne_none_int (bw I q (by simp))
  |str j=>obtain⟨t',rfl⟩:=ry;exact PySem.EqNone.ne_none_str (bw I q (by simp))
  |_=>exact absurd (show false=true from hs) Cm
 |bl i =>
  cases rx;cases y with
  |non=>cases ry;exact PySem.EqNone.ne_bool_none (bw I q (by simp))
  |bl j=>cases ry;exact ne_bool (bw I q (congrArg not xG))
  |str j=>obtain⟨t',rfl⟩:=ry;exact PySem.EqMixed.ne_bool_str (bw I q (by simp))
  |_=>exact absurd (show false=true from hs) Cm
 |int i =>
  obtain⟨t,rfl⟩:=rx;cases y with
  |non=>cases ry;exact PySem.EqNone.ne_int_none (bw I q (by simp))
  |int j=>obtain⟨t',rfl⟩:=ry;exact ne_int (bw I q (congrArg not vz))
  |str j=>obtain⟨t',rfl⟩:=ry;exact PySem.EqMixed.ne_int_str (bw I q (by simp))
  |_=>exact absurd (show false=true from hs) Cm
 |str i =>
  obtain⟨t,rfl⟩:=rx;cases y with
  |non=>cases ry;exact PySem.EqNone.ne_str_none (bw I q (by simp))
  |bl j=>cases ry;exact PySem.EqMixed.ne_str_bool (bw I q (by simp))
  |int j=>obtain⟨t',rfl⟩:=ry;exact PySem.EqMixed.ne_str_int (bw I q (by simp))
  |str j=>obtain⟨t',rfl⟩:=ry;exact ne_str (bw I q (congrArg not vA))
  |_=>exact absurd (show false=true from hs) Cm
 |byt i =>
  obtain⟨t,rfl⟩:=rx;cases y with
  |byt j=>obtain⟨t',rfl⟩:=ry;exact PySem.W.ne_bytes (bw I q (congrArg not vB))
  |_=>exact absurd (show false=true from hs) Cm
 |_=>cases y<;>exact absurd (show false=true from hs) Cm

theorem d_:OpR X (C7 .Lt) (rI0 λi j=>.bl (decide (i<j))):=wm λ_ _ _ _ _ _ _ q=>lt_int q
theorem fG:OpR X (C7 .LtE) (rI0 λi j=>.bl (decide (i<=j))):=wm λ_ _ _ _ _ _ _ q=>le_int q
theorem di:OpR X (C7 .Gt) (rI0 λi j=>.bl (decide (j<i))):=wm λ_ _ _ _ _ _ _ q=>gt_int q
theorem lG:OpR X (C7 .GtE) (rI0 λi j=>.bl (decide (j<=i))):=wm λ_ _ _ _ _ _ _ q=>ge_int q
theorem xH:OpR X (C7 .Is) (λx y H Q=>y=.non/\Q (.bl (decide (x=.non))) H):=by
 intro pins s σ H x y v u Q I rx ry h;obtain⟨rfl,q⟩:=h;cases ry;refine is_none_gen (bw I q ?_);cases x<;>first
  |(cases rx;rfl)
  |(obtain⟨t,rfl⟩:=rx;rfl)
theorem iM:OpR X (C7 .IsNot) (λx y H Q=>y=.non/\Q (.bl (!decide (x=.non))) H):=by
 intro pins s σ H x y v u Q I rx ry h;obtain⟨rfl,q⟩:=h;cases ry;refine isnot_none_gen (bw I q ?_);cases x<;>first
  |(cases rx;rfl)
  |(obtain⟨t,rfl⟩:=rx;rfl)

theorem ar(b:Expr){op:CmpOp}(h:op≠.In:=by decide)(h2:op≠.NotIn:=by decide):Fb op b=false:=by
 have e1:(op==CmpOp.In)=false:=by cases op<;>first|rfl|exact absurd rfl h
 have e2:(op==CmpOp.NotIn)=false:=by cases op<;>first|rfl|exact absurd rfl h2
 cases b<;>simp[Fb,e1,e2]
theorem cX{op:CmpOp}{r:R2}(ho:OpR X (C7 op) r)(ha:PE X a ta)(hb:PE X b tb)(hm:Fb op b=false):PE X (.Compare a [op] [b] pos) (tOp r ta tb):=by
 intro pins s σ H Q I h;exact wpAny_Compare1 (yF ha hb I h λv u s2 x y H2 I2 rx ry q=>ho pins s2 σ H2 x y v u Q I2 rx ry q) hm
def zJ(t:TE):TT:=λσ H Q=>t σ H λx H'=>∃k,x=.bl k/\Q k H'
theorem ao{op:CmpOp}{r:R2}(ho:OpR X (C7 op) r)(ha:PE X a ta)(hb:PE X b tb)(hm:Fb op b=false):PT X (.Compare a [op] [b] pos) (zJ (tOp r ta tb)):=by
 intro pins s σ H Q I h;refine wpAny_isTrue_Compare1 (thn (ha pins s σ H _ I h) λv s1 ⟨x,H1,I1,r1,q1⟩=>thn (hb pins s1 σ H1 _ I1 q1) λu s2 ⟨y,H2,I2,r2,q2⟩ =>
  thn (ho pins s2 σ H2 x y v u _ I2 r1 r2 q2) λc s3 ⟨z,H3,I3,r3,k,e,q3⟩=>?_) hm
 subst e;cases r3;exact Dc ⟨H3,I3,q3⟩
def AE(r r':R2)(ta tb tc:TE):TE:=λσ H Q=>ta σ H λx H1=>tb σ H1 λy H2=>r x y H2 λz H3=>∃k,z=.bl k/\
 (if k=true then tc σ H3 λw' H4=>r' y w' H4 Q else Q (.bl false) H3)
theorem oO{op op':CmpOp}{r r':R2}(ho:OpR X (C7 op) r)(ho':OpR X (C7 op') r')(ha:PE X a ta)(hb:PE X b tb)(hc:PE X c tc)
  (hm:lastMarks [op,op'] [b,c]=false:=by with_unfolding_all rfl):PT X (.Compare a [op,op'] [b,c] pos) (zJ (AE r r' ta tb tc)):=by
 intro pins s σ H Q I h;refine isTrue_chain (thn (ha pins s σ H _ I h) λv s1 ⟨x,H1,I1,r1,q1⟩=>test_link (thn (hb pins s1 σ H1 _ I1 q1) λu s2 ⟨y,H2,I2,r2,q2⟩ =>
  thn (ho pins s2 σ H2 x y v u _ I2 r1 r2 q2) λd s3 ⟨z,H3,I3,r3,k,e,q3⟩=>?_)) hm
 subst e;cases r3;refine Dc ?_;cases k with
 |false =>
  obtain⟨k',e',q'⟩:=q3;cases e';exact ite_ff ⟨H3,I3,q'⟩
 |true =>
  refine ite_tt (test_last (thn (hc pins s3 σ H3 _ I3 q3) λw' s4 ⟨z',H4,I4,r4,q4⟩=>thn (ho' pins s4 σ H4 y z' u w' _ I4 r2 r4 q4) λd' s5 ⟨z2,H5,I5,r5,k2,e2,q5⟩=>?_));subst e2;cases r5;exact Dc ⟨H5,I5,q5⟩

theorem lr:(Cr:Nat)<2^63:=by rw[sizeLine_eq];decide
theorem iB:OpR X (Eg .Add) (λx y H Q=>∃i j,x=.str i/\y=.str j/\i.length+j.length<=Cr/\Q (.str (i++j)) H):=by
 intro pins s σ H x y v u Q I rx ry h;obtain⟨i,j,rfl,rfl,hz,q⟩:=h;obtain⟨t,rfl⟩:=rx;obtain⟨t',rfl⟩:=ry;exact add_str (λt' tk=>⟨.str (i++j),H,I.tok _,⟨_,rfl⟩,q⟩) hz
theorem eA{x:V}{us:List B5}(r:aP [x] us):∃u,us=[u]/\bA x u:=by
 cases r with
 |cons r1 r2=>cases r2;exact⟨_,rfl,r1⟩
theorem on{x y:V}{us:List B5}(r:aP [x,y] us):∃u w',us=[u,w']/\bA x u/\bA y w':=by
 cases r with
 |cons r1 r2 =>
  cases r2 with
  |cons r3 r4=>cases r4;exact⟨_,_,rfl,r1,r3⟩
theorem jO(hc:X.calm=true):dr X (.builtin "max") (λxs H Q=>∃i j,xs=[.int i,.int j]/\Q (.int (if j>i then j else i)) H):=by
 intro pins s σ H xs us Q I r h;obtain⟨i,j,rfl,q⟩:=h;obtain⟨u,w',rfl,⟨t,rfl⟩,⟨t',rfl⟩⟩:=on r;refine max_two_ints (I.ok.hd hc) λh' tk k=>⟨_,H,I.kept k,?_,q⟩;by_cases hj:j>i
 .rw[if_pos hj,if_pos hj];exact⟨_,rfl⟩
 .rw[if_neg hj,if_neg hj];exact⟨_,rfl⟩
theorem jP(hc:X.calm=true):dr X (.builtin "min") (λxs H Q=>∃i j,xs=[.int i,.int j]/\Q (.int (if j<i then j else i)) H):=by
 intro pins s σ H xs us Q I r h;obtain⟨i,j,rfl,q⟩:=h;obtain⟨u,w',rfl,⟨t,rfl⟩,⟨t',rfl⟩⟩:=on r;refine min_two_ints (I.ok.hd hc) λh' tk k=>⟨_,H,I.kept k,?_,q⟩;by_cases hj:j<i
 .rw[if_pos hj,if_pos hj];exact⟨_,rfl⟩
 .rw[if_neg hj,if_neg hj];exact⟨_,rfl⟩
theorem rB:dr X (.type "int") (λxs H Q=>(∃i,xs=[.int i]/\Q (.int i) H)\/∃k,xs=[.bl k]/\Q (.int (if k then 1 else 0)) H):=by
 intro pins s σ H xs us Q I r h;rcases h with⟨i,rfl,q⟩|⟨k,rfl,q⟩
 .obtain⟨u,rfl,t,rfl⟩:=eA r;exact call_int_int ⟨.int i,H,I,⟨_,rfl⟩,q⟩
 .obtain⟨u,rfl,r1⟩:=eA r;cases r1;exact call_int_bool ⟨.int (if k then 1 else 0),H,I.tok _,⟨_,rfl⟩,q⟩
theorem eD:dr X (.type "str") (λxs H Q=>∃i,xs=[.int i]/\i.natAbs.log2<1920/\Q (.str (DX i)) H):=by
 intro pins s σ H xs us Q I r h;obtain⟨i,rfl,hz,q⟩:=h;obtain⟨u,rfl,t,rfl⟩:=eA r;exact PySem.P.str_of_int hz ⟨.str _,H,I.tok _,⟨_,rfl⟩,q⟩
end

section
variable {prog:CK}{w:CG}{A:CY}{E:B5->B9->Prop}{s:B9}{K:PySem.W.Frag}{x dx C f:Addr}{mA:Str->Option B5}{name:Str}{v:B5}

end

section
variable {P:CK}{w:CG}{H H':Hp}{h h':Heap}{a C dx:Addr}{fs fs':List (Str×V)}
end

section
variable {X:Cx}{pins:List (Addr×Obj)}{σ:St}{H:Hp}{s:B9}{a C dx:Addr}{fs:List (Str×V)}{f:Str}{v:V}{A:CY}{E:B5->B9->Prop}

end

section
variable {X:Cx}{o e value:Expr}{f:Str}{pos pos' tpos:Pos}{ta tv:TE}
end

section
variable {X:Cx}{pins:List (Addr×Obj)}{σ:St}{H:Hp}{s:B9}{A:CY}{E:B5->B9->Prop}{Q:B5->B9->Prop}{c:B5}{b:Bool}
end

structure dB(k:Nat)(A:CY):Prop where
 hd:A.handled=none
 dp:A.depth+3*k+5<recursionLimit
 un:A.units+16*k+200<Fy
theorem dB.mono{j k:Nat}{A:CY}(r:dB k A)(h:j<=k):dB j A:=⟨r.hd,by have:=r.dp;omega,by have:=r.un;omega⟩
theorem dB.deeper{k:Nat}{A:CY}(r:dB (k+1) A)(env:Env):dB k (A.deeper env):=
 ⟨r.hd,by have:=r.dp;show A.depth+1+3*k+5<_;omega,by have:=r.un;show A.units+3+16*k+200<_;omega⟩
theorem dB.depth{k:Nat}{A:CY}(r:dB k A):A.depth<recursionLimit:=by have:=r.dp;omega
theorem dB.units{k:Nat}{A:CY}(r:dB k A):A.units+64<Fy:=by have:=r.un;omega
def wn:TA:=λ_ H Q=>Q [] H
def oo(ta:TE)(tr:TA):TA:=λσ H Q=>ta σ H λx H1=>tr σ H1 λxs H2=>Q (x::xs) H2
section
variable {X:Cx}{e:Expr}{es:List Expr}{te:TE}{t:TA}{pos:Pos}
theorem ae:PA X [] wn:=λ_ _ _ _ H Q I h=>Calls.spliced_nil ⟨[],H,I,.nil,h⟩
theorem aa(ha:PE X e te)(hr:PA X es t)(hs:CJ (e::es) X.env=(false,eval e X.env)::CJ es X.env:=by rfl):PA X (e::es) (oo te t):=by
 intro pos pins s σ H Q I h;rw[hs];show Cz _ _ (spliced ((false,eval e X.env)::EK pos (CJ es X.env))) _ _ s;refine Calls.spliced_cons (thn (ha pins s σ H _ I h) λu s1 ⟨x,H1,I1,r1,q1⟩=>?_);exact thn (hr pos pins s1 σ H1 _ I1 q1) λus s2 ⟨xs,H2,I2,r2,q2⟩=>⟨x::xs,H2,I2,.cons r1 r2,q2⟩

def BS(t:TA):TE:=λσ H Q=>t σ H λxs H1=>xs.length<=Cr/\∀p,H1 p=none->Q (.ref p) (upd H1 p (.tup xs))
def BT(t:TA):TE:=λσ H Q=>t σ H λxs H1=>xs.length<=Cr/\∀p,H1 p=none->Q (.ref p) (upd H1 p (.lst xs))
theorem bj{x1}(h:PA X es t):PE X (.Tuple es x1 pos) (BS t):=by
 intro pins s σ H Q I hq;refine wpAny_Tuple_spliced (thn (h pos pins s σ H _ I hq) λus s1 ⟨xs,H1,I1,r,z,q⟩=>⟨by rw[<-r.length];exact z,?_⟩);have hf:H1 s1.heap.objs.size=none:=I1.hok.fresh (B4 _);refine⟨.ref s1.heap.objs.size,upd H1 s1.heap.objs.size (.tup xs),I1.laid (t':=s1.toks) (λb u e=>Cd _ e) (B4 _) ?_,rfl,q _ hf⟩;exact⟨z,us,r,⟨_,Cu _ rfl,rfl,_,rfl⟩⟩
theorem bX(h:PA X es t):PE X (.List es pos) (BT t):=by
 intro pins s σ H Q I hq;refine wpAny_List_spliced (thn (h pos pins s σ H _ I hq) λus s1 ⟨xs,H1,I1,r,z,q⟩=>⟨by rw[<-r.length];exact z,?_⟩);have hf:H1 s1.heap.objs.size=none:=I1.hok.fresh (B4 _);refine⟨.ref s1.heap.objs.size,upd H1 s1.heap.objs.size (.lst xs),I1.laid (t':=s1.toks) (λb u e=>Cd _ e) (B4 _) ?_,rfl,q _ hf⟩;exact⟨z,us,0,r,Cu _ rfl⟩
end

abbrev Sp:=List V->Hp->VK->XK->Prop
abbrev CXT:=List Env->Hp->B9->XK->B5->B9->Prop

structure wp(P:CK)(w:CG)(K:PySem.W.Frag)(mg:Str->Option B5)(base:Heap)(A:CY)(outer:List Env)(s:B9)(H:Hp):Prop where
 frames:A.frames=some outer
 mod:Mod K mg base
 bs:∀b o,base.get? b=some o->s.heap.get? b=some o/\H b=none
 bsz:base.objs.size<=s.heap.objs.size
 funs:s.heap.FunFrames base outer
 frf:∀b∈frs outer,H b=none
 hok:HOk P w H s.heap
 bare:E6 s.gens
def CE(outer:List Env)(P:CK)(w:CG)(H:Hp)(s:B9)(Q:VK)(u:B5)(s':B9):Prop:=
 ∃v H',s'.os=s.os/\E6 s'.gens/\Un (frs outer) [] H H' s.heap s'.heap/\HOk P w H' s'.heap/\bA v u/\Q v H'
def CR(CX:CXT)(outer:List Env)(P:CK)(w:CG)(H:Hp)(s:B9)(Q:VK)(E:XK)(r:FM)(s':B9):Prop:=
 match r with
 |.ok (.ret u)=>CE outer P w H s Q u s'
 |.ok _=>False
 |.error e=>CX outer H s E e s'
structure aS(P:CK)(w:CG)(K:PySem.W.Frag)(mg:Str->Option B5)(base:Heap)(CX:CXT)(k:Nat)(f:Addr)(fd:Cf)(ps:List Str)(sp:Sp):Prop where
 len:∀vs H Q E,sp vs H Q E->vs.length=ps.length
 run:∀(A:CY) (outer:List Env) (s:B9) (H:Hp) (args:Args) (us:List B5) (vs:List V) (Q:VK) (E:XK),dB k A->wp P w K mg base A outer s H->BindsTo s fd args (ps.zip us)->aP vs us->sp vs H Q E->
  Ee (CF P w) A (.call (.ref f) args) (CR CX outer P w H s Q E) s
section
variable {X:Cx}{pins:List (Addr×Obj)}{σ:St}{H:Hp}{s s':B9}
theorem Inv.env0(I:Inv X pins σ H s):wp X.prog X.w X.K X.mg X.base X.A X.stack s H:=
 ⟨I.ok.frames,I.ok.mod,I.bs,Ds I.ok.bsz I.sz,I.stack,I.stkFree,I.hok,I.bare⟩
theorem Inv.after{Q:VK}{u:B5}(I:Inv X pins σ H s)(h:CE X.stack X.prog X.w H s Q u s'):EP X pins σ Q u s':=by
 obtain⟨v,H',os,bare,un,hok,r,q⟩:=h;obtain⟨hh,g,d,t,os'⟩:=s';obtain rfl:os'=s.os:=os;exact⟨v,H',I.call (h':=hh) (g':=g) (d':=d) (t':=t) (ch:=[]) un hok bare (λb z=>absurd z (by simp)),r,q⟩
end

def wt(sp:Sp)(dvs:List V)(E:XK)(t:TA):TE:=λσ H Q=>t σ H λvs H1=>sp (vs++dvs) H1 Q E
def jQ(K:PySem.W.Frag)(fd:Cf)(ps:List Str)(ds:List B5):Prop:=
 ∀(s:B9) (us:List B5),K.In s.heap->(us++ds).length=ps.length->BindsTo s fd ⟨us,[]⟩ (ps.zip (us++ds))
theorem jQ.all{K:PySem.W.Frag}{fd:Cf}{ps:List Str}(h:∀us:List B5,us.length=ps.length->FA fd ⟨us,[]⟩=pure (ps.zip us)):jQ K fd ps []:=λs us _ hl=>by
 rw[C4]at hl⊢;exact .of_eq (h us hl)

def tE(CX:CXT)(X:Cx)(E:XK):Prop:=∀(pins:List (Addr×Obj)) (σ:St) (H:Hp) (s:B9) (e:B5) (s':B9),Inv X pins σ H s->CX X.stack H s E e s'->X.xe e s'

section
variable {X:Cx}{CX:CXT}{k:Nat}{f C:Addr}{fd:Cf}{ps:List Str}{sp:Sp}{dvs:List V}{ds:List B5}{E:XK}{x m:Str}{p pos apos:Pos}{e o:Expr}{es:List Expr}{ta:TE}{t:TA}

theorem AF{pins:List (Addr×Obj)}{σ:St}{H:Hp}{s:B9}{Q:VK}{us:List B5}{vs:List V}(F:aS X.prog X.w X.K X.mg X.base CX k f fd ps sp)(hr:dB k X.A)(hb:jQ X.K fd ps ds)(hd:aP dvs ds)(hx:tE CX X E)
  (I:Inv X pins σ H s)(r:aP vs us)(h:sp (vs++dvs) H Q E):Cz (CF X.prog X.w) X.A (call (.ref f) us) (EP X pins σ Q) X.xe s:=by
 have r2:aP (vs++dvs) (us++ds):=r.append hd;have hl:(us++ds).length=ps.length:=by rw[<-r2.length];exact F.len _ _ _ _ h
 refine wpAny_call (FR (F.run X.A X.stack s H ⟨us,[]⟩ (us++ds) (vs++dvs) Q E hr I.env0 (hb s us I.kIn hl) r2 h) λr s' hq=>?_);cases r with
 |error e=>exact hx pins σ H s e s' I hq
 |ok fl =>
  cases fl with
  |ret u=>exact I.after hq
  |next=>exact D2 hq
  |brk=>exact D2 hq
  |cont=>exact D2 hq

theorem vC(F:aS X.prog X.w X.K X.mg X.base CX k f fd ps sp)(hr:dB k X.A)(hg:Gl X x)(hm:X.mg x=some (.ref f))(hk:PySem.W.keepIn X.K (.ref f)=true)(hb:jQ X.K fd ps ds)(hd:aP dvs ds)(hx:tE CX X E)
  (ha:PA X (e::es) t)(hdb:(x==("__debug__" : Str))=false:=by decide)(he:CJ (e::es) X.env=(false,eval e X.env)::CJ es X.env:=by rfl)(hpl:(EK pos (CJ es X.env)).any (·.1)=false:=by rfl) :
  PE X (.Call (.Name x p) (e::es) [] pos) (wt sp dvs E t):=by
 intro pins s σ H Q I h;refine D3 (zU I hg hm ?_ hdb);refine PySem.W.callWith_K (h₀:=X.base) I.ok.mod.kin hk (thn (ha pos pins s σ H _ I h) λus s1 ⟨vs,H1,I1,r,q⟩=>⟨I1.kIn,?_⟩) he hpl;exact AF F hr hb hd hx I1 r q
end

section
variable {X:Cx}{CX:CXT}{k:Nat}{f C:Addr}{fd:Cf}{ps ks:List Str}{sp:Sp}{E:XK}{x m:Str}{p pos apos kpos:Pos}{e o:Expr}{es:List Expr}{kws:List FZ}{te ta:TE}{t tk:TA}{nm:Option Str}
variable {g:List B5->List B5->List B5}{gV:List V->List V->List V}
end

structure aG(N P:List Str)(sc:Scope):Prop where
 kind:sc.kind=.function
 co:sc.isCoroutine=false
 gen:sc.isGenerator=false
 nd:N.Nodup
 pre:N.take P.length=P
 par:∀x∈P,sc.names.lookup x=some .local\/sc.names.lookup x=some .cell
 nofree:∀y∈sc.names,y.2≠.free

theorem rC{EE:Str->Option FB}{x:Str}:∀{binds:List (Str×B5)} {m:Str->Option B5},(∀v,(x,v)∉binds)->F5 EE binds m x=m x
 |[],_,_=>rfl
 |(n,v)::r,m,h=>by
  unfold F5;rw[rC λw hw=>h w (Ck _ hw)]
  split
  .have:x≠n:=by rintro rfl;exact h v Cp
   simp[this]
  .rfl
theorem rD{EE:Str->Option FB}{x:Str}:∀{binds:List (Str×B5)} {m:Str->Option B5},(∀v,(x,v)∉binds)->F6 EE binds m x=m x
 |[],_,_=>rfl
 |(n,v)::r,m,h=>by
  unfold F6;rw[rD λw hw=>h w (Ck _ hw)]
  split
  .rfl
  .have:x≠n:=by rintro rfl;exact h v Cp
   simp[this]
theorem rE{EE:Str->Option FB}{x:Str}{v:B5}:∀{P:List Str} {vs:List B5} {i:Nat} {m:Str->Option B5},P.Nodup->P[i]?=some x->vs[i]?=some v->EE x=some .local->
  F5 EE (P.zip vs) m x=some v
 |[],_,_,_,_,h,_,_=>by simp at h
 |_::_,[],_,_,_,_,h,_=>by simp at h
 |p::P,w::vs,0,m,nd,h1,h2,hk=>by
  simp at h1 h2;subst h1;subst h2;show F5 EE ((p,w)::P.zip vs) m p=_;unfold F5;rw[rC λv hv=>(List.nodup_cons.mp nd).1 (Fz hv).1,if_pos hk];simp
 |p::P,w::vs,i+1,m,nd,h1,h2,hk=>by
  show F5 EE ((p,w)::P.zip vs) m x=_;unfold F5;exact rE (i:=i) (List.nodup_cons.mp nd).2 (by simpa using h1) (by simpa using h2) hk
theorem rF{EE:Str->Option FB}{x:Str}{v:B5}:∀{P:List Str} {vs:List B5} {i:Nat} {m:Str->Option B5},P.Nodup->P[i]?=some x->vs[i]?=some v->EE x≠some .local->
  F6 EE (P.zip vs) m x=some v
 |[],_,_,_,_,h,_,_=>by simp at h
 |_::_,[],_,_,_,_,h,_=>by simp at h
 |p::P,w::vs,0,m,nd,h1,h2,hk=>by
  simp at h1 h2;subst h1;subst h2;show F6 EE ((p,w)::P.zip vs) m p=_;unfold F6;rw[rD λv hv=>(List.nodup_cons.mp nd).1 (Fz hv).1,if_neg hk];simp
 |p::P,w::vs,i+1,m,nd,h1,h2,hk=>by
  show F6 EE ((p,w)::P.zip vs) m x=_;unfold F6;exact rF (i:=i) (List.nodup_cons.mp nd).2 (by simpa using h1) (by simpa using h2) hk

def eB(N:List Str)(vs:List V):St:=vs.map some++Co (N.length-vs.length) none

def oP(CX:CXT)(P:CK)(w:CG)(K:PySem.W.Frag)(mg:Str->Option B5)(base:Heap)(N:List Str)(qual:Str)(scope:Scope)(f:Addr)(cd:B5)(A:CY)(outer:List Env)(s:B9)(H:Hp)(E:XK):Cx where
 prog:=P
 w:=w
 K:=K
 mg:=mg
 base:=base
 A:=A.deeper (Fp qual scope s.heap.objs.size f cd)
 N:=N
 s₀:=s
 H₀:=H
 env:=Fp qual scope s.heap.objs.size f cd
 outer:=outer
 stack:=Fp qual scope s.heap.objs.size f cd::outer
 ex:=[]
 calm:=true
 fn:=λ_=>true
 pn:=[]
 xe:=λe s'=>Cz (CF P w) (A.deeper (Fp qual scope s.heap.objs.size f cd)) (leaving (Fp qual scope s.heap.objs.size f cd) e) (λ_ s''=>CX outer H s E e s'') (λe' s''=>CX outer H s E e' s'') s'

theorem tF{sc:Scope}{n:Nat}{x:Str}(h:sc.names.lookup x=some .cell):∃c,(cellsFrom n sc.names []).lookup x=some c:=by
 have q:=PySem.W.cellsFrom_some sc.names n [] (.inl h);exact Option.isSome_iff_exists.mp q

theorem xI{CX:CXT}{P:CK}{w:CG}{K:PySem.W.Frag}{mg:Str->Option B5}{base:Heap}{N ps:List Str}{qual:Str}{scope:Scope}{f:Addr}{cd:B5}{A:CY}{outer:List Env}{s s1:B9}{H:Hp}{E:XK}{us:List B5}{vs:List V}
  (S:aG N ps scope)(hd:A.handled=none)(e0:wp P w K mg base A outer s H)(hl:vs.length=ps.length)(r:aP vs us)
  (x:InCallC s s.heap.objs.size (F5 (Fp qual scope s.heap.objs.size f cd).kindOf (ps.zip us) λ_=>none) (cellsFrom (s.heap.objs.size+1) scope.names []) (F6 (Fp qual scope s.heap.objs.size f cd).kindOf (ps.zip us) λ_=>none) s1) :
  Inv (oP CX P w K mg base N qual scope f cd A outer s H E) [] (eB N vs) H s1:=by
 have hpl:ps.length<=N.length:=by have:=congrArg List.length S.pre;rw[CB]at this;omega
 obtain⟨h1,tk,rfl,hk⟩:=x.done;have noA:∀b:Addr,b∉(oP CX P w K mg base N qual scope f cd A outer s H E).ex:=λb z=>absurd (show b∈([]:List Addr)from z) (by simp);refine⟨⟨e0.mod,S.kind,rfl,rfl,B4 _,λy z c h1 h2=>?_,λy hy=>?_,λy c _ h=>?_,λ_=>hd,Around.frames_deeper e0.frames,.inr ⟨rfl,rfl⟩,λb z=>absurd z (noA b),e0.bs,e0.bsz,λb _ _=>noA b,λb z=>absurd z (noA b),e0.funs,e0.frf⟩,
  rfl,e0.bare,Un.kept hk,⟨_,x.toInCall.ns,λi y v h1 h2 h3=>?_⟩,λy c h=>⟨_,x.cell y c h⟩,e0.hok.fresh (B4 _),λy c h=>?_,λp hp=>absurd (show p∈([]:List (Addr×Obj))from hp) (by simp),e0.hok.kept hk,?_⟩
 .exact name_of_addr x.apart (PySem.mem_of_lookup h1) (PySem.mem_of_lookup h2)
 .have hy:scope.names.lookup y=some .cell\/scope.names.lookup y=some .free:=hy;rcases hy with hy|hy
  .exact tF hy
  .exact absurd rfl (S.nofree _ (PySem.mem_of_lookup hy))
 .exact EW (x.above y c (PySem.mem_of_lookup h))
 .have hi:i<vs.length:=by
   unfold eB at h2;by_cases hi:i<vs.length
   .exact hi
   .rw[Cj (by simpa using hi)]at h2;rw[Et]at h2
    split at h2<;>cases h2
  have ha:vs[i]?=some v:=by
   unfold eB at h2;rw[Ce (by simpa using hi),B_]at h2;cases e:vs[i]? with
   |none=>rw[e]at h2;cases h2
   |some a=>rw[e]at h2;cases h2;rfl
  obtain⟨u,hu,rv⟩:=r.get ha;have hp:ps[i]?=some y:=by
   rw[<-S.pre,Eo (by omega)];exact h1
  have ndP:ps.Nodup:=by rw[<-S.pre];exact S.nd.sublist (List.take_sublist _ _)
  refine⟨u,rv,?_⟩;rcases S.par y (Cg hp)with k|k
  .exact .inl ⟨k,rE ndP hp hu k⟩
  .obtain⟨c,e⟩:=tF (n:=s.heap.objs.size+1) k;refine .inr ⟨.inl k,c,e,?_⟩;have q:=x.cell y c e;rw[rF ndP hp hu (by show scope.names.lookup y≠_;rw[k];decide)]at q;exact q
 .exact e0.hok.fresh (EW (x.above y c (PySem.mem_of_lookup h)))
 .unfold eB;show _=N.length;rw[Ca,B3,C0];omega

theorem zK{CX:CXT}{P:CK}{w:CG}{K:PySem.W.Frag}{mg:Str->Option B5}{base:Heap}{k:Nat}{f:Addr}{name qual:Str}{params:Arguments}{body:List Stmt}{scope:Scope}{dV kV doc pm cdv ct oc:B5}{an od:Option Addr}
  {osl:Array (Option B5)}{N ps:List Str}{sp:Sp}(lk:K.lookup f=some ⟨oc,od,.func (PySem.W.fnOf name qual params body scope dV kV doc pm an cdv ct),osl⟩)(hcd:PySem.W.codeIn K cdv qual=true)(S:aG N ps scope)
  (len:∀vs H Q E,sp vs H Q E->vs.length=ps.length)
  (hbody:∀ (A:CY) (outer:List Env) (s:B9) (H:Hp) (vs:List V) (Q:VK) (E:XK),dB k (A.deeper (Fp qual scope s.heap.objs.size f cdv))→sp vs H Q E →
   ∃t,PSs (oP CX P w K mg base N qual scope f cdv A outer s H E) body t/\t { nx:=λ_ H'=>Q .non H',rt:=Q } (eB N vs) H) :
  aS P w K mg base CX (k+1) f (PySem.W.fnOf name qual params body scope dV kV doc pm an cdv ct) ps sp:=by
 refine⟨len,λA outer s H args us vs Q E hr e0 hb r hsp=>?_⟩;have hl:=len _ _ _ _ hsp;have KX:K.In s.heap:=e0.mod.kin.keeps λb o e=>(e0.bs b o e).1;have lim:s.heap.NoLimit:=e0.mod.nolimit.keeps λb o e=>(e0.bs b o e).1;have hkind:∀y∈ps.zip us,scope.names.lookup y.1=some .local\/(scope.names.lookup y.1=some .cell/\((cellsFrom (s.heap.objs.size+1) scope.names []).lookup y.1).isSome=true):=λ⟨n,v⟩ hy=>by
  rcases S.par n (Fz hy).1 with q|q
  .exact .inl q
  .exact .inr ⟨q,PySem.W.cellsFrom_some _ _ _ (.inl q)⟩
 refine codeAny_call_function hr.depth (KX _ _ lk) rfl S.co S.gen rfl (PySem.W.codeRec_of KX hcd) (hb _ _ _ _ ?_);refine wpAny_newFunctionEnv_cells S.kind hkind λenv he s1 x=>?_;subst he;refine⟨lim.keeps x.toInCall.keep,codeAny_func ?_⟩;obtain⟨t,ht,hq⟩:=hbody A outer s H vs Q E (hr.deeper _) hsp;have I:Inv (oP CX P w K mg base N qual scope f cdv A outer s H E) [] (eB N vs) H s1:=xI S hr.hd e0 hl r x;refine Dn (ht [] s1 (eB N vs) H _ I hq) (λfl s' hs=>?_) λe s' hs=>hs;have fin:∀{σ':St} {H':Hp} {v:V} {u:B5},Inv (oP CX P w K mg base N qual scope f cdv A outer s H E) [] σ' H' s'->bA v u->Q v H'->CE outer P w H s Q u s':=
  λ{σ' H' v u} J rv q=>⟨v,H',J.os,J.bare,J.base,J.hok,rv,q⟩
 cases fl with
 |ret u =>
  obtain⟨v,σ',H',J,rv,q⟩:=hs;exact fin J rv q
 |next =>
  obtain⟨σ',H',J,q⟩:=hs;exact fin (v:=V.non) (u:=ED) J rfl q
 |brk =>
  obtain⟨_,_,_,q⟩:=hs;exact D2 q
 |cont =>
  obtain⟨_,_,_,q⟩:=hs;exact D2 q
section
variable {X:Cx}{x:Str}{p pos:Pos}{e:Expr}{es:List Expr}{t:TA}{id T:String}{r:List V->Hp->VK->Prop}

def tCB(r:List V->Hp->VK->Prop)(t:TA):TE:=λσ H Q=>t σ H λvs H1=>r vs H1 Q
theorem aA(hc:dr X (.builtin id) r)(hg:Gl X x)(hm:X.mg x=none)(hv:DR x=some (.builtin id))(ha:PA X (e::es) t)(hn:x≠"__name__":=by decide)(hdb:(x==("__debug__" : Str))=false:=by decide)
  (he:CJ (e::es) X.env=(false,eval e X.env)::CJ es X.env:=by rfl)(hpl:(EK pos (CJ es X.env)).any (·.1)=false:=by rfl):PE X (.Call (.Name x p) (e::es) [] pos) (tCB r t):=by
 intro pins s σ H Q I h;refine D3 (gS I hg hm hv ?_ hn hdb);exact PyProof.Rows.callWith_builtin1 (thn (ha pos pins s σ H _ I h) λus s1 ⟨vs,H1,I1,r1,q1⟩=>hc pins s1 σ H1 vs us Q I1 r1 q1) he hpl
theorem cS(hc:dr X (.type T) r)(hg:Gl X x)(hm:X.mg x=none)(hv:DR x=some (.type T))(ha:PA X (e::es) t)(hn:x≠"__name__":=by decide)(hdb:(x==("__debug__" : Str))=false:=by decide)
  (he:CJ (e::es) X.env=(false,eval e X.env)::CJ es X.env:=by rfl)(hpl:(EK pos (CJ es X.env)).any (·.1)=false:=by rfl):PE X (.Call (.Name x p) (e::es) [] pos) (tCB r t):=by
 intro pins s σ H Q I h;refine D3 (gS I hg hm hv ?_ hn hdb);exact Dd (thn (ha pos pins s σ H _ I h) λus s1 ⟨vs,H1,I1,r1,q1⟩=>hc pins s1 σ H1 vs us Q I1 r1 q1) he hpl
end
end L2

namespace HT
open PySem PyProof.Rows

theorem tG(A:CY)(s:B9)(a:Int)(t:Tok)(c:Int)(u:Tok):∃e,FN A s (.int a t) (.int c u) e/\(e=true↔a=c):=
 ⟨(a==c),SeqAt.EqAt.int_int a t c u,by simp⟩
section
open PySem.SeqAt
open PySem.AutoSeq1 (wpAny_loadPart')
open PySem.MeetsSeq PySem.MeetsSeq2 PySem.MeetsSeq3

end

section
variable {prog:CK}{w:CG}{A:CY}{E:B5->B9->Prop}{s:B9}

def sIx(n d:Nat):Option Int->Nat
 |none=>d
 |some v=>if v<0 then(v+(n:Int)).toNat else min v.toNat n
theorem sIx_none(n d:Nat):sIx n d none=d:=rfl
theorem sIx_nat(n d k:Nat):sIx n d (some (k:Int))=min k n:=by
 show(if(k:Int)<0 then((k:Int)+(n:Int)).toNat else min (k:Int).toNat n)=min k n;rw[if_neg (by omega),Dt]
end
end HT

namespace L2
open PySem PySem.Spec PyProof.Rows

abbrev TO:=St->Hp->(Option Int->Hp->Prop)->Prop
def PO(X:Cx)(e:Option Expr)(t:TO):Prop:=
 ∀(pins:List (Addr×Obj)) (s:B9) (σ:St) (H:Hp) (Q:Option Int->Hp->Prop),Inv X pins σ H s->t σ H Q->
  Cz (CF X.prog X.w) X.A (evalPart e X.env) (λu s'=>∃o H',Inv X pins σ H' s'/\IsPart u o/\Q o H') X.xe s
def zW:TO:=λ_ H Q=>Q none H
def Bv(t:TE):TO:=λσ H Q=>t σ H λx H1=>∃i,x=.int i/\Q (some i) H1

theorem iC{ns:List Int}:∀{us:List B5},aP (ns.map V.int) us->Dz us ns:=by
 induction ns with
 |nil=>intro us r;rw[Fq]at r;cases r;exact .nil
 |cons n ns ih =>
  intro us r;rw[Dh]at r;cases r with
  |cons r1 r2 =>
   obtain⟨t,e⟩:=r1;subst e;exact .cons n t (ih r2)

section
variable {X:Cx}{e:Expr}{te:TE}{lo hi:Option Expr}{tl th:TO}{pos p2:Pos}

theorem vD:PO X none zW:=by
 intro pins s σ H Q I h;rw[evalPart_none];exact Cs ⟨none,H,I,.none,h⟩
theorem fv(h:PE X e te):PO X (some e) (Bv te):=by
 intro pins s σ H Q I hw;rw[evalPart_some];refine thn (h pins s σ H _ I hw) λu s1 ⟨x,H1,I1,r1,q1⟩=>?_;obtain⟨i,rfl,q⟩:=q1;obtain⟨t,rfl⟩:=r1;exact⟨some i,H1,I1,.int i t,q⟩

def SlR(X:Cx)(r:V->Option Int->Option Int->Hp->VK->Prop):Prop:=
 ∀(pins:List (Addr×Obj)) (s:B9) (σ:St) (H:Hp) (x:V) (v vl vu:B5) (lo hi:Option Int) (sl:Addr) (Q:VK),Inv X pins σ H s->bA x v->s.heap.IsSliceOf sl vl vu .none->IsPart vl lo->IsPart vu hi->r x lo hi H Q->
  ∃T id,F7 (.type T) "__getitem__" = pure (some (.builtin id))/\s.TypeIs v T/\Cz (CF X.prog X.w) X.A (getItem v (.ref sl)) (EP X pins σ Q) X.xe s
def tSl(r:V->Option Int->Option Int->Hp->VK->Prop)(te:TE)(tl th:TO):TE:=λσ H Q=>te σ H λx H1=>tl σ H1 λl H2=>th σ H2 λu H3=>r x l u H3 Q
theorem iT{r:V->Option Int->Option Int->Hp->VK->Prop}(hr:SlR X r)(he:PE X e te)(hl:PO X lo tl)(hu:PO X hi th):PE X (.Subscript e (.Slice lo hi none p2) pos) (tSl r te tl th):=by
 intro pins s σ H Q I h;refine Subscript_ (thn (he pins s σ H _ I h) λv s1 ⟨x,H1,I1,r1,q1⟩=>?_);refine wpAny_Slice (thn (hl pins s1 σ H1 _ I1 q1) λvl s2 ⟨l,H2,I2,pl,q2⟩=>thn (hu pins s2 σ H2 _ I2 q2) λvu s3 ⟨u,H3,I3,pu,q3⟩=>?_);rw[evalPart_none];refine Cs ?_;have I4:Inv X pins σ H3 { s3 with heap:=s3.heap.push { cls:=.type "slice",data:=.fields #[vl,vu,.none] } }:=I3.kept (t':=s3.toks) λb ob q=>Cd _ q;obtain⟨T,id,hT,ht,hg⟩:=hr pins { s3 with heap:=s3.heap.push { cls:=.type "slice",data:=.fields #[vl,vu,.none] } } σ H3 x v vl vu l u s3.heap.objs.size Q I4 r1 (Heap.IsSliceOf.new ..) pl pu q3;show Cz (CF X.prog X.w) X.A (subscriptTail e (.Slice lo hi none p2) v (.ref s3.heap.objs.size)) (EP X pins σ Q) X.xe { s3 with heap:=s3.heap.push { cls:=.type "slice",data:=.fields #[vl,vu,.none] } };exact tail_any (ops:=[.ref s3.heap.objs.size,v]) ht hT hg (by with_unfolding_all rfl)

def c6(xs:List V)(lo hi:Option Int):List V:=(xs.drop (HT.sIx xs.length 0 lo)).take (HT.sIx xs.length xs.length hi-HT.sIx xs.length 0 lo)
theorem uZ(xs:List V)(lo hi:Option Int):(c6 xs lo hi).length<=xs.length:=by
 unfold c6;rw[CB,List.length_drop];omega
end

def ixN(n:Nat)(i:Int):Option Nat:=if 0<=i then(if i<n then some i.toNat else none)else if -(n:Int)<=i then some (i+n).toNat else none
def atI{α:Type}(xs:List α)(i:Int):Option α:=(ixN xs.length i).bind λj=>xs[j]?
theorem vE{n:Nat}{i:Int}{j:Nat}(h:ixN n i=some j):seqIndex? i n=some j/\j<n/\-(n:Int)<=i/\i<n:=by
 unfold ixN at h;by_cases h0:0<=i
 .rw[if_pos h0]at h;by_cases h1:i<n
  .rw[if_pos h1]at h;have e:i.toNat=j:=Cw h;exact⟨by rw[FX h0 h1,e],by omega,by omega,h1⟩
  .rw[if_neg h1]at h;cases h
 .rw[if_neg h0]at h;by_cases h1:-(n:Int)<=i
  .rw[if_pos h1]at h;have e:(i+n).toNat=j:=Cw h;exact⟨by rw[FS (by omega) h1,e],by omega,h1,by omega⟩
  .rw[if_neg h1]at h;cases h
theorem qC{α:Type}{xs:List α}{i:Int}{v:α}(h:atI xs i=some v):∃j,seqIndex? i xs.length=some j/\xs[j]?=some v/\j<xs.length/\-(xs.length:Int)<=i/\i<xs.length:=by
 unfold atI at h;cases e:ixN xs.length i with
 |none=>rw[e]at h;cases h
 |some j =>
  rw[e]at h;obtain⟨h1,h2,h3,h4⟩:=vE e;exact⟨j,h1,h,h2,h3,h4⟩
theorem cY{α:Type}{xs:List α}{j:Nat}{v:α}(h:xs[j]?=some v):atI xs (j:Int)=some v:=by
 have hj:j<xs.length:=(List.getElem?_eq_some_iff.mp h).1;have e:ixN xs.length (j:Int)=some j:=by
  unfold ixN;rw[if_pos (by omega),if_pos (by omega)];simp
 unfold atI;rw[e];exact h
def zX(b:Expr):Prop:=∀o i,subscripted b false o i=operate [o,i] (getItem o i)
def IxR(X:Cx)(r:R2):Prop:=
 ∀(value slice:Expr) (pins:List (Addr×Obj)) (s:B9) (σ:St) (H:Hp) (x y:V) (v u:B5) (Q:VK),Inv X pins σ H s->bA x v->bA y u->r x y H Q->
  subscripted slice false v u=operate [v,u] (getItem v u)->Cz (CF X.prog X.w) X.A (subscriptTail value slice v u) (EP X pins σ Q) X.xe s
def MtR(X:Cx)(id:String)(r:V->List V->Hp->VK->Prop):Prop:=
 ∀(pins:List (Addr×Obj)) (s:B9) (σ:St) (H:Hp) (x:V) (xs:List V) (v:B5) (us:List B5) (Q:VK),Inv X pins σ H s->bA x v->aP xs us->r x xs H Q->
  Cz (CF X.prog X.w) X.A (call (.builtin id) (v::us)) (EP X pins σ Q) X.xe s
section
variable {X:Cx}{a b:Expr}{ta tb:TE}{pos:Pos}
theorem ag{r:R2}(hr:IxR X r)(ha:PE X a ta)(hb:PE X b tb)(hs:zX b):PE X (.Subscript a b pos) (tOp r ta tb):=by
 intro pins s σ H Q I h;exact Subscript_ (yF ha hb I h λv u s2 x y H2 I2 rx ry q=>hr a b pins s2 σ H2 x y v u Q I2 rx ry q (hs _ _))

def wu(K:PySem.W.Frag):R2:=λx y H Q=>∃p xs i v,x=.ref p/\y=.int i/\SqL K H p xs/\atI xs i=some v/\Q v H
def eY(K:PySem.W.Frag):R2:=λx y H Q=>∃p xs i v,x=.ref p/\y=.int i/\SqT K H p xs/\atI xs i=some v/\Q v H
def BU:R2:=λx y H Q=>∃z i c,x=.str z/\y=.int i/\z.length<=Cr/\atI z.cps.toList i=some c/\Q (.str ⟨#[c]⟩) H
theorem aH:IxR X (wu X.K):=by
 intro value slice pins s σ H x y v u Q I rx ry h hs;obtain⟨p,xs,i,z,rfl,rfl,hq,he,q⟩:=h;cases rx;obtain⟨t,rfl⟩:=ry;obtain⟨its,r,pl,hz⟩:=I.list hq;obtain⟨j,h1,h2,h3,h4,h5⟩:=qC he;obtain⟨w,ew,rw'⟩:=r.get h2;have hl:=r.length;have hn:=lr;have fin:EP X pins σ Q w s:=⟨z,H,I,rw',q⟩;by_cases h0:0<=i
 .have hj:i.toNat=j:=by
   rw[FX h0 h5]at h1;exact Cw h1
  exact item_listR pl.isList h0 (by omega) (by rw[hj];simpa using ew) fin hs
 .have hj:(i+(its.toArray.size:Int)).toNat=j:=by
   rw[FS (by omega) h4]at h1;rw[Ci,<-hl];exact Cw h1
  exact subscriptTail_builtinR (x:=w) pl.isList.typeIs slot_list_getitem.lookup
   (wpAny_getItem_list_neg (Q:=λr s'=>r=w/\EP X pins σ Q r s') pl.isList (by omega) (by rw[Ci]<;>omega) (by omega) (by rw[hj];simpa using ew) ⟨rfl,fin⟩) hs
theorem aj:IxR X (eY X.K):=by
 intro value slice pins s σ H x y v u Q I rx ry h hs;obtain⟨p,xs,i,z,rfl,rfl,hq,he,q⟩:=h;cases rx;obtain⟨t,rfl⟩:=ry;obtain⟨its,r,pl,hz⟩:=I.tuple hq;obtain⟨j,h1,h2,h3,h4,h5⟩:=qC he;obtain⟨w,ew,rw'⟩:=r.get h2;have hl:=r.length;have hn:=lr;have fin:EP X pins σ Q w s:=⟨z,H,I,rw',q⟩;exact subscriptTail_builtinR (x:=w) pl.typeIs slot_tuple_getitem.lookup
  (getItem_tuple (j:=j) (Q:=λr s'=>r=w/\EP X pins σ Q r s') pl (by omega) (by omega) (by rw[Ci,<-hl];exact h1) (by simpa using ew) ⟨rfl,fin⟩) hs
theorem AG:IxR X BU:=by
 intro value slice pins s σ H x y v u Q I rx ry h hs;obtain⟨z,i,c,rfl,rfl,hz,he,q⟩:=h;obtain⟨t,rfl⟩:=rx;obtain⟨t',rfl⟩:=ry;obtain⟨j,h1,h2,h3,h4,h5⟩:=qC he;have hl:z.cps.toList.length=z.length:=by simp[Str.length]
 rw[hl]at h1 h4 h5;have hn:=lr;exact tail_any (Fs s z t) slot_str_getitem.lookup (getItem_str (c:=c) (by
  have e1:decide (i < -(2^63:Int))=false:=decide_eq_false (by omega);have e2:decide (i>=2^63)=false:=decide_eq_false (by omega);rw[e1,e2,Bool.or_false]) (by rw[h1];simpa using h2) ⟨.str ⟨#[c]⟩,H,I.tok _,⟨_,rfl⟩,q⟩) hs
theorem wx(its:List B5)(n j:Nat)(u:B5):CT (·.setIfInBounds j u) { cls:=.type "list",data:=.seq its.toArray n }={ cls:=.type "list",data:=.seq (its.set j u).toArray n }:=by
 simp[CT]
theorem Inv.lst{pins:List (Addr×Obj)}{σ:St}{H:Hp}{s:B9}{p:Addr}{xs:List V}(I:Inv X pins σ H s)(h:H p=some (.lst xs)) :
  ∃(its:List B5) (n:Nat),aP xs its/\s.heap.get? p=some { cls:=.type "list",data:=.seq its.toArray n }/\xs.length<=Cr:=by
 obtain⟨z,its,n,r,e⟩:=I.hok p _ h;exact⟨its,n,r,e,z⟩
theorem Inv.lstUpd{pins:List (Addr×Obj)}{σ:St}{H:Hp}{s:B9}{p:Addr}{xs ys:List V}{its its':List B5}{n n':Nat}{f:Obj->Obj}(I:Inv X pins σ H s)(h:H p=some (.lst xs))
  (ho:s.heap.get? p=some { cls:=.type "list",data:=.seq its.toArray n })(hf:f { cls:=.type "list",data:=.seq its.toArray n }={ cls:=.type "list",data:=.seq its'.toArray n' })(r:aP ys its')(hz:ys.length<=Cr)(t:Nat) :
  Inv X pins σ (upd H p (.lst ys)) { s with heap:=s.heap.update p f,toks:=t }:=by
 have e:(s.heap.update p f).get? p=some { cls:=.type "list",data:=.seq its'.toArray n' }:=by
  rw[C3 f ho (by rw[hf]<;>rfl),hf]
 refine I.write (x:=p) (e:=p) (by rw[h];trivial) (.inl rfl) (λb u hb q=>(Cq _ _ (CO hb)).trans q) ⟨_,e⟩ ?_;exact⟨hz,its',n',r,e⟩
def Bw:V->V->V->Hp->(Hp->Prop)->Prop:=λo i v H Q=>∃p xs k j,o=.ref p/\i=.int k/\H p=some (.lst xs)/\ixN xs.length k=some j/\Q (upd H p (.lst (xs.set j v)))
theorem tH:Az X Bw:=by
 intro pins s σ H o i v ov iv u Q I ro ri rv h;obtain⟨p,xs,k,j,rfl,rfl,hp,hj,q⟩:=h;cases ro;obtain⟨t,rfl⟩:=ri;obtain⟨its,n,r,ho,hz⟩:=I.lst hp;obtain⟨h1,h2,h3,h4⟩:=vE hj;have hl:=r.length;have hn:=lr;have I':Inv X pins σ (upd H p (.lst (xs.set j v))) { s with heap:=s.heap.update p (CT (·.setIfInBounds j u)) }:=
  I.lstUpd hp ho (wx its n j u) (r.set rv j) (by rw[Ep];exact hz) s.toks
 by_cases h0:0<=k
 .have hk:k.toNat=j:=by
   rw[FX h0 h4]at h1;exact Cw h1
  exact PySem.W.ki_setAt ho h0 (by omega) (by rw[Ci,<-hl];exact h4) (by rw[hk];exact⟨_,I',q⟩)
 .have hk:(k+(its.toArray.size:Int)).toNat=j:=by
   rw[FS (by omega) h3]at h1;rw[Ci,<-hl];exact Cw h1
  exact PySem.W.ki_setBack ho (by omega) (by rw[Ci,<-hl];exact h3) (by omega) (by rw[hk];exact⟨_,I',q⟩)

theorem tI(lo hi:Option Int)(n:Nat):(Eu lo hi none n).1=((HT.sIx n 0 lo:Nat):Int)/\(Eu lo hi none n).2.1=((HT.sIx n n hi:Nat):Int)/\(Eu lo hi none n).2.2=1:=by
 refine⟨?_,?_,rfl⟩
 .cases lo with
  |none=>simp[Eu,HT.sIx]
  |some i =>
   simp only[Eu,HT.sIx,Option.getD_none,show(1:Int)>0 by decide,if_true];by_cases h:i<0
   .simp only[h,if_true]<;>omega
   .simp only[h,if_false]<;>omega
 .cases hi with
  |none=>simp[Eu,HT.sIx]
  |some i =>
   simp only[Eu,HT.sIx,Option.getD_none,show(1:Int)>0 by decide,if_true];by_cases h:i<0
   .simp only[h,if_true]<;>omega
   .simp only[h,if_false]<;>omega
theorem rZ(its:List B5)(lo hi:Option Int):slicePick its.toArray lo hi none=((its.drop (HT.sIx its.length 0 lo)).take (HT.sIx its.length its.length hi-HT.sIx its.length 0 lo)).toArray:=by
 obtain⟨h1,h2,h3⟩:=tI lo hi its.toArray.size;unfold slicePick;rw[h1,h2,h3];simp only[sliceRange_one,pick_run,Ci]<;>rfl
def BV(K:PySem.W.Frag):V->Option Int->Option Int->Hp->VK->Prop:=λx lo hi H Q=>∃a xs,x=.ref a/\SqL K H a xs/\∀p,H p=none->Q (.ref p) (upd H p (.lst (c6 xs lo hi)))
theorem lu:SlR X (BV X.K):=by
 intro pins s σ H x v vl vu lo hi sl Q I rx hs pl pu h;obtain⟨a,xs,rfl,hx,q⟩:=h;cases rx;obtain⟨its,r,ht,hz⟩:=I.list hx;have hlen:=r.length;refine⟨"list",_,slot_list_getitem.lookup,ht.isList.typeIs,?_⟩;refine wpAny_getItem_list_slice ht.isList hs pl pu .none (by simp) ?_ (by rw[Ci]<;>omega)
 rw[rZ,<-hlen];refine⟨.ref s.heap.objs.size,_,I.laid (t':=s.toks) (o:=.lst (c6 xs lo hi)) (λb ob q=>Cd _ q) (B4 _) ?_,rfl,q _ (I.hok.fresh (B4 _))⟩;exact⟨Ds (uZ xs lo hi) hz,_,0,(r.drop (HT.sIx xs.length 0 lo)).take (HT.sIx xs.length xs.length hi-HT.sIx xs.length 0 lo),Cu _ rfl⟩

def cL:V->Bool
 |.non=>true
 |.bl _=>true
 |.int _=>true
 |.str _=>true
 |_=>false
def eqV:V->V->Bool
 |.non,.non=>true
 |.bl a,.bl b=>a==b
 |.bl a,.int b=>(if a then 1 else 0)==b
 |.int a,.bl b=>a==(if b then 1 else 0)
 |.int a,.int b=>a==b
 |.str a,.str b=>a==b
 |_,_=>false
theorem xJ{A:CY}{s:B9}{y x:V}{u v:B5}(ry:bA y u)(rx:bA x v)(fy:cL y=true)(fx:cL x=true):FN A s u v (eqV y x):=by
 cases y with
 |non =>
  cases ry;cases x with
  |non=>cases rx;exact SeqAt.EqAt.same _
  |bl b=>cases rx;exact SeqAt.EqAt.none_bool b
  |int b=>obtain⟨t,rfl⟩:=rx;exact SeqAt.EqAt.none_int b t
  |str b=>obtain⟨t,rfl⟩:=rx;exact SeqAt.EqAt.none_str b t
  |_=>exact absurd (show false=true from fx) Cm
 |bl a =>
  cases ry;cases x with
  |non=>cases rx;exact SeqAt.EqAt.bool_none a
  |bl b=>cases rx;exact SeqAt.EqAt.bool_bool a b
  |int b=>obtain⟨t,rfl⟩:=rx;exact SeqAt.EqAt.bool_int a b t
  |str b=>obtain⟨t,rfl⟩:=rx;exact SeqAt.EqAt.bool_str a b t
  |_=>exact absurd (show false=true from fx) Cm
 |int a =>
  obtain⟨t',rfl⟩:=ry;cases x with
  |non=>cases rx;exact SeqAt.EqAt.int_none a t'
  |bl b=>cases rx;exact SeqAt.EqAt.int_bool a t' b
  |int b=>obtain⟨t,rfl⟩:=rx;exact SeqAt.EqAt.int_int a t' b t
  |str b=>obtain⟨t,rfl⟩:=rx;exact SeqAt.EqAt.int_str a t' b t
  |_=>exact absurd (show false=true from fx) Cm
 |str a =>
  obtain⟨t',rfl⟩:=ry;cases x with
  |non=>cases rx;exact SeqAt.EqAt.str_none a t'
  |bl b=>cases rx;exact SeqAt.EqAt.str_bool a t' b
  |int b=>obtain⟨t,rfl⟩:=rx;exact SeqAt.EqAt.str_int a t' b t
  |str b=>obtain⟨t,rfl⟩:=rx;exact SeqAt.EqAt.str_str a t' b t
  |_=>exact absurd (show false=true from fx) Cm
 |_=>exact absurd (show false=true from fy) Cm
def eqU(x:V)(u:B5):Bool:=match u with
 |.none=>eqV .non x
 |.bool b=>eqV (.bl b) x
 |.int i _=>eqV (.int i) x
 |.str z _=>eqV (.str z) x
 |_=>false
theorem xK{x y:V}{u:B5}(r:bA y u)(f:cL y=true):eqU x u=eqV y x:=by
 cases y with
 |non=>cases r;rfl
 |bl b=>cases r;rfl
 |int i=>obtain⟨t,rfl⟩:=r;rfl
 |str z=>obtain⟨t,rfl⟩:=r;rfl
 |_=>exact absurd (show false=true from f) Cm
theorem qD{x:V}:∀{xs:List V} {us:List B5},aP xs us->xs.all cL=true->us.any (eqU x)=xs.any λy=>eqV y x
 |_,_,.nil,_=>rfl
 |y::xs,u::us,.cons r t,f=>by
  rw[Fc,Ei]at f;rw[FI,FI,xK r f.1,qD t f.2]
theorem oQ{A:CY}{s:B9}{x:V}{v:B5}(rx:bA x v)(fx:cL x=true):∀{xs:List V} {us:List B5},aP xs us->xs.all cL=true->∀u∈us,FN A s u v (eqU x u)
 |_,_,.nil,_=>λu hu=>by cases hu
 |y::xs,u::us,.cons r t,f=>λu' hu=>by
  rw[Fc,Ei]at f;rcases List.mem_cons.mp hu with rfl|hu
  .rw[xK r f.1];exact xJ r rx f.1 fx
  .exact oQ rx fx t f.2 u' hu
def inV(x:V)(xs:List V):Bool:=xs.any λy=>eqV y x
def rIn(K:PySem.W.Frag)(neg:Bool):R2:=λx y H Q=>∃p xs,y=.ref p/\(SqL K H p xs\/SqT K H p xs)/\cL x=true/\xs.all cL=true/\Q (.bl (if neg then !inV x xs else inV x xs)) H
theorem tJ:OpR X (C7 .NotIn) (rIn X.K true):=by
 intro pins s σ H x y v u Q I rx ry h;obtain⟨p,xs,rfl,hq,fx,fs,q⟩:=h;cases ry;rcases hq with hq|hq
 .obtain⟨its,r,pl,hz⟩:=I.list hq;refine SeqAt.notIn_listAt (eqU x) pl.isList (λw hw=>oQ rx fx r fs w (by simpa using hw)) ⟨.bl _,H,I,rfl,?_⟩;rw[show its.toArray.any (eqU x)=its.any (eqU x) by simp,qD r fs];exact q
 .obtain⟨its,r,pl,hz⟩:=I.tuple hq;refine SeqAt.notIn_tupleAt (eqU x) pl (λw hw=>oQ rx fx r fs w (by simpa using hw)) ⟨.bl _,H,I,rfl,?_⟩;rw[show its.toArray.any (eqU x)=its.any (eqU x) by simp,qD r fs];exact q
theorem aL:dr X (.builtin "len") (λxs H Q=>∃p ys,xs=[.ref p]/\(SqL X.K H p ys\/SqT X.K H p ys)/\Q (.int ys.length) H):=by
 intro pins s σ H xs us Q I r h;obtain⟨p,ys,rfl,hq,q⟩:=h;obtain⟨u,rfl,rx⟩:=eA r;cases rx;have hn:=lr;rcases hq with hq|hq
 .obtain⟨its,r',pl,hz⟩:=I.list hq;have hlen:=r'.length;exact Calls.call_len_list pl.isList (by simp only[Ci]<;>omega) ⟨.int ys.length,H,I.tok _,⟨s.toks+1,by rw[Ci,hlen]⟩,q⟩
 .obtain⟨its,r',pl,hz⟩:=I.tuple hq;have hlen:=r'.length;exact len_tuple pl (by simp only[Ci]<;>omega) ⟨.int ys.length,H,I.tok _,⟨s.toks+1,by rw[Ci,hlen]⟩,q⟩
theorem cI:dr X (.builtin "len") (λxs H Q=>∃z,xs=[.str z]/\z.length<=Cr/\Q (.int z.length) H):=by
 intro pins s σ H xs us Q I r h;obtain⟨z,rfl,hz,q⟩:=h;obtain⟨u,rfl,t,rfl⟩:=eA r;have hn:=lr;exact len_str (by omega) ⟨.int z.length,H,I.tok _,⟨_,rfl⟩,q⟩
theorem mT:dr X (.type "list") (λxs H Q=>∃p ys,xs=[.ref p]/\(SqL X.K H p ys\/SqT X.K H p ys)/\∀l,H l=none->Q (.ref l) (upd H l (.lst ys))):=by
 intro pins s σ H xs us Q I r h;obtain⟨p,ys,rfl,hq,q⟩:=h;obtain⟨u,rfl,rx⟩:=eA r;cases rx;have fin:∀(its:List B5),aP ys its->ys.length<=Cr->∀(h':Heap) (c':Nat),(∀b o',s.heap.get? b=some o'->h'.get? b=some o')->
   h'.get? s.heap.objs.size=some { cls:=.type "list",dict:=none,data:=.seq its.toArray c',slots:=#[] }->EP X pins σ Q (.ref s.heap.objs.size) { s with heap:=h' }:=λits r' hz h' c' kp e =>
  ⟨.ref s.heap.objs.size,_,I.laid (t':=s.toks) kp (B4 _) (show d9 X.prog X.w _ h' _ (.lst ys)from⟨hz,its,c',r',e⟩),rfl,q _ (I.hok.fresh (B4 _))⟩
 rcases hq with hq|hq
 .obtain⟨its,r',pl,hz⟩:=I.list hq;have hlen:=r'.length;obtain⟨o,ho,hc,n,hd⟩:=pl.isList;exact call_list_seq p (.inl rfl) ho hc hd (λh' c' kp e=>fin its r' hz h' c' kp e) (by simp only[Ci]<;>omega)
 .obtain⟨its,r',pl,hz⟩:=I.tuple hq;have hlen:=r'.length;obtain⟨o,ho,hc,n,hd⟩:=pl;exact call_list_seq p (.inr rfl) ho hc hd (λh' c' kp e=>fin its r' hz h' c' kp e) (by simp only[Ci]<;>omega)
def tyV(K:PySem.W.Frag)(T:String)(x:V)(H:Hp):Prop:=match x with
 |.str _=>T = "str"
 |.int _=>T = "int"
 |.ref p=>(T = "list"/\∃xs,SqL K H p xs)\/(T = "tuple"/\∃o,K.lookup p=some o/\o.cls=.type "tuple"/\o.dict=none)\/
   (T = "dict"/\((∃kvs,H p=some (.dK kvs))\/∃kvs,H p=some (.dT kvs)))\/(T = "set"/\∃S n,H p=some (.set S n))
 |_=>False
theorem AH{pins:List (Addr×Obj)}{σ:St}{H:Hp}{s:B9}{T:String}{x:V}{v:B5}(I:Inv X pins σ H s)(r:bA x v)(ty:tyV X.K T x H) :
  s.TypeIs v T/\∀a,v=.ref a->∃ob,s.heap.get? a=some ob/\ob.dict=none:=by
 cases x with
 |str z =>
  obtain⟨t,rfl⟩:=r;cases (show T = "str" from ty);exact⟨Fs s z t,λ_ e=>nomatch e⟩
 |int i =>
  obtain⟨t,rfl⟩:=r;cases (show T = "int" from ty);exact⟨F8 s i t,λ_ e=>nomatch e⟩
 |ref p =>
  cases r;rcases ty with⟨rfl,xs,hq⟩|⟨rfl,o,hk,hc,hd⟩|⟨rfl,hk⟩|⟨rfl,S,n,hk⟩
  .obtain⟨its,_,pl,_⟩:=I.list hq;refine⟨pl.isList.typeIs,λa e=>?_⟩;cases e;obtain⟨o,n,e,c,hd,_⟩:=pl;exact⟨o,e,hd⟩
  .refine⟨⟨o,I.kIn p o hk,hc⟩,λa e=>?_⟩;cases e;exact⟨o,I.kIn _ o hk,hd⟩
  .have z:∃o,s.heap.get? p=some o/\o.ExactDict:=by
    rcases hk with⟨kvs,hk⟩|⟨kvs,hk⟩
    .obtain⟨_,_,_,_,o,_,_,e,ex,_⟩:=I.hok p _ hk;exact⟨o,e,ex⟩
    .obtain⟨_,_,_,_,o,_,_,e,ex,_⟩:=I.hok p _ hk;exact⟨o,e,ex⟩
   obtain⟨o,e,ex⟩:=z;refine⟨⟨o,e,ex.1⟩,λa e2=>?_⟩;cases e2;exact⟨o,e,ex.2.1⟩
  .obtain⟨o,_,_,_,e,ex,_⟩:=I.hok p _ hk;refine⟨⟨o,e,ex.1⟩,λa e2=>?_⟩;cases e2;exact⟨o,e,ex.2.1⟩
 |_=>exact D2 ty
def tBM(K:PySem.W.Frag)(T:String)(r:V->List V->Hp->VK->Prop)(to:TE)(t:TA):TE:=λσ H Q=>to σ H λx H1=>tyV K T x H1/\t σ H1 λxs H2=>r x xs H2 Q
variable {o e:Expr}{es:List Expr}{to:TE}{t:TA}{name:Str}{apos cpos:Pos}{T id:String}{r:V->List V->Hp->VK->Prop}
theorem dt(pa:PlainAttrs T)(slot:Slot T name id)(hty:typeOf (.builtin id)=pure (.type "method_descriptor"))(hm:MtR X id r)(ho:PE X o to)(ha:PA X (e::es) t)
  (hbase:attributeBase o name X.env (eval o X.env)=eval o X.env:=by rfl)
  (hfew:((EK cpos (CJ (e :: es) X.env)).all (fun x=>!x.1) && (backToKw cpos (keywordEach [] X.env)).all (fun x=>x.1.isSome)
   && decide ((e::es).length+([]:List FZ).length+(if([]:List FZ).isEmpty then 0 else 1)<30))=true:=by rfl)
  (hline:(apos.endLine==cpos.line)=true:=by rfl) (hs:CJ (e::es) X.env=(false,eval e X.env)::CJ es X.env:=by rfl) (hplain:(EK cpos (CJ es X.env)).any (·.1)=false:=by rfl) :
  PE X (.Call (.Attribute o name apos) (e::es) [] cpos) (tBM X.K T r to t):=by
 intro pins s σ H Q I h;refine wpAny_Call_method_late hbase hfew hline rfl (thn (ho pins s σ H _ I h) λv s1 ⟨x,H1,I1,r1,ty,q1⟩=>?_);obtain⟨h1,h2⟩:=AH I1 r1 ty;refine⟨T,id,pa,slot,hty,h1,h2,?_⟩;have hA:=ha cpos pins s1 σ H1 _ I1 q1;rw[hs]at hA⊢;refine Calls.callWith_builtin (by show(false||(EK cpos (CJ es X.env)).any (·.1))=false;rw[hplain]<;>rfl) (Calls.evalArgs_plain ?_)
 exact thn hA λus s2 ⟨vs,H2,I2,r2,q2⟩=>hm pins s2 σ H2 x vs v us Q I2 r1 r2 q2
end

def MtM(X:Cx)(id:String)(r:V->List V->Hp->VK->Prop):Prop:=
 ∀(pins:List (Addr×Obj)) (s:B9) (σ:St) (H:Hp) (x:V) (xs:List V) (v:B5) (us:List B5) (Q:VK),Inv X pins σ H s->bA x v->aP xs us->r x xs H Q->
  Cz (CF X.prog X.w) X.A (call (.builtin id) (v::us)) (EP X pins σ Q) X.xe s

theorem aP.one:∀{x:V} {us:List B5},aP [x] us->∃u,us=[u]/\bA x u
 |_,_,.cons r .nil=>⟨_,rfl,r⟩
theorem aP.rep{xs:List V}{us:List B5}(h:aP xs us):∀k:Nat,aP (Co k xs).flatten (Co k us).flatten
 |0=>.nil
 |k+1=>by
  rw[Dk,Dk,DD,DD];exact aP.append h (aP.rep h k)
theorem rG(its:List B5):∀(k:Nat) (acc:List B5),
  F9 (λx1 x2=>x1++x2) acc.toArray (Co k its.toArray)=(acc++(Co k its).flatten).toArray
 |0,acc=>by simp
 |k+1,acc=>by
  have e:acc.toArray++its.toArray=(acc++its).toArray:=by simp
  have e2:(acc++its)++(Co k its).flatten=acc++(Co (k+1) its).flatten:=by
   rw[Dk,DD,DE]
  rw[<-e2,<-rG its k (acc++its),<-e,Dk,EQ]

section
variable {X:Cx}{pins:List (Addr×Obj)}{σ:St}{H:Hp}{s:B9}{l b:Addr}{xs ys zs:List V}

theorem Inv.lset{its its':List B5}{n:Nat}{f:Array B5->Array B5}{t':Nat}(I:Inv X pins σ H s)(hH:H l=some (.lst xs))
  (e:s.heap.get? l=some { cls:=.type "list",data:=.seq its.toArray n })(hf:f its.toArray=its'.toArray)(hv:aP ys its')(hz:ys.length<=Cr) :
  Inv X pins σ (upd H l (.lst ys)) { s with heap:=s.heap.update l (CT f),toks:=t' }:=by
 have q:=PySem.IsL.update e f;rw[hf]at q;refine I.write (x:=l) (e:=l) (by rw[hH];exact trivial) (.inl rfl) (λb' u hb hu=>(Cq s.heap (CT f) (CO hb)).trans hu) ⟨_,q⟩ ?_;exact⟨hz,its',_,hv,q⟩
theorem Inv.lnew{its:List B5}{t':Nat}(I:Inv X pins σ H s)(hv:aP ys its)(hz:ys.length<=Cr) :
  Inv X pins σ (upd H s.heap.objs.size (.lst ys)) { s with heap:=s.heap.push { cls:=.type "list",data:=.seq its.toArray },toks:=t' }:=
 I.laid (λ_ _ q=>Cd _ q) (B4 _) ⟨hz,its,0,hv,Cu _ rfl⟩
theorem Inv.fresh(I:Inv X pins σ H s):H s.heap.objs.size=none:=I.hok.fresh (B4 _)
theorem Inv.lstM(I:Inv X pins σ H s)(hH:H l=some (.lst xs)):xs.length<=Cr/\∃(its:List B5) (n:Nat),aP xs its/\xs.length=its.length/\s.heap.get? l=some { cls:=.type "list",data:=.seq its.toArray n }:=by
 obtain⟨z,its,n,r,e⟩:=I.hok l _ hH;exact⟨z,its,n,r,r.length,e⟩

theorem tK{n:Nat}(h:n<=Cr):DU n=false:=by
 unfold DU;exact decide_eq_false (by omega)
end

section
variable {X:Cx}

def zY:V->List V->Hp->VK->Prop:=λx vs H Q=>∃l xs y,x=.ref l/\vs=[y]/\H l=some (.lst xs)/\xs.length<Cr/\Q .non (upd H l (.lst (xs++[y])))
theorem cU:MtM X "list.append" zY:=by
 intro pins s σ H x vs v us Q I rx rv h;obtain⟨l,xs,y,rfl,rfl,hH,hz,q⟩:=h;cases rx;obtain⟨u,rfl,ru⟩:=rv.one;obtain⟨z,its,n,r,hl,e⟩:=I.lstM hH;refine EF F.slot_list_append ⟨_,e,rfl⟩ F.entry_list_append (F.args_list_append_2 _ _) (PySem.list_append l its.toArray n u (by rw[Ci];omega)) ⟨e,?_⟩;refine⟨.non,_,I.lset (its':=its++[u]) hH e (by simp) (r.append (.cons ru .nil)) ?_,rfl,q⟩;rw[Ca,CS];omega

def zZ:V->List V->Hp->VK->Prop:=λx vs H Q=>∃l b xs zs,x=.ref l/\vs=[.ref b]/\H l=some (.lst xs)/\H b=some (.lst zs)/\xs.length+zs.length<=Cr/\Q .non (upd H l (.lst (xs++zs)))
theorem mU:MtM X "list.extend" zZ:=by
 intro pins s σ H x vs v us Q I rx rv h;obtain⟨l,b,xs,zs,rfl,rfl,hH,hB,hz,q⟩:=h;cases rx;obtain⟨u,rfl,ru⟩:=rv.one;cases ru;obtain⟨z,its,n,r,hl,e⟩:=I.lstM hH;obtain⟨z2,its2,n2,r2,hl2,e2⟩:=I.lstM hB;have hsz:its.toArray.size+its2.toArray.size<=Cr:=by rw[Ci,Ci];omega
 have hlong:¬ (!its.toArray.isEmpty&&DU (its.toArray.size+its2.toArray.size))=true:=by
  rw[tK hsz,Bool.and_false];exact Cm
 refine EF F.slot_list_extend ⟨_,e,rfl⟩ F.entry_list_extend (F.args_list_extend_2 _ _)
  (AutoSeq1.list_extend_list_list_0 l its.toArray n b its2.toArray n2 hlong (by rw[Ci];omega) (by omega)) ⟨e,e2,?_⟩
 refine⟨.non,_,I.lset (its':=its++its2) hH e (by simp) (r.append r2) ?_,rfl,q⟩;rw[Ca];omega

def BW:R2:=λx y H Q=>∃l b xs zs,x=.ref l/\y=.ref b/\H l=some (.lst xs)/\H b=some (.lst zs)/\xs.length+zs.length<=Cr/\∀p,H p=none->Q (.ref p) (upd H p (.lst (xs++zs)))
theorem mV:OpR X (Eg .Add) BW:=by
 intro pins s σ H x y v u Q I rx ry h;obtain⟨l,b,xs,zs,rfl,rfl,hH,hB,hz,q⟩:=h;cases rx;cases ry;obtain⟨z,its,n,r,hl,e⟩:=I.lstM hH;obtain⟨z2,its2,n2,r2,hl2,e2⟩:=I.lstM hB;refine PySem.P.add_list e e2 ?_ (by rw[Ci,Ci];omega);have ea:its.toArray++its2.toArray=(its++its2).toArray:=by simp
 rw[ea];exact⟨.ref _,_,I.lnew (t':=s.toks) (r.append r2) (by rw[Ca];omega),rfl,q _ I.fresh⟩
def BX:R2:=λx y H Q=>∃l k xs,x=.ref l/\y=.int k/\H l=some (.lst xs)/\-(2^63)<=k/\k<2^63/\xs.length*k.toNat<=Cr/\
 ∀p,H p=none->Q (.ref p) (upd H p (.lst (Co k.toNat xs).flatten))
theorem z0{α:Type}(xs:List α)(k:Nat):(Co k xs).flatten.length=k*xs.length:=by
 induction k with
 |zero=>simp
 |succ k ih=>rw[Dk,DD,Ca,ih,Nat.succ_mul,Fu]
theorem AI:OpR X (Eg .Mult) BX:=by
 intro pins s σ H x y v u Q I rx ry h;obtain⟨l,k,xs,rfl,rfl,hH,h1,h2,hz,q⟩:=h;cases rx;obtain⟨t,rfl⟩:=ry;obtain⟨z,its,n,r,hl,e⟩:=I.lstM hH;have hlen:its.toArray.size*k.toNat<=Cr:=by rw[Ci,<-hl];exact hz
 have hcap:¬ its.toArray.size*k.toNat>(2^63-1)/8:=by
  have:(Cr:Nat)<=(2^63-1)/8:=by decide
  omega
 have hfit:¬ (!Builtin.List.listFitsIndex k)=true:=by
  rw[fitsIndex_both h1 h2];exact Cm
 have hlong:¬ DU (its.toArray.size*k.toNat)=true:=by
  rw[tK hlen];exact Cm
 have hnew:F9 (λx1 x2=>x1++x2) #[] (Co (if its.toArray.isEmpty=true then 0 else k.toNat) its.toArray)=(Co k.toNat its).flatten.toArray:=by
  have f0:∀m:Nat,F9 (λx1 x2=>x1++x2) #[] (Co m its.toArray)=(Co m its).flatten.toArray:=λm=>by
   have:=rG its m [];rw[List.nil_append]at this;exact this
  rw[f0];cases its with
  |nil=>simp
  |cons a r'=>rw[if_neg (by simp)]
 refine wpAny_binaryOp_repeat_ref (T := "list") (U := "int") (by decide) ⟨_,e,rfl⟩ (λs'=>F8 s' k t) noFill_list_mul F.fills_int_mul F.slot_int_rmul repeat_list F.slot_int_index.lookup
  (EF F.slot_int_rmul (F8 s k t) F.entry_int_rmul (F.args_int_rmul_2 _ _) (int___rmul___int_list k t l its.toArray n)
   ⟨e,rfl,⟨_,e,rfl⟩,EF F.slot_list_mul ⟨_,e,rfl⟩ F.entry_list_mul (F.args_list_mul_2 _ _) (AutoListH.list___mul___list_int_3 l its.toArray n k t hfit hcap hlong) ⟨e,?_⟩⟩)
 rw[hnew];exact⟨.ref _,_,I.lnew (t':=s.toks) (r.rep k.toNat) (by rw[z0,Nat.mul_comm];exact hz),rfl,q _ I.fresh⟩

end

section
variable {prog:CK}{w:CG}{A:CY}{E:B5->B9->Prop}{s:B9}
end

section
variable {X:Cx}
end

section
variable {κ:Type}[DecidableEq κ]
end


section
variable {P:CK}{w:CG}{H:Hp}{h:Heap}{a:Addr}
end

section
variable {X:Cx}{pins:List (Addr×Obj)}{σ:St}{H:Hp}{s:B9}{a:Addr}{y v:V}{u r:B5}{o:Option V}{A:CY}{E:B5->B9->Prop}

end

section
variable {X:Cx}{pins:List (Addr×Obj)}{σ:St}{H:Hp}{s:B9}{a:Addr}{kvs:List (Key×V)}{k:Key}{u:B5}{A:CY}{E:B5->B9->Prop}
end


section
variable {X:Cx}{o i e value:Expr}{pos pos' tpos:Pos}{td ty tv:TE}
end


section
variable {X:Cx}{pos:Pos}
end

section
variable {X:Cx}{pins:List (Addr×Obj)}{σ:St}{H:Hp}{s:B9}{a:Addr}{y d:V}{u r:B5}{o:Option V}{A:CY}{E:B5->B9->Prop}
end

section
variable {X:Cx}{o e f:Expr}{apos cpos:Pos}{td ty tx:TE}
end

section
variable {X:Cx}{pins:List (Addr×Obj)}{σ:St}{H:Hp}{s:B9}{a:Addr}{kvs:List (Key×V)}{A:CY}{E:B5->B9->Prop}
end


section
variable {X:Cx}{pins:List (Addr×Obj)}{σ:St}{H:Hp}{s:B9}{a:Addr}{y:V}{u:B5}{A:CY}{E:B5->B9->Prop}
end
end L2

namespace Att
open PySem PySem.W PySem.Calls PyProof.Rows

theorem pW{P:CM}{h:Heap}:∀(ns:List Int) (vs:List B5),WellAll P h vs (ns.map WData.int)->Dz vs ns:=by
 intro ns;induction ns with
 |nil =>
  intro vs w;rw[Fq]at w;cases w;exact .nil
 |cons n ns ih =>
  intro vs w;rw[Dh]at w;cases w with
  |cons a b =>
   cases a;exact .cons _ _ (ih _ b)

theorem xL{l:OpenLaw}{n:Nat}(hn:l.most=some n){P:CM}{h:Heap}{args:List WData}{vals:List B5}
  (hpre:l.row.toRowW.claim.pre args=true)(hwl:WellAll P h vals args) :
  ∃a vs ns,vals=[Fh a]/\args=[WData.list (ns.map WData.int)]/\h.get? a=some { cls:=.type "list",data:=.seq vs.toArray }/\Dz vs ns/\ns.length<=n:=by
 have hsh:WShape.hasAll [] args [.list .int]=true:=(pre_splitW hpre).1;have hc:l.pre.holds [] { args:=args }=true:=(pre_splitW hpre).2;obtain⟨d,r,rfl,h1,h2⟩:=hasAllW_cons hsh;obtain rfl:=hasAllW_nil h2;obtain⟨xs,rfl,h3⟩:=hasW_list h1;obtain⟨ns,rfl⟩:=items_int h3;have hlen:ns.length<=n:=by
  unfold OpenLaw.pre at hc;have h4:(WTm.not (.lt (.lit (.int (n:Int))) (.len (.arg 0)))).holds [] { args:=[.list (ns.map .int)] }=true:=by
   have h4:=(holds_andW hc).1;rw[hn]at h4;exact h4
  have h5:=condW_of h4 (w_not (w_lt w_lit (w_len_list (w_arg rfl))));rw[B3]at h5;refine Fi λq=>?_;have q':(n:Int)<((ns.length:Nat):Int):=by omega
  first
   |(rw[decide_eq_true q']at h5;exact absurd h5 (by decide))
   |(simp at h5;omega)
 cases hwl with
 |cons w1 w2 =>
  cases w2;cases w1 with
  |list ho hall=>exact⟨_,_,ns,rfl,rfl,ho,pW ns _ hall,hlen⟩

theorem xM(l:OpenLaw)(args:List WData):l.row.toRowW.claim.post args (.bool true) args=true:=
 postW_of (r:=l.row.toRowW) (X:=(true==true))
  (show WShape.has [] (.bool true) .bool=true by first|rfl|decide|simp[WShape.has,WShape.arms,WShape.armsAll])
  (show(WTm.eq .res (.lit (.bool true))).value [] { args:=args,res:=some (.bool true),after:=args }=some (.bool (true==true))from w_eq_bool (w_res rfl) w_lit) rfl

theorem attach_call{l:OpenLaw}{n:Nat}{q:CK}{loose:List Str}{XP:(Str->Option B5)->Heap->Prop}{YP:CG->Heap->Prop}{d:DefRec}
  (hn:l.most=some n)(hdf:d.params.defaults=[])
  (call:∀ (w:CG) (s₀ s₁:B9) (mg mb:Str→Option B5) (fa:Addr) (o:Obj) (pm cd doc:B5) (a:Addr) (vs:List B5) (ns:List Int),
   Ground q loose [] XP w s₀ mg mb s₁.heap->YP w s₁.heap->
   s₁.heap.get? fa=some o->o.data=.func (docDef d.name d.params d.body d.scope pm cd doc)->s₁.heap.CodeRec cd d.name->mg d.name=some (.ref fa)->
   s₁.heap.get? a=some { cls:=.type "list",data:=.seq vs.toArray }->Dz vs ns->ns.length<=n->s₁.gens=#[]->
   Ee (CF l.prog w) FG (.call (.ref fa) ⟨[.ref a],[]⟩) (λr s'=>r=.ok (.ret (.bool true))/\OldK s₁.heap s'.heap/\s'.os=s₁.os/\E6 s'.gens) s₁) :
  WalkO q loose XP YP l.row.toRowW d [] (λf vs=>PySem.call f vs):=by
 intro w s₀ s₁ mg mb G Y fa o pm cd doc dV kV ho hd hcd hD hmg hg args vals as hpre hlay hrd hwl hlo;obtain rfl:dV=.none:=Dflts.none hD hdf;obtain rfl:kV=.none:=Dflts.noKw hD;obtain⟨a,vs,ns,rfl,rfl,hobj,hints,hlen⟩:=xL hn hpre hwl;refine enter_call (FR (call w s₀ s₁ mg mb fa o pm cd doc a vs ns G Y ho (fd_plain hd) hcd hmg hobj hints hlen hg) λr s' hq=>?_);obtain⟨rfl,h2,h3,h4⟩:=hq;exact⟨.inl ⟨.bool true,.bool true,[],rfl,λ_=>rfl,.bool true,xM l _,λ_=>⟨List.Pairwise.nil,λ_ hm=>(nomatch hm)⟩⟩,h2,h3,h4⟩

section
variable {prog:CK}{w:CG}{A:CY}{E:B5->B9->Prop}{s:B9}{K:Frag}

end
end Att

namespace L2
open PySem PySem.Spec PyProof.Rows

theorem rH:∀{vs:List B5} {ns:List Int},Dz vs ns->aP (ns.map V.int) vs
 |_,_,.nil=>.nil
 |_,_,.cons n t h=>.cons ⟨t,rfl⟩ (rH h)

def yH(H:Hp):Prop:=∀b,H b=none\/∃o xs,H b=some (.frz o (.lst xs))

theorem yI{P:CK}{w:CG}{K:PySem.W.Frag}{mg mb:Str->Option B5}{CX:CXT}{k:Nat}{fa a:Addr}{fd:Cf}{x:Str}{sp:Sp}{s₁:B9}{vs:List B5}{ns:List Int}
  (KX:K.In s₁.heap)(hns:s₁.heap.Ns Db mg)(hb:s₁.heap.Ns FJ mb)(hbb:∀x:Str,x≠"__name__"->mb x=DR x)(hlim:s₁.heap.NoLimit)(hg:s₁.gens=#[])
  (ha:s₁.heap.get? a=some { cls:=.type "list",data:=.seq vs.toArray })(hi:Dz vs ns)(hl:ns.length<=Cr)(hr:dB k FG)
  (F:∀base:Heap,K.In base->base.Ns Db mg->aS P w K mg base CX k fa fd [x] sp)(hbind:∀(s:B9) (u:B5),BindsTo s fd ⟨[u],[]⟩ [(x,u)])
  (hsp:∀H:Hp,yH H->SqL K H a (ns.map V.int)->sp [.ref a] H (λv _=>v=.bl true) λ_ _ _=>False)
  (hCX:∀H e s',CX [] H s₁ (λ_ _ _=>False) e s'->False) :
  Ee (CF P w) FG (.call (.ref fa) ⟨[.ref a],[]⟩) (λr s'=>r=.ok (.ret (.bool true))/\OldK s₁.heap s'.heap/\s'.os=s₁.os/\E6 s'.gens) s₁:=by
 have rv:=rH hi;have lenV:=hi.length
 -- from an abstract heap in which nothing but the script may be tracked
 have core:∀H:Hp,yH H->SqL K H a (ns.map V.int)->HOk P w H s₁.heap->(∀b,H b≠none->b=a)->(H a≠none->K.lookup a=none)->
   Ee (CF P w) FG (.call (.ref fa) ⟨[.ref a],[]⟩) (λr s'=>r=.ok (.ret (.bool true))/\OldK s₁.heap s'.heap/\s'.os=s₁.os/\E6 s'.gens) s₁:=by
  intro H hO hS hok hA hK;have base_of:∀{b:Addr} {o:Obj},s₁.heap.get? b=some o->H b=none->(lF s₁.heap H).get? b=some o:=λe n=>yB e n;have noA:∀{b:Addr} {o:Obj} {es:Array C6} {ep:Nat},s₁.heap.get? b=some o->o.data=.dict es ep->H b=none:=λ{b o es ep} e d=>by
   cases q:H b with
   |none=>rfl
   |some u =>
    have e':b=a:=hA b (by rw[q];simp);subst e';rw[ha]at e;cases e;have d':Data.seq vs.toArray _=Data.dict es ep:=d;cases d'
  have nsK:∀{b:Addr} {m:Str->Option B5},s₁.heap.Ns b m->(lF s₁.heap H).Ns b m:=λ{b m} ⟨o,es,ep,e,d,r⟩=>⟨o,es,ep,base_of e (noA e d),d,r⟩;have hKb:K.In (lF s₁.heap H):=λb o e=>base_of (KX b o e) (by
   cases q:H b with
   |none=>rfl
   |some u =>
    have e':b=a:=hA b (by rw[q];simp);subst e';rw[hK (by rw[q];simp)]at e;cases e)
  have hM:Mod K mg (lF s₁.heap H):=⟨hKb,nsK hns,⟨mb,nsK hb,hbb⟩,let⟨mc,h1,h2⟩:=hlim;⟨mc,nsK h1,h2⟩⟩;have e0:wp P w K mg (lF s₁.heap H) FG [] s₁ H:=⟨rfl,hM,λb o e=>zS e,Nat.le_of_eq (xC _ _),trivial,λb hb=>absurd (show b∈([]:List Addr)from hb) (by simp),hok,.of_eq hg⟩;refine FR ((F _ hKb (nsK hns)).run FG [] s₁ H ⟨[.ref a],[]⟩ [.ref a] [.ref a] _ _ hr e0 (hbind s₁ (.ref a)) (.cons rfl .nil) (hsp H hO hS)) λr s' h=>?_;cases r with
  |error e=>exact(hCX H e s' h).elim
  |ok fl =>
   cases fl with
   |next=>exact D2 h
   |brk=>exact D2 h
   |cont=>exact D2 h
   |ret u =>
    obtain⟨v,H',os,bare,un,hok',r',q⟩:=h;have q':v=.bl true:=q;subst q';obtain rfl:u=FK true:=r';refine⟨rfl,OldK.of_keep λb o e=>?_,os,bare⟩;cases q:H b with
    |none=>exact un.keep b o e q (by intro z;exact absurd (show b∈([]:List Addr)from z) (by simp)) (by simp)
    |some u =>
     rcases hO b with z|⟨ob,xs,z⟩
     .rw[q]at z;cases z
     .have z2:=un.frzs b ob _ z;obtain⟨e1,_⟩:=hok b _ z;obtain⟨e2,_⟩:=hok' b _ z2;rw[e]at e1;cases e1;exact e2
 cases hk:K.lookup a with
 |some o =>
  -- the script is one of the module's own objects
  have e:=KX a o hk;rw[ha]at e;cases e;refine core (λ_=>none) (λ_=>.inl rfl) (.inr ⟨_,vs.toArray,_,hk,rfl,rfl,rfl,by rw[Ci,lenV];exact hl,by simpa using rv⟩) (λb u z=>by have z':(none:Option HO)=some u:=z;cases z') (λb z=>absurd rfl z) λz=>absurd rfl z
 |none =>
  refine core (λb=>if b=a then some (.frz { cls:=.type "list",data:=.seq vs.toArray } (.lst (ns.map V.int)))else none) (λb=>?_) (.inl (.inr ⟨{ cls:=.type "list",data:=.seq vs.toArray },if_pos rfl⟩)) (λb u z=>?_) (λb z=>?_) λ_=>hk
  .by_cases hb:b=a
   .exact .inr ⟨_,_,if_pos hb⟩
   .exact .inl (if_neg hb)
  .by_cases hb:b=a
   .have z':=(if_pos hb).symm.trans z;cases z';subst hb;exact⟨ha,by rw[B3];exact hl,vs,_,rv,ha⟩
   .have z':=(if_neg hb).symm.trans z;cases z'
  .by_cases hb:b=a
   .exact hb
   .exact absurd (if_neg hb) z

theorem walk_of{l:PySem.W.OpenLaw}{n k:Nat}{q:CK}{loose:List Str}{XP:(Str->Option B5)->Heap->Prop}{YP:CG->Heap->Prop}{d:DefRec}{K:CM->PySem.W.Frag}{CX:CG->CXT}{sp:CG->Sp}{x:Str}
  (hn:l.most=some n)(hn2:n<=Cr)(hdf:d.params.defaults=[])(hr:dB k FG)
  (hY:∀(w:CG) (h:Heap),YP w h->(K w.params).In h)
  (F:∀ (w:CG) (mg:Str→Option B5) (fa:Addr) (h:Heap),(K w.params).In h→h.Ns Db mg→mg d.name=some (.ref fa) →
   ∃fd:Cf,(∀(s:B9) (u:B5),BindsTo s fd ⟨[u],[]⟩ [(x,u)])/\
    ∀base:Heap,(K w.params).In base->base.Ns Db mg->aS l.prog w (K w.params) mg base (CX w) k fa fd [x] (sp w))
  (hsp:∀(w:CG) (H:Hp) (a:Addr) (ns:List Int),ns.length<=n->yH H->SqL (K w.params) H a (ns.map V.int)->sp w [.ref a] H (λv _=>v=.bl true) λ_ _ _=>False)
  (hCX:∀(w:CG) (H:Hp) (s:B9) (e:B5) (s':B9),CX w [] H s (λ_ _ _=>False) e s'->False) :
  PySem.W.WalkO q loose XP YP l.row.toRowW d [] (λf vs=>PySem.call f vs):=by
 refine Att.attach_call hn hdf λw s₀ s₁ mg mb fa o pm cd doc a vs ns G Y ho hd hcd hmg hobj hints hlen hg=>?_;have KX:=hY w _ Y;obtain⟨fd,hb,hF⟩:=F w mg fa _ KX G.T.g hmg;exact yI KX G.T.g G.T.b G.T.builtins G.T.nolimit hg hobj hints (Ds hlen hn2) hr hF hb (λH hO hS=>hsp w H a ns hlen hO hS) λH e s'=>hCX w H s₁ e s'

abbrev CX0:CXT:=λ_ _ _ _ _ _=>False
abbrev E0:XK:=λ_ _ _=>False
theorem zL{X:Cx}:tE CX0 X E0:=λ_ _ _ _ _ _ _ h=>h.elim

structure Fun(K:PySem.W.Frag)(x qual:Str)(st:Stmt)(f:Addr)(fd:Cf):Prop where
 ex:∃(oc:B5) (od:Option Addr) (kV doc pm:B5) (an:Option Addr) (cdv ct:B5) (osl:Array (Option B5)),
  fd=PySem.W.fnOf x qual (cA st) (cc st) (aw st) .none kV doc pm an cdv ct/\K.lookup f=some ⟨oc,od,.func fd,osl⟩/\PySem.W.codeIn K cdv qual=true
 kp:PySem.W.keepIn K (.ref f)=true
section
variable {P:CK}{w:CG}{K:PySem.W.Frag}{mg:Str->Option B5}{base:Heap}
theorem Fun.ok{x qual:Str}{st:Stmt}{f:Addr}{fd:Cf}{N ps:List Str}{k:Nat}{sp:Sp}(F:Fun K x qual st f fd)(S:aG N ps (aw st))(len:∀vs H Q E,sp vs H Q E->vs.length=ps.length)
  (hbody:∀ (cdv:B5) (A:CY) (outer:List Env) (s:B9) (H:Hp) (vs:List V) (Q:VK) (E:XK),dB k (A.deeper (Fp qual (aw st) s.heap.objs.size f cdv))→sp vs H Q E →
   ∃t,PSs (oP CX0 P w K mg base N qual (aw st) f cdv A outer s H E).nox (cc st) t/\t { nx:=λ_ H'=>Q .non H',rt:=Q } (eB N vs) H):aS P w K mg base CX0 (k+1) f fd ps sp:=by
 obtain⟨oc,od,kV,doc,pm,an,cdv,ct,osl,rfl,lk,hcd⟩:=F.ex;refine zK lk hcd S len λA outer s H vs Q E hr hsp=>?_;obtain⟨t,h,q⟩:=hbody cdv A outer s H vs Q E hr hsp;exact⟨t,h.nox,q⟩
theorem Fun.binds{x qual:Str}{st:Stmt}{f:Addr}{fd:Cf}{ps:List Str}(F:Fun K x qual st f fd)
  (h:∀(kV doc pm:B5) (an:Option Addr) (cdv ct:B5) (us:List B5),us.length=ps.length->FA (PySem.W.fnOf x qual (cA st) (cc st) (aw st) .none kV doc pm an cdv ct) ⟨us,[]⟩=pure (ps.zip us)):jQ K fd ps []:=by
 obtain⟨oc,od,kV,doc,pm,an,cdv,ct,osl,rfl,lk,hcd⟩:=F.ex;exact .all (h kV doc pm an cdv ct)
theorem xN{x qual:Str}{st:Stmt}{f:Addr}{oc:B5}{od an:Option Addr}{osl:Array (Option B5)}{kV doc pm cdv ct:B5}(l:K.lookup f=some ⟨oc,od,.func (PySem.W.fnOf x qual (cA st) (cc st) (aw st) .none kV doc pm an cdv ct),osl⟩)
  (c:PySem.W.codeIn K cdv qual=true)(k:PySem.W.keepIn K (.ref f)=true):Fun K x qual st f (PySem.W.fnOf x qual (cA st) (cc st) (aw st) .none kV doc pm an cdv ct):=⟨⟨oc,od,kV,doc,pm,an,cdv,ct,osl,rfl,l,c⟩,k⟩
end
theorem eJ{A:CY}{k:Nat}(hr:dB k A):A.units+1<Fy:=E1 (Nat.add_le_add_left (by decide:1<=64) _) hr.units
theorem xO{n:Nat}(h:n<=1000):n<Cr:=E1 h (by decide)

section
variable {X:Cx}
theorem pv(i:Nat){x:Str}{pos:Pos}(hN:X.N[i]?=some x:=by rfl)(hv:Vis X.env.scope x:=by first|exact Cb rfl|exact Ex (Cb rfl)|exact Ex (Ex rfl))(hd:(x==("__debug__" : Str))=false:=by decide)
  (hcd:(x==("__classdict__" : Str))=false:=by decide):PE X (.Name x pos) (Aw i):=Ax hN hv hd hcd
end

theorem aT{A B:Prop}(h:B):if false=true then A else B:=by
 rw[if_neg Cm];exact h
theorem bM{A B:Prop}(h:A):if true=true then A else B:=by
 rw[if_pos rfl];exact h
theorem aX{c A B:Prop}[Decidable c](h1:c->A)(h2:¬ c->B):if c then A else B:=by
 by_cases h:c
 .rw[if_pos h];exact h1 h
 .rw[if_neg h];exact h2 h
theorem zM{c A B:Prop}[Decidable c](hc:c)(h:B):if(!decide c)=true then A else B:=by
 rw[decide_eq_true hc];exact aT h

def av(H H':Hp):Prop:=∀b o,H b=some o->H' b=some o
theorem av.refl(H:Hp):av H H:=λ_ _ h=>h
theorem av.trans{H H1 H2:Hp}(a:av H H1)(b:av H1 H2):av H H2:=λc o h=>b c o (a c o h)
theorem av.free{H H':Hp}(e:av H H'){l:Addr}(h:H' l=Option.none):H l=Option.none:=by
 cases q:H l with
 |none=>rfl
 |some o =>
  rw[e l o q]at h;cases h
theorem av.seq{K:PySem.W.Frag}{H H':Hp}{a:Addr}{xs:List V}(e:av H H')(h:SqL K H a xs):SqL K H' a xs:=by
 rcases h with(h|⟨o,h⟩)|h
 .exact .inl (.inl (e _ _ h))
 .exact .inl (.inr ⟨o,e _ _ h⟩)
 .exact .inr h

section
variable {κ:Type}[DecidableEq κ]
end

section
variable {prog:CK}{w:CG}{A:CY}{R:FM->B9->Prop}{s:B9}
theorem tL{elt target iter:Expr}{ifs:List Expr}{scope:Scope}{pos:Pos}{it acc:B5}{env:Env}(I:Nat->B9->Prop)
  (turn:∀ n s,I n s→Cz (CF prog w) A (El it) (fun r s₁=>match r with
   |none=>R (.ok .next) s₁
   |some v=>Cz (CF prog w) A (EM target it v) (λ_ s₀=>Cz (CF prog w) A (FL target env v) (λ_ s₂ =>
     Cz (CF prog w) A (forIn ifs true λc r=>if r=true then do let ok<-isTrue c env (eval c env);pure (ER ok)else pure (ER r)) (λok s₃ =>
      if ok=true then Cz (CF prog w) A (eval elt env) (λx s₄ =>
       Cz (CF prog w) A (call (.builtin "list.append") [acc,x]) (λ_ s₅=>∃m,m<n/\I m s₅) (λ_ _=>False) s₄) (λ_ _=>False) s₃
      else ∃m,m<n/\I m s₃) (λ_ _=>False) s₂) (λ_ _=>False) s₀) (λ_ _=>False) s₁) (λ_ _=>False) s)
  (n:Nat) (h:I n s):Ee (CF prog w) A (.compLoop (.ListComp elt [⟨target,iter,ifs,0⟩] scope pos) 0 it acc env) R s:=by
 refine codeAny_loop rfl I (λn s hI=>?_) n h;show Cz _ A ((compTurn (.ListComp elt [⟨target,iter,ifs,0⟩] scope pos) 0 it acc env).onRaise (λx=>do noteFrame x env;theTreesLotGoes x)) _ _ s
 refine wpAny_noted ?_;rw[compTurn_list];refine B8 (FH (B8 (Dn (turn n s hI) (λr s₁ h₁=>?_) λ_ _ h'=>h'.elim)));cases r with
 |none=>exact Cs h₁
 |some v =>
  refine B8 (Dn h₁ (λ_ s₀ h₀=>?_) λ_ _ h'=>h'.elim);refine B8 (Dn h₀ (λ_ s₂ h₂=>B8 (Dn h₂ (λok s₃ h₃=>?_) λ_ _ h'=>h'.elim)) λ_ _ h'=>h'.elim);cases ok with
  |false=>exact Cs ⟨rfl,h₃⟩
  |true =>
   exact B8 (B8 (Dn h₃ (λx s₄ h₄=>B8 (Dn h₄ (λ_ s₅ h₅=>Cs (Cs ⟨rfl,h₅⟩)) λ_ _ h'=>h'.elim)) λ_ _ h'=>h'.elim))
end

def PTs(X:Cx)(ifs:List Expr)(t:TT):Prop:=
 ∀(pins:List (Addr×Obj)) (s:B9) (σ:St) (H:Hp) (Q:Bool->Hp->Prop),Inv X pins σ H s->t σ H Q->
  Cz (CF X.prog X.w) X.A (forIn ifs true λc r=>if r=true then do let ok<-isTrue c X.env (eval c X.env);pure (ER ok)else pure (ER r)) (TP X pins σ Q) X.xe s
def AJ:TT:=λ_ H Q=>Q true H
theorem b7{X:Cx}:PTs X [] AJ:=λ_ _ _ H _ I h=>wpAny_tests_nil ⟨H,I,h⟩
theorem qE{X:Cx}{c:Expr}{t:TT}(h:PT X c t):PTs X [c] t:=λpins s σ H Q I hw=>wpAny_tests_one (h pins s σ H Q I hw)

abbrev Cx.blk(X:Cx)(N:List Str)(s:B9)(H:Hp)(scope:Scope)(cl:List (Str×Addr))(C:Addr)(ex:List Addr):Cx:=
 { X with N:=N,s₀:=s,H₀:=H,env:=compEnvC scope cl C X.env,outer:=X.stack,stack:=X.stack,ex:=ex,fn:=λ_=>false,pn:=[],xe:=λ_ _=>False }

def oR(env:Env):List (Str×Addr)->Prop
 |[]=>True
 |p::r=>env.cells.lookup p.1=some p.2/\oR env r
theorem iD{α:Type}:∀{l:List (Str×α)} {x:Str} {k:α},l.lookup x=some k->(x,k)∈l
 |[],_,_,h=>by simp at h
 |(n,k')::r,x,k,h=>by
  rw[List.lookup_cons]at h;cases hx:x==n with
  |true =>
   rw[hx]at h;have e:x=n:=FW hx;have e2:k'=k:=Cw h;rw[e,e2];exact Cp
  |false =>
   rw[hx]at h;exact Ck _ (iD h)
theorem oR.get{env:Env}:∀{cl:List (Str×Addr)} {x:Str} {c:Addr},oR env cl->cl.lookup x=some c->env.cells.lookup x=some c:=λ{cl x c} h e=>by
 have go:∀(l:List (Str×Addr)),oR env l->∀p∈l,env.cells.lookup p.1=some p.2:=by
  intro l;induction l with
  |nil=>intro _ p hp;cases hp
  |cons q r ih =>
   intro ha p hp;rcases List.mem_cons.mp hp with rfl|hp
   .exact ha.1
   .exact ih ha.2 p hp
 exact go cl h (x,c) (iD e)
def iE(X:Cx)(scope:Scope)(cl:List (Str×Addr)):List Str->List Nat->Prop
 |[],[]=>True
 |y::ys,j::js=>(X.N[j]?=some y/\(X.env.kindOf y=some .cell\/X.env.kindOf y=some .free)/\(cl.lookup y).isSome=true/\((EY scope X.env).names.lookup y=some .cell\/(EY scope X.env).names.lookup y=some .free))/\iE X scope cl ys js
 |_,_=>False
theorem iE.get{X:Cx}{scope:Scope}{cl:List (Str×Addr)}:∀{ys:List Str} {js:List Nat} {i:Nat} {y:Str},iE X scope cl ys js->ys[i]?=some y->
  ∃j,js[i]?=some j/\X.N[j]?=some y/\(X.env.kindOf y=some .cell\/X.env.kindOf y=some .free)/\(cl.lookup y).isSome=true/\((EY scope X.env).names.lookup y=some .cell\/(EY scope X.env).names.lookup y=some .free)
 |[],_,_,_,_,e=>by simp at e
 |_::_,[],_,_,h,_=>h.elim
 |y::ys,j::js,0,z,h,e=>by
  have e':y=z:=by simpa using e
  subst e';exact⟨j,rfl,h.1⟩
 |y::ys,j::js,i+1,z,h,e=>by
  obtain⟨k,e1,e2⟩:=iE.get (i:=i) h.2 (by simpa using e);exact⟨k,by simpa using e1,e2⟩
theorem iE.len{X:Cx}{scope:Scope}{cl:List (Str×Addr)}:∀{ys:List Str} {js:List Nat},iE X scope cl ys js->ys.length=js.length
 |[],[],_=>rfl
 |[],_::_,h=>h.elim
 |_::_,[],h=>h.elim
 |_::_,_::_,h=>by rw[CA,CA,iE.len h.2]
def mW(σ:St)(js:List Nat):St:=js.map λj=>(σ[j]?).join
theorem tM{scope:Scope}{env:Env}{x:Str}(hcell:∀y∈scope.names,y.2≠.cell)(h:(EY scope env).names.lookup x=some .cell\/(EY scope env).names.lookup x=some .free):(x,Fd)∈scope.names:=by
 have hm:∃k,(k=NameKind.cell\/k=Fd)/\(x,k)∈(EY scope env).names:=by
  rcases h with h|h
  .exact⟨_,.inl rfl,iD h⟩
  .exact⟨_,.inr rfl,iD h⟩
 obtain⟨k,hk,hm⟩:=hm;obtain⟨⟨n,k'⟩,hin,e⟩:=List.mem_map.mp hm;dsimp only at e;by_cases hc:(k'==Fd&&env.scope.kind==.function&&env.kindOf n==some .cell)=true
 .rw[if_pos hc]at e;cases e;have:k'=Fd:=by
   rw[Ei,Ei]at hc;exact FW hc.1.1
  rw[<-this];exact hin
 .rw[if_neg hc]at e;cases e;rcases hk with hk|hk
  .exact absurd hk (hcell _ hin)
  .rw[<-hk];exact hin
section
variable {X:Cx}{pins:List (Addr×Obj)}{σ:St}{H:Hp}{s:B9}
theorem Inv.adopt{D:Addr}{ys:List V}{its:List B5}{n:Nat}(I:Inv X pins σ H s)(hn:H D=none)(hnew:X.s₀.heap.objs.size<=D)(hL:D≠X.env.locals)(hc:∀x c,X.env.cells.lookup x=some c->c≠D)(hp:∀p∈X.pn++pins,p.1≠D)
  (e:s.heap.get? D=some { cls:=.type "list",data:=.seq its.toArray n })(hv:aP ys its)(hz:ys.length<=Cr):Inv X pins σ (upd H D (.lst ys)) s:=by
 have ne:∀b u,H b=some u->b≠D:=λb u q=>bR q hn;refine⟨I.ok,I.os,I.bare,⟨I.base.keep,I.base.slot,λb o q nn hx=>?_,I.base.there,λb xs q=>?_,λb o u q=>?_,λb ps q=>?_⟩,I.loc,I.cell,?_,λx c q=>?_,λp hq=>?_,λb u q=>?_,I.len⟩
 .rw[aK (Cn (B7 (Cc q) hnew))];exact I.base.free b o q nn hx
 .have z:=I.base.tups b xs q;rw[aK (ne b _ z)];exact z
 .have z:=I.base.frzs b o u q;rw[aK (ne b _ z)];exact z
 .obtain⟨more,z⟩:=I.base.tbls b ps q;exact⟨more,by rw[aK (ne b _ z)];exact z⟩
 .rw[aK (CO hL)];exact I.free
 .rw[aK (hc x c q)];exact I.freeC x c q
 .obtain⟨a1,a2,a3⟩:=I.pin p hq;exact⟨a1,by rw[aK (hp p hq)];exact a2,a3⟩
 .by_cases hb:b=D
  .subst hb;rw[ah]at q;cases q;exact⟨hz,its,n,hv,e⟩
  .rw[aK hb]at q;exact(I.hok b u q).stay (λc v _ r=>r) (λc r=>by rw[aK (ne c _ r)];exact r) λc xs r=>by rw[aK (ne c _ r)];exact r
structure wy(X:Cx)(pins:List (Addr×Obj))(σ:St)(C D:Addr)(H:Hp)(s:B9):Prop where
 inv:Inv X pins σ H s
 ns:∃m,s.heap.Ns C m
 nL:C≠X.env.locals
 new:X.s₀.heap.objs.size<=C
 nc:∀x c,X.env.cells.lookup x=some c->c≠C
 np:∀p∈X.pn++pins,p.1≠C
 free:H C=none
theorem wy.gone{C D:Addr}{h':Heap}(O:wy X pins σ C D H s)(sb:EX C s.heap h'):Inv X pins σ H { s with heap:=h' }:=
 O.inv.turned (t':=s.toks) (it:=C) (λb o hb e=>(sb.2 b hb).trans e) O.free O.nL (.inr O.new) O.nc O.np
end

def gLC(J:It)(g:TG)(tc:TT)(te:TE)(n:Nat)(cv:St)(Fin:List V->Hp->Prop)(H1:Hp):Prop:=
 ∃W:Nat->Nat->List V->Hp->Prop,(∃m,W 0 m [] H1)/\∀i m ys H,W i m ys H->
  (J.stop i H/\Fin ys H)\/
  (J.go i H∧ys.length < Cr∧∃ N:List V→Hp→Prop,(∀ ys' H',N ys' H'→∃ m',m' < m∧W (i+1) m' ys' H')∧∀ x H',J.yld i H x H'→∀ own:St,own.length=n→g x (own++cv) H' fun σ2 H2=>(∃ own2:St,own2.length=n∧σ2=own2++cv) ∧
   tc σ2 H2 λb H3=>if b=true then te σ2 H3 λy H4=>N (ys++[y]) H4 else N ys H3)

def qG(env:Env):List (Str×FB)->List (Str×Addr)->List (Str×Addr)
 |[],acc=>acc
 |(n,k)::r,acc=>qG env r (if k==.free then(match env.cells.lookup n with|some c=>(n,c)::acc|none=>acc)else acc)
theorem tN(env:Env):∀(names:List (Str×FB)) (acc:List (Str×Addr)),oR env acc->oR env (qG env names acc)
 |[],_,h=>h
 |(n,k)::r,acc,h=>by
  refine tN env r _ ?_
  split
  .split
   .exact⟨by assumption,h⟩
   .exact h
  .exact h
structure qH(X:Cx)(scope:Scope)(cl:List (Str×Addr))(own caps:List Str)(js:List Nat):Prop where
 clos:closureFor scope X.env=pure cl
 cell:∀y∈scope.names,y.2≠.cell
 kind:scope.kind=.function
 names:∀y∈scope.names,y.2=.local->scope.names.lookup y.1=some .local
 allc:oR X.env cl
 free:(scope.names.all λy=>y.2 != .free||(cl.lookup y.1).isSome)=true
 cap:iE X scope cl caps js

theorem dC{X:Cx}{scope:Scope}{own caps:List Str}{js:List Nat}(clos:closureFor scope X.env=pure (qG X.env scope.names []):=by with_unfolding_all rfl)(cell:∀y∈scope.names,y.2≠.cell:=by decide +kernel)(kind:scope.kind=.function:=by rfl)
  (names:∀y∈scope.names,y.2=.local->scope.names.lookup y.1=some .local:=by decide +kernel)(free:(scope.names.all λy=>y.2 != .free||((qG X.env scope.names []).lookup y.1).isSome)=true:=by with_unfolding_all rfl)
  (cap:iE X scope (qG X.env scope.names []) caps js):qH X scope (qG X.env scope.names []) own caps js:=⟨clos,cell,kind,names,tN _ _ _ trivial,free,cap⟩
section
variable {X:Cx}{elt iter target:Expr}{ifs:List Expr}{scope:Scope}{cl:List (Str×Addr)}{pos:Pos}{own caps:List Str}{js:List Nat}{g:TG}{tc:TT}{te:TE}
theorem tO{pins:List (Addr×Obj)}{σ:St}{s₂:B9}{H1:Hp}{it:Addr}{fp:List Addr}{tn:Nat->Heap->Prop}{J:It}{Fin:List V->Hp->Prop}{RR:B5->Addr->FM->B9->Prop}{E:B5->B9->Prop}
  (hc:X.calm=true)(L:qH X scope cl own caps js)
  (hg:∀s H C ex,PG (X.blk (own++caps) s H scope cl C ex) target g)(ht:∀s H C ex,PTs (X.blk (own++caps) s H scope cl C ex) ifs tc)(he:∀s H C ex,PE (X.blk (own++caps) s H scope cl C ex) elt te)
  (I2:Inv X pins σ H1 s₂)(T:oN X.prog X.w X.K target J fp it tn)(st2:tn 0 s₂.heap)(f2:∀b∈fp,mP X pins H1 b)
  (G:gLC J g tc te own.length (mW σ js) Fin H1)
  (hRR:∀D C H ys s',H D=none->wy X pins σ C D (upd H D (.lst ys)) s'->Fin ys H->RR (.ref D) C (.ok .next) s') :
  Cz (CF X.prog X.w) X.A (newList []) (λacc s₃=>Cz (CF X.prog X.w) X.A (newFunctionEnv scope X.env.globals cl [] X.env.qual none .none (some X.env)) (λcenv s₄ =>
   Ee (CF X.prog X.w) X.A (.compStart (.ListComp elt [⟨target,iter,ifs,0⟩] scope pos) 0 (.ref it) acc { cenv with scope:=EY scope X.env }) (RR acc cenv.locals) s₄) E s₃) E s₂:=by
 refine Ey (wpAny_newFunctionEnv L.cell (by intro y hy;simp at hy) (λh₁ hns₁ hsb₁=>?_) L.kind);dsimp only at hns₁ hsb₁⊢;generalize hH2:s₂.heap.push { cls:=.type "list",dict:=none,data:=.seq ([]:List B5).toArray }=G2 at hns₁ hsb₁⊢;have hC:G2.objs.size=s₂.heap.objs.size+1:=by rw[<-hH2,Du]
 have up2:∀b o,s₂.heap.get? b=some o->G2.get? b=some o:=λb o e=>hH2▸Cd _ e;have hDC:s₂.heap.objs.size≠G2.objs.size:=by rw[hC];exact Cn (Dp _)
 have hD2:G2.get? s₂.heap.objs.size=some { cls:=.type "list",data:=.seq ([]:List B5).toArray ([]:List B5).length }:=hH2▸Cu _ rfl
 -- the state with the list laid
 have I3:Inv X pins σ H1 { s₂ with heap:=G2 }:=I2.kept (t':=s₂.toks) up2;have up3:∀b o,G2.get? b=some o->h₁.get? b=some o:=λb o e=>hsb₁.extBut b o (Cn (Cc e)) (Cd _ e);have DH:H1 s₂.heap.objs.size=none:=I2.fresh;have CH:H1 G2.objs.size=none:=I3.fresh;have fpl:∀b∈fp,b<s₂.heap.objs.size:=λb hb=>by
  obtain⟨o,e,_⟩:=T.obj 0 _ st2 b hb;exact Cc e
 have celllt:∀x c,X.env.cells.lookup x=some c->c<s₂.heap.objs.size:=λx c e=>by
  obtain⟨v,q⟩:=I2.cell x c e;exact q.lt
 have locl:X.env.locals<s₂.heap.objs.size:=I2.lt;generalize hD:s₂.heap.objs.size=D at *;generalize hCC:G2.objs.size=C at *;have hDltC:D<C:=by omega
 have noF:∀b,b∈frs X.stack->b<D:=λb hb=>by
  rcases List.mem_cons.mp (I2.stkSub b hb)with e|hb
  .rw[e];exact locl
  .obtain⟨_,o,ho,_⟩:=I2.ok.funs.mem hb;exact B7 (Cc ho) (hD▸I2.sz)
 have fpF:∀b∈fp,b∉frs X.stack:=λb hb z=>by
  obtain⟨_,e1,e2,_⟩:=f2 b hb;rcases List.mem_cons.mp (I2.stkSub b z)with e|z
  .exact e1 e
  .exact e2 z
 have ok':(X.blk (own++caps) { s₂ with heap:=G2 } H1 scope cl C (D::fp)).Ok:={
  mod:=I2.ok.mod
  kind:=L.kind
  glob:=I2.ok.glob
  blt:=I2.ok.blt
  above:=Nat.le_of_eq hCC
  inj:=λx y c e1 e2=>I2.ok.inj x y c (L.allc.get e1) (L.allc.get e2)
  has:=λx hx=>by
   have hm:=tM L.cell hx;have q:=List.all_eq_true.mp L.free _ hm;have q':(cl.lookup x).isSome=true:=by simpa using q
   exact Option.isSome_iff_exists.mp q'
  cab:=λx c e=>nomatch e
  hd:=I2.ok.hd
  frames:=I2.ok.frames
  stk:=.inl rfl
  exf:=λb hb=>by
   rcases List.mem_cons.mp hb with rfl|hb
   .exact⟨Cn hDltC,λx c e=>Cn (celllt x c (L.allc.get e))⟩
   .obtain⟨_,e1,e2,_,e4,_⟩:=f2 b hb;exact⟨Cn (Ej (fpl b hb) hDltC),λx c e=>e4 x c (L.allc.get e)⟩
  bs:=λb o e=>⟨up2 b o (I2.bs b o e).1,(I2.bs b o e).2⟩
  bsz:=by
   show X.base.objs.size<=G2.objs.size;have:=I2.ok.bsz;have:=I2.sz;omega
  noex:=λb o e hb=>by
   have hlt:=Cc (I2.bs b o e).1;rcases List.mem_cons.mp hb with z|hb
   .exact absurd (show b<D from hD▸hlt) (by rw[z];exact CI _)
   .obtain⟨_,_,_,e3,_⟩:=f2 b hb;rcases e3 with e3|e3
    .exact I2.ok.noex b o e e3
    .exact absurd (B7 (Cc (I2.ok.bs b o e).1) e3) (CI _)
  exfs:=λb hb z=>by
   rcases List.mem_cons.mp hb with e|hb
   .exact absurd (noF b z) (by rw[e];exact CI _)
   .exact fpF b hb z
  funs:=I3.stack
  frf:=I3.stkFree }
 have hns:h₁.Ns C (λx=>([]:List (Str×B5)).reverse.lookup x):=hns₁;have eB:Inv (X.blk (own++caps) { s₂ with heap:=G2 } H1 scope cl C (D::fp)) [(D,E7 [])] (Co own.length none++mW σ js) H1 { s₂ with heap:=h₁,toks:=s₂.toks+([]:List (Str×B5)).length }:=by
  refine⟨ok',rfl,I2.bare,Un.kept up3,⟨_,hns,λi x v e1 e2 e3=>?_⟩,λx c e=>?_,CH,λx c e=>I2.freeC x c (L.allc.get e),λp hp=>?_,I3.hok.kept up3,?_⟩
  .have hlo:own.length<=i:=by
    refine Fi λhlt=>?_;rw[Ce (by rw[C0];exact hlt),Et,if_pos hlt]at e2;cases e2
   have e1':caps[i-own.length]?=some x:=by rw[<-Cj hlo];exact e1
   obtain⟨j,j1,j2,j3,j4,j5⟩:=L.cap.get e1';have e2':(mW σ js)[i-own.length]?=some (some v):=by
    rw[<-e2,Cj (by rw[C0];exact hlo),C0]
   have e4:σ[j]?=some (some v):=by
    unfold mW at e2';rw[B_,j1]at e2';have e5:(σ[j]?).join=some v:=Cw e2';cases hq:σ[j]? with
    |none=>rw[hq]at e5;cases e5
    |some q=>rw[hq]at e5;exact congrArg some e5
   obtain⟨m,hn,hl⟩:=I2.loc;obtain⟨u,ru,lk⟩:=hl j x v j2 e4 (.inr j3);refine⟨u,ru,.inr ⟨j5,?_⟩⟩;rcases lk with⟨k,_⟩|⟨_,c,ec,o,ho,hd⟩
   .rcases j3 with z|z<;>(rw[k]at z;cases z)
   .obtain⟨c',ec'⟩:=Option.isSome_iff_exists.mp j4;have:=L.allc.get ec';rw[ec]at this;cases this;exact⟨c,ec',o,up3 _ _ (up2 _ _ ho),hd⟩
  .obtain⟨v,o,ho,hd⟩:=I2.cell x c (L.allc.get e);exact⟨v,o,up3 _ _ (up2 _ _ ho),hd⟩
  .have e:p=(D,E7 []):=by simpa using hp
   subst e;exact⟨up3 _ _ hD2,DH,Cn hDltC,λz=>absurd (noF D z) (CI _),λv z=>by cases z⟩
  .rw[Ca,Ca,C0];unfold mW;rw[B3,L.cap.len]
 obtain⟨W,⟨m0,w0⟩,turn⟩:=G;have loop:Ee (CF X.prog X.w) X.A (.compLoop (.ListComp elt [⟨target,iter,ifs,0⟩] scope pos) 0 (.ref it) (.ref D) (compEnvC scope cl C X.env)) (RR (.ref D) C) { s₂ with heap:=h₁,toks:=s₂.toks+([]:List (Str×B5)).length }:=by
  refine tL (λn s'=>∃i ys its ow H',Inv (X.blk (own++caps) { s₂ with heap:=G2 } H1 scope cl C (D::fp)) [(D,E7 its)] (ow++mW σ js) H' s'/\ow.length=own.length/\tn i s'.heap/\(∀b∈fp,H' b=none)/\aP ys its/\ys.length<=Cr/\W i n ys H') ?_ m0
   ⟨0,[],[],Co own.length none,H1,eB,C0,T.keep _ _ _ st2 λb _ o e=>up3 _ _ (up2 _ _ e),λb hb=>(f2 b hb).1,.nil,Cv _,w0⟩
  rintro n s' ⟨i,ys,its,ow,H',I',hlo,st,fr,hv,hz,wv⟩;have fpok:∀{H'':Hp},(∀b∈fp,H'' b=none)->∀b∈fp,mP (X.blk (own++caps) { s₂ with heap:=G2 } H1 scope cl C (D::fp)) [(D,E7 its)] H'' b:=λhn b hb=>by
   obtain⟨_,e1,e2,e3,e4,e5⟩:=f2 b hb;refine⟨hn b hb,Cn (Ej (fpl b hb) hDltC),fpF b hb,.inl (Ck _ hb),λx c e=>e4 x c (L.allc.get e),λp hp=>?_⟩;have e:p=(D,E7 its):=by simpa using hp
   subst e;exact Dl (fpl b hb)
  rcases turn i n ys H' wv with⟨stop,fin⟩|⟨go,hlt,N,hN,step⟩
  .refine Dn (T.done (X.blk (own++caps) { s₂ with heap:=G2 } H1 scope cl C (D::fp)) rfl rfl rfl hc i _ s' _ H' (λ_ _=>False) I' (fpok fr) st stop) (λr s4 ⟨hr,I4⟩=>?_) λ_ _ f=>f;subst hr;have pD:=I4.pin (D,E7 its) (by simp);have hch:∀b∈D::fp,(b∈X.ex\/X.s₀.heap.objs.size<=b)/\b≠X.env.locals/\(∀x c,X.env.cells.lookup x=some c->c≠b)/\∀p∈X.pn++pins,p.1≠b:=λb hb=>by
    rcases List.mem_cons.mp hb with rfl|hb
    .exact⟨.inr (hD▸I2.sz),Dl locl,λx c e=>Cn (celllt x c e),λp hp=>Cn (hD▸Cc (I2.pin p hp).1)⟩
    .obtain⟨_,e1,e2,e3,e4,e5⟩:=f2 b hb;exact⟨e3,e1,e4,e5⟩
   have IX:Inv X pins σ H' s4:=I2.call' (ch:=D::fp) I4.os ((Un.kept up2).trans I4.base) I4.hok I4.bare hch;have cD:=hch D Cp;have IA:Inv X pins σ (upd H' D (.lst ys)) s4:=IX.adopt pD.2.1 (hD▸I2.sz) cD.2.1 cD.2.2.1 cD.2.2.2 pD.1 hv hz;obtain⟨mm,hmm,_⟩:=I4.loc;refine hRR D C H' ys s4 pD.2.1 ⟨IA,⟨mm,hmm⟩,Dl (Ej locl hDltC),?_,λx c e=>Cn (Ej (celllt x c e) hDltC),λp hp=>?_,?_⟩ fin
   .have:=I2.sz;omega
   .exact Cn (Ej (show p.1<D from hD▸Cc (I2.pin p hp).1) hDltC)
   .rw[aK (Dl hDltC)];exact I4.free
  .refine Dn (T.item (X.blk (own++caps) { s₂ with heap:=G2 } H1 scope cl C (D::fp)) rfl rfl rfl hc i _ s' _ H' (λ_ _=>False) I' (fpok fr) st go) (λr s4 ⟨u,hr,h4⟩=>?_) λ_ _ f=>f;subst hr;refine Dn h4 (λ_ s5 ⟨x,H5,I5,r5,y5,st5,fr5⟩=>?_) λ_ _ f=>f;have I5':=I5.pinned (fpok fr5) (T.obj _ _ st5);have keepT:∀{σ8:St} {H8:Hp} {s8:B9},Inv (X.blk (own++caps) { s₂ with heap:=G2 } H1 scope cl C (D::fp)) ([(D,E7 its)]++mQ fp s5.heap) σ8 H8 s8->tn (i+1) s8.heap/\∀b∈fp,H8 b=none:=λ{σ8 H8 s8} I8 =>
    ⟨T.keep _ _ _ st5 fun b hb o e=>(I8.pin (b,o) (CQ _ (CQ _ (iA hb e)))).1,fun b hb=>by
     obtain⟨o,e,d⟩:=T.obj _ _ st5 b hb;exact(I8.pin (b,o) (CQ _ (CQ _ (iA hb e)))).2.1⟩
   refine Dn (hg _ _ _ _ _ s5 _ H5 x u _ I5' r5 (step x H5 y5 ow hlo)) (λ_ s6 ⟨σ6,H6,I6,⟨own2,hl2,e6⟩,q6⟩=>?_) λ_ _ f=>f;subst e6;refine Dn (ht _ _ _ _ _ s6 _ H6 _ I6 q6) (λb s7 ⟨H7,I7,q7⟩=>?_) λ_ _ f=>f;cases b with
   |false =>
    rw[if_neg Cm];rw[if_neg Cm]at q7;obtain⟨m',hm,w7⟩:=hN _ _ q7;obtain⟨k1,k2⟩:=keepT I7;exact⟨m',hm,i+1,ys,its,own2,H7,I7.unpinned,hl2,k1,k2,hv,hz,w7⟩
   |true =>
    rw[if_pos rfl];rw[if_pos rfl]at q7;refine Dn (he _ _ _ _ _ s7 _ H7 _ I7 q7) (λy s8 ⟨vy,H8,I8,r8,n8⟩=>?_) λ_ _ f=>f;obtain⟨m',hm,w8⟩:=hN _ _ n8;obtain⟨k1,k2⟩:=keepT I8;have pD:=I8.pin (D,E7 its) (by simp);have hyl:=hv.length;refine append_at (hsz:=by show its.toArray.size<=Cr;rw[Ci];omega) pD.1 λh9 hs9 hD9=>?_;have I9:Inv (X.blk (own++caps) { s₂ with heap:=G2 } H1 scope cl C (D::fp)) [] (own2++mW σ js) H8 { s8 with heap:=h9 }:=by
     refine(I8.pins_of (pins':=[]) λp hp=>nomatch hp).turned (t':=s8.toks) (it:=D) (λb o hb e=>(hs9.2 b hb).trans e) pD.2.1 (Cn hDltC) (.inl Cp) (λx c e=>Cn (celllt x c (L.allc.get e))) λp hp=>?_;simp at hp
    refine⟨m',hm,i+1,ys++[vy],its++[y],own2,H8,I9.pins_of λp hp=>?_,hl2,T.keep _ _ _ k1 λb hb o e=>(hs9.2 b (Cn (fpl b hb))).trans e,k2,hv.append (.cons r8 .nil),?_,w8⟩
    .have e:p=(D,E7 (its++[y])):=by simpa using hp
     subst e;exact⟨hD9.trans (congrArg some (LCg.lst_snoc its y)),pD.2.1,Cn hDltC,λz=>absurd (noF D z) (CI _),λv z=>by cases z⟩
    .rw[Ca,CS];omega
 exact codeAny_compStart_list loop (T.self _ _ _ _ _ (T.keep _ _ _ st2 λb _ o e=>up3 _ _ (up2 _ _ e)) loop)

def yJ(wi:TI)(g:TG)(tc:TT)(te:TE)(n:Nat)(js:List Nat):TE:=λσ H Q=>wi σ H λJ H1=>gLC J g tc te n (mW σ js) (λys H=>∀p,H p=none->Q (.ref p) (upd H p (.lst ys))) H1
variable {wi:TI}
theorem AK(hc:X.calm=true)(L:qH X scope cl own caps js)(hi:PI X target iter wi)
  (hg:∀s H C ex,PG (X.blk (own++caps) s H scope cl C ex) target g)(ht:∀s H C ex,PTs (X.blk (own++caps) s H scope cl C ex) ifs tc)(he:∀s H C ex,PE (X.blk (own++caps) s H scope cl C ex) elt te)
  (hs:∀x,Ed iter X.env x=pure x:=by intro _;rfl):PE X (.ListComp elt [⟨target,iter,ifs,0⟩] scope pos) (yJ wi g tc te own.length js):=by
 intro pins s σ H Q I h;rw[eval_ListComp];refine wpAny_comprehension_free (use:=none) rfl hs L.clos L.kind L.names (thn (hi pins s σ H _ I h) λv s1 h1=>thn h1 λitv s2 h2=>?_);obtain⟨it,fp,tn,J,H2,e,I2,T,st2,f2,G⟩:=h2;subst e;refine tO hc L hg ht he I2 T st2 f2 G ?_;intro D C H3 ys s' hD O fin;obtain⟨m,hn⟩:=O.ns;exact⟨m,hn,λh' sb=>⟨.ref D,_,O.gone sb,rfl,fin D hD⟩⟩
theorem AL{k:Nat}{y:Str}{py spos:Pos}(hc:X.calm=true)(L:qH X scope cl own caps js)(hi:PI X target iter wi)
  (hg:∀s H C ex,PG (X.blk (own++caps) s H scope cl C ex) target g)(ht:∀s H C ex,PTs (X.blk (own++caps) s H scope cl C ex) ifs tc)(he:∀s H C ex,PE (X.blk (own++caps) s H scope cl C ex) elt te)
  (hN:X.N.Nodup)(hk:X.N[k]?=some y)(hy:X.env.scope.names.lookup y=some .local)
  (hsw:FV (.ListComp elt [⟨target,iter,ifs,0⟩] scope pos) (some (.Name y py)) spos.line X.env=pure true:=by rfl)
  (hs:∀x,Ed iter X.env x=pure x:=by intro _;rfl):PS X (.Assign [.Name y py] (.ListComp elt [⟨target,iter,ifs,0⟩] scope pos) spos) (we (yJ wi g tc te own.length js) (aF k)):=by
 intro pins s σ H De I h;rw[exec_Assign_Name_used _ _ _ _ hsw];refine B8 (FH (B8 ?_));show Cz _ _ (do let _<-comprehension (.ListComp elt [⟨target,iter,ifs,0⟩] scope pos) scope X.env _ (newList []) false (eval iter X.env) (some (FL (.Name y py) X.env))) _ _ s
 refine B8 (Dn (wpAny_comprehension_free (use:=some (FL (.Name y py) X.env)) (Q:=λ_ s'=>SP X pins De .next s') rfl hs L.clos L.kind L.names
  (thn (hi pins s σ H _ I h) λv s1 h1=>thn h1 λitv s2 h2=>?_)) (λ_ s' hq=>Cs (Cs hq)) λ_ _ e=>e)
 obtain⟨it,fp,tn,J,H2,e,I2,T,st2,f2,G⟩:=h2;subst e;refine tO hc L hg ht he I2 T st2 f2 G ?_;intro D C H3 ys s' hD O fin;show Cz _ _ (FL (.Name y py) X.env (.ref D)) _ _ _;refine wpAny_assign_Name (rA O.inv hN hk (.inl hy) (show bA (.ref D) (.ref D)from rfl) (λs'' I'' sb=>?_) (.inr hy));obtain⟨a,hsb,ha⟩:=sb;have hne:C≠a:=by
  rcases ha with rfl|ha
  .exact O.nL
  .exact CO (O.nc _ _ ha)
 obtain⟨m,hn⟩:=O.ns;refine⟨m,hn.sameBut hsb hne,λh' sb'=>⟨_,_,?_,fin D hD⟩⟩;exact I''.turned (t':=s''.toks) (it:=C) (λb o hb e=>(sb'.2 b hb).trans e) O.free O.nL (.inr O.new) O.nc O.np
end

section
variable {X:Cx}{elt iter:Expr}{ifs:List Expr}{scope:Scope}{cl:List (Str×Addr)}{pos:Pos}{caps:List Str}{js:List Nat}{tc:TT}{te:TE}{wi:TI}{x:Str}{px:Pos}
theorem AM{J:It}{cv:St}{Fin:List V->Hp->Prop}{H1:Hp}(h:∃W:Nat->Nat->List V->Hp->Prop,(∃m,W 0 m [] H1)/\∀i m ys H,W i m ys H->
  (J.stop i H/\Fin ys H)\/
  (J.go i H∧ys.length < Cr∧∃ N:List V→Hp→Prop,(∀ ys' H',N ys' H'→∃ m',m' < m∧W (i+1) m' ys' H')∧∀ x H',J.yld i H x H' →
   tc (some x::cv) H' λb H3=>if b=true then te (some x::cv) H3 λy H4=>N (ys++[y]) H4 else N ys H3)):gLC J (aF 0) tc te 1 cv Fin H1:=by
 obtain⟨W,w0,turn⟩:=h;refine⟨W,w0,λi m ys H w=>?_⟩;rcases turn i m ys H w with⟨a,b⟩|⟨a,b,N,hN,c⟩
 .exact .inl ⟨a,b⟩
 .refine .inr ⟨a,b,N,hN,λv H' y own ho=>?_⟩
  match own,ho with
  |[τ],_=>exact⟨⟨[some v],rfl,rfl⟩,c v H' y⟩
def tLC(wi:TI)(tc:TT)(te:TE)(js:List Nat):TE:=yJ wi (aF 0) tc te 1 js
theorem dJ(hc:X.calm=true)(L:qH X scope cl [x] caps js)(hi:PI X (.Name x px) iter wi)
  (ht:∀s H C ex,PTs (X.blk (x::caps) s H scope cl C ex) ifs tc)(he:∀s H C ex,PE (X.blk (x::caps) s H scope cl C ex) elt te)
  (hN:(x::caps).Nodup:=by decide +kernel)(hx:(EY scope X.env).names.lookup x=some .local:=by with_unfolding_all rfl)
  (hs:∀x,Ed iter X.env x=pure x:=by intro _;rfl):PE X (.ListComp elt [⟨.Name x px,iter,ifs,0⟩] scope pos) (tLC wi tc te js):=
 AK (own:=[x]) (g:=aF 0) hc L hi (λs H C ex=>aO (i:=0) hN rfl (.inl hx) (.inr hx)) ht he hs
theorem pX{k:Nat}{y:Str}{py spos:Pos}(hc:X.calm=true)(L:qH X scope cl [x] caps js)(hi:PI X (.Name x px) iter wi)
  (ht:∀s H C ex,PTs (X.blk (x::caps) s H scope cl C ex) ifs tc)(he:∀s H C ex,PE (X.blk (x::caps) s H scope cl C ex) elt te)
  (hXN:X.N.Nodup)(hk:X.N[k]?=some y)(hy:X.env.scope.names.lookup y=some .local)(hN:(x::caps).Nodup:=by decide +kernel)(hx:(EY scope X.env).names.lookup x=some .local:=by with_unfolding_all rfl)
  (hsw:FV (.ListComp elt [⟨.Name x px,iter,ifs,0⟩] scope pos) (some (.Name y py)) spos.line X.env=pure true:=by rfl)
  (hs:∀x,Ed iter X.env x=pure x:=by intro _;rfl):PS X (.Assign [.Name y py] (.ListComp elt [⟨.Name x px,iter,ifs,0⟩] scope pos) spos) (we (tLC wi tc te js) (aF k)):=
 AL (own:=[x]) (g:=aF 0) hc L hi (λs H C ex=>aO (i:=0) hN rfl (.inl hx) (.inr hx)) ht he hXN hk hy hsw hs
theorem cu{K:PySem.W.Frag}{a:Addr}{xs:List V}{cv:St}{Fin:List V->Hp->Prop}{H1:Hp}(Pv:Nat->List V->Hp->Prop)(h0:Pv 0 [] H1)(hl:∀i ys H,i<=xs.length->Pv i ys H->SqL K H a xs)(hz:∀i ys H,i<xs.length->Pv i ys H->ys.length<Cr)
  (hs:∀i x ys H,xs[i]?=some x->Pv i ys H->tc (some x::cv) H λb H3=>if b=true then te (some x::cv) H3 λy H4=>Pv (i+1) (ys++[y]) H4 else Pv (i+1) ys H3)
  (hd:∀ys H,Pv xs.length ys H->Fin ys H):gLC (Itl K a) (aF 0) tc te 1 cv Fin H1:=by
 refine AM ⟨λi m ys H=>m=xs.length-i/\i<=xs.length/\Pv i ys H,⟨xs.length,by simp,Cv _,h0⟩,?_⟩;rintro i m ys H ⟨rfl,hi,p⟩;have q:=hl i ys H hi p;by_cases hlt:i<xs.length
 .refine .inr ⟨⟨xs,xs[i],q,by simp[hlt]⟩,hz i ys H hlt p,Pv (i+1),λys' H' p'=>⟨xs.length-(i+1),by omega,rfl,hlt,p'⟩,λv H' y=>?_⟩;obtain⟨e,y⟩:=y;subst e;exact hs i v ys _ (y xs q) p
 .have e:i=xs.length:=by omega
  subst e;exact .inl ⟨⟨xs,q,B4 _⟩,hd ys H p⟩
theorem iU{lo:Int}{n:Nat}{cv:St}{Fin:List V->Hp->Prop}{H1:Hp}(Pv:Nat->List V->Hp->Prop)(h0:Pv 0 [] H1)(hz:∀i ys H,i<n->Pv i ys H->ys.length<Cr)
  (hs:∀i ys H,i<n->Pv i ys H->tc (some (.int (lo+i))::cv) H λb H3=>if b=true then te (some (.int (lo+i))::cv) H3 λy H4=>Pv (i+1) (ys++[y]) H4 else Pv (i+1) ys H3)
  (hd:∀ys H,Pv n ys H->Fin ys H):gLC (Itr lo n) (aF 0) tc te 1 cv Fin H1:=by
 refine AM ⟨λi m ys H=>m=n-i/\i<=n/\Pv i ys H,⟨n,by simp,Cv _,h0⟩,?_⟩;rintro i m ys H ⟨rfl,hi,p⟩;by_cases hlt:i<n
 .refine .inr ⟨hlt,hz i ys H hlt p,Pv (i+1),λys' H' p'=>⟨n-(i+1),by omega,rfl,hlt,p'⟩,λv H' y=>?_⟩;obtain⟨e,y⟩:=y;subst e y;exact hs i ys _ hlt p
 .have e:i=n:=by omega
  subst e;exact .inl ⟨B4 _,hd ys H p⟩
end

theorem cz{A B:Hp->Prop}{σ:St}{H:Hp}(h:A H):AJ σ H (λb H3=>if b=true then A H3 else B H3):=by
 show if true=true then A H else B H;rw[if_pos rfl];exact h
section
variable {X:Cx}{tg:Expr}
end
section
variable {X:Cx}
theorem wz:OpR X (Eg .Mult) (λx y H Q=>∃z n,x=.str z/\y=.int n/\MulOk z n/\Q (.str (Txt.mul z n)) H):=by
 intro pins s σ H x y v u Q I rx ry h;obtain⟨z,n,rfl,rfl,hm,q⟩:=h;obtain⟨t,rfl⟩:=rx;obtain⟨t',rfl⟩:=ry;exact SB.mul hm λt'' k=>⟨.str _,H,I.tok k,⟨t'',rfl⟩,q⟩
theorem rJ:∀(l:List (Str×Tok)),aP ((l.map (·.1)).map V.str) (strValues l)
 |[]=>.nil
 |p::r=>.cons ⟨p.2,rfl⟩ (rJ r)
theorem rK:MtR X "str.split" (λx xs H Q=>∃z c,x=.str z/\xs=[.str ⟨#[c]⟩]/\z.length+2<=Cr/\∀p,H p=none->Q (.ref p) (upd H p (.lst ((Txt.split z ⟨#[c]⟩).map V.str)))):=by
 intro pins s σ H x xs v us Q I rx r h;obtain⟨z,c,rfl,rfl,hz,q⟩:=h;obtain⟨t,rfl⟩:=rx;obtain⟨w',rfl,u,rfl⟩:=eA r;have hy:((⟨#[c]⟩:Str).length==0)=false:=rfl;have len:=split_le z ⟨#[c]⟩;have new:∀(l:List (Str×Tok)) (k:Nat),l.map (·.1)=Txt.split z ⟨#[c]⟩->EP X pins σ Q (.ref s.heap.objs.size) { s with heap:=s.heap.push { cls:=.type "list",data:=.seq (strValues l).toArray },toks:=k }:=λl k e =>
  ⟨.ref _,_,I.lnew (t':=k) (rJ l) (by rw[e,B3];exact Ds len hz),rfl,by rw[e];exact q _ I.fresh⟩
 cases h1:(decide (z.length<(⟨#[c]⟩:Str).length)||decide (Builtin.Str.strKind z<Builtin.Str.strKind ⟨#[c]⟩))
 .cases hf:(Ev z ⟨#[c]⟩ 0 z.length (z.length+1)).isEmpty
  .have e1:Txt.split z ⟨#[c]⟩=Builtin.Str.partsBetween z (Ev z ⟨#[c]⟩ 0 z.length (z.length+1)) (⟨#[c]⟩:Str).length:=
    (if_neg (ne_true_of_eq_false h1)).trans (if_neg (ne_true_of_eq_false hf))
   refine EF Fj (Fs _ _ _) E8 (E2 _ _) (meets_str_split_sep z ⟨#[c]⟩ t u h1 hy hf (by omega) (by rw[<-e1];omega)) ?_;show wants _ _ _ { s with toks:=_,heap:=s.heap.push { cls:=.type "list",data:=.seq (strsFrom s.toks (Builtin.Str.partsBetween z (Ev z ⟨#[c]⟩ 0 z.length (z.length+1)) (⟨#[c]⟩:Str).length)).toArray } };rw[strsFrom_eq];exact new _ _ ((numbered_texts _ _).trans e1.symm)
  .exact EF Fj (Fs _ _ _) E8 (E2 _ _) (meets_str_split_not_found z ⟨#[c]⟩ t u h1 hy hf)
    (new [(z,t)] _ ((if_neg (ne_true_of_eq_false h1)).trans (if_pos hf)).symm)
 .exact EF Fj (Fs _ _ _) E8 (E2 _ _) (meets_str_split_cannot_occur z ⟨#[c]⟩ t u h1)
   (new [(z,t)] _ (if_pos h1).symm)
theorem wA{ys:List Str}:∀{us:List B5},aP (ys.map V.str) us->StrsAre us ys:=by
 induction ys with
 |nil=>intro us h;cases h;exact .nil
 |cons y ys ih =>
  intro us h;cases h with
  |cons r t =>
   obtain⟨tk,rfl⟩:=r;exact .cons y tk (ih t)
theorem vF:MtR X "str.join" (λx xs H Q=>∃sep a ys,x=.str sep/\xs=[.ref a]/\SqL X.K H a (ys.map V.str)/\sep.length<=16/\(ys.map (·.length)).sum+ys.length<=1048576/\Q (.str (Txt.join sep ys)) H):=by
 intro pins s σ H x xs v us Q I rx r h;obtain⟨sep,a,ys,rfl,rfl,hS,h1,h2,q⟩:=h;obtain⟨t,rfl⟩:=rx;obtain⟨w',rfl,rfl⟩:=eA r;obtain⟨its,rv,p,hz⟩:=I.list hS;exact join_listW p.isList (wA (by simpa using rv)) h1 h2 λt' k=>⟨.str _,H,I.tok k,⟨t',rfl⟩,q⟩
theorem r6:dr X (.type "int") (λxs H Q=>∃x n,xs=[.str x]/\PySem.intText? x=some n/\x.length<=640/\Q (.int n) H):=by
 intro pins s σ H xs us Q I r h;obtain⟨x,n,rfl,hn,hl,q⟩:=h;obtain⟨u,rfl,t,rfl⟩:=eA r;exact PySem.W.KIN.call_text hn hl ⟨.int _,H,I.tok _,⟨_,rfl⟩,q⟩
end
end L2

namespace Tl
open PySem PySem.Builtin PySem.Builtin.Str L2

abbrev tx(l:List Nat):Str:=⟨l.toArray⟩
theorem zN(s:Str):s=tx s.cps.toList:=by cases s;rfl
theorem iV(a b:List Nat):tx a++tx b=tx (a++b):=by
 show(⟨a.toArray++b.toArray⟩:Str)=⟨(a++b).toArray⟩;rw[List.append_toArray]
theorem bz(l:List Nat):(tx l).length=l.length:=by show l.toArray.size=_;simp
theorem AN{a b:List Nat}(h:tx a=tx b):a=b:=by
 have e:a.toArray=b.toArray:=congrArg Str.cps h;have e2:=congrArg FQ e;simpa using e2
def mX{α:Type}(l:List α)(lo hi:Option Int):List α:=(l.drop (HT.sIx l.length 0 lo)).take (HT.sIx l.length l.length hi-HT.sIx l.length 0 lo)
theorem cut_to{α:Type}(l:List α)(j:Nat):mX l none (some (j:Int))=l.take j:=by
 unfold mX;rw[HT.sIx_none,HT.sIx_nat,List.drop_zero,Nat.sub_zero];by_cases h:j<=l.length
 .rw[ES h]
 .rw[Fk (by omega),Dv (B4 _),Dv (by omega)]
def dD{α:Type}(l:List α)(n:Nat):List α:=(Co n l).flatten
theorem gT{α:Type}(l:List α)(n:Nat):dD l (n+1)=l++dD l n:=by unfold dD;rw[Dk,DD]
theorem iW{α:Type}(l:List α):∀n:Nat,(dD l n).length=n*l.length
 |0=>by simp[dD]
 |n+1=>by rw[gT,Ca,iW l n,FY];omega
theorem tP(l:List Nat):∀(n:Nat) (acc:List Nat),(Co n l.toArray).foldl (·++·) acc.toArray=(acc++dD l n).toArray
 |0,acc=>by simp[dD]
 |n+1,acc=>by
  rw[Dk,EQ,List.append_toArray,tP l n,gT,DE]
theorem tQ(l:List Nat)(n:Nat):Txt.mul (tx l) (n:Int)=tx (dD l n):=by
 unfold Txt.mul;by_cases h1:(n:Int)<1
 .have e:n=0:=by omega
  subst e;rw[if_pos h1];rfl
 .rw[if_neg h1];by_cases h2:((n:Int)==1||(tx l).length==0)=true
  .rw[if_pos h2];rcases Bool.or_eq_true _ _▸h2 with h|h
   .have e:n=1:=by have:=FW h;omega
    subst e;rw[gT];simp[dD]
   .have e:l=[]:=by
     have:=FW h;rw[bz]at this;exact DZ this
    subst e;have:∀k,dD ([]:List Nat) k=[]:=λk=>by
     induction k with
     |zero=>rfl
     |succ k ih=>rw[gT,ih];rfl
    rw[this]
  .rw[if_neg h2];have:=tP l n [];have e:((n:Int)).toNat=n:=by omega
   rw[e];show(⟨(Co n l.toArray).foldl (·++·) #[]⟩:Str)=_;rw[show(#[]:Array Nat)=([]:List Nat).toArray from rfl,this,List.nil_append]
theorem u0{l:List Nat}{n:Nat}(h1:n<=100000)(h2:l.length<=100):MulOk (tx l) (n:Int):=by
 have hb:l.length*n<=10000000:=by
  have:=E3 h2 h1;omega
 refine⟨?_,λ_ _=>?_,λ_ _=>?_⟩
 .rw[decide_eq_false (by omega),decide_eq_false (by omega)];rfl
 .rw[bz];have:(100:Int)<=(2^63-1)/(n:Int):=by
   by_cases e:n=0
   .omega
   .exact(Int.le_ediv_iff_mul_le (by omega)).mpr (by omega)
  omega
 .rw[bz];unfold tooLong;have e:((n:Int)).toNat=n:=by omega
  rw[e];exact decide_eq_false (by show ¬ (_>16777216);omega)

def dL(c:Nat):List Nat->List (List Nat)
 |[]=>[[]]
 |x::r=>if x=c then[]::dL c r else match dL c r with
  |[]=>[[x]]
  |p::ps=>(x::p)::ps
theorem kd(c x:Nat)(r:List Nat):dL c (x::r)=if x=c then[]::dL c r else match dL c r with
  |[]=>[[x]]
  |p::ps=>(x::p)::ps:=rfl
def bm(sep:List Nat):List (List Nat)->List Nat
 |[]=>[]
 |[x]=>x
 |x::y::r=>x++sep++bm sep (y::r)
theorem qI(sep:List Nat):∀ps:List (List Nat),Txt.join (tx sep) (ps.map tx)=tx (bm sep ps):=by
 have go:∀ps:List (List Nat),F_ (tx sep) (ps.map tx)=tx (bm sep ps):=by
  intro ps;induction ps with
  |nil=>rfl
  |cons x r ih =>
   cases r with
   |nil=>rfl
   |cons y r =>
    show tx x++tx sep++F_ (tx sep) (tx y::r.map tx)=_;rw[show F_ (tx sep) (tx y::r.map tx)=tx (bm sep (y::r))from ih,iV,iV];rfl
 intro ps;show glued (tx sep) (ps.map tx)=_;rw[StrLaws.glued_eq_join];exact go ps
theorem kf(c:Nat):∀ps:List (List Nat),ps≠[]->(∀p∈ps,c∉p)->dL c (bm [c] ps)=ps:=by
 have one:∀p:List Nat,c∉p->dL c p=[p]:=by
  intro p;induction p with
  |nil=>intro _;rfl
  |cons x r ih =>
   intro h;have hx:x≠c:=λe=>h (by rw[e];exact Cp);rw[kd,if_neg hx,ih λz=>h (Ck _ z)]
 have app:∀(p:List Nat) (l:List Nat),c∉p->dL c (p++c::l)=p::dL c l:=by
  intro p l;induction p with
  |nil =>
   intro _;show dL c (c::l)=_;rw[kd,if_pos rfl]
  |cons x r ih =>
   intro h;have hx:x≠c:=λe=>h (by rw[e];exact Cp);show dL c (x::(r++c::l))=_;rw[kd,if_neg hx,ih λz=>h (Ck _ z)]
 intro ps;induction ps with
 |nil=>intro h;exact absurd rfl h
 |cons x r ih =>
  intro _ h;cases r with
  |nil=>exact one x (h x Cp)
  |cons y r =>
   show dL c (x++[c]++bm [c] (y::r))=_;rw[DE,show[c]++bm [c] (y::r)=c::bm [c] (y::r)from rfl,app _ _ (h x Cp),ih (by simp) λp hp=>h p (Ck _ hp)]
theorem tR(l:List Nat)(c:Nat):Txt.split (tx l) ⟨#[c]⟩=(dL c l).map tx:=by
 have h1:=StrLaws.join_split (tx l) ⟨#[c]⟩;have h2:=StrLaws.split_free (tx l) c;have h3:=PyProof.Rows.split_pos (tx l) ⟨#[c]⟩;obtain⟨ps,e⟩:∃ps:List (List Nat),Txt.split (tx l) ⟨#[c]⟩=ps.map tx:=⟨(Txt.split (tx l) ⟨#[c]⟩).map (λs=>s.cps.toList),by
  rw[DS];exact(List.map_id' _).symm.trans (List.map_congr_left λs _=>zN s)⟩
 rw[e]at h1 h2 h3;have e2:bm [c] ps=l:=by
  have:=qI [c] ps;have h4:Txt.join (tx [c]) (ps.map tx)=F_ (tx [c]) (ps.map tx):=StrLaws.glued_eq_join _ _;rw[h4]at this;exact AN (this.symm.trans h1)
 have hne:ps≠[]:=by
  intro z;rw[z]at h3;simp at h3
 rw[e,<-e2,kf c ps hne λp hp=>?_];have:=h2 (tx p) (List.mem_map_of_mem hp);simpa using this
end Tl

namespace L2
open PySem PySem.Spec PyProof.Rows

def AO(K:PySem.W.Frag)(T:String)(x:V)(H:Hp)(b:Bool):Prop:=match x with
 |.non=>b=false
 |.bl _=>b=(T == "bool" || T == "int")
 |.int _=>b=(T == "int")
 |.str _=>b=(T == "str")
 |.ref p=>((∃xs,SqL K H p xs)/\b=(T == "list"))\/((∃xs,SqT K H p xs)/\b=(T == "tuple"))
 |_=>False
section
variable {X:Cx}
theorem dF:dr X (.builtin "isinstance") (λxs H Q=>∃x T b,xs=[x,.ty T]/\(T = "bool"\/T = "int"\/T = "str"\/T = "tuple"\/T = "list")/\AO X.K T x H b/\Q (.bl b) H):=by
 intro pins s σ H xs us Q I r h;obtain⟨x,T,b,rfl,hT,hv,q⟩:=h;obtain⟨u,w',rfl,r1,r2⟩:=on r;cases r2;have no:b=false->EP X pins σ Q (.bool false) { s with toks:=s.toks+1 }:=λe=>⟨.bl false,H,I.tok _,rfl,e▸q⟩;have yes:b=true->EP X pins σ Q (.bool true) s:=λe=>⟨.bl true,H,I,rfl,e▸q⟩;cases x with
 |non =>
  cases r1;have hv':b=false:=hv;rcases hT with rfl|rfl|rfl|rfl|rfl
  .exact IsiPair.NoneType_bool (no hv')
  .exact IsiPair.NoneType_int (no hv')
  .exact IsiPair.NoneType_str (no hv')
  .exact IsiPair.NoneType_tuple (no hv')
  .exact IsiPair.NoneType_list (no hv')
 |bl c =>
  cases r1;rcases hT with rfl|rfl|rfl|rfl|rfl
  .exact IsiPair.bool_bool (yes (hv.trans (by decide)))
  .exact IsiPair.bool_int (yes (hv.trans (by decide)))
  .exact IsiPair.bool_str (no (hv.trans (by decide)))
  .exact IsiPair.bool_tuple (no (hv.trans (by decide)))
  .exact IsiPair.bool_list (no (hv.trans (by decide)))
 |int c =>
  obtain⟨t,rfl⟩:=r1;rcases hT with rfl|rfl|rfl|rfl|rfl
  .exact IsiPair.int_bool (no (hv.trans (by decide)))
  .exact IsiPair.int_int (yes (hv.trans (by decide)))
  .exact IsiPair.int_str (no (hv.trans (by decide)))
  .exact IsiPair.int_tuple (no (hv.trans (by decide)))
  .exact IsiPair.int_list (no (hv.trans (by decide)))
 |str c =>
  obtain⟨t,rfl⟩:=r1;rcases hT with rfl|rfl|rfl|rfl|rfl
  .exact IsiPair.str_bool (no (hv.trans (by decide)))
  .exact IsiPair.str_int (no (hv.trans (by decide)))
  .exact IsiPair.str_str (yes (hv.trans (by decide)))
  .exact IsiPair.str_tuple (no (hv.trans (by decide)))
  .exact IsiPair.str_list (no (hv.trans (by decide)))
 |ref p =>
  cases r1;rcases hv with⟨⟨xs,hq⟩,hb⟩|⟨⟨xs,hq⟩,hb⟩
  .obtain⟨its,_,p',_⟩:=I.list hq;obtain⟨o,n,e,c,_⟩:=p';rcases hT with rfl|rfl|rfl|rfl|rfl
   .exact IsiPair.list_bool e c (no (hb.trans (by decide)))
   .exact IsiPair.list_int e c (no (hb.trans (by decide)))
   .exact IsiPair.list_str e c (no (hb.trans (by decide)))
   .exact IsiPair.list_tuple e c (no (hb.trans (by decide)))
   .exact IsiPair.list_list e c (yes (hb.trans (by decide)))
  .obtain⟨its,_,p',_⟩:=I.tuple hq;obtain⟨o,e,c,_⟩:=p';rcases hT with rfl|rfl|rfl|rfl|rfl
   .exact IsiPair.tuple_bool e c (no (hb.trans (by decide)))
   .exact IsiPair.tuple_int e c (no (hb.trans (by decide)))
   .exact IsiPair.tuple_str e c (no (hb.trans (by decide)))
   .exact IsiPair.tuple_tuple e c (yes (hb.trans (by decide)))
   .exact IsiPair.tuple_list e c (no (hb.trans (by decide)))
 |byt c=>exact hv.elim
 |flt c=>exact hv.elim
 |ty c=>exact hv.elim
end

section
variable {X:Cx}
end
structure aM(K:PySem.W.Frag)(mg:Str->Option B5)(x:Str)(st:Stmt)(ps:List Str)(f:Addr)(fd:Cf):Prop where
 fn:Fun K x x st f fd
 bd:jQ K fd ps []
 mg:mg x=some (.ref f)
 ba:∀us:List B5,us.length=ps.length->FA fd ⟨us,[]⟩=pure (ps.zip us)
section
variable {X:Cx}{x:Str}{st:Stmt}{ps:List Str}{f:Addr}{fd:Cf}{k:Nat}{sp:Sp}{e:Expr}{es:List Expr}{t:TA}{p pos:Pos}
theorem aq(D:aM X.K X.mg x st ps f fd)(G:aS X.prog X.w X.K X.mg X.base CX0 k f fd ps sp)(hr:dB k X.A)(hg:Gl X x)(ha:PA X (e::es) t)(hd:(x==("__debug__" : Str))=false:=by decide)
  (he:CJ (e::es) X.env=(false,eval e X.env)::CJ es X.env:=by rfl)(hpl:(EK pos (CJ es X.env)).any (·.1)=false:=by rfl):PE X (.Call (.Name x p) (e::es) [] pos) (wt sp [] E0 t):=vC G hr hg D.mg D.fn.kp D.bd .nil zL ha hd he hpl
theorem yK{K:PySem.W.Frag}{h:Heap}{mg:Str->Option B5}(KX:K.In h)(G:h.Ns Db mg){od an:Option Addr}{sl:Array (Option B5)}{oc kV dc pm cd ct:B5}(a:PySem.W.nsIn K Db x=some (some (.ref f)))
  (l:K.lookup f=some ⟨oc,od,.func (PySem.W.fnOf x x (cA st) (cc st) (aw st) .none kV dc pm an cd ct),sl⟩)(c:PySem.W.codeIn K cd x=true)(k:PySem.W.keepIn K (.ref f)=true)
  (b:∀(kV doc pm:B5) (an:Option Addr) (cdv ct:B5) (us:List B5),us.length=ps.length->FA (PySem.W.fnOf x x (cA st) (cc st) (aw st) .none kV doc pm an cdv ct) ⟨us,[]⟩=pure (ps.zip us)) :
  aM K mg x st ps f (PySem.W.fnOf x x (cA st) (cc st) (aw st) .none kV dc pm an cd ct):=
 ⟨xN l c k,(xN l c k).binds b,PySem.W.mg_of KX G a,λus hl=>b _ _ _ _ _ _ us hl⟩
end

theorem bQ{t u:TS}{D:hJ}{σ:St}{H:Hp}(Mid:St->Hp->Prop)(h2:∀σ' H',Mid σ' H'->u D σ' H')(h1:(∀σ' H',Mid σ' H'->u D σ' H')->t { D with nx:=u D } σ H):Ay t u D σ H:=h1 h2

def d6:List V->List V->Bool
 |[],[]=>true
 |a::r,b::s=>eqV a b&&d6 r s
 |_,_=>false
theorem oS:∀{xs ys:List V},xs.length≠ys.length->d6 xs ys=false
 |[],[],h=>absurd rfl h
 |[],_::_,_=>rfl
 |_::_,[],_=>rfl
 |a::r,b::s,h=>by
  show(eqV a b&&d6 r s)=false;rw[oS (xs:=r) (ys:=s) (λe=>h (by rw[CA,CA,e])),Bool.and_false]
theorem lH:∀{xs ys:List V},xs.length=ys.length->(DF xs.length).all (λj=>eqV ((xs[j]?).getD .non) ((ys[j]?).getD .non))=d6 xs ys
 |[],[],_=>rfl
 |[],_::_,h=>by simp at h
 |_::_,[],h=>by simp at h
 |a::r,b::s,h=>by
  have ih:=lH (xs:=r) (ys:=s) (by simpa using h);rw[CA,List.range_succ_eq_map,Fc,List.all_map];show(eqV a b&&_)=(eqV a b&&d6 r s);rw[<-ih];rfl
theorem yL:∀{x:V},cL x=true->eqV x x=true:=by
 intro x f;cases x with
 |non=>rfl
 |bl b=>show(b==b)=true;simp
 |int i=>show(i==i)=true;simp
 |str s=>show(s==s)=true;simp
 |_=>exact absurd (show false=true from f) Cm
theorem rL:∀{xs:List V},xs.all cL=true->d6 xs xs=true
 |[],_=>rfl
 |a::r,h=>by
  rw[Fc,Ei]at h;show(eqV a a&&d6 r r)=true;rw[yL h.1,rL h.2];rfl
section
variable {X:Cx}
theorem tS{xs:List V}(f:xs.all cL=true){j:Nat}{x:V}(h:xs[j]?=some x):cL x=true:=List.all_eq_true.mp f x (Cg h)
theorem oU{A:CY}{s:B9}{xs ys:List V}{its its2:List B5}(r:aP xs its)(r2:aP ys its2)(fx:xs.all cL=true)(fy:ys.all cL=true)(j:Nat)(h1:j<its.toArray.size)(h2:j<its2.toArray.size) :
  FN A s its.toArray[j] its2.toArray[j] (eqV ((xs[j]?).getD .non) ((ys[j]?).getD .non)):=by
 have l1:=r.length;have l2:=r2.length;have h1':j<its.length:=by simpa using h1
 have h2':j<its2.length:=by simpa using h2
 have e1:xs[j]?=some xs[j]:=c7 (by omega);have e2:ys[j]?=some ys[j]:=c7 (by omega);obtain⟨u,hu,ru⟩:=r.get e1;obtain⟨v,hv,rv⟩:=r2.get e2;have eu:its.toArray[j]=u:=by
  have:its[j]?=some its[j]:=c7 h1';rw[hu]at this;simpa using this.symm
 have ev:its2.toArray[j]=v:=by
  have:its2[j]?=some its2[j]:=c7 h2';rw[hv]at this;simpa using this.symm
 rw[eu,ev,e1,e2];exact xJ ru rv (tS fx e1) (tS fy e2)
def BY(K:PySem.W.Frag)(neg:Bool):R2:=λx y H Q=>∃a b xs ys,x=.ref a/\y=.ref b/\SqL K H a xs/\SqL K H b ys/\xs.all cL=true/\ys.all cL=true/\Q (.bl (if neg then !d6 xs ys else d6 xs ys)) H
theorem xP(hu:X.A.units<Fy):OpR X (C7 .NotEq) (BY X.K true):=by
 intro pins s σ H x y v u Q I rx ry h;obtain⟨a,b,xs,ys,rfl,rfl,ha,hb,fx,fy,q⟩:=h;cases rx;cases ry;obtain⟨its,r,p,z⟩:=I.list ha;obtain⟨its2,r2,p2,z2⟩:=I.list hb;have l1:=r.length;have l2:=r2.length;by_cases hl:xs.length=ys.length
 .refine SeqAt.RcNeAt.lists (e:=λj=>eqV ((xs[j]?).getD .non) ((ys[j]?).getD .non)) p.isList p2.isList (by simp;omega) hu (λj h1 h2=>oU r r2 fx fy j h1 h2) _ _ _ _ ⟨.bl _,H,I,rfl,?_⟩;have e:its.toArray.size=xs.length:=by simp;omega
  rw[e,lH hl];exact q
 .refine SeqAt.RcNeAt.lists_lengths p.isList p2.isList (by simp;omega) hu _ _ _ _ ⟨.bl true,H,I,rfl,?_⟩;have q':Q (.bl (!d6 xs ys)) H:=q;rw[oS hl]at q';exact q'

theorem yM(hc:X.calm=true):dr X (.builtin "all") (λxs H Q=>∃(l:Addr) (bs:List Bool),xs=[.ref l]/\SqL X.K H l (bs.map V.bl)/\Q (.bl (bs.all id)) H):=by
 intro pins s σ H xs us Q I r h;obtain⟨l,bs,rfl,hl,q⟩:=h;obtain⟨u,rfl,ru⟩:=eA r;cases ru;obtain⟨its,rv,p,z⟩:=I.list hl;have hlt:l<s.heap.objs.size:=by obtain⟨_,_,e,_⟩:=p;exact Cc e
 have len:=rv.length;refine call_all_walk (Ec p.isList ?_);refine⟨s.heap.objs.size,[s.heap.objs.size,l],[s.heap.objs.size],its.toArray.size,_,_,λi=>(bs[i]?).getD true,rfl,FO (A:=X.A.in1) (I.ok.hd hc) _ l (Cn hlt) its.toArray,
  ⟨⟨_,Cu _ rfl,rfl,rfl⟩,p.isList.push _⟩,λi v s' Q' E' hP hQ=>?_,λh' tk hk=>?_⟩
 .have hi:its[i]?=some v:=by simpa using hP
  have hlt2:i<bs.length:=by
   have:=(List.getElem?_eq_some_iff.mp hi).1;rw[B3]at len;omega
  have eb:(bs.map V.bl)[i]?=some (V.bl bs[i]):=by rw[B_,c7 hlt2];rfl
  obtain⟨w',hw,rw'⟩:=rv.get eb;rw[hi]at hw;cases hw;cases rw';have e2:(bs[i]?).getD true=bs[i]:=by rw[c7 hlt2];rfl
  have hQ2:Q' ((bs[i]?).getD true) s':=hQ;rw[e2]at hQ2;exact Dc hQ2
 .have e:((DF its.toArray.size).all λi=>(bs[i]?).getD true)=bs.all id:=by
   have:its.toArray.size=bs.length:=by rw[B3]at len;simp;omega
   rw[this];exact LSm.range_all bs
  rw[e];exact⟨.bl _,H,I.kept λb x e=>hk b x (λhm=>by rw[List.mem_singleton.mp hm]at e;exact CI _ (Cc e)) (Cd _ e),rfl,q⟩

end


section
variable {X:Cx}{o i:Expr}{pos:Pos}{td ty:TE}
end

section
variable {P:CK}{w:CG}{K:PySem.W.Frag}{mg:Str->Option B5}{base:Heap}{N:List Str}{qual:Str}{scope:Scope}{f:Addr}{cd:B5}{A:CY}{outer:List Env}{s:B9}{H:Hp}{E:XK}
end

section
variable {X:Cx}{E:XK}{c:Str}{C:Addr}{e:Expr}{es:List Expr}{t:TA}{np cpos pos:Pos}
end
section
variable {X:Cx}{k:Nat}{f T:Addr}{fd:Cf}{ps:List Str}{sp:Sp}{fx c:Str}{st:Stmt}{e:Expr}{es:List Expr}{t:TA}{b₀:Stmt}{suite:List Stmt}{th:TS}{np pf cpos apos hpos pos:Pos}
end
end L2

set_option maxHeartbeats 4000000
namespace L2
open PySem PySem.Spec PyProof.Rows Tl

section
variable {X:Cx}
end

theorem Inv.track{X:Cx}{pins:List (Addr×Obj)}{σ:St}{H:Hp}{s:B9}{D:Addr}{o:HO}(I:Inv X pins σ H s)(hn:H D=none)(hnew:X.s₀.heap.objs.size<=D)(hL:D≠X.env.locals)(hc:∀x c,X.env.cells.lookup x=some c->c≠D)(hp:∀p∈X.pn++pins,p.1≠D)
  (ok:d9 X.prog X.w (upd H D o) s.heap D o):Inv X pins σ (upd H D o) s:=by
 have ne:∀b u,H b=some u->b≠D:=λb u q=>bR q hn;refine⟨I.ok,I.os,I.bare,⟨I.base.keep,I.base.slot,λb o q nn hx=>?_,I.base.there,λb xs q=>?_,λb o u q=>?_,λb ps q=>?_⟩,I.loc,I.cell,?_,λx c q=>?_,λp hq=>?_,λb u q=>?_,I.len⟩
 .rw[aK (Cn (B7 (Cc q) hnew))];exact I.base.free b o q nn hx
 .have z:=I.base.tups b xs q;rw[aK (ne b _ z)];exact z
 .have z:=I.base.frzs b o u q;rw[aK (ne b _ z)];exact z
 .obtain⟨more,z⟩:=I.base.tbls b ps q;exact⟨more,by rw[aK (ne b _ z)];exact z⟩
 .rw[aK (CO hL)];exact I.free
 .rw[aK (hc x c q)];exact I.freeC x c q
 .obtain⟨a1,a2,a3⟩:=I.pin p hq;exact⟨a1,by rw[aK (hp p hq)];exact a2,a3⟩
 .by_cases hb:b=D
  .subst hb;rw[ah]at q;cases q;exact ok
  .rw[aK hb]at q;exact(I.hok b u q).stay (λc v _ r=>r) (λc r=>by rw[aK (ne c _ r)];exact r) λc xs r=>by rw[aK (ne c _ r)];exact r
def Ite(K:PySem.W.Frag)(a:Addr):It:=
 ⟨λi H=>∃xs x,SqL K H a xs/\xs[i]?=some x,λi H x H'=>∃p,H p=none/\x=.ref p/\∀xs y,SqL K H a xs->xs[i]?=some y->H'=upd H p (.tup [.int (i:Int),y]),λi H=>∃xs,SqL K H a xs/\xs.length<=i⟩
theorem xQ{P:CK}{w:CG}{K:PySem.W.Frag}{elts:List Expr}{k1}{tp:Pos}(a e it:Addr)(hei:e≠it):oN P w K (.Tuple elts k1 tp) (Ite K a) [e,it] e (λi h=>(∃old,IsEnum h e it (i:Nat) old)/\h.IsListIter it a i) where
 mem:=by simp
 obj:=λi h st b hb=>by
  have hb':b=e\/b=it:=by simpa using hb
  rcases hb' with rfl|rfl
  .obtain⟨⟨old,h1⟩,_⟩:=st;exact⟨_,h1,λv z=>by cases z⟩
  .obtain⟨_,o,h1,c,d⟩:=st;exact⟨o,h1,λv z=>by rw[d]at z;cases z⟩
 keep:=λi h h' st k=>⟨let⟨old,h1⟩:=st.1;⟨old,k e (by simp) _ h1⟩,st.2.at λo h1=>k it (by simp) o h1⟩
 item:=by
  intro X hP hw hK hc i pins s σ H E I hf st hg;subst hP hw hK;obtain⟨xs,x,hq,hx⟩:=hg;obtain⟨its,rv,p,hz⟩:=I.list hq;obtain⟨u,hu,ru⟩:=rv.get hx;obtain⟨f0,f1,f2,f3,f4,f5⟩:=hf e (by simp);obtain⟨g0,g1,g2,g3,g4,g5⟩:=hf it (by simp);obtain⟨⟨old,he⟩,hit⟩:=st;refine wpAny_pyNext_enum_item he hit p.isList (x:=u) (by simpa using hu) hei λh' heo hit' hT hz' hk=>?_;have kk:∀b o,b∉[e,it]->s.heap.get? b=some o->h'.get? b=some o:=λb o hb q=>hk b o (λz=>hb (by simp[z])) (λz=>hb (by simp[z])) q;have nit:∀b v,H b=some v->b∉[e,it]:=λb v q z=>by
   have z':b=e\/b=it:=by simpa using z
   rcases z' with rfl|rfl
   .rw[f0]at q;cases q
   .rw[g0]at q;cases q
  have I1:Inv X pins σ H { s with heap:=h',toks:=s.toks+1 }:=by
   refine I.step (g':=s.gens) (d':=s.drawn) (ch:=[e,it]) (λb hb=>?_) (λb o _ _ hb q _=>kk b o hb q) (λb o _ _ hb q _=>⟨o.slots,kk b o hb q⟩) (λ_ _ _ _ n=>n)
    (λb o hb q=>⟨o,kk b o hb q⟩) (λ_ _ q=>q) (λ_ _ _ q=>q) (λb ps q=>⟨#[],by rw[q];simp⟩) (λm hm=>?_) (λb v q=>?_) I.bare
   .have z':b=e\/b=it:=by simpa using hb
    rcases z' with rfl|rfl
    .exact⟨f3,f1,f4,f5⟩
    .exact⟨g3,g1,g4,g5⟩
   .obtain⟨o,es,ep,ho,r⟩:=hm;exact⟨o,es,ep,kk _ o (λz=>by
     have z':X.env.locals=e\/X.env.locals=it:=by simpa using z
     rcases z' with z'|z'
     .exact f1 z'.symm
     .exact g1 z'.symm) ho,r⟩
   .refine(I.hok b v q).stay (λc o hc r=>kk c o ?_ r) (λ_ r=>r) λ_ _ r=>r;rcases hc with rfl|hc
    .exact nit _ _ q
    .exact nit _ _ hc
  have hsz:s.heap.objs.size<h'.objs.size:=by rw[hz'];exact Dp _
  have hTn:H s.heap.objs.size=none:=I.fresh;have elt:e<s.heap.objs.size:=Cc he;have I2:Inv X pins σ (upd H s.heap.objs.size (.tup [.int (i:Int),x])) { s with heap:=h',toks:=s.toks+1 }:=by
   refine I1.track hTn I.sz (Dl I.lt) (λy c q=>?_) (λp hp=>?_) ⟨by show 2<=Cr;decide,[.int i s.toks,u],.cons ⟨_,rfl⟩ (.cons ru .nil),⟨_,hT,rfl,_,rfl⟩⟩
   .obtain⟨v,q2⟩:=I.cell y c q;exact Cn q2.lt
   .exact Cn (Cc (I.pin p hp).1)
  refine⟨_,rfl,wpAny_letOwnedTupleGo_enum (s:={ s with heap:=h',toks:=s.toks+1 }) heo λh'' he'' hs''=>?_⟩;have I3:Inv X pins σ (upd H s.heap.objs.size (.tup [.int (i:Int),x])) { s with heap:=h'',toks:=s.toks+1 }:=Inv.turned (s:={ s with heap:=h',toks:=s.toks+1 }) (h':=h'') (t':=s.toks+1) (it:=e) I2 (λb o hb q=>(hs''.2 b hb).trans q) (by rw[aK (Cn elt)];exact f0) f1 f3 f4 f5;refine⟨.ref s.heap.objs.size,_,I3,rfl,⟨_,hTn,rfl,λys y hy hy2=>?_⟩,⟨⟨_,he''⟩,?_⟩,λb hb=>?_⟩
  .rw[I.list_inj hy hq,hx]at hy2;cases hy2;rfl
  .exact hit'.at λo h1=>(hs''.2 it (CO hei)).trans h1
  .have z':b=e\/b=it:=by simpa using hb
   rcases z' with rfl|rfl
   .rw[aK (Cn elt)];exact f0
   .have ilt:b<s.heap.objs.size:=by
     obtain⟨o,h1,_⟩:=hit;exact Cc h1
    rw[aK (Cn ilt)];exact g0
 done:=by
  intro X hP hw hK hc i pins s σ H E I hf st hg;subst hP hw hK;obtain⟨xs,hq,hx⟩:=hg;obtain⟨its,rv,p,hz⟩:=I.list hq;obtain⟨g0,g1,g2,g3,g4,g5⟩:=hf it (by simp);obtain⟨⟨old,he⟩,hit⟩:=st;have hl:=rv.length;exact wpAny_pyNext_enum_end (I.ok.hd hc) he hit p.isList (by simp;omega) λh' eb=>⟨rfl,I.turned (t':=s.toks) (λb o hb e=>eb b o hb e) g0 g1 g3 g4 g5⟩
 self:=λ_ _ _ _ _ st h=>by
  obtain⟨⟨old,he⟩,_⟩:=st;exact wpAny_pyIter_enum he h
section
variable {X:Cx}{elts:List Expr}{k1:Nat}{tp:Pos}
def Bx(K:PySem.W.Frag)(tl:TE):TI:=λσ H R=>tl σ H λx H1=>∃a,x=.ref a/\(∃xs,SqL K H1 a xs)/\R (Ite K a) H1
theorem iN{l:Expr}{k1}{tl:TE}{p pos:Pos}(hg:Gl X "enumerate")(hm:X.mg "enumerate" = none)(hl:PE X l tl)(hs:CJ [l] X.env=[(false,eval l X.env)]:=by rfl):PI X (.Tuple elts k1 tp) (.Call (.Name "enumerate" p) [l] [] pos) (Bx X.K tl):=by
 intro pins s σ H R I h;have ha:PA X [l] (oo tl wn):=aa hl ae hs;refine Call_ (gS I hg hm (by decide +kernel:DR "enumerate" = some (.type "enumerate")) (Dd (thn (ha pos pins s σ H (λvs H1=>match vs with|[x]=>∃a,x=.ref a/\(∃xs,SqL X.K H1 a xs)/\R (Ite X.K a) H1|_=>False) I h) λus s1 ⟨vs,H1,I1,r1,q1⟩=>?_) hs rfl))
 match vs,r1,q1 with
 |[x],r1,q1 =>
 obtain⟨a,rfl,⟨xs,hq⟩,q⟩:=q1;obtain⟨u,rfl,ru⟩:=eA r1;cases ru;obtain⟨its,rv,p,hz⟩:=I1.list hq;refine call_enumerate_list p.isList λh' he hit hz' hk=>?_;refine wpAny_pyIter_enum he ?_;refine⟨s1.heap.objs.size+1,[s1.heap.objs.size+1,s1.heap.objs.size],_,_,H1,rfl,I1.kept (t':=s1.toks) hk,xQ a _ _ (Nat.succ_ne_self _),⟨⟨_,he⟩,hit⟩,λb hb=>?_,q⟩;have z':b=s1.heap.objs.size+1\/b=s1.heap.objs.size:=by simpa using hb
 have I2:=I1.kept (h':=h') (t':=s1.toks) hk;rcases z' with rfl|rfl
 .exact I1.fpOk (Ew _) (I1.hok.fresh (Ew _))
 .exact I1.fpOk (B4 _) (I1.hok.fresh (B4 _))
end
theorem gk{K:PySem.W.Frag}{a:Addr}{xs:List V}{g:TG}{tb:TS}{D:hJ}{σ:St}{H:Hp}(Pv:Nat->St->Hp->Prop)(h0:Pv 0 σ H)(hl:∀i σ H,i<=xs.length->Pv i σ H->SqL K H a xs)
  (hs:∀i x σ H p,xs[i]?=some x->Pv i σ H->H p=none->g (.ref p) σ (upd H p (.tup [.int (i:Int),x])) λσ2 H2=>tb { D with nx:=Pv (i+1),ct:=Pv (i+1),bk:=D.nx } σ2 H2)(hd:∀σ H,Pv xs.length σ H->D.nx σ H) :
  ∃W:Nat->Nat->St->Hp->Prop,(∃m,W 0 m σ H)/\∀i m σ H,W i m σ H->
   ((Ite K a).stop i H/\D.nx σ H)\/((Ite K a).go i H/\∃N:St->Hp->Prop,(∀σ' H',N σ' H'->∃m',m'<m/\W (i+1) m' σ' H')/\∀x H',(Ite K a).yld i H x H'->g x σ H' λσ2 H2=>tb { D with nx:=N,ct:=N,bk:=D.nx } σ2 H2):=by
 refine⟨λi m σ H=>m=xs.length-i/\i<=xs.length/\Pv i σ H,⟨xs.length,by simp,Cv _,h0⟩,?_⟩;rintro i m σ H ⟨rfl,hi,p⟩;have q:=hl i σ H hi p;by_cases hlt:i<xs.length
 .refine .inr ⟨⟨xs,xs[i],q,by simp[hlt]⟩,Pv (i+1),λσ' H' p'=>⟨xs.length-(i+1),by omega,rfl,hlt,p'⟩,λx H' y=>?_⟩;obtain⟨t,ht,e,y⟩:=y;subst e;have e2:=y xs xs[i] q (by simp[hlt]);subst e2;exact hs i xs[i] σ H t (by simp[hlt]) p ht
 .have e:i=xs.length:=by omega
  subst e;exact .inl ⟨⟨xs,q,B4 _⟩,hd σ H p⟩

section
variable {X:Cx}{tg:Expr}
end
theorem tT{X:Cx}(hu:X.A.units<Fy):OpR X (C7 .Eq) (λx y H Q=>∃a b xs,x=.ref a/\y=.ref b/\SqL X.K H a xs/\SqL X.K H b []/\Q (.bl xs.isEmpty) H):=by
 intro pins s σ H x y v u Q I rx ry h;obtain⟨a,b,xs,rfl,rfl,ha,hb,q⟩:=h;cases rx;cases ry;obtain⟨its,r,p,z⟩:=I.list ha;obtain⟨its2,r2,p2,z2⟩:=I.list hb;have l1:=r.length;have l2:=r2.length;cases xs with
 |nil =>
  refine SeqAt.eq_listAt (e:=λ_=>true) p.isList p2.isList (by simp at l1 l2⊢;omega) hu (λj h1 h2=>absurd h1 (by simp at l1⊢;omega)) ⟨.bl _,H,I,rfl,?_⟩;have e:its.toArray.size=0:=by rw[Ci];exact l1.symm
  rw[e];exact q
 |cons x r=>exact SeqAt.eq_list_lengthsAt p.isList p2.isList (by simp at l1 l2⊢;omega) hu ⟨.bl false,H,I,rfl,q⟩
theorem yN{X:Cx}:OpR X (Eg .FloorDiv) (rI (λ_ j=>0<j/\j.natAbs.log2<9000) λi j=>.int (i/j)):=opI λi j _ _ _ _ _ hc q=>by
 have h1:(0:Int)<j:=hc.1;exact floordiv_int (by omega) (by rw[Int.fdiv_eq_ediv_of_nonneg i (by omega)];exact q) (.inl (PyProof.noPylong_of_log2 hc.2))
end L2

namespace L2
open PySem PySem.Spec PyProof.Rows

section
variable {X:Cx}
theorem tU{xs ys:List V}:((DF (min xs.length ys.length)).all (λj=>eqV ((xs[j]?).getD .non) ((ys[j]?).getD .non))&&(xs.length==ys.length))=d6 xs ys:=by
 by_cases hl:xs.length=ys.length
 .rw[<-hl,Nat.min_self,lH hl];simp
 .rw[oS hl];simp[hl]
def AQ(K:PySem.W.Frag)(neg:Bool):R2:=λx y H Q=>∃a b xs ys,x=.ref a/\y=.ref b/\SqT K H a xs/\SqT K H b ys/\xs.all cL=true/\ys.all cL=true/\Q (.bl (if neg then !d6 xs ys else d6 xs ys)) H
theorem pY(hu:X.A.units<Fy):OpR X (C7 .Eq) (AQ X.K false):=by
 intro pins s σ H x y v u Q I rx ry h;obtain⟨a,b,xs,ys,rfl,rfl,ha,hb,fx,fy,q⟩:=h;cases rx;cases ry;obtain⟨its,r,p,z⟩:=I.tuple ha;obtain⟨its2,r2,p2,z2⟩:=I.tuple hb;have l1:=r.length;have l2:=r2.length;refine SeqAt.eq_tupleAt (e:=λj=>eqV ((xs[j]?).getD .non) ((ys[j]?).getD .non)) p p2 hu (λj h1 h2=>oU r r2 fx fy j h1 h2) ⟨.bl _,H,I,rfl,?_⟩;have e1:its.toArray.size=xs.length:=by simp;omega
 have e2:its2.toArray.size=ys.length:=by simp;omega
 rw[e1,e2,tU];exact q
theorem xR(hu:X.A.units<Fy):OpR X (C7 .NotEq) (AQ X.K true):=by
 intro pins s σ H x y v u Q I rx ry h;obtain⟨a,b,xs,ys,rfl,rfl,ha,hb,fx,fy,q⟩:=h;cases rx;cases ry;obtain⟨its,r,p,z⟩:=I.tuple ha;obtain⟨its2,r2,p2,z2⟩:=I.tuple hb;have l1:=r.length;have l2:=r2.length;refine SeqAt.RcNeAt.tuples (e:=λj=>eqV ((xs[j]?).getD .non) ((ys[j]?).getD .non)) p p2 hu (λj h1 h2=>oU r r2 fx fy j h1 h2) _ _ _ _ ⟨.bl _,H,I,rfl,?_⟩;have e1:its.toArray.size=xs.length:=by simp;omega
 have e2:its2.toArray.size=ys.length:=by simp;omega
 rw[e1,e2,tU];exact q
theorem ak{H:Hp}{p:Addr}(h:H p=none)(o:HO):av H (upd H p o):=λb u q=>by rw[aK (bR q h)];exact q
theorem av.tup{K:PySem.W.Frag}{H H':Hp}{a:Addr}{xs:List V}(e:av H H')(h:SqT K H a xs):SqT K H' a xs:=by
 rcases h with(h|⟨o,h⟩)|h
 .exact .inl (.inl (e _ _ h))
 .exact .inl (.inr ⟨o,e _ _ h⟩)
 .exact .inr h
theorem SqT.lst{K:PySem.W.Frag}{H:Hp}{a l:Addr}{xs ys zs:List V}(e:H l=some (.lst ys))(h:SqT K H a xs):SqT K (upd H l (.lst zs)) a xs:=by
 rcases h with(h|⟨o,h⟩)|h
 .exact .inl (.inl (by rw[aK (zI h e (λz=>nomatch z))];exact h))
 .exact .inl (.inr ⟨o,by rw[aK (zI h e (λz=>nomatch z))];exact h⟩)
 .exact .inr h
def xS(K:PySem.W.Frag):Sp:=λvs H Q _=>∃(a:Addr) (ns:List Int),vs=[.ref a]/\SqL K H a (ns.map V.int)/\ns.length<=63/\∀H',Q (.bl true) H'
theorem bi{n:Nat}(h:n<=1000):n<=Cr:=EW (xO h)
theorem d0{n:Nat}(h:n<=1000000):n<=Cr:=Ds h (by decide)
theorem le1:1<=Cr:=by decide
theorem le2:2<=Cr:=by decide
theorem le4:4<=Cr:=by decide
theorem bB{i j:Int}:(decide (V.int i=V.int j)=true)↔i=j:=by simp
theorem pZ{i j:Int}:(¬ decide (V.int i=V.int j)=true)↔i≠j:=by simp
theorem b4{a:Prop}{_inst:Decidable a}{X A B:Prop}(hb:¬ a->B)(hx:a->X):if a then X else(if false=true then A else B):=by
 by_cases h:a
 .rw[if_pos h];exact hx h
 .rw[if_neg h];exact hb h
theorem mY{a:Prop}{_inst:Decidable a}{X A B:Prop}(hb:B)(hx:a->B->X):if a then X else(if false=true then A else B):=by
 by_cases h:a
 .rw[if_pos h];exact hx h hb
 .rw[if_neg h];exact hb
theorem orG{a:Prop}{_inst:Decidable a}{X A B:Prop}(ha:a->A)(hx:¬ a->X):if a then(if true=true then A else B)else X:=by
 by_cases h:a
 .rw[if_pos h];exact ha h
 .rw[if_neg h];exact hx h
theorem yO(n:Int)(ns:List Int):(ns.map V.int)++[V.int n]=(ns++[n]).map V.int:=by simp
end
end L2

namespace HT
open PySem PyProof.Rows
section
open PySem.SeqAt
open PySem.AutoSeq1 (wpAny_loadPart')
open PySem.MeetsSeq PySem.MeetsSeq2 PySem.MeetsSeq3

def lexLtE:List Int->List Int->Bool
 |[],[]=>true
 |[],_::_=>true
 |_::_,[]=>false
 |x::xs,y::ys=>if x=y then lexLtE xs ys else decide (x<=y)
theorem xT(A:CY)(s:B9)(a:Int)(t:Tok)(c:Int)(u:Tok)(prog:CK)(w:CG)(E:B5->B9->Prop)(Q:B5->B9->Prop)(h:Q (.bool (decide (a<=c))) s) :
  Cz (CF prog w) A (D0 .LtE (.int a t) (.int c u)) Q E s:=
 (PyProof.Rows.le_int h:Cz (CF prog w) A (C7 .LtE (.int a t) (.int c u)) Q E s)
theorem r9(l b:Addr)(items items2:Array B5)(n n2:Nat)(dd dd2:Option Addr)(sl sl2:Array (Option B5))(ns ms:List Int)(hi:Dz items.toList ns)(hj:Dz items2.toList ms) :
  Meets (F0.«tuple.__le__» ⟨[.ref l,.ref b],[]⟩)
   (fun _ R s=>s.heap.get? l=some { cls:=.type "tuple",dict:=dd,data:=.seq items n,slots:=sl }∧s.heap.get? b=some { cls:=.type "tuple",dict:=dd2,data:=.seq items2 n2,slots:=sl2 } ∧
    R (.ok (.ret (.bool (lexLtE ns ms)))) s):=
 .of_wp λprog w A R s h=>by
  obtain⟨hp,g,d,tk,os⟩:=s;obtain⟨hl,hb,h⟩:=h;have f2:=AutoSeq1.sub_tuple_tuple;have z1:items.size=ns.length:=by rw[<-hi.length];simp
  have z2:items2.size=ms.length:=by rw[<-hj.length];simp
  wp_walk using D8 hl,D8 hb,wpAny_forIn_list _ (λd5 b s'=>b.1=none/\s'=⟨hp,g,d,tk,os⟩/\∃(vs ws:List B5) (ns' ms':List Int),d5=vs.zip ws/\
   Dz vs ns'/\Dz ws ms'/\ns'.length+items2.size=ms'.length+items.size/\R (.ok (.ret (.bool (lexLtE ns' ms')))) ⟨hp,g,d,tk,os⟩) _
  case turn =>
   rintro⟨y,x⟩ d5 b s' ⟨hb',rfl,vs,ws,ns',ms',hz,hvi,hwi,hlen,hR⟩;cases hvi with
   |nil=>rw[List.zip_nil_left]at hz;cases hz
   |cons a t hvi' =>
    cases hwi with
    |nil=>rw[List.zip_nil_right]at hz;cases hz
    |cons c u hwi' =>
     rw[Es]at hz;injection hz with hyx hrest;injection hyx with hy hx;subst hy hx;rw[lexLtE]at hR;simp only[CA]at hlen;obtain⟨e,he,hiff⟩:=tG A.in1 ⟨hp,g,d,tk,os⟩ a t c u;refine B8 (he prog w _ _ ?_);cases e with
     |true =>
      rw[if_pos (hiff.mp rfl)]at hR
      wp_walk
      exact⟨rfl,rfl,_,_,_,_,hrest,hvi',hwi',by omega,hR⟩
     |false =>
      rw[if_neg (λq=>absurd (hiff.mpr q) Cm)]at hR;have hri:=xT A.in1 ⟨hp,g,d,tk,os⟩ a t c u prog w
      wp_walk using hri
      exact⟨_,rfl,by simpa using hR⟩
  case fin =>
   rintro⟨b1,b2⟩ s' ⟨hb',rfl,vs,ws,ns',ms',hz,hvi,hwi,hlen,hR⟩;simp only at hb';subst hb';have hv:lexLtE ns' ms'=decide (items.size<=items2.size):=by
    cases hvi with
    |nil =>
     cases hwi with
     |nil =>
      simp only[DG]at hlen;show true=_;exact(decide_eq_true (by omega)).symm
     |cons c u hw =>
      simp only[DG,CA]at hlen;show true=_;exact(decide_eq_true (by omega)).symm
    |cons a t hv =>
     cases hwi with
     |nil =>
      simp only[DG,CA]at hlen;show false=_;exact(decide_eq_false (by omega)).symm
     |cons c u hw =>
      rw[Es]at hz;cases hz
   rw[hv]at hR
   wp_walk
   exact⟨_,rfl,by simpa[Builtin.Tuple.tupleCompareSizes]using hR⟩
  case h =>
   exact⟨rfl,rfl,items.toList,items2.toList,ns,ms,rfl,hi,hj,by omega,h⟩
theorem le_tupInts{prog:CK}{w:CG}{A:CY}{E:B5->B9->Prop}{s:B9}{l b:Addr}{items items2:Array B5}{ns ms:List Int}{Q:B5->B9->Prop}(hl:IsTup s.heap l items)(hb:IsTup s.heap b items2)(hi:Dz items.toList ns)(hj:Dz items2.toList ms)
  (hu:A.units<Fy)(h:Q (.bool (lexLtE ns ms)) s):Cz (CF prog w) A (C7 .LtE (.ref l) (.ref b)) Q E s:=by
 obtain⟨⟨cls,dd,data,sl⟩,ho,hc,n,hd⟩:=id hl;obtain⟨⟨cls2,dd2,data2,sl2⟩,ho2,hc2,n2,hd2⟩:=id hb;simp only at hc hd hc2 hd2;subst hc hd hc2 hd2;exact richCompare_meets_room (op:=.LtE) ⟨_,ho,rfl⟩ ⟨_,ho2,rfl⟩ PySem.F.slot_tuple_le PySem.F.entry_tuple_le (PySem.F.args_tuple_le_2 _ _) (r9 l b items items2 n n2 dd dd2 sl sl2 ns ms hi hj)
  ⟨ho,ho2,show FK (lexLtE ns ms)≠Value.notImplemented/\Q (.bool (lexLtE ns ms)) s from⟨(λx=>nomatch x),h⟩⟩ hu

def lexGt:List Int->List Int->Bool
 |[],[]=>false
 |[],_::_=>false
 |_::_,[]=>true
 |x::xs,y::ys=>if x=y then lexGt xs ys else decide (y<x)
theorem yP(A:CY)(s:B9)(a:Int)(t:Tok)(c:Int)(u:Tok)(prog:CK)(w:CG)(E:B5->B9->Prop)(Q:B5->B9->Prop)(h:Q (.bool (decide (c<a))) s) :
  Cz (CF prog w) A (D0 .Gt (.int a t) (.int c u)) Q E s:=
 (PyProof.Rows.gt_int h:Cz (CF prog w) A (C7 .Gt (.int a t) (.int c u)) Q E s)
theorem r_(l b:Addr)(items items2:Array B5)(n n2:Nat)(dd dd2:Option Addr)(sl sl2:Array (Option B5))(ns ms:List Int)(hi:Dz items.toList ns)(hj:Dz items2.toList ms) :
  Meets (F0.«tuple.__gt__» ⟨[.ref l,.ref b],[]⟩)
   (fun _ R s=>s.heap.get? l=some { cls:=.type "tuple",dict:=dd,data:=.seq items n,slots:=sl }∧s.heap.get? b=some { cls:=.type "tuple",dict:=dd2,data:=.seq items2 n2,slots:=sl2 } ∧
    R (.ok (.ret (.bool (lexGt ns ms)))) s):=
 .of_wp λprog w A R s h=>by
  obtain⟨hp,g,d,tk,os⟩:=s;obtain⟨hl,hb,h⟩:=h;have f2:=AutoSeq1.sub_tuple_tuple;have z1:items.size=ns.length:=by rw[<-hi.length];simp
  have z2:items2.size=ms.length:=by rw[<-hj.length];simp
  wp_walk using D8 hl,D8 hb,wpAny_forIn_list _ (λd5 b s'=>b.1=none/\s'=⟨hp,g,d,tk,os⟩/\∃(vs ws:List B5) (ns' ms':List Int),d5=vs.zip ws/\
   Dz vs ns'/\Dz ws ms'/\ns'.length+items2.size=ms'.length+items.size/\R (.ok (.ret (.bool (lexGt ns' ms')))) ⟨hp,g,d,tk,os⟩) _
  case turn =>
   rintro⟨y,x⟩ d5 b s' ⟨hb',rfl,vs,ws,ns',ms',hz,hvi,hwi,hlen,hR⟩;cases hvi with
   |nil=>rw[List.zip_nil_left]at hz;cases hz
   |cons a t hvi' =>
    cases hwi with
    |nil=>rw[List.zip_nil_right]at hz;cases hz
    |cons c u hwi' =>
     rw[Es]at hz;injection hz with hyx hrest;injection hyx with hy hx;subst hy hx;rw[lexGt]at hR;simp only[CA]at hlen;obtain⟨e,he,hiff⟩:=tG A.in1 ⟨hp,g,d,tk,os⟩ a t c u;refine B8 (he prog w _ _ ?_);cases e with
     |true =>
      rw[if_pos (hiff.mp rfl)]at hR
      wp_walk
      exact⟨rfl,rfl,_,_,_,_,hrest,hvi',hwi',by omega,hR⟩
     |false =>
      rw[if_neg (λq=>absurd (hiff.mpr q) Cm)]at hR;have hri:=yP A.in1 ⟨hp,g,d,tk,os⟩ a t c u prog w
      wp_walk using hri
      exact⟨_,rfl,by simpa using hR⟩
  case fin =>
   rintro⟨b1,b2⟩ s' ⟨hb',rfl,vs,ws,ns',ms',hz,hvi,hwi,hlen,hR⟩;simp only at hb';subst hb';have hv:lexGt ns' ms'=decide (items2.size<items.size):=by
    cases hvi with
    |nil =>
     cases hwi with
     |nil =>
      simp only[DG]at hlen;show false=_;exact(decide_eq_false (by omega)).symm
     |cons c u hw =>
      simp only[DG,CA]at hlen;show false=_;exact(decide_eq_false (by omega)).symm
    |cons a t hv =>
     cases hwi with
     |nil =>
      simp only[DG,CA]at hlen;show true=_;exact(decide_eq_true (by omega)).symm
     |cons c u hw =>
      rw[Es]at hz;cases hz
   rw[hv]at hR
   wp_walk
   exact⟨_,rfl,by simpa[Builtin.Tuple.tupleCompareSizes]using hR⟩
  case h =>
   exact⟨rfl,rfl,items.toList,items2.toList,ns,ms,rfl,hi,hj,by omega,h⟩
theorem gt_tupInts{prog:CK}{w:CG}{A:CY}{E:B5->B9->Prop}{s:B9}{l b:Addr}{items items2:Array B5}{ns ms:List Int}{Q:B5->B9->Prop}(hl:IsTup s.heap l items)(hb:IsTup s.heap b items2)(hi:Dz items.toList ns)(hj:Dz items2.toList ms)
  (hu:A.units<Fy)(h:Q (.bool (lexGt ns ms)) s):Cz (CF prog w) A (C7 .Gt (.ref l) (.ref b)) Q E s:=by
 obtain⟨⟨cls,dd,data,sl⟩,ho,hc,n,hd⟩:=id hl;obtain⟨⟨cls2,dd2,data2,sl2⟩,ho2,hc2,n2,hd2⟩:=id hb;simp only at hc hd hc2 hd2;subst hc hd hc2 hd2;exact richCompare_meets_room (op:=.Gt) ⟨_,ho,rfl⟩ ⟨_,ho2,rfl⟩ PySem.F.slot_tuple_gt PySem.F.entry_tuple_gt (PySem.F.args_tuple_gt_2 _ _) (r_ l b items items2 n n2 dd dd2 sl sl2 ns ms hi hj)
  ⟨ho,ho2,show FK (lexGt ns ms)≠Value.notImplemented/\Q (.bool (lexGt ns ms)) s from⟨(λx=>nomatch x),h⟩⟩ hu

end
end HT

namespace L2
open PySem PySem.Spec PyProof.Rows
section
variable {X:Cx}

def By(K:PySem.W.Frag):R2:=λx y H Q=>∃a b ns ms,x=.ref a/\y=.ref b/\SqT K H a (ns.map V.int)/\SqT K H b (ms.map V.int)/\Q (.bl (HT.lexLtE ns ms)) H
theorem AR(hu:X.A.units<Fy):OpR X (C7 .LtE) (By X.K):=by
 intro pins s σ H x y v u Q I rx ry h;obtain⟨a,b,ns,ms,rfl,rfl,ha,hb,q⟩:=h;cases rx;cases ry;obtain⟨its,r1,p1,_⟩:=I.tuple ha;obtain⟨its2,r2,p2,_⟩:=I.tuple hb;have i1:Dz its.toArray.toList ns:=iC r1;have i2:Dz its2.toArray.toList ms:=iC r2;exact HT.le_tupInts p1 p2 i1 i2 hu ⟨.bl (HT.lexLtE ns ms),H,I,rfl,q⟩

end
end L2

set_option maxHeartbeats 4000000
namespace L2
open PySem PySem.Spec PyProof.Rows Tl
def d7(n:Nat):List Nat:=(Fv 10 n).map Char.toNat
theorem iX(n:Nat):(PySem.Str.ofString (DX ((n:Nat):Int)))=tx (d7 n):=by
 have e:=PySem.W.KIN.signs_num n;rw[zN (PySem.Str.ofString _),e];rfl
theorem p9:∀d:Nat,d<10->(Nat.digitChar d).toNat=d+48:=by decide
theorem fH{n:Nat}(h:n<10):d7 n=[n+48]:=by
 unfold d7;rw[Nat.toDigits_of_lt_base h,DM,p9 n h]
theorem gU{n:Nat}(h:10<=n):d7 n=d7 (n/10)++[n%10+48]:=by
 have hm:n%10<10:=Nat.mod_lt n (by decide);have t:Fv 10 (n/10)++Fv 10 (n%10)=Fv 10 (10*(n/10)+n%10):=Nat.toDigits_append_toDigits (by decide) (by omega) hm;rw[Nat.div_add_mod]at t;unfold d7;rw[<-t,Ch,Nat.toDigits_of_lt_base hm,DM,p9 _ hm]
theorem oV:∀(k n:Nat),n<10^(k+1)->(d7 n).length<=k+1
 |0,n,h=>by
  rw[fH (by simpa using h)];simp
 |k+1,n,h=>by
  by_cases hn:n<10
  .rw[fH hn];simp
  .rw[gU (by omega),Ca,CS];have:=oV k (n/10) (by
    rw[Nat.pow_succ]at h;omega)
   omega
theorem vH:∀(n c:Nat),c∈d7 n->48<=c/\c<=57:=by
 intro n;induction n using Nat.strongRecOn with
 |_ n ih =>
  intro c hc;by_cases h:n<10
  .rw[fH h]at hc;have:c=n+48:=by simpa using hc
   omega
  .rw[gU (by omega)]at hc;rcases List.mem_append.mp hc with hc|hc
   .exact ih (n/10) (by omega) c hc
   .have:c=n%10+48:=by simpa using hc
    omega
theorem oW(n:Nat):1<=(d7 n).length:=by
 by_cases h:n<10
 .rw[fH h];simp
 .rw[gU (by omega),Ca,CS];omega
theorem mZ:∀(m n:Nat),n<=m->(d7 n).length<=(d7 m).length:=by
 intro m;induction m using Nat.strongRecOn with
 |_ m ih =>
  intro n h;by_cases hn:n<10
  .rw[fH hn];exact oW m
  .rw[gU (n:=n) (by omega),gU (n:=m) (by omega),Ca,Ca,CS,CS];have:=ih (m/10) (by omega) (n/10) (by omega);omega
theorem gW{n:Nat}(h:n<10^100):n.log2<1920:=by
 by_cases e:n=0
 .subst e;decide
 .refine(Nat.log2_lt e).mpr (Ej h ?_);decide +kernel
def hU(l:List Nat):Nat:=l.foldl (λacc c=>acc*10+(c-48)) 0
theorem xU(l:List Nat)(c:Nat):hU (l++[c])=hU l*10+(c-48):=by unfold hU;rw[E9];rfl
theorem z3{l:List Nat}(h:l≠[]):∃r c,l=r++[c]:=⟨l.dropLast,l.getLast h,(List.dropLast_concat_getLast h).symm⟩
theorem AS:∀(n:Nat) (l:List Nat),l.length=n->(∀c∈l,48<=c/\c<=57)->hU l<10^n:=by
 intro n;induction n with
 |zero =>
  intro l hl _;rw[DZ hl];decide
 |succ n ih =>
  intro l hl f;obtain⟨r,c,rfl⟩:=z3 (l:=l) (λe=>by rw[e]at hl;cases hl);have hl':r.length=n:=by rw[Ca,CS]at hl;omega
  have:=ih r hl' λd hd=>f d (C9 _ hd);have hc:=f c (by simp);rw[xU,Nat.pow_succ];omega
theorem u1{l:List Nat}(f:∀c∈l,48<=c/\c<=57)(ne:l≠[])(h:l.length<=100):PySem.intText? (tx l)=some ((hU l:Nat):Int):=by
 have e:(tx l).cps.toList=l:=by simp
 have:=PySem.intText_digits (x:=tx l) (by rw[e];exact f) (by rw[e];exact ne) (by rw[bz];omega);rw[e]at this;exact this
theorem qJ{α:Type}(x c:α):∀n:Nat,c∈dD [x] n->c=x
 |0,h=>by simp[dD]at h
 |n+1,h=>by
  rw[gT]at h;rcases List.mem_append.mp h with h|h
  .simpa using h
  .exact qJ x c n h
abbrev pl(x:Int×Int):List V:=[.int x.1,.int x.2]
abbrev fm(w h f m:Int):List V:=[.int w,.int h,.int f,.int m]
structure c_(w h f m:Int):Prop where
 w1:1<=w
 w2:w<=4000
 h1:1<=h
 h2:h<=60
 f1:0<=f
 f2:f<=10^60
 m1:1<=m
 m2:m<=60
def iO(x:Int×Int):Int×Int:=(x.1+1,0)
def lv(h:Int)(x:Int×Int)(k:Int):Int×Int:=if h<=x.2+k then iO x else(x.1,x.2+k)
def bO(f:Int)(x:Int×Int)(l:Int):Int×Int:=if l=4/\(f+x.1)%2=0 then iO x else x
def bc(h f:Int)(x:Int×Int)(l:Int):Int×Int:=if l=0 then x else if l=1 then lv h x 1 else if l=2 then lv h x 2 else bO f (iO x) l
def eZ(h f:Int)(x:Int×Int)(l:Int):Int×Int:=
 if l<2 then((x.1*h+x.2+l)/h,(x.1*h+x.2+l)%h)else if l=2/\x.2+2<h then(x.1,x.2+2)else if l=4/\(f+x.1)%2=1 then(x.1+2,0)else(x.1+1,0)
theorem qK{p r h:Int}(h0:0<=r)(h1:r<h):(p*h+r)/h=p/\(p*h+r)%h=r:=by
 have hh:0<h:=by omega
 constructor
 .rw[Int.add_comm,Int.add_mul_ediv_right _ _ (by omega),Int.ediv_eq_zero_of_lt h0 h1,D4]
 .rw[Int.add_comm,Int.add_mul_emod_self_right,Int.emod_eq_of_lt h0 h1]
theorem xV{h f l:Int}{x:Int×Int}(hx:0<=x.2/\x.2<h)(hl:0<=l/\l<5):eZ h f x l=bc h f x l:=by
 obtain⟨p,r⟩:=x;simp only at hx;unfold eZ bc lv bO iO;dsimp only;by_cases e0:l<2
 .rw[if_pos e0];by_cases e1:l=0
  .have:=qK (p:=p) hx.1 hx.2;rw[if_pos e1,e1,Fw,this.1,this.2]
  .have e2:l=1:=by omega
   rw[if_neg e1,if_pos e2,e2];by_cases e:h<=r+1
   .have e3:p*h+r+1=(p+1)*h+0:=by rw[E_];omega
    have:=qK (p:=p+1) (r:=0) (h:=h) (by omega) (by omega);rw[if_pos e,e3,this.1,this.2]
   .have:=qK (p:=p) (r:=r+1) (h:=h) (by omega) (by omega);rw[if_neg e,Int.add_assoc,this.1,this.2]
 .rw[if_neg e0]
  repeat' split
  all_goals first
   |rfl
   |omega
   |(refine F3 ?_ ?_<;>simp only[]<;>omega)
def az(x y:Int×Int):Bool:=decide (x.1<y.1)||(decide (x.1=y.1)&&decide (x.2<y.2))
theorem bY{x y:Int×Int}:az x y=true↔x.1<y.1\/(x.1=y.1/\x.2<y.2):=by simp[az]
theorem aJ{x y:Int×Int}:az x y=false↔¬ (x.1<y.1\/(x.1=y.1/\x.2<y.2)):=by rw[<-bY];simp
structure bI(h:Int)(x:Int×Int):Prop where
 p1:0<=x.1
 r1:0<=x.2
 r2:x.2<h
theorem cW(h f l p r:Int)(h0:0<=l)(h1:l<=4):∃q s,bc h f (p,r) l=(q,s)/\(l=0/\q=p/\s=r\/l=1/\(h<=r+1/\q=p+1/\s=0\/r+1<h/\q=p/\s=r+1)\/
  l=2/\(h<=r+2/\q=p+1/\s=0\/r+2<h/\q=p/\s=r+2)\/l=3/\q=p+1/\s=0\/l=4/\s=0/\((f+p)%2=1/\q=p+2\/(f+p)%2=0/\q=p+1)):=by
 have hc:l=0\/l=1\/l=2\/l=3\/l=4:=by omega
 rcases hc with rfl|rfl|rfl|rfl|rfl
 .exact⟨p,r,rfl,.inl ⟨rfl,rfl,rfl⟩⟩
 .by_cases c:h<=r+1
  .exact⟨p+1,0,by show(if h<=r+1 then(p+1,(0:Int))else(p,r+1))=_;rw[if_pos c],.inr (.inl ⟨rfl,.inl ⟨c,rfl,rfl⟩⟩)⟩
  .exact⟨p,r+1,by show(if h<=r+1 then(p+1,(0:Int))else(p,r+1))=_;rw[if_neg c],.inr (.inl ⟨rfl,.inr ⟨Int.not_le.mp c,rfl,rfl⟩⟩)⟩
 .by_cases c:h<=r+2
  .exact⟨p+1,0,by show(if h<=r+2 then(p+1,(0:Int))else(p,r+2))=_;rw[if_pos c],.inr (.inr (.inl ⟨rfl,.inl ⟨c,rfl,rfl⟩⟩))⟩
  .exact⟨p,r+2,by show(if h<=r+2 then(p+1,(0:Int))else(p,r+2))=_;rw[if_neg c],.inr (.inr (.inl ⟨rfl,.inr ⟨Int.not_le.mp c,rfl,rfl⟩⟩))⟩
 .exact⟨p+1,0,by show(if(3:Int)=4/\(f+(p+1))%2=0 then(p+1+1,(0:Int))else(p+1,0))=_;rw[if_neg (λz=>absurd z.1 (by decide))],.inr (.inr (.inr (.inl ⟨rfl,rfl,rfl⟩)))⟩
 .by_cases c:(f+(p+1))%2=0
  .exact⟨p+1+1,0,by show(if(4:Int)=4/\(f+(p+1))%2=0 then(p+1+1,(0:Int))else(p+1,0))=_;rw[if_pos ⟨rfl,c⟩],.inr (.inr (.inr (.inr ⟨rfl,rfl,.inl ⟨by omega,by omega⟩⟩)))⟩
  .exact⟨p+1,0,by show(if(4:Int)=4/\(f+(p+1))%2=0 then(p+1+1,(0:Int))else(p+1,0))=_;rw[if_neg (λz=>c z.2)],.inr (.inr (.inr (.inr ⟨rfl,rfl,.inr ⟨by omega,rfl⟩⟩)))⟩
theorem fI(f l p r:Int):∃q s,bO f (p,r) l=(q,s)/\(l=4/\(f+p)%2=0/\q=p+1/\s=0\/(l≠4\/(f+p)%2=1)/\q=p/\s=r):=by
 unfold bO iO;dsimp only
 split
 all_goals exact⟨_,_,rfl,by omega⟩
theorem fA{h f l:Int}{x:Int×Int}(i:bI h x)(h0:0<=l)(h1:l<=4):bI h (bc h f x l):=by
 obtain⟨p,r⟩:=x;obtain⟨a,b,c⟩:=i;simp only at a b c;obtain⟨q,s,e,d⟩:=cW h f l p r h0 h1;rw[e];constructor<;>simp only<;>omega
theorem tV{h f l:Int}{x:Int×Int}(i:bI h x):bI h (bO f x l):=by
 obtain⟨p,r⟩:=x;obtain⟨a,b,c⟩:=i;simp only at a b c;obtain⟨q,s,e,d⟩:=fI f l p r;rw[e];constructor<;>simp only<;>omega
theorem kg{h f l:Int}{x:Int×Int}(i:bI h x)(h0:0<=l)(h1:l<=4):az (bc h f x l) x=false:=by
 obtain⟨p,r⟩:=x;obtain⟨a,b,c⟩:=i;simp only at a b c;obtain⟨q,s,e,d⟩:=cW h f l p r h0 h1;rw[e,aJ];simp only;omega
theorem m3{h f l k:Int}{x y:Int×Int}(i:bI h x)(j:bI h y)(le:az y x=false)(h0:0<=l)(h1:l<=k)(h2:k<=4):az (bc h f y k) (bc h f x l)=false:=by
 obtain⟨p,r⟩:=x;obtain⟨p',r'⟩:=y;obtain⟨a,b,c⟩:=i;obtain⟨a',b',c'⟩:=j;rw[aJ]at le⊢;simp only at a b c a' b' c' le;obtain⟨q,s,e,d⟩:=cW h f l p r h0 (by omega);obtain⟨q',s',e',d'⟩:=cW h f k p' r' (by omega) h2;rw[e,e'];simp only;rcases d with d|d|d|d|d<;>rcases d' with d'|d'|d'|d'|d'<;>omega
theorem iF{f l h:Int}{x:Int×Int}(i:bI h x):az (bO f x l) x=false:=by
 obtain⟨p,r⟩:=x;obtain⟨q,s,e,d⟩:=fI f l p r;rw[e,aJ];simp only;omega
theorem oB{h f l k:Int}{x y:Int×Int}(i:bI h x)(j:bI h y)(le:az y x=false)(h1:l<=k)(h2:k<=4):az (bO f y k) (bO f x l)=false:=by
 obtain⟨p,r⟩:=x;obtain⟨p',r'⟩:=y;obtain⟨a,b,c⟩:=i;obtain⟨a',b',c'⟩:=j;rw[aJ]at le⊢;simp only at a b c a' b' c' le;obtain⟨q,s,e,d⟩:=fI f l p r;obtain⟨q',s',e',d'⟩:=fI f k p' r';rw[e,e'];simp only;rcases d with d|d<;>rcases d' with d'|d'<;>omega
theorem ck(x:Int×Int):az x x=false:=by rw[aJ];omega
inductive Say where
 |text (l:List Nat)
 |page (k:Nat)
 |row (k:Nat)
def lI:Say->List V
 |.text l=>[.str (PySem.Str.ofString "text"),.str (tx l)]
 |.page k=>[.str (PySem.Str.ofString "page"),.int (k:Int)]
 |.row k=>[.str (PySem.Str.ofString "row"),.int (k:Int)]
def ay(h f:Int)(xs:List (Int×Int)):Say->List Nat
 |.text l=>l
 |.page k=>d7 (f+(xs.getD k (0,0)).1).toNat
 |.row k=>d7 ((xs.getD k (0,0)).1*h+(xs.getD k (0,0)).2+1).toNat
def eC(n:Nat):Say->Prop
 |.text l=>1<=l.length/\l.length<=60/\∀c∈l,33<=c/\c<127
 |.page k=>k<n
 |.row k=>k<n
def b_(h:Int)(xs:List (Int×Int)):Prop:=∀x∈xs,bI h x/\x.1<10^60
def aV(K:PySem.W.Frag)(H:Hp)(as:List Addr)(xs:List (Int×Int)):Prop:=as.length=xs.length/\∀(i:Nat) a x,as[i]?=some a->xs[i]?=some x->SqT K H a (pl x)
theorem aV.same{K:PySem.W.Frag}{H H':Hp}{as:List Addr}{xs:List (Int×Int)}(s:av H H')(h:aV K H as xs):aV K H' as xs:=⟨h.1,λi a x e e'=>s.tup (h.2 i a x e e')⟩
theorem aV.lst{K:PySem.W.Frag}{H:Hp}{l:Addr}{ys zs:List V}{as:List Addr}{xs:List (Int×Int)}(e:H l=some (.lst ys))(h:aV K H as xs):aV K (upd H l (.lst zs)) as xs:=⟨h.1,λi a x e1 e'=>SqT.lst e (h.2 i a x e1 e')⟩
theorem aV.nil{K:PySem.W.Frag}{H:Hp}:aV K H [] []:=⟨rfl,λi a x e _=>by simp at e⟩
theorem aV.snoc{K:PySem.W.Frag}{H:Hp}{as:List Addr}{xs:List (Int×Int)}{a:Addr}{x:Int×Int}(h:aV K H as xs)(hx:SqT K H a (pl x)):aV K H (as++[a]) (xs++[x]):=by
 refine⟨by simp[h.1],λi b y e e'=>?_⟩;by_cases hi:i<as.length
 .rw[Ce hi]at e;rw[Ce (by rw[<-h.1];exact hi)]at e';exact h.2 i b y e e'
 .rw[Cj (by omega)]at e;rw[Cj (by rw[<-h.1];omega)]at e';have:i-as.length=0:=by
   rcases Nat.eq_zero_or_pos (i-as.length)with z|z
   .exact z
   .rw[Ea (by simp;omega)]at e;cases e
  rw[this]at e;rw[<-h.1,this]at e';cases e;cases e';exact hx
theorem aV.get{K:PySem.W.Frag}{H:Hp}{as:List Addr}{xs:List (Int×Int)}(h:aV K H as xs){k:Nat}(hk:k<xs.length):∃a,atI (as.map V.ref) (k:Int)=some (V.ref a)/\SqT K H a (pl (xs.getD k (0,0))):=by
 have hk2:k<as.length:=by rw[h.1];exact hk
 refine⟨as[k],cY (by rw[B_,c7 hk2];rfl),?_⟩;rw[B6,c7 hk];exact h.2 k _ _ (c7 hk2) (c7 hk)
theorem b_.get{h:Int}{xs:List (Int×Int)}(o:b_ h xs){k:Nat}(hk:k<xs.length):bI h (xs.getD k (0,0))/\(xs.getD k (0,0)).1<10^60:=by
 rw[B6,c7 hk];exact o _ (CV hk)
theorem lJ{f p:Int}(f1:0<=f)(f2:f<=10^60)(p1:0<=p)(p2:p<10^60):∃n:Nat,f+p=(n:Int)/\n<10^62:=by
 obtain⟨n,hn⟩:=CP (show 0<=f+p by omega);exact⟨n,hn,by omega⟩
theorem oq{h p r:Int}(h1:1<=h)(h2:h<=60)(p1:0<=p)(p2:p<10^60)(r1:0<=r)(r2:r<h):∃n:Nat,p*h+r+1=(n:Int)/\n<10^62:=by
 have a:0<=p*h:=FC p1 (by omega);have b:p*h<=p*60:=Int.mul_le_mul_of_nonneg_left h2 p1;obtain⟨n,hn⟩:=CP (show 0<=p*h+r+1 by omega);exact⟨n,hn,by omega⟩
theorem lx{n:Nat}(h:n<10^62):n<10^100:=Ej h (Nat.pow_lt_pow_right (by decide) (by decide))
theorem da{w h f m:Int}{xs:List (Int×Int)}{s:Say}(fo:c_ w h f m)(po:b_ h xs)(so:eC xs.length s):1<=(ay h f xs s).length/\(ay h f xs s).length<=62/\∀c∈ay h f xs s,33<=c/\c<127:=by
 cases s with
 |text l=>exact⟨so.1,by have:=so.2.1;show l.length<=62;omega,so.2.2⟩
 |page k =>
  obtain⟨i,b⟩:=po.get so;obtain⟨n,e,hn⟩:=lJ fo.f1 fo.f2 i.p1 b;simp only[ay];rw[e];exact⟨oW _,oV 61 n hn,λc hc=>by have:=vH n c hc;omega⟩
 |row k =>
  obtain⟨i,b⟩:=po.get so;obtain⟨n,e,hn⟩:=oq fo.h1 fo.h2 i.p1 b i.r1 i.r2;simp only[ay];rw[e];exact⟨oW _,oV 61 n hn,λc hc=>by have:=vH n c hc;omega⟩
theorem vI:decide (V.str (PySem.Str.ofString "page")=V.str (PySem.Str.ofString "text"))=false:=by decide +kernel
theorem xW:decide (V.str (PySem.Str.ofString "row")=V.str (PySem.Str.ofString "text"))=false:=by decide +kernel
theorem oC:decide (V.str (PySem.Str.ofString "row")=V.str (PySem.Str.ofString "page"))=false:=by decide +kernel
theorem fB(as:List Addr)(a:Addr):as.map V.ref++[V.ref a]=(as++[a]).map V.ref:=by simp
def oX:List Nat:=[33,34,35,36,38,39,40,41,42,43,44,45,46,47,48,49,50,51,52,53,54,55,56,57,58,59,60,61,62,63,64,65,66,67,68,69,70,71,72,73,74,75,76,77,78,79,80,81,82,83,84,85,86,87,88,89,90,91,92,93,94,95,96,97,98,99,100,101,102,103,104,105,106,107,108,109,110,111,112,113,114,115,116,117,118,119,120,121,122,123,124,125,126]
theorem AT:∀k:Nat,k<93->33<=oX.getD k 0/\oX.getD k 0<127:=by decide +kernel
theorem tW:∀cs:List Nat,bm [] (cs.map λc=>[c])=cs
 |[]=>rfl
 |[c]=>rfl
 |c::d::r=>by
  show[c]++[]++bm [] ((d::r).map λc=>[c])=_;rw[tW (d::r)];rfl
theorem vJ:∀cs:List Nat,((cs.map λc=>tx [c]).map (·.length)).sum=cs.length
 |[]=>rfl
 |c::r=>by
  rw[Dh,Dh,Di,vJ r,bz];simp only[CA,DG];omega
theorem qL{α:Type}(xs:List α)(x:α):atI (xs++[x]) (-1)=some x:=by
 unfold atI ixN;rw[if_neg (by decide),if_pos (by simp;omega)];have e:(-1+((xs++[x]).length:Int)).toNat=xs.length:=by simp;omega
 show(xs++[x])[(-1+((xs++[x]).length:Int)).toNat]?=some x;rw[e];simp
def cw(xs ys:List (Int×Int)):Prop:=xs.length=ys.length/\∀k,k<xs.length->az (ys.getD k (0,0)) (xs.getD k (0,0))=false
theorem yQ{α:Type}(xs ys:List α)(d:α)(k:Nat):(xs++ys).getD k d=if k<xs.length then xs.getD k d else ys.getD (k-xs.length) d:=by
 rw[B6];by_cases e:k<xs.length
 .rw[if_pos e,Ce e,B6]
 .rw[if_neg e,Cj (by omega),B6]
theorem AU{h:Int}{x y:Int×Int}(i:bI h x)(j:bI h y)(le:az y x=false):x.1*h+x.2<=y.1*h+y.2:=by
 rw[aJ]at le;obtain⟨p,r⟩:=x;obtain⟨p',r'⟩:=y;obtain⟨a,b,c⟩:=i;obtain⟨a',b',c'⟩:=j;simp only at *;by_cases e:p=p'
 .subst e;omega
 .have h1:(p+1)*h<=p'*h:=Dy (by omega) (by omega);rw[E_]at h1;omega
theorem p_{w h f m:Int}{xs ys:List (Int×Int)}{s:Say}(fo:c_ w h f m)(po:b_ h xs)(qo:b_ h ys)(le:cw xs ys)(so:eC xs.length s):(ay h f xs s).length<=(ay h f ys s).length:=by
 cases s with
 |text l=>exact B4 _
 |page k =>
  have lk:=le.2 k so;rw[aJ]at lk;exact mZ _ _ (Int.toNat_le_toNat (by omega))
 |row k =>
  have:=AU (po.get so).1 (qo.get (le.1▸so)).1 (le.2 k so);exact mZ _ _ (Int.toNat_le_toNat (by omega))
section
variable {X:Cx}
theorem oY(hc:X.calm=true):dr X (.builtin "any") (λxs H Q=>∃(l:Addr) (bs:List Bool),xs=[.ref l]/\SqL X.K H l (bs.map V.bl)/\Q (.bl (bs.any id)) H):=by
 intro pins s σ H xs us Q I r h;obtain⟨l,bs,rfl,hl,q⟩:=h;obtain⟨u,rfl,ru⟩:=eA r;cases ru;obtain⟨its,rv,p,z⟩:=I.list hl;have hlt:l<s.heap.objs.size:=by obtain⟨_,_,e,_⟩:=p;exact Cc e
 have len:=rv.length;refine call_any_walk (Ec p.isList ?_);refine⟨s.heap.objs.size,[s.heap.objs.size,l],[s.heap.objs.size],its.toArray.size,_,_,λi=>(bs[i]?).getD false,rfl,FO (A:=X.A.in1) (I.ok.hd hc) _ l (Cn hlt) its.toArray,
  ⟨⟨_,Cu _ rfl,rfl,rfl⟩,p.isList.push _⟩,λi v s' Q' E' hP hQ=>?_,λh' tk hk=>?_⟩
 .have hi:its[i]?=some v:=by simpa using hP
  have hlt2:i<bs.length:=by
   have:=(List.getElem?_eq_some_iff.mp hi).1;rw[B3]at len;omega
  have eb:(bs.map V.bl)[i]?=some (V.bl bs[i]):=by rw[B_,c7 hlt2];rfl
  obtain⟨w',hw,rw'⟩:=rv.get eb;rw[hi]at hw;cases hw;cases rw';have e2:(bs[i]?).getD false=bs[i]:=by rw[c7 hlt2];rfl
  have hQ2:Q' ((bs[i]?).getD false) s':=hQ;rw[e2]at hQ2;exact Dc hQ2
 .have e:((DF its.toArray.size).any λi=>(bs[i]?).getD false)=bs.any id:=by
   have:its.toArray.size=bs.length:=by rw[B3]at len;simp;omega
   rw[this];exact LSm.range_any bs
  rw[e];exact⟨.bl _,H,I.kept λb x e=>hk b x (λhm=>by rw[List.mem_singleton.mp hm]at e;exact CI _ (Cc e)) (Cd _ e),rfl,q⟩
theorem vK(ns:List Int):∀k,k<=ns.length->preSum (λi=>(ns[i]?).getD 0) k=(ns.take k).sum
 |0,_=>by simp[preSum]
 |k+1,h=>by
  rw[preSum,vK ns k (by omega),List.take_add_one,c7 (by omega),D9];show _+ns[k]=_+(ns[k]+0);rw[Fw]
theorem oZ(hc:X.calm=true):dr X (.builtin "sum") (λxs H Q=>∃(l:Addr) (ns:List Int),xs=[.ref l]/\SqL X.K H l (ns.map V.int)/\Q (.int ns.sum) H):=by
 intro pins s σ H xs us Q I r h;obtain⟨l,ns,rfl,hl,q⟩:=h;obtain⟨u,rfl,ru⟩:=eA r;cases ru;obtain⟨its,rv,p,z⟩:=I.list hl;have hlt:l<s.heap.objs.size:=by obtain⟨_,_,e,_⟩:=p;exact Cc e
 have len:=rv.length;rw[B3]at len;refine call_sum_walkG (Ec p.isList ?_);refine⟨s.heap.objs.size,[s.heap.objs.size,l],[s.heap.objs.size],its.toArray.size,_,_,λi=>(ns[i]?).getD 0,rfl,FO (A:=X.A.in1) (I.ok.hd hc) _ l (Cn hlt) its.toArray,
  ⟨⟨_,Cu _ rfl,rfl,rfl⟩,p.isList.push _⟩,λb hb=>?_,λi v hP=>?_,λh' tk t' hk=>?_⟩
 .show b<(s.heap.push _).objs.size;rw[Du];rcases List.mem_cons.mp hb with rfl|hb
  .exact Dp _
  .rw[List.mem_singleton.mp hb];exact Ef hlt
 .have hi:its[i]?=some v:=by simpa using hP
  have hlt2:i<ns.length:=by
   have:=(List.getElem?_eq_some_iff.mp hi).1;omega
  have eb:(ns.map V.int)[i]?=some (V.int ns[i]):=by rw[B_,c7 hlt2];rfl
  obtain⟨w',hw,t,ht⟩:=rv.get eb;rw[hi]at hw;cases hw;refine⟨t,?_⟩;have e2:(ns[i]?).getD 0=ns[i]:=by rw[c7 hlt2];rfl
  show v=FU ((ns[i]?).getD 0) t;rw[e2];exact ht
 .have e1:its.toArray.size=ns.length:=by simp;omega
  have e:preSum (λi=>(ns[i]?).getD 0) its.toArray.size=ns.sum:=by
   rw[e1,vK ns _ (B4 _),C8]
  rw[e];exact⟨.int _,H,I.kept λb x e=>hk b x (λhm=>by rw[List.mem_singleton.mp hm]at e;exact CI _ (Cc e)) (Cd _ e),⟨_,rfl⟩,q⟩
end
def e_(w:Int)(rows:List (List Nat))(t:List Nat):List (List Nat):=
 match rows.getLast? with
 |none=>[t]
 |some l=>if(l.length:Int)+1+t.length<=w then rows.dropLast++[l++32::t]else rows++[t]
theorem iY(w:Int)(t:List Nat):e_ w [] t=[t]:=rfl
theorem cO(w:Int)(rs:List (List Nat))(l t:List Nat):e_ w (rs++[l]) t=if(l.length:Int)+1+t.length<=w then rs++[l++32::t]else rs++[l]++[t]:=by simp[e_]
def bE(w:Int)(ts:List (List Nat)):List (List Nat):=ts.foldl (e_ w) []
theorem dX(w:Int)(ts:List (List Nat))(t:List Nat):bE w (ts++[t])=e_ w (bE w ts) t:=by simp[bE,E9]
theorem eE{α:Type}(l:List α):l=[]\/∃r c,l=r++[c]:=by
 by_cases h:l=[]
 .exact .inl h
 .exact .inr ⟨l.dropLast,l.getLast h,(List.dropLast_concat_getLast h).symm⟩
theorem iZ{α:Type}{P:List α->Prop}(h0:P [])(h1:∀l a,P l->P (l++[a])):∀l,P l:=by
 intro l;have:∀n (l:List α),l.length=n->P l:=by
  intro n;induction n with
  |zero=>intro l hl;rw[DZ hl];exact h0
  |succ n ih =>
   intro l hl;rcases eE l with rfl|⟨r,c,rfl⟩
   .exact h0
   .exact h1 r c (ih r (by simp at hl;exact hl))
 exact this _ l rfl
def cB(w:Int)(x:Int×Int)(t:Int):Int×Int:=if 0<x.1/\x.2+1+t<=w then(x.1,x.2+1+t)else(x.1+1,t)
def dM(w:Int)(ts:List Int):Int×Int:=ts.foldl (cB w) (0,0)
theorem m4(w:Int)(ts:List Int)(t:Int):dM w (ts++[t])=cB w (dM w ts) t:=by simp[dM,E9]
theorem yR(w:Int)(ts:List (List Nat)):(dM w (ts.map λt=>(t.length:Int))).1=(bE w ts).length/\((bE w ts=[]/\ts=[])\/∃rs l,bE w ts=rs++[l]/\(dM w (ts.map λt=>(t.length:Int))).2=l.length):=by
 refine iZ (P:=λts=>(dM w (ts.map λt=>(t.length:Int))).1=(bE w ts).length/\((bE w ts=[]/\ts=[])\/∃rs l,bE w ts=rs++[l]/\(dM w (ts.map λt=>(t.length:Int))).2=l.length)) ⟨rfl,.inl ⟨rfl,rfl⟩⟩ ?_ ts;intro ts t ih;rw[Ch,DM,m4,dX];obtain⟨h1,h2⟩:=ih;rcases h2 with⟨h2,h3⟩|⟨rs,l,h2,h3⟩
 .rw[h2]at h1⊢;rw[iY,cB,if_neg (by simp at h1;omega)];exact⟨by simp at h1⊢;omega,.inr ⟨[],t,rfl,rfl⟩⟩
 .rw[h2]at h1⊢;rw[cO,cB];by_cases e:(l.length:Int)+1+t.length<=w
  .rw[if_pos e,if_pos ⟨by simp at h1;omega,by rw[h3];exact e⟩];refine⟨by simp at h1⊢;omega,.inr ⟨rs,_,rfl,?_⟩⟩;simp;omega
  .rw[if_neg e,if_neg (by rw[h3];omega)];exact⟨by simp at h1⊢;omega,.inr ⟨rs++[l],t,rfl,rfl⟩⟩
theorem lK{w:Int}(hw:w<=4000)(ts:List (List Nat))(h:∀t∈ts,t.length<=62):(∀r∈bE w ts,r.length<=4000)/\(bE w ts).length<=ts.length:=by
 revert h;refine iZ (P:=λts=>(∀t∈ts,t.length<=62)->(∀r∈bE w ts,r.length<=4000)/\(bE w ts).length<=ts.length) (λ_=>⟨λr hr=>(by cases hr),B4 _⟩) ?_ ts;intro ts t ih h;obtain⟨i1,i2⟩:=ih λu hu=>h u (C9 _ hu);have ht:=h t (by simp);rw[dX];rcases eE (bE w ts)with e|⟨rs,l,e⟩
 .rw[e,iY];exact⟨λr hr=>by rw[List.mem_singleton.mp hr];omega,by simp⟩
 .rw[e]at i1 i2⊢;rw[cO];by_cases c:(l.length:Int)+1+t.length<=w
  .rw[if_pos c];refine⟨λr hr=>?_,by simp at i2⊢;omega⟩;rcases List.mem_append.mp hr with hr|hr
   .exact i1 r (C9 _ hr)
   .rw[List.mem_singleton.mp hr];simp;omega
  .rw[if_neg c];refine⟨λr hr=>?_,by simp at i2⊢;omega⟩;rcases List.mem_append.mp hr with hr|hr
   .exact i1 r hr
   .rw[List.mem_singleton.mp hr];omega
theorem xX(w:Int)(ts:List (List Nat)):(bE w ts).any (λr=>decide (w<r.length))=ts.any (λt=>decide (w<t.length)):=by
 refine iZ (P:=λts=>(bE w ts).any (λr=>decide (w<r.length))=ts.any (λt=>decide (w<t.length))) rfl ?_ ts;intro ts t ih;rw[dX,Er,<-ih];rcases eE (bE w ts)with e|⟨rs,l,e⟩
 .rw[e,iY];rfl
 .rw[e,cO];by_cases c:(l.length:Int)+1+t.length<=w
  .rw[if_pos c,Er,Er];have c1:¬ w<((l++32::t).length:Int):=by simp;omega
   have c2:¬ w<(l.length:Int):=by omega
   have c3:¬ w<(t.length:Int):=by omega
   simp[c2,c3]
   all_goals omega
  .rw[if_neg c,Er]
def fJ(w h:Int)(ts:List (List Nat)):Int:=if(bE w ts).any (λr=>decide (w<r.length))then h else if h<(bE w ts).length then h else(bE w ts).length
def eL(w h:Int)(ts:List Int):Int:=if ts.any (λt=>decide (w<t))then h else if h<(dM w ts).1 then h else(dM w ts).1
theorem gn(w h:Int)(ts:List (List Nat)):fJ w h ts=eL w h (ts.map λt=>(t.length:Int)):=by
 unfold fJ eL;rw[xX,(yR w ts).1,Fx];rfl
def fK(x y:Int×Int):Prop:=x.1<y.1\/(x.1=y.1/\x.2<=y.2)
theorem wB{w t u:Int}{x y:Int×Int}(h:fK x y)(hx:0<=x.1)(hx2:0<=x.2)(hy2:0<=y.2)(ht:t<=u)(t0:0<=t):fK (cB w x t) (cB w y u):=by
 obtain⟨a,b⟩:=x;obtain⟨c,d⟩:=y;unfold fK cB at *;simp only at *
 repeat' split
 all_goals (simp only;omega)
theorem fK.refl(x:Int×Int):fK x x:=.inr ⟨rfl,CC _⟩
theorem lL{w:Int}:∀{ts us:List Int} {x y:Int×Int},ts.length=us.length->(∀k,k<ts.length->ts.getD k 0<=us.getD k 0)->(∀t∈ts,0<=t)->fK x y->0<=x.1->0<=x.2->0<=y.2->fK (ts.foldl (cB w) x) (us.foldl (cB w) y)
 |[],[],x,y,_,_,_,h,_,_,_=>h
 |[],_::_,_,_,e,_,_,_,_,_,_=>by simp at e
 |_::_,[],_,_,e,_,_,_,_,_,_=>by simp at e
 |t::ts,u::us,x,y,e,hk,h0,h,a,b,c=>by
  have t0:=h0 t (by simp);have tu:t<=u:=hk 0 (by simp);rw[EQ,EQ];refine lL (by simpa using e) (λk hk2=>?_) (λv hv=>h0 v (Ck _ hv)) (wB h a b c tu t0) ?_ ?_ ?_
  .have:=hk (k+1) (by simp;omega);simpa using this
  .unfold cB;split<;>simp only<;>omega
  .unfold cB;split<;>simp only<;>omega
  .unfold cB;split<;>simp only<;>omega
theorem m5{w:Int}:∀{ts us:List Int},ts.length=us.length->(∀k,k<ts.length->ts.getD k 0<=us.getD k 0)->ts.any (λt=>decide (w<t))=true->us.any (λt=>decide (w<t))=true
 |[],[],_,_,h=>h
 |[],_::_,e,_,_=>by simp at e
 |_::_,[],e,_,_=>by simp at e
 |t::ts,u::us,e,hk,h=>by
  have tu:t<=u:=hk 0 (by simp);rw[FI,Bool.or_eq_true]at h⊢;rcases h with h|h
  .exact .inl (decide_eq_true (by have:=of_decide_eq_true h;omega))
  .exact .inr (m5 (by simpa using e) (λk hk2=>by have:=hk (k+1) (by simp;omega);simpa using this) h)
theorem wC{w h:Int}{ts us:List Int}(e:ts.length=us.length)(hk:∀k,k<ts.length->ts.getD k 0<=us.getD k 0)(h0:∀t∈ts,0<=t):eL w h ts<=eL w h us:=by
 have a:=lL (w:=w) e hk h0 (fK.refl (0,0)) (by decide) (by decide) (by decide);have b:=m5 (w:=w) e hk;have c:fK (dM w ts) (dM w us):=a;unfold eL;by_cases x:ts.any (λt=>decide (w<t))=true
 .rw[if_pos x,if_pos (b x)];exact CC _
 .rw[if_neg x];unfold fK at c
  repeat' split
  all_goals omega
def ax(rows:List (List Nat)):List V:=rows.map λt=>V.str (tx t)
def cP(K:PySem.W.Frag)(H:Hp)(bs:List Addr)(ss:List Say):Prop:=bs.length=ss.length/\∀(i:Nat) b s,bs[i]?=some b->ss[i]?=some s->SqT K H b (lI s)
theorem cP.same{K:PySem.W.Frag}{H H':Hp}{bs:List Addr}{ss:List Say}(s:av H H')(h:cP K H bs ss):cP K H' bs ss:=⟨h.1,λi a x e e'=>s.tup (h.2 i a x e e')⟩
theorem cP.nil{K:PySem.W.Frag}{H:Hp}:cP K H [] []:=⟨rfl,λi a x e _=>by simp at e⟩
theorem cP.app{K:PySem.W.Frag}{H:Hp}{bs cs:List Addr}{ss ts:List Say}(h:cP K H bs ss)(g:cP K H cs ts):cP K H (bs++cs) (ss++ts):=by
 refine⟨by simp[h.1,g.1],λi b y e e'=>?_⟩;by_cases hi:i<bs.length
 .rw[Ce hi]at e;rw[Ce (by rw[<-h.1];exact hi)]at e';exact h.2 i b y e e'
 .rw[Cj (by omega)]at e;rw[Cj (by rw[<-h.1];omega),<-h.1]at e';exact g.2 _ b y e e'
theorem cP.one{K:PySem.W.Frag}{H:Hp}{b:Addr}{s:Say}(h:SqT K H b (lI s)):cP K H [b] [s]:=by
 refine⟨rfl,λi a x e e'=>?_⟩
 match i,e,e' with
 |0,e,e' =>
  cases e;cases e';exact h
theorem av.put{H H2:Hp}{r:Addr}{o:HO}(s:av H H2)(hr:H r=none):av H (upd H2 r o):=λb u q=>by rw[aK (bR q hr)];exact s b u q
theorem vL(n:Nat)(h:0<n):ixN n (-1)=some (n-1):=by
 unfold ixN;rw[if_neg (by decide),if_pos (by omega)];congr 1;omega
theorem yS(rs:List V)(l x:V):(rs++[l]).set ((rs++[l]).length-1) x=rs++[x]:=by
 rw[Ca,CS,D5,List.set_append_right _ _ (B4 _),DT];rfl
theorem dY(rs:List (List Nat))(t:List Nat):ax (rs++[t])=ax rs++[V.str (tx t)]:=by simp[ax]
theorem jR(rs:List (List Nat)):(ax rs).all cL=true:=by
 unfold ax;rw[List.all_map];exact List.all_eq_true.mpr λ_ _=>rfl
theorem cbl:(PySem.Str.ofString " ")=tx [32]:=by decide +kernel
theorem yT(rs:List (List Nat)):d6 (ax rs) []=rs.isEmpty:=by
 cases rs with
 |nil=>rfl
 |cons a r=>rfl
theorem qM{bs:List Addr}{ss:List Say}(e:bs.length=ss.length){i:Nat}{y:V}(h:(bs.map V.ref)[i]?=some y):∃b s,y=V.ref b/\bs[i]?=some b/\ss[i]?=some s:=by
 rw[B_]at h;cases eb:bs[i]? with
 |none=>rw[eb]at h;cases h
 |some b =>
  rw[eb]at h;have hi:i<ss.length:=by rw[<-e];exact(List.getElem?_eq_some_iff.mp eb).1
  exact⟨b,ss[i],(Cw h).symm,rfl,c7 hi⟩
theorem cg{α:Type}{l:List α}{i:Nat}{a:α}(h:l[i]?=some a):l.take (i+1)=l.take i++[a]:=by rw[List.take_add_one,h];rfl
theorem ot{rs:List (List Nat)}{i:Nat}{y:V}(h:(ax rs)[i]?=some y):∃t,y=V.str (tx t)/\rs[i]?=some t:=by
 unfold ax at h;rw[B_]at h;cases e:rs[i]? with
 |none=>rw[e]at h;cases h
 |some t=>rw[e]at h;exact⟨t,(Cw h).symm,rfl⟩
theorem i4{α:Type}(f:α->V)(ns:List α)(lo hi:Option Int):c6 (ns.map f) lo hi=(mX ns lo hi).map f:=by
 unfold c6 mX;rw[B3,Fe,Ff]
theorem AV{α:Type}(xs:List α)(m k:Int)(h:m=(xs.length:Int))(h0:0<m):∃z,z∈xs/\atI xs (k%m)=some z:=by
 have b1:=C5 k (show m≠0 by omega);have b2:=CZ k h0;obtain⟨d,hd⟩:=CP b1;have hl:d<xs.length:=by omega
 refine⟨xs[d],CV hl,?_⟩;rw[hd];exact cY (c7 hl)
structure Wd where
 lead:Int
 kept:Bool
 say:Say
 foot:List Say
structure dN(n:Nat)(d:Wd):Prop where
 l0:0<=d.lead
 l1:d.lead<=4
 s:eC n d.say
 f:∀s∈d.foot,eC n s
 n:d.foot.length<=40
def qN(K:PySem.W.Frag)(H:Hp)(a:Addr)(d:Wd):Prop:=∃(sa fo:Addr) (bs:List Addr),SqT K H a [.int d.lead,.bl d.kept,.ref sa,.ref fo]/\SqT K H sa (lI d.say)/\SqL K H fo (bs.map V.ref)/\cP K H bs d.foot
theorem qN.same{K:PySem.W.Frag}{H H':Hp}{a:Addr}{d:Wd}(s:av H H')(h:qN K H a d):qN K H' a d:=by
 obtain⟨sa,fo,bs,h1,h2,h3,h4⟩:=h;exact⟨sa,fo,bs,s.tup h1,s.tup h2,s.seq h3,h4.same s⟩
def dk(K:PySem.W.Frag)(H:Hp)(as:List Addr)(ds:List Wd):Prop:=as.length=ds.length/\∀(i:Nat) a d,as[i]?=some a->ds[i]?=some d->qN K H a d
theorem dk.same{K:PySem.W.Frag}{H H':Hp}{as:List Addr}{ds:List Wd}(s:av H H')(h:dk K H as ds):dk K H' as ds:=⟨h.1,λi a d e e'=>(h.2 i a d e e').same s⟩
theorem dk.nil{K:PySem.W.Frag}{H:Hp}:dk K H [] []:=⟨rfl,λi a x e _=>by simp at e⟩
theorem dk.snoc{K:PySem.W.Frag}{H:Hp}{as:List Addr}{ds:List Wd}{a:Addr}{d:Wd}(h:dk K H as ds)(hx:qN K H a d):dk K H (as++[a]) (ds++[d]):=by
 refine⟨by simp[h.1],λi b y e e'=>?_⟩;by_cases hi:i<as.length
 .rw[Ce hi]at e;rw[Ce (by rw[<-h.1];exact hi)]at e';exact h.2 i b y e e'
 .rw[Cj (by omega)]at e;rw[Cj (by rw[<-h.1];omega)]at e';have:i-as.length=0:=by
   rcases Nat.eq_zero_or_pos (i-as.length)with z|z
   .exact z
   .rw[Ea (by simp;omega)]at e;cases e
  rw[this]at e;rw[<-h.1,this]at e';cases e;cases e';exact hx
def cC(K:PySem.W.Frag)(H:Hp)(b:Addr)(w h f m:Int)(ds:List Wd):Prop:=∃(fa wa:Addr) (as:List Addr),SqT K H b [.ref fa,.ref wa]/\SqT K H fa (fm w h f m)/\SqL K H wa (as.map V.ref)/\dk K H as ds
theorem cC.same{K:PySem.W.Frag}{H H':Hp}{b:Addr}{w h f m:Int}{ds:List Wd}(s:av H H')(g:cC K H b w h f m ds):cC K H' b w h f m ds:=by
 obtain⟨fa,wa,as,h1,h2,h3,h4⟩:=g;exact⟨fa,wa,as,s.tup h1,s.tup h2,s.seq h3,h4.same s⟩
def aU(K:PySem.W.Frag)(H:Hp)(a:Addr)(xs:List (Int×Int)):Prop:=∃as:List Addr,SqL K H a (as.map V.ref)/\aV K H as xs
theorem aU.same{K:PySem.W.Frag}{H H':Hp}{a:Addr}{xs:List (Int×Int)}(s:av H H')(h:aU K H a xs):aU K H' a xs:=by
 obtain⟨as,h1,h2⟩:=h;exact⟨as,s.seq h1,h2.same s⟩
theorem qO{α:Type}(xs:List α)(a b:Nat):mX xs (some (a:Int)) (some (b:Int))=(xs.drop a).take (b-a):=by
 unfold mX HT.sIx;have h1:¬ ((a:Int)<0):=by omega
 have h2:¬ ((b:Int)<0):=by omega
 simp only[if_neg h1,if_neg h2,Dt];by_cases h:a<=xs.length
 .rw[ES h];by_cases g:b<=xs.length
  .rw[ES g]
  .rw[Fk (by omega),Dv (by simp),Dv (by simp;omega)]
 .rw[DJ (by omega),DJ (by omega)];simp

section
variable {prog:CK}{w:CG}{A:CY}{R:FM->B9->Prop}{I:Addr}{fp wr:List Addr}{P:Nat->B5->Prop}{St:Nat->Heap->Prop}
theorem vM(W:Walks prog w A.in1 I fp wr 2 P St)(S:Addr)(hSf:S∉fp)(s:B9)(v:B5)(c:Nat)(hst:St 2 s.heap)(hS:s.heap.get? S=some { cls:=.type "list",dict:=none,data:=.seq #[v,v] c,slots:=#[] })
  (hR:∀h' tk,(∀b o,b∉wr->b≠S->s.heap.get? b=some o->h'.get? b=some o)->R (.ok (.ret v)) { s with heap:=h',toks:=tk }):Ee (CF prog w) A (.builtin "max.loop" ⟨[.ref I,.none,.ref S],[]⟩) R s:=by
 have n1:S∉wr:=λz=>hSf (W.sub _ z);refine DI DY (by
  rw[Df CW _];exact B8 (m:=EG (.ref S)) (DB hS rfl (B8 (m:=E4 (El (.ref I)) _) (DN (W.done s _ _ hst λh' tk k =>
   B8 (m:=EH S (λ_=>#[])) (Dm (k S _ n1 hS) rfl (B8 (D1 (Cs (hR _ tk λb o b1 b2 e=>(Cq _ _ (CO b2)).trans (k b o b1 e)))))))))))
theorem z4(W:Walks prog w A.in1 I fp wr 2 P St)(S:Addr)(hSf:S∉fp)(s:B9)(v:B5)(c:Nat)(hst:St 1 s.heap)(hS:s.heap.get? S=some { cls:=.type "list",dict:=none,data:=.seq #[v,v] c,slots:=#[] })(k:Bool)
  (hc:∀u h' tk (Q:B5->B9->Prop) (E:B5->B9->Prop),P 1 u->(∀b o,b∉wr->b≠S->s.heap.get? b=some o->h'.get? b=some o)->Q (.bool k) { s with heap:=h',toks:=tk }->Cz (CF prog w) A.in1 (D0 .Gt u v) Q E { s with heap:=h',toks:=tk })
  (hR:∀u h' tk,P 1 u->(∀b o,b∉wr->b≠S->s.heap.get? b=some o->h'.get? b=some o)->R (.ok (.ret (if k then u else v))) { s with heap:=h',toks:=tk }):Ee (CF prog w) A (.builtin "max.loop" ⟨[.ref I,.none,.ref S],[]⟩) R s:=by
 have n1:S∉wr:=λz=>hSf (W.sub _ z);have nmd:(DX "max"++DX ".loop" : String) = "max.loop":=(by decide);refine DI DY (by
  rw[Df CW _];refine B8 (m:=EG (.ref S)) (DB hS rfl (B8 (m:=E4 (El (.ref I)) _) (DN (W.item 1 s _ _ (by decide) hst λu h' tk hP hst' kp=>?_))));skip;have hS':=kp S _ n1 hS;refine B8 (m:=E4 (FP [u,u] (D0 .Gt u v >>= _)) _) (DN (Dr (B8 (hc u h' tk _ _ hP (λb o b1 _ e=>kp b o b1 e) ?_))));skip;refine B8 (Dr (Dc (B8 (D1 (Cs ?_)))));skip;cases k with
  |true =>
   simp only[if_true];refine B8 (Dm hS' rfl (B8 (D1 ?_)));skip;rw[nmd];refine Cs ⟨DA CW _,vM W S hSf _ u _ (W.frame _ _ _ hst' λb bf o e=>(Cq _ _ (λz:S=b=>hSf (z▸bf))).trans e) (C3 _ hS' rfl) λh2 tk2 k2=>?_⟩;exact hR u h2 tk2 hP λb o b1 b2 e=>k2 b o b1 b2 ((Cq _ _ (CO b2)).trans (kp b o b1 e))
  |false =>
   simp only[DO,if_false];refine B8 (D1 ?_);skip;rw[nmd];refine Cs ⟨DA CW _,vM W S hSf _ v c hst' hS' λh2 tk2 k2=>?_⟩;exact hR u h2 tk2 hP λb o b1 b2 e=>k2 b o b1 b2 (kp b o b1 e))
theorem yU(W:Walks prog w A.in1 I fp wr 2 P St)(S:Addr)(hSf:S∉fp)(s:B9)(c:Nat)(hst:St 0 s.heap)(hS:s.heap.get? S=some { cls:=.type "list",dict:=none,data:=.seq #[] c,slots:=#[] })(k:Bool)
  (hc:∀v u h' tk (Q:B5->B9->Prop) (E:B5->B9->Prop),P 0 v->P 1 u->(∀b o,b∉wr->b≠S->s.heap.get? b=some o->h'.get? b=some o)->Q (.bool k) { s with heap:=h',toks:=tk }->Cz (CF prog w) A.in1 (D0 .Gt u v) Q E { s with heap:=h',toks:=tk })
  (hR:∀v u h' tk,P 0 v->P 1 u->(∀b o,b∉wr->b≠S->s.heap.get? b=some o->h'.get? b=some o)->R (.ok (.ret (if k then u else v))) { s with heap:=h',toks:=tk }):Ee (CF prog w) A (.builtin "max.loop" ⟨[.ref I,.none,.ref S],[]⟩) R s:=by
 have n1:S∉wr:=λz=>hSf (W.sub _ z);have nmd:(DX "max"++DX ".loop" : String) = "max.loop":=(by decide);refine DI DY (by
  rw[Df CW _];refine B8 (m:=EG (.ref S)) (DB hS rfl (B8 (m:=E4 (El (.ref I)) _) (DN (W.item 0 s _ _ (by decide) hst λv h' tk hP hst' kp=>?_))));skip;have hS':=kp S _ n1 hS;refine B8 (m:=EH S (λ_=>#[v,v])) (Dm hS' rfl ?_);rw[nmd];refine Cs ⟨DA CW _,z4 W S hSf _ v _ (W.frame _ _ _ hst' λb bf o e=>(Cq _ _ (λz:S=b=>hSf (z▸bf))).trans e) (C3 _ hS' rfl) k (λu h2 tk2 Q E hu k2 hq=>?_) λu h2 tk2 hu k2=>?_⟩
  .exact hc v u h2 tk2 Q E hP hu (λb o b1 b2 e=>k2 b o b1 b2 ((Cq _ _ (CO b2)).trans (kp b o b1 e))) hq
  .exact hR v u h2 tk2 hP hu λb o b1 b2 e=>k2 b o b1 b2 ((Cq _ _ (CO b2)).trans (kp b o b1 e)))
end
theorem wD{prog:CK}{w:CG}{A:CY}{E:B5->B9->Prop}{s:B9}{x y:B5}{Q:B5->B9->Prop}(hh:A.handled=none)(k:Bool)
  (hc:∀h' tk (Q:B5->B9->Prop) (E:B5->B9->Prop),(∀b o,s.heap.get? b=some o->h'.get? b=some o)->Q (.bool k) { s with heap:=h',toks:=tk }->Cz (CF prog w) A.in1 (D0 .Gt y x) Q E { s with heap:=h',toks:=tk })
  (h:∀h' tk,(∀b o,s.heap.get? b=some o->h'.get? b=some o)->Q (if k then y else x) { s with heap:=h',toks:=tk }):Cz (CF prog w) A (call (.builtin "max") [x,y]) Q E s:=by
 have nmd:(DX "max"++DX ".loop" : String) = "max.loop":=(by decide);have tup:(s.heap.push { cls:=.type "tuple",data:=.seq #[x,y] }).IsTuple s.heap.objs.size #[x,y]:=⟨_,Cu _ rfl,rfl,0,rfl⟩;have hsz:(s.heap.push { cls:=.type "tuple",data:=.seq #[x,y] }).objs.size=s.heap.objs.size+1:=Du ..;have hsz2:∀o,((s.heap.push { cls:=.type "tuple",data:=.seq #[x,y] }).push o).objs.size=s.heap.objs.size+2:=λo=>by rw[Du,hsz]
 refine call_function_tree F.kind_max F.plain_max F.entry_max (F.args_max2 x y) (by
  refine B8 (m:=DK "max" ["key","default"] 0 ⟨[],[]⟩) (wpAny_of_eq (show DK "max" ["key","default"] 0 ⟨[],[]⟩=pure [none,none]from rfl) ?_);skip;refine B8 (m:=newTuple [x,y]) (Ey (B8 (wpAny_pyIter_tuple tup (B8 (Ey ?_)))));rw[nmd];refine Cs ⟨DA CW _,yU (Walks.tuple (A:=A.in1) hh (s.heap.push { cls:=.type "tuple",data:=.seq #[x,y] }).objs.size s.heap.objs.size (by rw[hsz];exact Cn (Dp _)) #[x,y]) _ ?nf _ _ ⟨⟨_,Cd _ (Cu _ rfl),rfl,rfl⟩,(tup.push _).push _⟩ (Cu _ rfl) k (λv u h' tk Q E p0 p1 kp hq=>?hc) λv u h' tk p0 p1 kp=>?hr⟩
  case nf =>
   intro hm;have z:((s.heap.push { cls:=.type "tuple",data:=.seq #[x,y] }).push _).objs.size∈_:=hm;rw[hsz2,hsz]at z;rcases List.mem_cons.mp z with e|z
   .exact absurd e (by show s.heap.objs.size+2≠s.heap.objs.size+1;simp)
   .rcases List.mem_cons.mp z with e|z
    .exact absurd e (by show s.heap.objs.size+2≠s.heap.objs.size;simp)
    .cases z
  case hc =>
   have ev:v=x:=by simpa using p0.symm
   have eu:u=y:=by simpa using p1.symm
   rw[ev,eu];refine hc h' tk Q E (λb o e=>?_) hq;have lt:=Cc e;refine kp b o (λhm=>?_) (λhm=>?_) (Cd _ (Cd _ (Cd _ e)))
   .have z:b=(s.heap.push { cls:=.type "tuple",data:=.seq #[x,y] }).objs.size:=List.mem_singleton.mp hm;rw[hsz]at z;rw[z]at lt;exact absurd lt (Nat.not_lt.mpr (CN _ 1))
   .have z:b=((s.heap.push { cls:=.type "tuple",data:=.seq #[x,y] }).push _).objs.size:=hm;rw[hsz2]at z;rw[z]at lt;exact absurd lt (Nat.not_lt.mpr (CN _ 2))
  case hr =>
   have ev:v=x:=by simpa using p0.symm
   have eu:u=y:=by simpa using p1.symm
   rw[ev,eu];refine h h' tk λb o e=>?_;have lt:=Cc e;refine kp b o (λhm=>?_) (λhm=>?_) (Cd _ (Cd _ (Cd _ e)))
   .have z:b=(s.heap.push { cls:=.type "tuple",data:=.seq #[x,y] }).objs.size:=List.mem_singleton.mp hm;rw[hsz]at z;rw[z]at lt;exact absurd lt (Nat.not_lt.mpr (CN _ 1))
   .have z:b=((s.heap.push { cls:=.type "tuple",data:=.seq #[x,y] }).push _).objs.size:=hm;rw[hsz2]at z;rw[z]at lt;exact absurd lt (Nat.not_lt.mpr (CN _ 2)))
theorem xY{X:Cx}(hc:X.calm=true)(hu:X.A.units+1<Fy):dr X (.builtin "max") (λxs H Q=>∃a b ns ms,xs=[.ref a,.ref b]/\SqT X.K H a (ns.map V.int)/\SqT X.K H b (ms.map V.int)/\Q (.ref (if HT.lexGt ms ns then b else a)) H):=by
 intro pins s σ H xs us Q I r h;obtain⟨a,b,ns,ms,rfl,ha,hb,q⟩:=h;obtain⟨u,w',rfl,ru,rw'⟩:=on r;cases ru;cases rw';obtain⟨its,r1,p1,_⟩:=I.tuple ha;obtain⟨its2,r2,p2,_⟩:=I.tuple hb;have i1:Dz its.toArray.toList ns:=iC r1;have i2:Dz its2.toArray.toList ms:=iC r2;refine wD (I.ok.hd hc) (HT.lexGt ms ns) (λh' tk Q E kp hq=>?_) λh' tk kp=>⟨_,H,I.kept kp,?_,q⟩
 .obtain⟨o1,e1,f1⟩:=p1;obtain⟨o2,e2,f2⟩:=p2;exact HT.gt_tupInts ⟨o2,kp _ _ e2,f2⟩ ⟨o1,kp _ _ e1,f1⟩ i2 i1 hu hq
 .cases HT.lexGt ms ns<;>rfl

section
variable {prog:CK}{w:CG}{A:CY}{R:FM->B9->Prop}{I:Addr}{fp wr:List Addr}{P:Nat->B5->Prop}{St:Nat->Heap->Prop}
end
def b0(x y:Int×Int):Int×Int:=if az x y then y else x
theorem AW(x y:Int×Int):HT.lexGt [y.1,y.2] [x.1,x.2]=az x y:=by
 unfold HT.lexGt HT.lexGt HT.lexGt;by_cases e:y.1=x.1
 .rw[if_pos e];by_cases e2:y.2=x.2
  .rw[if_pos e2];exact(aJ.mpr (by omega)).symm
  .rw[if_neg e2];by_cases e3:x.2<y.2
   .rw[decide_eq_true e3,bY.mpr (by omega)]
   .rw[decide_eq_false e3,aJ.mpr (by omega)]
 .rw[if_neg e];by_cases e3:x.1<y.1
  .rw[decide_eq_true e3,bY.mpr (by omega)]
  .rw[decide_eq_false e3,aJ.mpr (by omega)]
theorem AX(x y:Int×Int):HT.lexLtE [x.1,x.2] [y.1,y.2] = !az y x:=by
 unfold HT.lexLtE HT.lexLtE HT.lexLtE;by_cases e:x.1=y.1
 .rw[if_pos e];by_cases e2:x.2=y.2
  .rw[if_pos e2,aJ.mpr (by omega)];rfl
  .rw[if_neg e2];by_cases e3:x.2<=y.2
   .rw[decide_eq_true e3,aJ.mpr (by omega)];rfl
   .rw[decide_eq_false e3,bY.mpr (by omega)];rfl
 .rw[if_neg e];by_cases e3:x.1<=y.1
  .rw[decide_eq_true e3,aJ.mpr (by omega)];rfl
  .rw[decide_eq_false e3,bY.mpr (by omega)];rfl
structure Frm where
 w:Int
 h:Int
 f:Int
 m:Int
structure aR(F:Frm)(ds:List Wd)(xs:List (Int×Int)):Prop where
 fo:c_ F.w F.h F.f F.m
 len:ds.length=xs.length
 wd:∀d∈ds,dN ds.length d
 po:b_ F.h xs
 n:ds.length<=400
def wd0:Wd:=⟨0,false,.text [],[]⟩
abbrev dAt(ds:List Wd)(i:Nat):Wd:=ds.getD i wd0
abbrev xAt(xs:List (Int×Int))(i:Nat):Int×Int:=xs.getD i (0,0)
def bF(F:Frm)(xs:List (Int×Int))(d:Wd):Int:=((ay F.h F.f xs d.say).length:Int)
def a9(F:Frm)(xs:List (Int×Int))(d:Wd):Int:=fJ F.w F.h (d.foot.map (ay F.h F.f xs))
def bn(F:Frm)(ds:List Wd)(xs:List (Int×Int))(i:Nat):Int×Int:=
 bO F.f (if 0<i then b0 (xAt xs i) (bc F.h F.f (xAt xs (i-1)) (dAt ds i).lead)else xAt xs i) (dAt ds i).lead
def cE(F:Frm)(xs:List (Int×Int))(j:Nat)(wide:Int):Option (Int×Int):=if wide<=F.w then none else some (bc F.h F.f (xAt xs j) 1)
def cq(F:Frm)(xs:List (Int×Int))(i j:Nat)(high:Int):Option (Int×Int):=if(xAt xs j).1<(xAt xs i).1\/(xAt xs i).2+1+high<=F.h then none else some ((xAt xs i).1+1,0)
def bN(ds:List Wd)(xs:List (Int×Int))(i:Nat):Option (Int×Int):=if i+1=ds.length\/(dAt ds (i+1)).kept=false then none else some ((xAt xs (i+1)).1,0)
def b5(F:Frm)(ds:List Wd)(xs:List (Int×Int))(i:Nat):Option (Int×Int):=if bF F xs (dAt ds i)<=F.w/\a9 F xs (dAt ds i)+1<=F.h then none else some (F.m,0)
def d8(ds:List Wd)(j i:Nat):List Wd:=(ds.drop j).take (i+1-j)
def bS(F:Frm)(ds:List Wd)(xs:List (Int×Int))(j i:Nat):List Int:=(d8 ds j i).map (bF F xs)
def bJ(F:Frm)(ds:List Wd)(xs:List (Int×Int))(j i:Nat):List Int:=(d8 ds j i).map (a9 F xs)
def together(l:List Int):Int:=l.sum+l.length-1
def PlO(K:PySem.W.Frag)(H:Hp)(v:V):Option (Int×Int)->Prop
 |none=>v=.non
 |some x=>∃q,v=.ref q/\SqT K H q (pl x)
theorem aR.d{F:Frm}{ds:List Wd}{xs:List (Int×Int)}(B:aR F ds xs){i:Nat}(h:i<ds.length):ds[i]?=some (dAt ds i)/\dN xs.length (dAt ds i):=by
 have e:ds[i]?=some ds[i]:=c7 h;have e2:dAt ds i=ds[i]:=by show ds.getD i wd0=_;rw[B6,e];rfl
 rw[e2];exact⟨e,B.len▸B.wd _ (CV h)⟩
theorem aR.x{F:Frm}{ds:List Wd}{xs:List (Int×Int)}(B:aR F ds xs){i:Nat}(h:i<ds.length):bI F.h (xAt xs i)/\(xAt xs i).1<10^60:=B.po.get (B.len▸h)
theorem dk.get{K:PySem.W.Frag}{H:Hp}{as:List Addr}{ds:List Wd}(h:dk K H as ds){k:Nat}(hk:k<ds.length):∃a,atI (as.map V.ref) (k:Int)=some (V.ref a)/\qN K H a (dAt ds k):=by
 have hk2:k<as.length:=by rw[h.1];exact hk
 refine⟨as[k],cY (by rw[B_,c7 hk2];rfl),?_⟩;have e:ds[k]?=some (dAt ds k):=by
  show _=some (ds.getD k wd0);rw[B6,c7 hk];rfl
 exact h.2 k _ _ (c7 hk2) e
theorem dk.drop{K:PySem.W.Frag}{H:Hp}{as:List Addr}{ds:List Wd}(h:dk K H as ds)(n:Nat):dk K H (as.drop n) (ds.drop n):=by
 refine⟨by simp[h.1],λi b y e e'=>?_⟩;rw[List.getElem?_drop]at e e';exact h.2 _ b y e e'
theorem dk.take{K:PySem.W.Frag}{H:Hp}{as:List Addr}{ds:List Wd}(h:dk K H as ds)(n:Nat):dk K H (as.take n) (ds.take n):=by
 refine⟨by simp[h.1],λi b y e e'=>?_⟩;rw[List.getElem?_take]at e e'
 split at e
 .rename_i c
  rw[if_pos c]at e';exact h.2 i b y e e'
 .cases e
theorem jS{as:List Addr}{ds:List Wd}(e:as.length=ds.length){i:Nat}{y:V}(h:(as.map V.ref)[i]?=some y):∃b d,y=V.ref b/\as[i]?=some b/\ds[i]?=some d:=by
 rw[B_]at h;cases eb:as[i]? with
 |none=>rw[eb]at h;cases h
 |some b =>
  rw[eb]at h;have hi:i<ds.length:=by rw[<-e];exact(List.getElem?_eq_some_iff.mp eb).1
  exact⟨b,ds[i],(Cw h).symm,rfl,c7 hi⟩
theorem aU.get{K:PySem.W.Frag}{H:Hp}{a:Addr}{xs:List (Int×Int)}{as:List Addr}(h:aV K H as xs){k:Nat}(hk:k<xs.length):∃b,atI (as.map V.ref) (k:Int)=some (V.ref b)/\SqT K H b (pl (xAt xs k)):=h.get hk
def dO(F:Frm)(ds:List Wd)(xs:List (Int×Int))(i:Nat):List (Option (Int×Int)):=
 [some (bn F ds xs i),bN ds xs i,b5 F ds xs i]++(DF i).map (λj=>cE F xs j (together (bS F ds xs j i)))++(DF (i+1)).map (λj=>cq F xs i j (bJ F ds xs j i).sum)
def m6(b:Int×Int)(os:List (Option (Int×Int))):Int×Int:=os.foldl (λb o=>match o with|none=>b|some x=>b0 b x) b
def iP(F:Frm)(ds:List Wd)(xs:List (Int×Int))(i:Nat):Int×Int:=m6 (xAt xs i) (dO F ds xs i)
theorem AY{α:Type}(xs:List α)(a:Nat):mX xs (some (a:Int)) none=xs.drop a:=by
 unfold mX HT.sIx;have h2:¬ ((a:Int)<0):=by omega
 simp only[if_neg h2,Dt];rw[Dv (by simp)];by_cases g:a<=xs.length
 .rw[ES g]
 .rw[Fk (by omega),DJ (by omega),DJ (by omega)]
theorem yV{X:Cx}(hu:X.A.units<Fy):OpR X (C7 .NotEq) (λx y H Q=>∃a b xs,x=.ref a/\y=.ref b/\SqL X.K H a xs/\SqL X.K H b []/\Q (.bl (!xs.isEmpty)) H):=by
 intro pins s σ H x y v u Q I rx ry h;obtain⟨a,b,xs,rfl,rfl,ha,hb,q⟩:=h;cases rx;cases ry;obtain⟨its,r,p,z⟩:=I.list ha;obtain⟨its2,r2,p2,z2⟩:=I.list hb;have l1:=r.length;have l2:=r2.length;cases xs with
 |nil =>
  refine SeqAt.RcNeAt.lists (e:=λ_=>true) p.isList p2.isList (by simp at l1 l2⊢;omega) hu (λj h1 h2=>absurd h1 (by simp at l1⊢;omega)) _ _ _ _ ⟨.bl _,H,I,rfl,?_⟩;have e:its.toArray.size=0:=by rw[Ci];exact l1.symm
  rw[e];exact q
 |cons x r=>exact SeqAt.RcNeAt.lists_lengths p.isList p2.isList (by simp at l1 l2⊢;omega) hu _ _ _ _ ⟨.bl true,H,I,rfl,q⟩
theorem aV.set{K:PySem.W.Frag}{H:Hp}{as:List Addr}{xs:List (Int×Int)}{a:Addr}{x:Int×Int}(h:aV K H as xs)(k:Nat)(hx:SqT K H a (pl x)):aV K H (as.set k a) (xs.set k x):=by
 refine⟨by simp[h.1],λi b y e e'=>?_⟩;rw[List.getElem?_set]at e e';by_cases c:k=i
 .rw[if_pos c]at e e'
  split at e
  .split at e'
   .cases e;cases e';exact hx
   .cases e'
  .cases e
 .rw[if_neg c]at e e';exact h.2 i b y e e'
theorem b_.set{h:Int}{xs:List (Int×Int)}{x:Int×Int}(o:b_ h xs)(k:Nat)(i:bI h x)(b:x.1<10^60):b_ h (xs.set k x):=by
 intro y hy;rcases List.mem_or_eq_of_mem_set hy with hy|rfl
 .exact o y hy
 .exact⟨i,b⟩
def fL(F:Frm)(ds:List Wd)(xs:List (Int×Int))(k:Str)(i:Nat)(j:Int):Option (Int×Int):=
 if k=PySem.Str.ofString "behind"/\j=(i:Int)-1 then some (bn F ds xs i)
 else if k=PySem.Str.ofString "wide"/\(0<=j/\j<(i:Int))then cE F xs j.toNat (together (bS F ds xs j.toNat i))
 else if k=PySem.Str.ofString "high"/\(0<=j/\j<=(i:Int))then cq F xs i j.toNat (bJ F ds xs j.toNat i).sum
 else if k=PySem.Str.ofString "kept"/\j=(i:Int)+1 then bN ds xs i
 else if k=PySem.Str.ofString "never"/\j=(i:Int)then b5 F ds xs i
 else none
def cj(F:Frm)(ds:List Wd)(xs:List (Int×Int))(k:Str)(i:Nat)(j:Int):Option (Int×Int):=match fL F ds xs k i j with
 |none=>none
 |some x=>if az (xAt xs i) x then some x else none
theorem eR{a b:Str}:(decide (V.str a=V.str b)=true)↔a=b:=by simp
inductive CL:List Expr->List V->Prop where
 |nil:CL [] []
 |int {i:Int} {j:Nat} {pos:Pos} {es:List Expr} {vs:List V} (h:CL es vs):CL (.Constant (.int i) j pos::es) (.int i::vs)
 |str {x:Str} {j:Nat} {pos:Pos} {es:List Expr} {vs:List V} (h:CL es vs):CL (.Constant (.str x) j pos::es) (.str x::vs)
def tVs(vs:List V):TA:=λ_ H Q=>Q vs H
theorem wE{X:Cx}:∀{es:List Expr} {vs:List V},CL es vs->PA X es (tVs vs)
 |_,_,.nil=>ae
 |_,_,.int h=>aa ab (wE h)
 |_,_,.str h=>aa bv (wE h)
def AZ(K:PySem.W.Frag):List V->Hp->VK->Prop:=λxs H Q=>∃p ys,xs=[.ref p]/\(SqL K H p ys\/SqT K H p ys)/\Q (.int (ys.length:Nat)) H
def kB:Str:=PySem.Str.ofString "behind"
def kW:Str:=PySem.Str.ofString "wide"
def kH:Str:=PySem.Str.ofString "high"
def kK:Str:=PySem.Str.ofString "kept"
def kN:Str:=PySem.Str.ofString "never"
section
variable (F:Frm)(ds:List Wd)(xs:List (Int×Int))(k:Str)(i:Nat)(j:Int)
end
theorem kne:kB≠kW/\kB≠kH/\kB≠kK/\kB≠kN/\kW≠kH/\kW≠kK/\kW≠kN/\kH≠kK/\kH≠kN/\kK≠kN:=by decide +kernel
theorem gp(F:Frm)(ds:List Wd)(xs:List (Int×Int))(k:Str)(i:Nat)(j:Int):fL F ds xs k i j=if k=kB/\j=(i:Int)-1 then some (bn F ds xs i)
 else if k=kW/\(0<=j/\j<(i:Int))then cE F xs j.toNat (together (bS F ds xs j.toNat i))
 else if k=kH/\(0<=j/\j<=(i:Int))then cq F xs i j.toNat (bJ F ds xs j.toNat i).sum
 else if k=kK/\j=(i:Int)+1 then bN ds xs i
 else if k=kN/\j=(i:Int)then b5 F ds xs i
 else none:=rfl
theorem dw{x y z:Int×Int}(a:az y x=false)(b:az z y=false):az z x=false:=by
 rw[aJ]at a b⊢;omega
theorem eM{x y:Int×Int}(a:az y x=false)(b:az x y=false):x=y:=by
 rw[aJ]at a b;obtain⟨p,r⟩:=x;obtain⟨p',r'⟩:=y;simp only at a b;have:p=p':=by omega
 have:r=r':=by omega
 subst p r;rfl
theorem m7(x y:Int×Int):az (b0 x y) x=false:=by
 unfold b0;cases e:az x y with
 |true =>
  rw[if_pos rfl];rw[bY]at e;rw[aJ];omega
 |false=>rw[if_neg (by decide)];exact ck x
theorem jT(x y:Int×Int):az (b0 x y) y=false:=by
 unfold b0;cases e:az x y with
 |true=>rw[if_pos rfl];exact ck y
 |false=>rw[if_neg (by decide)];exact e
theorem tX{x y z:Int×Int}(a:az z x=false)(b:az z y=false):az z (b0 x y)=false:=by
 unfold b0;cases e:az x y with
 |true=>rw[if_pos rfl];exact b
 |false=>rw[if_neg (by decide)];exact a
theorem iQ:∀(os:List (Option (Int×Int))) (b:Int×Int),az (m6 b os) b=false/\∀x,some x∈os->az (m6 b os) x=false
 |[],b=>⟨ck b,λx h=>by cases h⟩
 |none::r,b=>by
  obtain⟨h1,h2⟩:=iQ r b;refine⟨h1,λx h=>h2 x ?_⟩;rcases List.mem_cons.mp h with h|h
  .cases h
  .exact h
 |some y::r,b=>by
  obtain⟨h1,h2⟩:=iQ r (b0 b y);refine⟨dw (m7 b y) h1,λx h=>?_⟩;rcases List.mem_cons.mp h with h|h
  .have e:x=y:=by cases h;rfl
   rw[e];exact dw (jT b y) h1
  .exact h2 x h
theorem ou:∀(os:List (Option (Int×Int))) (b z:Int×Int),az z b=false->(∀x,some x∈os->az z x=false)->az z (m6 b os)=false
 |[],b,z,h,_=>h
 |none::r,b,z,h,h2=>ou r b z h λx hx=>h2 x (Ck _ hx)
 |some y::r,b,z,h,h2=>ou r (b0 b y) z (tX h (h2 y Cp)) λx hx=>h2 x (Ck _ hx)
theorem sum_le{α:Type}{f g:α->Int}:∀(l:List α),(∀d∈l,f d<=g d)->(l.map f).sum<=(l.map g).sum
 |[],_=>CC _
 |a::r,h=>by
  have h1:=h a Cp;have h2:=sum_le r λd hd=>h d (Ck _ hd);rw[Dh,Dh,Di,Di];omega
section
variable {F:Frm}{ds:List Wd}{xs ys:List (Int×Int)}
theorem lM(B:aR F ds xs)(C:aR F ds ys)(le:cw xs ys){d:Wd}(hd:d∈ds):bF F xs d<=bF F ys d:=by
 have wk:=B.wd d hd;rw[B.len]at wk;have:=p_ B.fo B.po C.po le wk.s;unfold bF;omega
theorem lN(B:aR F ds xs)(C:aR F ds ys)(le:cw xs ys){d:Wd}(hd:d∈ds):a9 F xs d<=a9 F ys d:=by
 have wk:=B.wd d hd;rw[B.len]at wk;unfold a9;rw[gn,gn];refine wC (by simp) (λk hk=>?_) (λt ht=>?_)
 .rw[B3,B3]at hk;have hs:=wk.f (d.foot[k]) (CV hk);have:=p_ B.fo B.po C.po le hs;simp only[B6,B_,c7 hk,Option.map_some,Option.getD_some];omega
 .obtain⟨u,_,rfl⟩:=List.mem_map.mp ht;omega
theorem vN{j i:Nat}{d:Wd}(h:d∈d8 ds j i):d∈ds:=DC (Dg h)
theorem wF(B:aR F ds xs)(C:aR F ds ys)(le:cw xs ys)(j i:Nat):together (bS F ds xs j i)<=together (bS F ds ys j i):=by
 have:=sum_le (f:=bF F xs) (g:=bF F ys) (d8 ds j i) λd hd=>lM B C le (vN hd);unfold together bS;rw[B3,B3];omega
theorem wG(B:aR F ds xs)(C:aR F ds ys)(le:cw xs ys)(j i:Nat):(bJ F ds xs j i).sum<=(bJ F ds ys j i).sum:=
 sum_le (d8 ds j i) λd hd=>lN B C le (vN hd)
theorem cM{i:Nat}{x:Int×Int}:some x∈dO F ds xs i↔(x=bn F ds xs i\/bN ds xs i=some x\/b5 F ds xs i=some x\/(∃j,j<i/\cE F xs j (together (bS F ds xs j i))=some x)\/∃j,j<i+1/\cq F xs i j (bJ F ds xs j i).sum=some x):=by
 unfold dO;simp only[List.mem_append,List.mem_cons,List.mem_map,List.mem_range,List.not_mem_nil,or_false,Option.some.injEq];constructor
 .rintro(((h|h|h)|⟨j,h1,h2⟩)|⟨j,h1,h2⟩)
  .exact .inl h
  .exact .inr (.inl h.symm)
  .exact .inr (.inr (.inl h.symm))
  .exact .inr (.inr (.inr (.inl ⟨j,h1,h2⟩)))
  .exact .inr (.inr (.inr (.inr ⟨j,h1,h2⟩)))
 .rintro(h|h|h|⟨j,h1,h2⟩|⟨j,h1,h2⟩)
  .exact .inl (.inl (.inl h))
  .exact .inl (.inl (.inr (.inl h.symm)))
  .exact .inl (.inl (.inr (.inr h.symm)))
  .exact .inl (.inr ⟨j,h1,h2⟩)
  .exact .inr ⟨j,h1,h2⟩
theorem oA(B:aR F ds xs)(C:aR F ds ys)(le:cw xs ys){i:Nat}(hi:i<ds.length):az (bn F ds ys i) (bn F ds xs i)=false:=by
 have wk:=(B.d hi).2;have rx:=(B.x hi).1;have ry:=(C.x hi).1;have l0:az (xAt ys i) (xAt xs i)=false:=le.2 i (by rw[<-B.len];exact hi);unfold bn;by_cases c:0<i
 .rw[if_pos c,if_pos c];have rx1:=(B.x (show i-1<ds.length by omega)).1;have ry1:=(C.x (show i-1<ds.length by omega)).1;have l1:az (xAt ys (i-1)) (xAt xs (i-1))=false:=le.2 (i-1) (by rw[<-B.len];omega);have g:=m3 (f:=F.f) rx1 ry1 l1 wk.l0 (CC _) wk.l1;have bx:=fA (f:=F.f) rx1 wk.l0 wk.l1;have byy:=fA (f:=F.f) ry1 wk.l0 wk.l1;have li:∀{a b:Int×Int},bI F.h a->bI F.h b->bI F.h (b0 a b):=λ{a b} ha hb=>by
   unfold b0
   split
   .exact hb
   .exact ha
  refine oB (li rx bx) (li ry byy) ?_ (CC _) wk.l1;exact tX (dw l0 (m7 _ _)) (dw g (jT _ _))
 .rw[if_neg c,if_neg c];exact oB rx ry l0 (CC _) wk.l1
theorem tY(B:aR F ds xs)(C:aR F ds ys)(le:cw xs ys){i:Nat}(hi:i<ds.length):az (iP F ds ys i) (iP F ds xs i)=false:=by
 have l0:az (xAt ys i) (xAt xs i)=false:=le.2 i (by rw[<-B.len];exact hi);obtain⟨g1,g2⟩:=iQ (dO F ds ys i) (xAt ys i);have gi:az (iP F ds ys i) (xAt ys i)=false:=g1;have gm:∀x,some x∈dO F ds ys i->az (iP F ds ys i) x=false:=g2;have hmem:dAt ds i∈ds:=Cg (B.d hi).1;refine ou _ _ _ (dw l0 gi) λx hx=>?_;rcases cM.mp hx with h|h|h|⟨j,hj,h⟩|⟨j,hj,h⟩
 .rw[h];exact dw (oA B C le hi) (gm _ (cM.mpr (.inl rfl)))
 .unfold bN at h
  split at h
  .cases h
  .rename_i c
   cases h;have hi1:i+1<ds.length:=by omega
   refine dw (y:=((xAt ys (i+1)).1,0)) ?_ (gm _ (cM.mpr (.inr (.inl ?_))))
   .have l1:az (xAt ys (i+1)) (xAt xs (i+1))=false:=le.2 (i+1) (by rw[<-B.len];exact hi1);rw[aJ]at l1⊢;simp only;omega
   .unfold bN;rw[if_neg c]
 .unfold b5 at h
  split at h
  .cases h
  .rename_i c
   cases h;refine gm _ (cM.mpr (.inr (.inr (.inl ?_))));unfold b5;have w1:=lM B C le hmem;have w2:=lN B C le hmem;rw[if_neg (by omega)]
 .unfold cE at h
  split at h
  .cases h
  .rename_i c
   cases h;have w1:=wF B C le j i;have hj2:j<ds.length:=by omega
   have l1:az (xAt ys j) (xAt xs j)=false:=le.2 j (by rw[<-B.len];exact hj2);refine dw (m3 (f:=F.f) (B.x hj2).1 (C.x hj2).1 l1 (by decide) (CC _) (by decide)) (gm _ (cM.mpr (.inr (.inr (.inr (.inl ⟨j,hj,?_⟩))))));unfold cE;rw[if_neg (by omega)]
 .unfold cq at h
  split at h
  .cases h
  .rename_i c
   cases h;have w1:=wG B C le j i;have hj2:j<ds.length:=by omega
   have l1:az (xAt ys j) (xAt xs j)=false:=le.2 j (by rw[<-B.len];exact hj2);have rx:=(C.x hi).1.r1;by_cases c2:(xAt xs i).1<(xAt ys i).1
   .refine dw ?_ gi;rw[aJ];simp only;omega
   .rw[aJ]at l0 l1;have e1:(xAt ys i).1=(xAt xs i).1:=by omega
    refine gm _ (cM.mpr (.inr (.inr (.inr (.inr ⟨j,hj,?_⟩)))));unfold cq;rw[if_neg (by omega),e1]
end
section
variable {F:Frm}{ds:List Wd}{xs ys:List (Int×Int)}{i:Nat}
def fM(F:Frm)(ds:List Wd)(xs:List (Int×Int)):Prop:=∀i,i<ds.length->iP F ds xs i=xAt xs i
def jU(m:Int)(xs:List (Int×Int)):Prop:=∀x∈xs,x.1<m
def tZ(F:Frm)(ds:List Wd)(xs:List (Int×Int)):Prop:=∀X,aR F ds X->fM F ds X->cw xs X
theorem o0{h:Int}{a b:Int×Int}(ha:bI h a)(hb:bI h b):bI h (b0 a b):=by
 unfold b0
 split
 .exact hb
 .exact ha
theorem yW{n:Int}{a b:Int×Int}(ha:a.1<=n)(hb:b.1<=n):(b0 a b).1<=n:=by
 unfold b0
 split
 .exact hb
 .exact ha
theorem rM{h f l:Int}{x:Int×Int}(h0:0<=l)(h1:l<=4):(bc h f x l).1<=x.1+2:=by
 obtain⟨q,s,e,d⟩:=cW h f l x.1 x.2 h0 h1;rw[show x=(x.1,x.2)from rfl,e];simp only;omega
theorem t_{f l:Int}{x:Int×Int}:(bO f x l).1<=x.1+1:=by
 obtain⟨q,s,e,d⟩:=fI f l x.1 x.2;rw[show x=(x.1,x.2)from rfl,e];simp only;omega
theorem z5(B:aR F ds xs)(hi:i<ds.length){n:Int}(hn:∀k,k<ds.length->(xAt xs k).1<=n)(hm:F.m<=n+3){x:Int×Int}(hx:some x∈dO F ds xs i):bI F.h x/\x.1<=n+3:=by
 have wk:=(B.d hi).2;have rx:=(B.x hi).1;have h1:=B.fo.h1;rcases cM.mp hx with e|e|e|⟨j,hj,e⟩|⟨j,hj,e⟩
 .rw[e];unfold bn;by_cases c:0<i
  .rw[if_pos c];have rx1:=(B.x (show i-1<ds.length by omega)).1;have bx:=fA (f:=F.f) rx1 wk.l0 wk.l1;have p1:=rM (h:=F.h) (f:=F.f) (x:=xAt xs (i-1)) wk.l0 wk.l1;have p2:=hn (i-1) (by omega);have p3:=hn i hi;have p4:=yW (n:=n+2) (a:=xAt xs i) (b:=bc F.h F.f (xAt xs (i-1)) (dAt ds i).lead) (by omega) (by omega);have p5:=t_ (f:=F.f) (l:=(dAt ds i).lead) (x:=b0 (xAt xs i) (bc F.h F.f (xAt xs (i-1)) (dAt ds i).lead));exact⟨tV (o0 rx bx),by omega⟩
  .rw[if_neg c];have p3:=hn i hi;have p5:=t_ (f:=F.f) (l:=(dAt ds i).lead) (x:=xAt xs i);exact⟨tV rx,by omega⟩
 .unfold bN at e
  split at e
  .cases e
  .rename_i c
   cases e;have hi1:i+1<ds.length:=by omega
   have p:=hn (i+1) hi1;have r:=(B.x hi1).1;exact⟨⟨r.p1,CC 0,by show(0:Int)<F.h;omega⟩,by show(xAt xs (i+1)).1<=_;omega⟩
 .unfold b5 at e
  split at e
  .cases e
  .cases e;have m1:=B.fo.m1;exact⟨⟨by show 0<=F.m;omega,CC 0,by show(0:Int)<F.h;omega⟩,hm⟩
 .unfold cE at e
  split at e
  .cases e
  .cases e;have hj2:j<ds.length:=by omega
   have p:=hn j hj2;have p1:=rM (h:=F.h) (f:=F.f) (l:=1) (x:=xAt xs j) (by decide) (by decide);exact⟨fA (B.x hj2).1 (by decide) (by decide),by omega⟩
 .unfold cq at e
  split at e
  .cases e
  .cases e;have p:=hn i hi;have r:=rx.p1;exact⟨⟨by show 0<=(xAt xs i).1+1;omega,CC 0,by show(0:Int)<F.h;omega⟩,by show(xAt xs i).1+1<=_;omega⟩
theorem xZ:az (iP F ds xs i) (xAt xs i)=false:=(iQ _ _).1
theorem iR{k:Nat}{y:Int×Int}(hi:i<xs.length):xAt (xs.set i y) k=if k=i then y else xAt xs k:=by
 show(xs.set i y).getD k (0,0)=if k=i then y else xs.getD k (0,0);rw[B6,List.getElem?_set];by_cases c:i=k
 .subst c;rw[if_pos rfl,if_pos rfl,if_pos hi];rfl
 .rw[if_neg c,if_neg (CO c),<-B6]
theorem iS{k:Nat}(hk:k<xs.length):xAt xs k∈xs:=by
 show xs.getD k (0,0)∈xs;rw[B6,c7 hk];exact CV hk
theorem aR.set(B:aR F ds xs){y:Int×Int}(r:bI F.h y)(b:y.1<10^60):aR F ds (xs.set i y):=⟨B.fo,by rw[Ep];exact B.len,B.wd,B.po.set i r b,B.n⟩
theorem tZ.zero(e:xs.length=ds.length)(z:∀x∈xs,x=(0,0)):tZ F ds xs:=by
 intro X C _;refine⟨by rw[e,C.len],λk hk=>?_⟩;have h1:=z _ (iS hk);show az (xAt X k) (xAt xs k)=false;rw[h1];have r:=(C.x (i:=k) (by omega)).1;have p:=r.p1;have q:=r.r1;rw[aJ];simp only;omega
theorem z6(B:aR F ds xs)(C:aR F ds ys)(f2:fM F ds ys)(L1:tZ F ds xs)(pg:jU F.m ys){k:Nat}(hk:k<ds.length)(h:F.m<=(xAt xs k).1):False:=by
 have a:=(L1 ys C f2).2 k (by rw[<-B.len];exact hk);have p:=pg _ (iS (show k<ys.length by rw[<-C.len];exact hk));have a':az (xAt ys k) (xAt xs k)=false:=a;rw[aJ]at a';omega
def aW(h:Int)(x:Int×Int):Int:=x.1*h+x.2
theorem z7{h:Int}{x y:Int×Int}(rx:bI h x)(ry:bI h y)(s:az x y=true):aW h x+1<=aW h y:=by
 rw[bY]at s;unfold aW;have h0:0<h:=by have:=rx.r1;have:=rx.r2;omega
 have a:=rx.r2;have b:=ry.r1;rcases s with s|⟨s1,s2⟩
 .have:(x.1+1)*h<=y.1*h:=Dy (by omega) (by omega);rw[E_]at this;omega
 .rw[s1];omega
theorem vO{f:Int×Int->Int}{y:Int×Int}:∀{xs:List (Int×Int)} {i:Nat},i<xs.length->((xs.set i y).map f).sum=(xs.map f).sum-f (xAt xs i)+f y
 |[],i,h=>absurd h (Cy _)
 |x::r,0,h=>by
  show(f y::r.map f).sum=(f x::r.map f).sum-f x+f y;rw[Di,Di];omega
 |x::r,i+1,h=>by
  have:=vO (f:=f) (y:=y) (xs:=r) (i:=i) (by simpa using h);show(f x::(r.set i y).map f).sum=(f x::r.map f).sum-f (xAt r i)+f y;rw[Di,Di,this];omega
theorem rN{f:Int×Int->Int}{c:Int}:∀(xs:List (Int×Int)),(∀x∈xs,f x<=c)->(xs.map f).sum<=xs.length*c
 |[],_=>by simp
 |x::r,h=>by
  have h1:=h x Cp;have h2:=rN r λy hy=>h y (Ck _ hy);rw[Dh,Di,CA,Int.natCast_succ,E_];omega
theorem wH{h m:Int}{x:Int×Int}(r:bI h x)(p:x.1<m):aW h x<=h*m:=by
 unfold aW;have h0:0<=h:=by have:=r.r1;have:=r.r2;omega
 have:=Dy (show x.1+1<=m by omega) h0;rw[E_]at this;have e:=Int.mul_comm m h;have a:=r.r2;omega
theorem i5(fx:fM F ds xs)(hi:i<ds.length){x:Int×Int}(h:some x∈dO F ds xs i):az (xAt xs i) x=false:=by
 have:=(iQ (dO F ds xs i) (xAt xs i)).2 x h;have e:m6 (xAt xs i) (dO F ds xs i)=xAt xs i:=fx i hi;rw[e]at this;exact this
theorem ua(B:aR F ds xs)(fx:fM F ds xs)(hi:i<ds.length):bO F.f (xAt xs i) (dAt ds i).lead=xAt xs i/\(0<i->az (xAt xs i) (bc F.h F.f (xAt xs (i-1)) (dAt ds i).lead)=false):=by
 have t:=i5 fx hi (cM.mpr (.inl rfl));have wk:=(B.d hi).2;have rx:=(B.x hi).1;unfold bn at t;by_cases c:0<i
 .rw[if_pos c]at t;have rx1:=(B.x (show i-1<ds.length by omega)).1;have bx:=fA (f:=F.f) rx1 wk.l0 wk.l1;have lb:=o0 rx bx;have t2:=dw (iF (f:=F.f) (l:=(dAt ds i).lead) lb) t;have t3:=m7 (xAt xs i) (bc F.h F.f (xAt xs (i-1)) (dAt ds i).lead);have e:=eM t2 t3;rw[e]at t;refine⟨eM t (iF rx),λ_=>?_⟩;rw[<-e];exact jT _ _
 .rw[if_neg c]at t;exact⟨eM t (iF rx),λz=>absurd z c⟩
theorem yX(B:aR F ds xs)(fx:fM F ds xs)(hi:i+1<ds.length)(k:(dAt ds (i+1)).kept=true):(xAt xs i).1=(xAt xs (i+1)).1:=by
 have t:=i5 fx (show i<ds.length by omega) (x:=((xAt xs (i+1)).1,0)) (cM.mpr (.inr (.inl (by
  unfold bN;rw[if_neg (by rw[k];intro z;rcases z with z|z;omega;cases z)]))))
 have wk:=(B.d hi).2;have l:=(ua B fx hi).2 (D6 _);have l2:=dw (kg (f:=F.f) (B.x (show i<ds.length by omega)).1 wk.l0 wk.l1) l;rw[aJ]at t l2;simp only at t;omega
theorem x4(fx:fM F ds xs)(pg:(xAt xs i).1<F.m)(hi:i<ds.length):bF F xs (dAt ds i)<=F.w/\a9 F xs (dAt ds i)+1<=F.h:=by
 by_cases c:bF F xs (dAt ds i)<=F.w/\a9 F xs (dAt ds i)+1<=F.h
 .exact c
 .have t:=i5 fx hi (x:=(F.m,0)) (cM.mpr (.inr (.inr (.inl (by unfold b5;rw[if_neg c])))));rw[aJ]at t;simp only at t;omega
theorem yY(B:aR F ds xs)(fx:fM F ds xs)(pg:(xAt xs i).1<F.m)(hi:i<ds.length){j:Nat}(hj:j<=i)(e:xAt xs j=xAt xs i):together (bS F ds xs j i)<=F.w:=by
 by_cases c:j=i
 .subst c;have h:=(x4 fx pg hi).1;have:together (bS F ds xs j j)=bF F xs (dAt ds j):=by
   have hs:d8 ds j j=[dAt ds j]:=by
    unfold d8;have hj2:j<ds.length:=hi;rw[show j+1-j=1 by omega,List.drop_eq_getElem_cons hj2,List.take_succ_cons,List.take_zero];congr 1;show ds[j]=ds.getD j wd0;rw[B6,c7 hj2];rfl
   unfold together bS;rw[hs];simp
  omega
 .by_cases c2:together (bS F ds xs j i)<=F.w
  .exact c2
  .have t:=i5 fx hi (x:=bc F.h F.f (xAt xs j) 1) (cM.mpr (.inr (.inr (.inr (.inl ⟨j,by omega,by unfold cE;rw[if_neg c2]⟩)))));have r:=(B.x hi).1;have r1:=r.r1;obtain⟨q,s,e1,d⟩:=cW F.h F.f 1 (xAt xs i).1 (xAt xs i).2 (by decide) (by decide);rw[e,show xAt xs i=((xAt xs i).1,(xAt xs i).2)from rfl,e1,aJ]at t;simp only at t;omega
theorem yZ(fx:fM F ds xs)(hi:i<ds.length){j:Nat}(hj:j<=i)(e:(xAt xs j).1=(xAt xs i).1):(xAt xs i).2+1+(bJ F ds xs j i).sum<=F.h:=by
 by_cases c:(xAt xs i).2+1+(bJ F ds xs j i).sum<=F.h
 .exact c
 .have t:=i5 fx hi (x:=((xAt xs i).1+1,0)) (cM.mpr (.inr (.inr (.inr (.inr ⟨j,by omega,by unfold cq;rw[if_neg (by omega)]⟩)))));rw[aJ]at t;simp only at t;omega
def dG(ds:List Wd)(j k:Nat):List Wd:=(ds.drop j).take (k-j)
theorem fC(k:Nat):dG ds k k=[]:=by unfold dG;simp
theorem rO{j k:Nat}(hj:j<=k)(hk:k<ds.length):d8 ds j k=dG ds j k++[dAt ds k]:=by
 unfold d8 dG;have e:(ds.drop j)[k-j]?=some (dAt ds k):=by
  rw[List.getElem?_drop,show j+(k-j)=k by omega];show _=some (ds.getD k wd0);rw[B6,c7 hk];rfl
 rw[show k+1-j=(k-j)+1 by omega,cg e]
theorem jV(j k:Nat):dG ds j (k+1)=d8 ds j k:=rfl
theorem jW{j k:Nat}(hj:j<=k)(hk:k<ds.length):together ((dG ds j k).map (bF F xs))+1+bF F xs (dAt ds k)=together (bS F ds xs j k):=by
 unfold together bS;rw[rO hj hk,Ch,D9,Ca];simp;omega
theorem fD{j k:Nat}(hj:j<=k)(hk:k<ds.length):((dG ds j k).map (a9 F xs)).sum+a9 F xs (dAt ds k)=(bJ F ds xs j k).sum:=by
 unfold bJ;rw[rO hj hk,Ch,D9];simp
end
theorem m8(x y:Int×Int):d6 (pl x) (pl y)=decide (x=y):=by
 obtain⟨a,b⟩:=x;obtain⟨c,d⟩:=y;show((a==c)&&((b==d)&&true))=decide ((a,b)=(c,d));by_cases h1:a=c
 .by_cases h2:b=d
  .simp[h1,h2]
  .simp[h1,h2]
 .simp[h1]
theorem A1{α:Type}(x:α):∀n:Nat,(Co n [x]).flatten=Co n x
 |0=>rfl
 |n+1=>by rw[Dk,DD,A1 x n];rfl
theorem aV.rep{K:PySem.W.Frag}{H:Hp}{a:Addr}{x:Int×Int}(n:Nat)(h:SqT K H a (pl x)):aV K H (Co n a) (Co n x):=by
 refine⟨by simp,λi b y e e'=>?_⟩;rw[Et]at e e'
 split at e
 .rename_i c
  rw[if_pos c]at e';cases e;cases e';exact h
 .cases e
theorem qP{cs:List Int}{i:Nat}{y:V}(h:(cs.map V.int)[i]?=some y):∃n,y=V.int n/\cs[i]?=some n:=by
 rw[B_]at h;cases e:cs[i]? with
 |none=>rw[e]at h;cases h
 |some w=>rw[e]at h;exact⟨w,(Cw h).symm,rfl⟩
def Itz(K:PySem.W.Frag)(a b:Addr):It:=
 ⟨λi H=>∃xs ys x y,SqL K H a xs/\SqL K H b ys/\xs[i]?=some x/\ys[i]?=some y,λi H x H'=>∃p,H p=none/\x=.ref p/\∀xs ys u v,SqL K H a xs->SqL K H b ys->xs[i]?=some u->ys[i]?=some v->H'=upd H p (.tup [u,v]),λi H=>∃xs ys,SqL K H a xs/\SqL K H b ys/\(xs.length<=i\/ys.length<=i)⟩
theorem y0{P:CK}{w:CG}{K:PySem.W.Frag}{elts:List Expr}{k1}{tp:Pos}(a b z TI TO i1 i2:Addr)(D:D_ z TI TO i1 i2 a b):oN P w K (.Tuple elts k1 tp) (Itz K a b) [z,TI,TO,i1,i2] z (λi h=>IsZip h z TI TO .none/\Do h TI (.ref i1) (.ref i2)/\(∃u v,Do h TO u v)/\h.IsListIter i1 a i/\h.IsListIter i2 b i) where
 mem:=by simp
 obj:=λi h st c hb=>by
  have hb':c=z\/c=TI\/c=TO\/c=i1\/c=i2:=by simpa using hb
  obtain⟨s1,s2,⟨u,v,s3⟩,s4,s5⟩:=st;rcases hb' with rfl|rfl|rfl|rfl|rfl
  .exact⟨_,s1,λv z=>by cases z⟩
  .exact⟨_,s2,λv z=>by cases z⟩
  .exact⟨_,s3,λv z=>by cases z⟩
  .obtain⟨o,h1,_,d⟩:=s4;exact⟨o,h1,λv z=>by rw[d]at z;cases z⟩
  .obtain⟨o,h1,_,d⟩:=s5;exact⟨o,h1,λv z=>by rw[d]at z;cases z⟩
 keep:=λi h h' st k=>by
  obtain⟨s1,s2,⟨u,v,s3⟩,s4,s5⟩:=st;exact⟨k z (by simp) _ s1,k TI (by simp) _ s2,⟨u,v,k TO (by simp) _ s3⟩,s4.at λo h1=>k i1 (by simp) o h1,s5.at λo h1=>k i2 (by simp) o h1⟩
 item:=by
  intro X hP hw hK hc i pins s σ H E I hf st hg;subst hP hw hK;obtain⟨xs,ys,x,y,hqx,hqy,hx,hy⟩:=hg;obtain⟨its,rv,p,hz⟩:=I.list hqx;obtain⟨its2,rv2,p2,hz2⟩:=I.list hqy;obtain⟨u,hu,ru⟩:=rv.get hx;obtain⟨v,hv,rv'⟩:=rv2.get hy;obtain⟨st1,st2,⟨o1,o2,st3⟩,st4,st5⟩:=st;have fz:=λc (hm:c∈[z,TI,TO,i1,i2])=>hf c hm;refine wpAny_pyNext_zip_item D st1 st2 st3 st4 st5 p.isList p2.isList (x:=u) (y:=v) (by simpa using hu) (by simpa using hv) λh' hz1 hTO1 hi1 hi2 hpair hsz1 hk=>?_;have kk:∀c o,c∉[z,TI,TO,i1,i2]->s.heap.get? c=some o->h'.get? c=some o:=λc o hb q=>hk c o (λe=>hb (by simp[e])) (λe=>hb (by simp[e])) (λe=>hb (by simp[e])) (λe=>hb (by simp[e])) q;have kTI:=hk TI _ D.TIz D.TITO D.TIi1 D.TIi2 st2;have kk2:∀c o,c∉[z,TO,i1,i2]->s.heap.get? c=some o->h'.get? c=some o:=λc o hb q=>hk c o (λe=>hb (by simp[e])) (λe=>hb (by simp[e])) (λe=>hb (by simp[e])) (λe=>hb (by simp[e])) q;have nit:∀c v,H c=some v->c∉[z,TI,TO,i1,i2]:=λc v q m=>by
   have:=(hf c m).1;rw[this]at q;cases q
  have I1:Inv X pins σ H { s with heap:=h',toks:=s.toks }:=by
   refine I.step (g':=s.gens) (d':=s.drawn) (ch:=[z,TI,TO,i1,i2]) (λc hb=>?_) (λc o _ _ hb q _=>kk c o hb q) (λc o _ _ hb q _=>⟨o.slots,kk c o hb q⟩) (λ_ _ _ _ n=>n)
    (λc o hb q=>⟨o,kk c o hb q⟩) (λ_ _ q=>q) (λ_ _ _ q=>q) (λc ps q=>⟨#[],by rw[q];simp⟩) (λm hm=>?_) (λc v q=>?_) I.bare
   .obtain⟨f0,f1,f2,f3,f4,f5⟩:=hf c hb;exact⟨f3,f1,f4,f5⟩
   .obtain⟨o,es,ep,ho,r⟩:=hm;exact⟨o,es,ep,kk _ o (λm=>(hf _ m).2.1 rfl) ho,r⟩
   .refine(I.hok c v q).stay (λd o hd r=>kk d o ?_ r) (λ_ r=>r) λ_ _ r=>r;rcases hd with rfl|hd
    .exact nit _ _ q
    .exact nit _ _ hd
  have hTn:H s.heap.objs.size=none:=I.fresh;have zlt:z<s.heap.objs.size:=Cc st1;have I2:Inv X pins σ (upd H s.heap.objs.size (.tup [x,y])) { s with heap:=h',toks:=s.toks }:=by
   refine I1.track hTn I.sz (Dl I.lt) (λy c q=>?_) (λp hp=>?_) ⟨by show 2<=Cr;decide,[u,v],.cons ru (.cons rv' .nil),⟨_,hpair,rfl,_,rfl⟩⟩
   .obtain⟨v,q2⟩:=I.cell y c q;exact Cn q2.lt
   .exact Cn (Cc (I.pin p hp).1)
  refine⟨_,rfl,wpAny_letOwnedTupleGo_zip (s:={ s with heap:=h',toks:=s.toks }) hz1 λh'' hz2' hs''=>?_⟩;obtain⟨f0,f1,f2,f3,f4,f5⟩:=hf z (by simp);have I3:Inv X pins σ (upd H s.heap.objs.size (.tup [x,y])) { s with heap:=h'',toks:=s.toks }:=Inv.turned (s:={ s with heap:=h',toks:=s.toks }) (h':=h'') (t':=s.toks) (it:=z) I2 (λc o hb q=>(hs''.2 c hb).trans q) (by rw[aK (Cn zlt)];exact f0) f1 f3 f4 f5;refine⟨.ref s.heap.objs.size,_,I3,rfl,⟨_,hTn,rfl,λxs' ys' u' v' hx' hy' ex ey=>?_⟩,⟨hz2',(hs''.2 TI D.TIz).trans kTI,⟨u,v,(hs''.2 TO D.TOz).trans hTO1⟩,hi1.at λo h1=>(hs''.2 i1 D.i1z).trans h1,hi2.at λo h1=>(hs''.2 i2 D.i2z).trans h1⟩,λc hb=>?_⟩
  .rw[I.list_inj hx' hqx,hx]at ex;rw[I.list_inj hy' hqy,hy]at ey;cases ex;cases ey;rfl
  .have clt:c<s.heap.objs.size:=by
    have z':c=z\/c=TI\/c=TO\/c=i1\/c=i2:=by simpa using hb
    rcases z' with rfl|rfl|rfl|rfl|rfl
    .exact zlt
    .exact Cc st2
    .exact Cc st3
    .obtain⟨o,h1,_⟩:=st4;exact Cc h1
    .obtain⟨o,h1,_⟩:=st5;exact Cc h1
   rw[aK (Cn clt)];exact(hf c hb).1
 done:=by
  intro X hP hw hK hc i pins s σ H E I hf st hg;subst hP hw hK;obtain⟨xs,ys,hqx,hqy,hlen⟩:=hg;obtain⟨its,rv,p,hz⟩:=I.list hqx;obtain⟨its2,rv2,p2,hz2⟩:=I.list hqy;obtain⟨st1,st2,⟨o1,o2,st3⟩,st4,st5⟩:=st;have hl:=rv.length;have hl2:=rv2.length;have hend:its.toArray[i]?=none\/its2.toArray[i]?=none:=by
   rcases hlen with h|h
   .exact .inl (D7 (by rw[Ci];omega))
   .exact .inr (D7 (by rw[Ci];omega))
  refine wpAny_pyNext_zip_end (I.ok.hd hc) D st1 st2 st3 st4 st5 p.isList p2.isList hend λh' hk=>⟨rfl,?_⟩;have kk:∀c o,c∉[z,TI,TO,i1,i2]->s.heap.get? c=some o->h'.get? c=some o:=λc o hb q=>hk c o (λe=>hb (by simp[e])) (λe=>hb (by simp[e])) (λe=>hb (by simp[e])) (λe=>hb (by simp[e])) q;have nit:∀c v,H c=some v->c∉[z,TI,TO,i1,i2]:=λc v q m=>by
   have:=(hf c m).1;rw[this]at q;cases q
  refine I.step (t':=s.toks) (g':=s.gens) (d':=s.drawn) (ch:=[z,TI,TO,i1,i2]) (λc hb=>?_) (λc o _ _ hb q _=>kk c o hb q) (λc o _ _ hb q _=>⟨o.slots,kk c o hb q⟩) (λ_ _ _ _ n=>n)
   (λc o hb q=>⟨o,kk c o hb q⟩) (λ_ _ q=>q) (λ_ _ _ q=>q) (λc ps q=>⟨#[],by rw[q];simp⟩) (λm hm=>?_) (λc v q=>?_) I.bare
  .obtain⟨f0,f1,f2,f3,f4,f5⟩:=hf c hb;exact⟨f3,f1,f4,f5⟩
  .obtain⟨o,es,ep,ho,r⟩:=hm;exact⟨o,es,ep,kk _ o (λm=>(hf _ m).2.1 rfl) ho,r⟩
  .refine(I.hok c v q).stay (λd o hd r=>kk d o ?_ r) (λ_ r=>r) λ_ _ r=>r;rcases hd with rfl|hd
   .exact nit _ _ q
   .exact nit _ _ hd
 self:=λ_ _ _ _ _ st h=>Fl st.1 h
section
variable {X:Cx}{elts:List Expr}{k1:Nat}{tp:Pos}
def BZ(K:PySem.W.Frag)(tl tm:TE):TI:=λσ H R=>tl σ H λx H1=>tm σ H1 λy H2=>∃a b,x=.ref a/\y=.ref b/\(∃xs,SqL K H2 a xs)/\(∃ys,SqL K H2 b ys)/\R (Itz K a b) H2
theorem A2{l m:Expr}{k1}{tl tm:TE}{p pos:Pos}(hg:Gl X "zip")(hm:X.mg "zip" = none)(hl:PE X l tl)(hl2:PE X m tm)(hs:CJ [l,m] X.env=(false,eval l X.env)::CJ [m] X.env:=by rfl)(hs1:CJ [m] X.env=(false,eval m X.env)::CJ [] X.env:=by rfl):PI X (.Tuple elts k1 tp) (.Call (.Name "zip" p) [l,m] [] pos) (BZ X.K tl tm):=by
 intro pins s σ H R I h;have ha:PA X [l,m] (oo tl (oo tm wn)):=aa hl (aa hl2 ae hs1) hs;refine Call_ (gS I hg hm (by decide +kernel:DR "zip" = some (.type "zip")) (Dd (thn (ha pos pins s σ H (λvs H1=>match vs with|[x,y]=>∃a b,x=.ref a/\y=.ref b/\(∃xs,SqL X.K H1 a xs)/\(∃ys,SqL X.K H1 b ys)/\R (Itz X.K a b) H1|_=>False) I h) λus s1 ⟨vs,H1,I1,r1,q1⟩=>?_) hs (by rw[hs1];rfl)))
 match vs,r1,q1 with
 |[x,y],r1,q1 =>
 obtain⟨a,b,rfl,rfl,⟨xs,hqx⟩,⟨ys,hqy⟩,q⟩:=q1;obtain⟨u,v,rfl,ru,rv0⟩:=on r1;cases ru;cases rv0;obtain⟨its,rv,p,hz⟩:=I1.list hqx;obtain⟨its2,rv2,p2,hz2⟩:=I1.list hqy;have alt:a<s1.heap.objs.size:=by obtain⟨_,_,e,_⟩:=p;exact Cc e
 have blt:b<s1.heap.objs.size:=by obtain⟨_,_,e,_⟩:=p2;exact Cc e
 refine call_zip_2 p.isList p2.isList λh' g1 g2 g3 g4 g5 hz' hk=>?_;refine Fl g1 ?_;have ne:∀{m n:Nat} {N:Nat},m≠n->N+m≠N+n:=λh e=>h (Nat.add_left_cancel e);have nl:∀{c:Addr} (k:Nat),c<s1.heap.objs.size->c≠s1.heap.objs.size+k:=λk h e=>absurd h (by rw[e];exact Nat.not_lt.mpr (CN _ _));have D:D_ (s1.heap.objs.size+4) (s1.heap.objs.size+2) (s1.heap.objs.size+3) s1.heap.objs.size (s1.heap.objs.size+1) a b:=
  ⟨ne (by decide),ne (by decide),ne (m:=0) (by decide),ne (by decide),ne (by decide),ne (n:=0) (by decide),ne (by decide),ne (n:=0) (by decide),ne (by decide),ne (m:=0) (by decide),nl 4 alt,nl 3 alt,nl 0 alt,nl 1 alt,nl 4 blt,nl 3 blt,nl 0 blt,nl 1 blt⟩
 refine⟨s1.heap.objs.size+4,[s1.heap.objs.size+4,s1.heap.objs.size+2,s1.heap.objs.size+3,s1.heap.objs.size,s1.heap.objs.size+1],_,_,H1,rfl,I1.kept (t':=s1.toks) hk,y0 a b _ _ _ _ _ D,⟨g1,g2,⟨_,_,g3⟩,g4,g5⟩,λc hb=>?_,q⟩;have z':c=s1.heap.objs.size+4\/c=s1.heap.objs.size+2\/c=s1.heap.objs.size+3\/c=s1.heap.objs.size\/c=s1.heap.objs.size+1:=by simpa using hb
 rcases z' with rfl|rfl|rfl|rfl|rfl
 .exact I1.fpOk (CN _ _) (I1.hok.fresh (CN _ _))
 .exact I1.fpOk (CN _ _) (I1.hok.fresh (CN _ _))
 .exact I1.fpOk (CN _ _) (I1.hok.fresh (CN _ _))
 .exact I1.fpOk (B4 _) (I1.hok.fresh (B4 _))
 .exact I1.fpOk (Ew _) (I1.hok.fresh (Ew _))
end
theorem z8{K:PySem.W.Frag}{a b:Addr}{xs ys:List V}{g:TG}{tb:TS}{D:hJ}{σ:St}{H:Hp}(Pv:Nat->St->Hp->Prop)(el:xs.length=ys.length)(h0:Pv 0 σ H)(hl:∀i σ H,i<=xs.length->Pv i σ H->SqL K H a xs/\SqL K H b ys)
  (hs:∀i x y σ H p,xs[i]?=some x->ys[i]?=some y->Pv i σ H->H p=none->g (.ref p) σ (upd H p (.tup [x,y])) λσ2 H2=>tb { D with nx:=Pv (i+1),ct:=Pv (i+1),bk:=D.nx } σ2 H2)(hd:∀σ H,Pv xs.length σ H->D.nx σ H) :
  ∃W:Nat->Nat->St->Hp->Prop,(∃m,W 0 m σ H)/\∀i m σ H,W i m σ H->
   ((Itz K a b).stop i H/\D.nx σ H)\/((Itz K a b).go i H/\∃N:St->Hp->Prop,(∀σ' H',N σ' H'->∃m',m'<m/\W (i+1) m' σ' H')/\∀x H',(Itz K a b).yld i H x H'->g x σ H' λσ2 H2=>tb { D with nx:=N,ct:=N,bk:=D.nx } σ2 H2):=by
 refine⟨λi m σ H=>m=xs.length-i/\i<=xs.length/\Pv i σ H,⟨xs.length,by simp,Cv _,h0⟩,?_⟩;rintro i m σ H ⟨rfl,hi,p⟩;obtain⟨q1,q2⟩:=hl i σ H hi p;by_cases hlt:i<xs.length
 .have hlt2:i<ys.length:=by omega
  have e1:xs[i]?=some xs[i]:=c7 hlt;have e2:ys[i]?=some ys[i]:=c7 hlt2;refine .inr ⟨⟨xs,ys,xs[i],ys[i],q1,q2,e1,e2⟩,Pv (i+1),λσ' H' p'=>⟨xs.length-(i+1),by omega,rfl,hlt,p'⟩,λx H' y=>?_⟩;obtain⟨t,ht,e,y⟩:=y;subst e;have e3:=y xs ys xs[i] ys[i] q1 q2 e1 e2;subst e3;exact hs i xs[i] ys[i] σ H t e1 e2 p ht
 .have e:i=xs.length:=by omega
  subst e;exact .inl ⟨⟨xs,ys,q1,q2,.inl (B4 _)⟩,hd σ H p⟩
end L2

set_option maxHeartbeats 4000000
namespace PySem
abbrev ki(h:Heap)(z TI TO:Addr)(f0 f1:B5):Prop:=
 h.get? z=some { cls:=.type "zip",dict:=none,data:=.fields #[f0,f1,.bool false,.ref TI,.ref TO],slots:=#[] }
section
variable {prog:CK}{w:CG}{A:CY}{E:B5->B9->Prop}{s:B9}
theorem oD{M:Model}{a:Addr}{o:Obj}{Q:Option Obj->B9->Prop}(ho:s.heap.get? a=some o)(h:Q (some o) s):Cz M A (FD a) Q E s:=λΓ p _=>by
 unfold FD;rw[Sem.wp_loadIfAlive,ho];exact h
theorem x5{z TI TO i1 i2 l1 l2 T:Addr}{k1 k2:Nat}{xs ys:Array B5}{x y:B5}{b:Bool}{oT:Obj}{Q:B5->B9->Prop}(D:D_ z TI TO i1 i2 l1 l2)
  (hz:ki s.heap z TI TO (EN T) (.bool b))(hT:s.heap.get? T=some oT)(hTI:Do s.heap TI (.ref i1) (.ref i2))
  (h1:s.heap.IsListIter i1 l1 k1)(h2:s.heap.IsListIter i2 l2 k2)(hl1:s.heap.IsList l1 xs)(hl2:s.heap.IsList l2 ys)(hx:xs[k1]?=some x)(hy:ys[k2]?=some y)
  (hQ:∀ h',ki h' z TI TO (EN T) (.bool true)→h'.IsListIter i1 l1 (k1+1)→h'.IsListIter i2 l2 (k2+1)→Do h' s.heap.objs.size x y→h'.objs.size=s.heap.objs.size+1 →
   (∀c o,c≠z->c≠i1->c≠i2->s.heap.get? c=some o->h'.get? c=some o)->Q (.ref s.heap.objs.size) { s with heap:=h' }) :
  Cz (CF prog w) A (F0.«zip.__next__» ⟨[.ref z],[]⟩) (λfin s'=>∃v,fin=.done (.ret v)/\Q v s') E s:=by
 show Cz _ _ (field (.ref z) 2 >>= _) _ _ _;refine B8 (Eh hz rfl (x:=.bool false) rfl ?_);skip;show Cz _ _ (field (.ref z) 3 >>= _) _ _ _;refine B8 (Eh hz rfl (x:=.ref TI) rfl (B8 (DB hTI rfl ?_)));show Cz _ _ (CU (.ref z) >>= _) _ _ _;have step:∀(Q':Bool->B9->Prop) (E':B5->B9->Prop),(∀h',ki h' z TI TO (EN T) (.bool true)->EX z s.heap h'->Q' false { s with heap:=h' })->Cz (CF prog w) A (CU (.ref z)) Q' E' s:=by
  intro Q' E' h;unfold CU;refine B8 (Eh hz rfl (x:=EN T) rfl ?_);skip;show Cz _ _ (FD (T:Int).toNat >>= _) _ _ _;refine B8 (oD (by rw[Dt];exact hT) ?_);skip;show Cz _ _ (field (.ref z) 1 >>= _) _ _ _;refine B8 (Eh hz rfl (x:=.bool b) rfl ?_);skip;cases b with
  |true=>exact Cs (h s.heap hz (Heap.SameBut.refl ..))
  |false =>
   refine B8 (wpAny_setField_rec hz (by simp) λh' hz' hs'=>Cs (h h' hz' hs'))
 refine B8 (step _ _ λh₁ hz₁ hs₁=>?_);simp only[DO,if_false];rw[<-Array.forIn_toList];simp only[List.forIn_cons,List.forIn_nil];refine B8 (B8 (B8 (Dr ?_)));show Cz _ _ (Ek (.ref i1) >>= _) _ _ _;refine B8 (wpAny_nextOf_list_item (h1.extBut hs₁.extBut D.i1z) (hl1.extBut hs₁.extBut D.l1z) hx λh₂ h1₂ hs₂=>Cs (Cs ?_));refine B8 (B8 (Dr ?_));show Cz _ _ (Ek (.ref i2) >>= _) _ _ _;refine B8 (wpAny_nextOf_list_item ((h2.extBut hs₁.extBut D.i2z).extBut hs₂.extBut D.i12.symm) ((hl2.extBut hs₁.extBut D.l2z).extBut hs₂.extBut D.l2i1) hy λh₄ h2₄ hs₄=>Cs (Cs (Cs ?_)));have hsz:h₄.objs.size=s.heap.objs.size:=by rw[hs₄.1,hs₂.1,hs₁.1]
 have hz₄:ki h₄ z TI TO (EN T) (.bool true):=hs₄.extBut _ _ D.i2z.symm (hs₂.extBut _ _ D.i1z.symm hz₁);have hk:∀c o,c≠z->c≠i1->c≠i2->s.heap.get? c=some o->h₄.get? c=some o:=λc o c1 c2 c3 e=>hs₄.extBut _ _ c3 (hs₂.extBut _ _ c2 (hs₁.extBut _ _ c1 e));refine B8 (wpAny_newTuple (hsz:=(show 2<=Cr by decide)) (Cs ⟨_,rfl,?_⟩));show Q (.ref h₄.objs.size) _;have hp:Do (h₄.push { cls:=.type "tuple",data:=.seq #[x,y] }) h₄.objs.size x y:=Cu _ rfl;have hps:(h₄.push { cls:=.type "tuple",data:=.seq #[x,y] }).objs.size=h₄.objs.size+1:=Du ..;rw[hsz]at hp hps⊢;exact hQ _ (Cd _ hz₄) (((h1₂.extBut hs₄.extBut D.i12)).at λo e=>Cd _ e) (h2₄.at λo e=>Cd _ e) hp hps λc o c1 c2 c3 e=>Cd _ (hk c o c1 c2 c3 e)
theorem wI{z TI TO i1 i2 l1 l2 T:Addr}{k1 k2:Nat}{xs ys:Array B5}{x y:B5}{b:Bool}{oT:Obj}{Q:Option B5->B9->Prop}(D:D_ z TI TO i1 i2 l1 l2)
  (hz:ki s.heap z TI TO (EN T) (.bool b))(hT:s.heap.get? T=some oT)(hTI:Do s.heap TI (.ref i1) (.ref i2))
  (h1:s.heap.IsListIter i1 l1 k1)(h2:s.heap.IsListIter i2 l2 k2)(hl1:s.heap.IsList l1 xs)(hl2:s.heap.IsList l2 ys)(hx:xs[k1]?=some x)(hy:ys[k2]?=some y)
  (hQ:∀ h',ki h' z TI TO (EN T) (.bool true)→h'.IsListIter i1 l1 (k1+1)→h'.IsListIter i2 l2 (k2+1)→Do h' s.heap.objs.size x y→h'.objs.size=s.heap.objs.size+1 →
   (∀c o,c≠z->c≠i1->c≠i2->s.heap.get? c=some o->h'.get? c=some o)->Q (some (.ref s.heap.objs.size)) { s with heap:=h' }) :
  Cz (CF prog w) A (El (.ref z)) Q E s:=by
 have hTy:s.TypeIs (.ref z) "zip":=⟨_,hz,rfl⟩;unfold El;exact B8 (wpAny_attempt (wpAny_callSpecial?_slot (name:=EV "__next__") hTy ET
  (wpAny_call_entry ET hTy F.entry_zip_next (x5 D hz hT hTI h1 h2 hl1 hl2 hx hy λh' a1 a2 a3 a4 a5 a6=>Cs (hQ h' a1 a2 a3 a4 a5 a6)) (F.args_zip_next_1 _))))
theorem y1{z TI TO i1 i2 l1 l2 T:Addr}{k1:Nat}{xs:Array B5}{b:Bool}{oT:Obj}{Q:Fin->B9->Prop}(hh:A.handled=none)(D:D_ z TI TO i1 i2 l1 l2)
  (hz:ki s.heap z TI TO (EN T) (.bool b))(hT:s.heap.get? T=some oT)(hTI:Do s.heap TI (.ref i1) (.ref i2))
  (h1:s.heap.IsListIter i1 l1 k1)(hl1:s.heap.IsList l1 xs)(hend:xs[k1]?=none)
  (hE:∀h' e,(∀c o,c≠z->c≠i1->s.heap.get? c=some o->h'.get? c=some o)->(∃o,h'.get? e=some o/\o.cls=.type "StopIteration")->E (.ref e) { s with heap:=h' }) :
  Cz (CF prog w) A (F0.«zip.__next__» ⟨[.ref z],[]⟩) Q E s:=by
 show Cz _ _ (field (.ref z) 2 >>= _) _ _ _;refine B8 (Eh hz rfl (x:=.bool false) rfl ?_);skip;show Cz _ _ (field (.ref z) 3 >>= _) _ _ _;refine B8 (Eh hz rfl (x:=.ref TI) rfl (B8 (DB hTI rfl ?_)));show Cz _ _ (CU (.ref z) >>= _) _ _ _;have step:∀(Q':Bool->B9->Prop) (E':B5->B9->Prop),(∀h',ki h' z TI TO (EN T) (.bool true)->EX z s.heap h'->Q' false { s with heap:=h' })->Cz (CF prog w) A (CU (.ref z)) Q' E' s:=by
  intro Q' E' h;unfold CU;refine B8 (Eh hz rfl (x:=EN T) rfl ?_);skip;show Cz _ _ (FD (T:Int).toNat >>= _) _ _ _;refine B8 (oD (by rw[Dt];exact hT) ?_);skip;show Cz _ _ (field (.ref z) 1 >>= _) _ _ _;refine B8 (Eh hz rfl (x:=.bool b) rfl ?_);skip;cases b with
  |true=>exact Cs (h s.heap hz (Heap.SameBut.refl ..))
  |false =>
   refine B8 (wpAny_setField_rec hz (by simp) λh' hz' hs'=>Cs (h h' hz' hs'))
 refine B8 (step _ _ λh₁ hz₁ hs₁=>?_);simp only[DO,if_false];rw[<-Array.forIn_toList];simp only[List.forIn_cons,List.forIn_nil];refine B8 (B8 (B8 (Dr ?_)));show Cz _ _ (Ek (.ref i1) >>= _) _ _ _;exact B8 (wpAny_nextOf_list_end hh (h1.extBut hs₁.extBut D.i1z) (hl1.extBut hs₁.extBut D.l1z) hend λh₂ e hs₂ he=>hE h₂ e (λc o c1 c2 x=>hs₂ _ _ c2 (hs₁.extBut _ _ c1 x)) he)
theorem x6{z TI TO i1 i2 l1 l2 T:Addr}{k1:Nat}{xs:Array B5}{b:Bool}{oT:Obj}{Q:Option B5->B9->Prop}(hh:A.handled=none)(D:D_ z TI TO i1 i2 l1 l2)
  (hz:ki s.heap z TI TO (EN T) (.bool b))(hT:s.heap.get? T=some oT)(hTI:Do s.heap TI (.ref i1) (.ref i2))(h1:s.heap.IsListIter i1 l1 k1)(hl1:s.heap.IsList l1 xs)(hend:xs[k1]?=none)
  (hQ:∀h',(∀c o,c≠z->c≠i1->s.heap.get? c=some o->h'.get? c=some o)->Q none { s with heap:=h' }):Cz (CF prog w) A (El (.ref z)) Q E s:=by
 have hTy:s.TypeIs (.ref z) "zip":=⟨_,hz,rfl⟩;unfold El;refine B8 (wpAny_attempt (wpAny_callSpecial?_slot (name:=EV "__next__") hTy ET
  (wpAny_call_entry ET hTy F.entry_zip_next (y1 hh D hz hT hTI h1 hl1 hend λh' e hk he=>?_) (F.args_zip_next_1 _))))
 obtain⟨o,ho,hc⟩:=he;exact B8 (wpAny_isInstance (T := "StopIteration") (b:=true) ⟨o,ho,hc⟩ isSubtype_stop (Cs (hQ _ hk)))
def ZAt(z TI TO:Addr)(i:Nat)(h:Heap):Prop:=(i=0/\IsZip h z TI TO .none)\/(0<i/\∃(T:Addr) (b:Bool) (oT:Obj),ki h z TI TO (EN T) (.bool b)/\h.get? T=some oT/\T∉[z,TO]/\oT.cls=.type "tuple")
theorem z9{z TI TO i1 i2 l1 l2:Addr}{i:Nat}{xs ys:Array B5}{x y:B5}{Q:Option B5->B9->Prop}(D:D_ z TI TO i1 i2 l1 l2)(hz:ZAt z TI TO i s.heap)(hTI:Do s.heap TI (.ref i1) (.ref i2))(hTO:∃u v,Do s.heap TO u v)(h1:s.heap.IsListIter i1 l1 i)(h2:s.heap.IsListIter i2 l2 i)(hl1:s.heap.IsList l1 xs)(hl2:s.heap.IsList l2 ys)(hx:xs[i]?=some x)(hy:ys[i]?=some y)
  (hQ:∀h',ZAt z TI TO (i+1) h'->(∃u v,Do h' TO u v)->h'.IsListIter i1 l1 (i+1)->h'.IsListIter i2 l2 (i+1)->Do h' s.heap.objs.size x y->h'.objs.size=s.heap.objs.size+1->(∀c o,c≠z->c≠TO->c≠i1->c≠i2->s.heap.get? c=some o->h'.get? c=some o)->Q (some (.ref s.heap.objs.size)) { s with heap:=h' }) :
  Cz (CF prog w) A (El (.ref z)) Q E s:=by
 obtain⟨u,v,hTO⟩:=hTO;rcases hz with⟨i0,hz⟩|⟨i0,T,b,oT,hz,hT,nT,cT⟩
 .refine wpAny_pyNext_zip_item D hz hTI hTO h1 h2 hl1 hl2 hx hy λh' a1 a2 a3 a4 a5 a6 a7=>hQ h' (.inr ⟨D6 _,s.heap.objs.size,false,_,a1,a5,?_,rfl⟩) ⟨_,_,a2⟩ a3 a4 a5 a6 a7;intro hm;rcases List.mem_cons.mp hm with e|e
  .exact absurd (Cc hz) (by rw[<-e];exact CI _)
  .exact absurd (Cc hTO) (by rw[<-List.mem_singleton.mp e];exact CI _)
 .have ni:∀{j l:Addr} {k:Nat},s.heap.IsListIter j l k->T≠j:=λhj e=>by
   obtain⟨o,ho,hc,_⟩:=hj;rw[<-e,hT]at ho;cases ho;rw[cT]at hc;simp at hc
  refine wI D hz hT hTI h1 h2 hl1 hl2 hx hy λh' a1 a2 a3 a4 a5 a6=>hQ h' (.inr ⟨D6 _,T,true,oT,a1,a6 T oT (λe=>nT (by simp[e])) (ni h1) (ni h2) hT,nT,cT⟩) ⟨u,v,a6 TO _ D.TOz D.TOi1 D.TOi2 hTO⟩ a2 a3 a4 a5 λc o c1 _ c3 c4 e=>a6 c o c1 c3 c4 e
theorem z_{z TI TO i1 i2 l1 l2:Addr}{i:Nat}{xs ys:Array B5}{Q:Option B5->B9->Prop}(hh:A.handled=none)(D:D_ z TI TO i1 i2 l1 l2)(hz:ZAt z TI TO i s.heap)(hTI:Do s.heap TI (.ref i1) (.ref i2))(hTO:∃u v,Do s.heap TO u v)(h1:s.heap.IsListIter i1 l1 i)(h2:s.heap.IsListIter i2 l2 i)(hl1:s.heap.IsList l1 xs)(hl2:s.heap.IsList l2 ys)(hx:xs[i]?=none)
  (hQ:∀h',(∀c o,c≠z->c≠TO->c≠i1->c≠i2->s.heap.get? c=some o->h'.get? c=some o)->Q none { s with heap:=h' }):Cz (CF prog w) A (El (.ref z)) Q E s:=by
 obtain⟨u,v,hTO⟩:=hTO;rcases hz with⟨i0,hz⟩|⟨i0,T,b,oT,hz,hT,nT,cT⟩
 .exact wpAny_pyNext_zip_end hh D hz hTI hTO h1 h2 hl1 hl2 (.inl hx) hQ
 .exact x6 hh D hz hT hTI h1 hl1 hx λh' hk=>hQ h' λc o c1 _ c3 _ e=>hk c o c1 c3 e
end
section
variable {prog:CK}{w:CG}{A:CY}{R:FM->B9->Prop}
theorem ZAt.keep{z TI TO S:Addr}{i:Nat}{h h':Heap}{acc:Array B5}{c:Nat}(hz:ZAt z TI TO i h)(nz:S≠z)(hS:h.get? S=some { cls:=.type "list",dict:=none,data:=.seq acc c,slots:=#[] })(k:∀b o,b≠S->h.get? b=some o->h'.get? b=some o):ZAt z TI TO i h':=by
 rcases hz with⟨i0,hz⟩|⟨i0,T,b,oT,hz,hT,nT,cT⟩
 .exact .inl ⟨i0,k z _ (CO nz) hz⟩
 .refine .inr ⟨i0,T,b,oT,k z _ (CO nz) hz,k T _ (λe=>?_) hT,nT,cT⟩;rw[e,hS]at hT;cases hT;simp at cT
theorem y3{z TI TO i1 i2 l1 l2 S:Addr}(hh:A.in1.handled=none)(D:D_ z TI TO i1 i2 l1 l2)(xs ys:Array B5)(el:xs.size=ys.size)(hn:xs.size<=Cr)(res:B5)(nS:S∉[z,TI,TO,i1,i2,l1,l2]) :
  ∀(k i:Nat) (s:B9) (acc:Array B5) (c:Nat),xs.size-i=k->i<=xs.size->ZAt z TI TO i s.heap->Do s.heap TI (.ref i1) (.ref i2)->(∃u v,Do s.heap TO u v)->s.heap.IsListIter i1 l1 i->s.heap.IsListIter i2 l2 i->s.heap.IsList l1 xs->s.heap.IsList l2 ys->
  s.heap.get? S=some { cls:=.type "list",dict:=none,data:=.seq acc c,slots:=#[] }->acc.size=i->
  (∀h' acc' c',(∀b o,b∉[z,TO,i1,i2,S]->s.heap.get? b=some o->h'.get? b=some o)->h'.get? S=some { cls:=.type "list",dict:=none,data:=.seq acc' c',slots:=#[] }->acc'.size=xs.size->(∀(j:Nat) v,acc'[j]?=some v->acc[j]?=some v\/(i<=j/\v=.ref (s.heap.objs.size+(j-i))/\∃x y,xs[j]?=some x/\ys[j]?=some y/\Do h' (s.heap.objs.size+(j-i)) x y))->R (.ok (.ret res)) { s with heap:=h' })->
  Ee (CF prog w) A (.builtin "list.extend.loop" ⟨[.ref S,.ref z,res],[]⟩) R s:=by
 have ns:∀{b:Addr},b∈[z,TI,TO,i1,i2,l1,l2]->S≠b:=λhb e=>nS (e▸hb);intro k;induction k with
 |zero =>
  intro i s acc c e hi hz hTI hTO h1 h2 hl1 hl2 hS hacc hR;refine DI F.entry_extend_loop (by
   rw[Df Em _];refine B8 (m:=El (.ref z)) (z_ hh D hz hTI hTO h1 h2 hl1 hl2 (D7 (by omega)) λh' hk=>Cs ?_);skip;have kk:∀b o,b∉[z,TO,i1,i2,S]->s.heap.get? b=some o->h'.get? b=some o:=λb o hb q=>hk b o (λe=>hb (by simp[e])) (λe=>hb (by simp[e])) (λe=>hb (by simp[e])) (λe=>hb (by simp[e])) q;exact hR h' acc c kk (hk S _ (ns (by simp)) (ns (by simp)) (ns (by simp)) (ns (by simp)) hS) (by omega) λj v ev=>.inl ev)
 |succ k ih =>
  intro i s acc c e hi hz hTI hTO h1 h2 hl1 hl2 hS hacc hR;have hlt:i<xs.size:=by omega
  have hlt2:i<ys.size:=by omega
  refine DI F.entry_extend_loop (by
   rw[Df Em _];refine B8 (m:=El (.ref z)) (z9 D hz hTI hTO h1 h2 hl1 hl2 (C_ hlt) (C_ hlt2) λh' a1 a2 a3 a4 a5 a6 a7=>?_);skip;have hS':=a7 S _ (ns (by simp)) (ns (by simp)) (ns (by simp)) (ns (by simp)) hS;have oth:∀b o,b≠S->h'.get? b=some o->(h'.update S (CT (·.push (.ref s.heap.objs.size)))).get? b=some o:=λb o hb q=>(Cq _ _ (CO hb)).trans q;have lt:∀{b:Addr} {o:Obj},s.heap.get? b=some o->s.heap.objs.size≠b:=λq=>Dl (Cc q);have szl:s.heap.objs.size∉[z,TO,i1,i2,S]:=λhm=>by
    have z':s.heap.objs.size=z\/s.heap.objs.size=TO\/s.heap.objs.size=i1\/s.heap.objs.size=i2\/s.heap.objs.size=S:=by simpa using hm
    rcases z' with z'|z'|z'|z'|z'
    .rcases hz with⟨_,q⟩|⟨_,_,_,_,q,_⟩
     .exact lt q z'
     .exact lt q z'
    .obtain⟨_,_,q⟩:=hTO;exact lt q z'
    .obtain⟨_,q,_⟩:=h1;exact lt q z'
    .obtain⟨_,q,_⟩:=h2;exact lt q z'
    .exact lt hS z'
   have kl:∀{b:Addr} {o:Obj},b≠z->b≠TO->b≠i1->b≠i2->b≠S->s.heap.get? b=some o->(h'.update S (CT (·.push (.ref s.heap.objs.size)))).get? b=some o:=λn1 n2 n3 n4 n5 q=>oth _ _ n5 (a7 _ _ n1 n2 n3 n4 q);have hsz:(h'.update S (CT (·.push (.ref s.heap.objs.size)))).objs.size=s.heap.objs.size+1:=by rw[EI];exact a6
   refine B8 (m:=EH S (·.push (.ref s.heap.objs.size))) (Dm hS' rfl (Cs ⟨DA Em _,ih (i+1) _ (acc.push (.ref s.heap.objs.size)) _ (by omega) hlt (a1.keep (ns (by simp)) hS' oth) (kl D.TIz D.TITO D.TIi1 D.TIi2 (CO (ns (by simp))) hTI) (let⟨u,v,q⟩:=a2;⟨u,v,oth _ _ (CO (ns (by simp))) q⟩) (a3.at λo q=>oth _ o (CO (ns (by simp))) q) (a4.at λo q=>oth _ o (CO (ns (by simp))) q) (hl1.at λo q=>kl D.l1z D.l1TO D.l1i1 D.l1i2 (CO (ns (by simp))) q) (hl2.at λo q=>kl D.l2z D.l2TO D.l2i1 D.l2i2 (CO (ns (by simp))) q) (C3 _ hS' rfl) (by rw[Array.size_push,hacc]) λh3 acc3 c3 k3 hS3 sz3 it3=>?_⟩) (by rw[hacc];omega) (by show(acc.push _).size<=Cr+1;rw[Array.size_push,hacc];omega));skip;refine hR h3 acc3 c3 (λb o hb q=>k3 b o hb (kl (λe=>hb (by simp[e])) (λe=>hb (by simp[e])) (λe=>hb (by simp[e])) (λe=>hb (by simp[e])) (λe=>hb (by simp[e])) q)) hS3 sz3 λj v ev=>?_;rcases it3 j v ev with q|⟨q1,q2,x,y,q3,q4,q5⟩
   .rw[Array.getElem?_push]at q
    split at q
    .rename_i ej
     cases q;have ej2:j=i:=by omega
     subst ej2;refine .inr ⟨B4 _,congrArg Fh (by rw[DT,Nat.add_zero]),_,_,C_ hlt,C_ hlt2,?_⟩;rw[DT,Nat.add_zero];exact k3 _ _ szl (oth _ _ (λe=>szl (by rw[e];simp)) a5)
    .exact .inl q
   .have e2:s.heap.objs.size+1+(j-(i+1))=s.heap.objs.size+(j-i):=by omega
    have q2':v=.ref ((h'.update S (CT (·.push (.ref s.heap.objs.size)))).objs.size+(j-(i+1))):=q2;have q5':Do h3 ((h'.update S (CT (·.push (.ref s.heap.objs.size)))).objs.size+(j-(i+1))) x y:=q5;rw[hsz,e2]at q2' q5';exact .inr ⟨by omega,q2',x,y,q3,q4,q5'⟩)
end
namespace F
theorem zip_no_len:F7 (.type "zip") "__len__" = pure none:=by rw[typeLookup_type,builtinLookup_eq_fast];kernel_rfl
theorem zip_no_hint:F7 (.type "zip") "__length_hint__" = pure none:=by rw[typeLookup_type,builtinLookup_eq_fast];kernel_rfl
end F
section
variable {prog:CK}{w:CG}{A:CY}{s:B9}{R:FM->B9->Prop}
theorem wJ{z TI TO i1 i2 l1 l2 S:Addr}{c₀:Nat}(hh:A.in1.handled=none)(D:D_ z TI TO i1 i2 l1 l2){xs ys:Array B5}(el:xs.size=ys.size)(hn:xs.size<=Cr)(res:B5)(nS:S∉[z,TI,TO,i1,i2,l1,l2])
  (hz:IsZip s.heap z TI TO .none)(hTI:Do s.heap TI (.ref i1) (.ref i2))(hTO:∃u v,Do s.heap TO u v)(h1:s.heap.IsListIter i1 l1 0)(h2:s.heap.IsListIter i2 l2 0)(hl1:s.heap.IsList l1 xs)(hl2:s.heap.IsList l2 ys)
  (hS:s.heap.get? S=some { cls:=.type "list",data:=.seq #[] c₀ })
  (hR:∀h' acc' c',(∀b o,b∉[z,TO,i1,i2,S]->s.heap.get? b=some o->h'.get? b=some o)->h'.get? S=some { cls:=.type "list",dict:=none,data:=.seq acc' c',slots:=#[] }->acc'.size=xs.size->(∀(j:Nat) v,acc'[j]?=some v->v=.ref (s.heap.objs.size+j)/\∃x y,xs[j]?=some x/\ys[j]?=some y/\Do h' (s.heap.objs.size+j) x y)->R (.ok (.ret res)) { s with heap:=h' }) :
  Cz (CF prog w) A.in1 (DL (.ref S) (.ref z) res)
   (λfin s'=>match fin with|.done f=>R (.ok f) s'|.again c'=>c'.quiet=true/\Ee (CF prog w) A c' R s') (λe s'=>R (.error e) s') s:=by
 have ns:∀{b:Addr},b∈[z,TI,TO,i1,i2,l1,l2]->S≠b:=λhb e=>nS (e▸hb);have hT:s.TypeIs (.ref z) "zip":=⟨_,hz,rfl⟩;unfold DL;refine B8 (wpAny_typeOf hT ?_);have e1:Builtin.List.listSameRef (.ref S) (.ref z)=false:=by simp[Builtin.List.listSameRef,ns (b:=z) (by simp)]
 have e2:(Fo "zip" == Fo "list")=false:=by decide
 have e3:(Fo "zip" == Fo "tuple")=false:=by decide
 simp only[e1,e2,e3,Bool.or_false,DO,if_false];refine B8 (Fl hz ?_);refine B8 (Dr ?_);skip;unfold Builtin.List.listLengthHint;refine B8 (wpAny_specialOf hT F.zip_no_len ?_);show Cz _ A.in1 (specialOf (Fh z) (EV "__length_hint__") >>= _) _ _ _;refine B8 (wpAny_specialOf hT F.zip_no_hint ?_);refine Cs ?_;show Cz _ A.in1 (rule "list.extend.makes-room" >>= λ_=>Builtin.List.listTouch (.ref S) >>= λ_=>again (.builtin "list.extend.loop" ⟨[.ref S,.ref z,res],[]⟩)) _ _ _;refine B8 (wpAny_rule ?_);refine B8 ?_;show Cz _ A.in1 (EH S (·.push .none) >>= λ_=>EH S (·.pop)) _ _ s;refine B8 (Dm hS rfl ?_);skip;have hS₂:=C3 (CT (·.push ED)) hS rfl;refine Dm (hz:=by seq_fits) hS₂ rfl ?_;skip;have hS₃:=C3 (CT (·.pop)) hS₂ rfl;have oth:∀b o,b≠S->s.heap.get? b=some o->((s.heap.update S (CT (·.push ED))).update S (CT (·.pop))).get? b=some o:=λb o hb e=>(Cq _ _ (CO hb)).trans ((Cq _ _ (CO hb)).trans e);have hsz:((s.heap.update S (CT (·.push ED))).update S (CT (·.pop))).objs.size=s.heap.objs.size:=by rw[EI,EI]
 refine Cs ⟨DA Em _,y3 hh D xs ys el hn res nS xs.size 0 _ #[] _ rfl (Cv _) (.inl ⟨rfl,oth _ _ (CO (ns (by simp))) hz⟩) (oth _ _ (CO (ns (by simp))) hTI) (let⟨u,v,q⟩:=hTO;⟨u,v,oth _ _ (CO (ns (by simp))) q⟩) (h1.at λo q=>oth _ o (CO (ns (by simp))) q) (h2.at λo q=>oth _ o (CO (ns (by simp))) q) (hl1.at λo q=>oth _ o (CO (ns (by simp))) q) (hl2.at λo q=>oth _ o (CO (ns (by simp))) q) hS₃ rfl λh' acc' c' k hS' sz it=>?_⟩;refine hR h' acc' c' (λb o hb q=>k b o hb (oth b o (λe=>hb (by simp[e])) q)) hS' sz λj v ev=>?_;rcases it j v ev with q|⟨_,q2,x,y,q3,q4,q5⟩
 .simp at q
 .have q2':v=.ref (((s.heap.update S (CT (·.push ED))).update S (CT (·.pop))).objs.size+(j-0)):=q2;have q5':Do h' (((s.heap.update S (CT (·.push ED))).update S (CT (·.pop))).objs.size+(j-0)) x y:=q5;rw[hsz,Nat.sub_zero]at q2' q5';exact⟨q2',x,y,q3,q4,q5'⟩
theorem y4{z TI TO i1 i2 l1 l2 S:Addr}(hh:A.in1.handled=none)(D:D_ z TI TO i1 i2 l1 l2){xs ys:Array B5}(el:xs.size=ys.size)(hn:xs.size<=Cr)(nS:S∉[z,TI,TO,i1,i2,l1,l2])
  (hz:IsZip s.heap z TI TO .none)(hTI:Do s.heap TI (.ref i1) (.ref i2))(hTO:∃u v,Do s.heap TO u v)(h1:s.heap.IsListIter i1 l1 0)(h2:s.heap.IsListIter i2 l2 0)(hl1:s.heap.IsList l1 xs)(hl2:s.heap.IsList l2 ys)
  (hS:s.heap.get? S=some { cls:=.type "list",data:=.seq #[] })
  (hR:∀h' acc' c',(∀b o,b∉[z,TO,i1,i2,S]->s.heap.get? b=some o->h'.get? b=some o)->h'.get? S=some { cls:=.type "list",dict:=none,data:=.seq acc' c',slots:=#[] }->acc'.size=xs.size->(∀(j:Nat) v,acc'[j]?=some v->v=.ref (s.heap.objs.size+j)/\∃x y,xs[j]?=some x/\ys[j]?=some y/\Do h' (s.heap.objs.size+j) x y)->R (.ok (.ret .none)) { s with heap:=h' }) :
  Cz (CF prog w) A.in1 (F0.«list.__init__» ⟨[.ref S,.ref z],[]⟩)
   (λfin s'=>match fin with|.done f=>R (.ok f) s'|.again c'=>c'.quiet=true/\Ee (CF prog w) A c' R s') (λe s'=>R (.error e) s') s:=by
 have ns:∀{b:Addr},b∈[z,TI,TO,i1,i2,l1,l2]->S≠b:=λhb e=>nS (e▸hb);show Cz _ A.in1 (do let old<-Builtin.List.listItems (.ref S);Builtin.List.listUpdate (.ref S) (λ_=>#[]);letGo old.toList.reverse;DL (.ref S) (.ref z) .none) _ _ s
 refine B8 ?_;unfold Builtin.List.listItems;refine B8 (DB hS rfl (Cs ?_));skip;show Cz _ A.in1 (EH S (λ_=>#[]) >>= λ_=>letGo (#[]:Array B5).toList.reverse >>= λ_=>DL (.ref S) (.ref z) .none) _ _ s;refine B8 (Dm hS rfl ?_);skip;have hS₂:=C3 (CT (λ_=>(#[]:Array B5))) hS rfl;have oth:∀b o,b≠S->s.heap.get? b=some o->(s.heap.update S (CT (λ_=>(#[]:Array B5)))).get? b=some o:=λb o hb e=>(Cq _ _ (CO hb)).trans e;have hsz:(s.heap.update S (CT (λ_=>(#[]:Array B5)))).objs.size=s.heap.objs.size:=EI ..;refine B8 (D1 ?_);refine wJ hh D el hn .none nS (oth _ _ (CO (ns (by simp))) hz) (oth _ _ (CO (ns (by simp))) hTI) (let⟨u,v,q⟩:=hTO;⟨u,v,oth _ _ (CO (ns (by simp))) q⟩) (h1.at λo q=>oth _ o (CO (ns (by simp))) q) (h2.at λo q=>oth _ o (CO (ns (by simp))) q) (hl1.at λo q=>oth _ o (CO (ns (by simp))) q) (hl2.at λo q=>oth _ o (CO (ns (by simp))) q) hS₂ λh' acc' c' k hS' sz it=>?_;refine hR h' acc' c' (λb o hb q=>k b o hb (oth b o (λe=>hb (by simp[e])) q)) hS' sz λj v ev=>?_;obtain⟨q2,x,y,q3,q4,q5⟩:=it j v ev;have q2':v=.ref ((s.heap.update S (CT (λ_=>(#[]:Array B5)))).objs.size+j):=q2;have q5':Do h' ((s.heap.update S (CT (λ_=>(#[]:Array B5)))).objs.size+j) x y:=q5;rw[hsz]at q2' q5';exact⟨q2',x,y,q3,q4,q5'⟩
end
section
variable {prog:CK}{w:CG}{A:CY}{E:B5->B9->Prop}{s:B9}
theorem se{z TI TO i1 i2 l1 l2:Addr}{Q:B5->B9->Prop}(hh:A.handled=none)(D:D_ z TI TO i1 i2 l1 l2){xs ys:Array B5}(el:xs.size=ys.size)(hn:xs.size<=Cr)
  (hz:IsZip s.heap z TI TO .none)(hTI:Do s.heap TI (.ref i1) (.ref i2))(hTO:∃u v,Do s.heap TO u v)(h1:s.heap.IsListIter i1 l1 0)(h2:s.heap.IsListIter i2 l2 0)(hl1:s.heap.IsList l1 xs)(hl2:s.heap.IsList l2 ys)
  (hQ:∀h',((∀b o,b∉[z,TO,i1,i2]->s.heap.get? b=some o->h'.get? b=some o)/\∃acc c,h'.get? s.heap.objs.size=some { cls:=.type "list",dict:=none,data:=.seq acc c,slots:=#[] }/\acc.size=xs.size/\∀(j:Nat) v,acc[j]?=some v->v=.ref (s.heap.objs.size+1+j)/\∃x y,xs[j]?=some x/\ys[j]?=some y/\Do h' (s.heap.objs.size+1+j) x y)->Q (.ref s.heap.objs.size) { s with heap:=h' }) :
  Cz (CF prog w) A (call (.type "list") [.ref z]) Q E s:=by
 have lt:∀{b:Addr} {o:Obj},s.heap.get? b=some o->s.heap.objs.size≠b:=λq=>Dl (Cc q);have nS:s.heap.objs.size∉[z,TI,TO,i1,i2,l1,l2]:=λhm=>by
  have z':s.heap.objs.size=z\/s.heap.objs.size=TI\/s.heap.objs.size=TO\/s.heap.objs.size=i1\/s.heap.objs.size=i2\/s.heap.objs.size=l1\/s.heap.objs.size=l2:=by simpa using hm
  rcases z' with z'|z'|z'|z'|z'|z'|z'
  .exact lt hz z'
  .exact lt hTI z'
  .obtain⟨_,_,q⟩:=hTO;exact lt q z'
  .obtain⟨_,q,_⟩:=h1;exact lt q z'
  .obtain⟨_,q,_⟩:=h2;exact lt q z'
  .obtain⟨_,q,_⟩:=hl1;exact lt q z'
  .obtain⟨_,q,_⟩:=hl2;exact lt q z'
 refine callType_codes (Q₁:=λobj s₁=>obj=.ref s.heap.objs.size/\s₁={ s with heap:=s.heap.push { cls:=.type "list",data:=.seq #[] } }) F.called_list (F.typeCall_list_1 _) F.entry_list_init (code_list_new _ ⟨rfl,rfl⟩) λobj s₁ q₁=>?_;obtain⟨rfl,rfl⟩:=q₁;have hS:(s.heap.push { cls:=.type "list",data:=.seq #[] }).get? s.heap.objs.size=some { cls:=.type "list",data:=.seq #[] }:=Cu _ rfl;have up:∀{b:Addr} {o:Obj},s.heap.get? b=some o->(s.heap.push { cls:=.type "list",data:=.seq #[] }).get? b=some o:=λe=>Cd _ e;have hsz:(s.heap.push { cls:=.type "list",data:=.seq #[] }).objs.size=s.heap.objs.size+1:=Du ..;refine⟨⟨_,hS,rfl⟩,F.args_list_init_2 _ _,y4 hh D el hn nS (up hz) (up hTI) (let⟨u,v,q⟩:=hTO;⟨u,v,up q⟩) (h1.at λo q=>up q) (h2.at λo q=>up q) (hl1.at λo q=>up q) (hl2.at λo q=>up q) hS λh' acc' c' k hS' sz it=>?_⟩;refine⟨rfl,hQ h' ⟨λb o hb q=>k b o (λhm=>?_) (up q),acc',c',hS',sz,λj v ev=>?_⟩⟩
 .have z':b=z\/b=TO\/b=i1\/b=i2\/b=s.heap.objs.size:=by simpa using hm
  rcases z' with z'|z'|z'|z'|z'
  .exact hb (by simp[z'])
  .exact hb (by simp[z'])
  .exact hb (by simp[z'])
  .exact hb (by simp[z'])
  .exact lt q z'.symm
 .obtain⟨q2,x,y,q3,q4,q5⟩:=it j v ev;have q2':v=.ref ((s.heap.push { cls:=.type "list",data:=.seq #[] }).objs.size+j):=q2;have q5':Do h' ((s.heap.push { cls:=.type "list",data:=.seq #[] }).objs.size+j) x y:=q5;rw[hsz]at q2' q5';exact⟨q2',x,y,q3,q4,q5'⟩
end
end PySem

set_option maxHeartbeats 4000000
namespace L2
open PySem PySem.Spec PyProof.Rows Tl
def kj(H:Hp)(N:Nat):List (V×V)->Hp
 |[]=>H
 |p::r=>kj (upd H N (.tup [p.1,p.2])) (N+1) r
theorem lO{a:Addr}:∀{ps:List (V×V)} {H:Hp} {N:Nat},(a<N\/N+ps.length<=a)->kj H N ps a=H a
 |[],H,N,_=>rfl
 |p::r,H,N,h=>by
  show kj (upd H N (.tup [p.1,p.2])) (N+1) r a=H a;rw[CA]at h;have ne:a≠N:=λe=>by
   subst e;rcases h with h|h
   .exact absurd h (CI _)
   .exact absurd h (Nat.not_le.mpr (Nat.lt_add_of_pos_right (D6 _)))
  rw[lO (by
   rcases h with h|h
   .exact .inl (Ef h)
   .exact .inr (by show N+1+r.length<=a;rw[Fg,Fu 1];exact h)),aK ne]
theorem vP:∀{ps:List (V×V)} {H:Hp} {N j:Nat} {p:V×V},ps[j]?=some p->kj H N ps (N+j)=some (.tup [p.1,p.2])
 |[],H,N,j,p,h=>by simp at h
 |q::r,H,N,0,p,h=>by
  have e:q=p:=by simpa using h
  subst e;show kj (upd H N (.tup [q.1,q.2])) (N+1) r N=_;rw[lO (.inl (Dp _))];exact ah
 |q::r,H,N,j+1,p,h=>by
  have:=vP (ps:=r) (H:=upd H N (.tup [q.1,q.2])) (N:=N+1) (j:=j) (p:=p) (by simpa using h);show kj (upd H N (.tup [q.1,q.2])) (N+1) r (N+(j+1))=_;rw[show N+(j+1)=N+1+j by rw[Fg,Fu 1]];exact this
theorem Inv.tups{X:Cx}{pins:List (Addr×Obj)}{σ:St}{s:B9}:∀{ps:List (V×V)} {H:Hp} {N:Nat},Inv X pins σ H s->(∀a,N<=a->H a=none)->X.s₀.heap.objs.size<=N->X.env.locals<N->(∀x c,X.env.cells.lookup x=some c->c<N)->(∀p∈X.pn++pins,p.1<N)->
  (∀(j:Nat) p,ps[j]?=some p->∃u v,bA p.1 u/\bA p.2 v/\Do s.heap (N+j) u v)->Inv X pins σ (kj H N ps) s
 |[],H,N,I,_,_,_,_,_,_=>I
 |p::r,H,N,I,hf,h0,h1,h2,h3,ok=>by
  obtain⟨u,v,ru,rv,hp⟩:=ok 0 p rfl;have I1:Inv X pins σ (upd H N (.tup [p.1,p.2])) s:=I.track (hf N (B4 _)) h0 (Dl h1) (λx c q=>Cn (h2 x c q)) (λp hp=>Cn (h3 p hp)) ⟨by show 2<=Cr;decide,[u,v],.cons ru (.cons rv .nil),⟨_,hp,rfl,_,rfl⟩⟩;refine Inv.tups (ps:=r) (N:=N+1) I1 (λa ha=>?_) (Nat.le_succ_of_le h0) (Ef h1) (λx c q=>Ef (h2 x c q)) (λp hp=>Ef (h3 p hp)) (λj q e=>?_)
  .rw[aK (Dl ha)];exact hf a (Nat.le_of_succ_le ha)
  .have:=ok (j+1) q (by simpa using e);rw[show N+(j+1)=N+1+j by rw[Fg,Fu 1]]at this;exact this
theorem rP:∀l:List Addr,aP (l.map V.ref) (l.map Fh)
 |[]=>.nil
 |a::r=>.cons rfl (rP r)
def tLZ(K:PySem.W.Frag)(tl tm:TE):TE:=λσ H Q=>tl σ H λx H1=>tm σ H1 λy H2=>∃a b xs ys,x=.ref a/\y=.ref b/\SqL K H2 a xs/\SqL K H2 b ys/\xs.length=ys.length/\∀(p:Addr) (as:List Addr) (H3:Hp),av H2 H3->H2 p=none->H3 p=some (.lst (as.map V.ref))->as.length=xs.length->(∀(j:Nat) c x y,as[j]?=some c->xs[j]?=some x->ys[j]?=some y->H3 c=some (.tup [x,y]))->Q (.ref p) H3
theorem Bz{X:Cx}{l m:Expr}{tl tm:TE}{p p2 pos pos2:Pos}(hcalm:X.calm=true)(hg:Gl X "list")(hm:X.mg "list" = none)(hg2:Gl X "zip")(hm2:X.mg "zip" = none)(hl:PE X l tl)(hl2:PE X m tm)(hs:CJ [l,m] X.env=(false,eval l X.env)::CJ [m] X.env:=by rfl)(hs1:CJ [m] X.env=(false,eval m X.env)::CJ [] X.env:=by rfl)
  (hs2:CJ [.Call (.Name "zip" p2) [l,m] [] pos2] X.env=(false,eval (.Call (.Name "zip" p2) [l,m] [] pos2) X.env)::CJ [] X.env:=by rfl):PE X (.Call (.Name "list" p) [.Call (.Name "zip" p2) [l,m] [] pos2] [] pos) (tLZ X.K tl tm):=by
 intro pins s σ H Q I h;have ha:PA X [l,m] (oo tl (oo tm wn)):=aa hl (aa hl2 ae hs1) hs;refine D3 (gS I hg hm Dw ?_ (by decide) (by decide));refine Dd ?_ hs2 rfl;rw[hs2];show Cz _ _ (spliced ((false,eval (.Call (.Name "zip" p2) [l,m] [] pos2) X.env)::EK pos (CJ [] X.env))) _ _ s;refine Calls.spliced_cons ?_;refine D3 (gS I hg2 hm2 (by decide +kernel:DR "zip" = some (.type "zip")) ?_ (by decide) (by decide));refine Dd (thn (ha pos2 pins s σ H (λvs H1=>match vs with|[x,y]=>∃a b xs ys,x=.ref a/\y=.ref b/\SqL X.K H1 a xs/\SqL X.K H1 b ys/\xs.length=ys.length/\∀(p:Addr) (as:List Addr) (H3:Hp),av H1 H3->H1 p=none->H3 p=some (.lst (as.map V.ref))->as.length=xs.length->(∀(j:Nat) c x y,as[j]?=some c->xs[j]?=some x->ys[j]?=some y->H3 c=some (.tup [x,y]))->Q (.ref p) H3|_=>False) I h) λus s1 ⟨vs,H1,I1,r1,q1⟩=>?_) hs (by rw[hs1];rfl)
 match vs,r1,q1 with
 |[x,y],r1,q1 =>
 obtain⟨a,b,xs,ys,rfl,rfl,hqx,hqy,el,q⟩:=q1;obtain⟨u,v,rfl,ru,rv0⟩:=on r1;cases ru;cases rv0;obtain⟨its,rv,p,hz⟩:=I1.list hqx;obtain⟨its2,rv2,p2,hz2⟩:=I1.list hqy;have alt:a<s1.heap.objs.size:=by obtain⟨_,_,e,_⟩:=p;exact Cc e
 have blt:b<s1.heap.objs.size:=by obtain⟨_,_,e,_⟩:=p2;exact Cc e
 have len1:=rv.length;have len2:=rv2.length;refine call_zip_2 p.isList p2.isList λh' g1 g2 g3 g4 g5 hz' hk=>?_;have ne:∀{m n:Nat} {N:Nat},m≠n->N+m≠N+n:=λh e=>h (Nat.add_left_cancel e);have nl:∀{c:Addr} (k:Nat),c<s1.heap.objs.size->c≠s1.heap.objs.size+k:=λk h e=>absurd h (by rw[e];exact Nat.not_lt.mpr (CN _ _));have D:D_ (s1.heap.objs.size+4) (s1.heap.objs.size+2) (s1.heap.objs.size+3) s1.heap.objs.size (s1.heap.objs.size+1) a b:=
  ⟨ne (by decide),ne (by decide),ne (m:=0) (by decide),ne (by decide),ne (by decide),ne (n:=0) (by decide),ne (by decide),ne (n:=0) (by decide),ne (by decide),ne (m:=0) (by decide),nl 4 alt,nl 3 alt,nl 0 alt,nl 1 alt,nl 4 blt,nl 3 blt,nl 0 blt,nl 1 blt⟩
 refine Calls.spliced_nil ?_;refine se (I1.ok.hd hcalm) D (by rw[Ci,Ci];omega) (by rw[Ci];omega) g1 g2 ⟨_,_,g3⟩ g4 g5 (p.isList.at λo q=>hk _ o q) (p2.isList.at λo q=>hk _ o q) λh2 ⟨kk,acc,c,q1,q2,q3⟩=>?_;have sM:h'.objs.size=s1.heap.objs.size+5:=hz';have old:∀b o,s1.heap.get? b=some o->h2.get? b=some o:=λb o e=>by
  have lt:=Cc e;refine kk b o (λhm=>?_) (hk b o e);have z':b=s1.heap.objs.size+4\/b=s1.heap.objs.size+3\/b=s1.heap.objs.size\/b=s1.heap.objs.size+1:=by simpa using hm
  rcases z' with z'|z'|z'|z'
  .exact nl 4 lt z'
  .exact nl 3 lt z'
  .exact nl 0 lt z'
  .exact nl 1 lt z'
 have I2:Inv X pins σ H1 { s1 with heap:=h2,toks:=s1.toks }:=I1.kept (t':=s1.toks) old;have MN:s1.heap.objs.size<=h'.objs.size+1:=by rw[sM,Fg];exact CN _ _
 have fr:∀a,h'.objs.size+1<=a->H1 a=none:=λa ha=>I1.hok.fresh (Ds MN ha);have I3:Inv X pins σ (kj H1 (h'.objs.size+1) (xs.zip ys)) { s1 with heap:=h2,toks:=s1.toks }:=by
  refine I2.tups fr (Ds I1.sz MN) (B7 I1.lt MN) (λx c q=>?_) (λp hp=>B7 (Cc (I1.pin p hp).1) MN) (λj p e=>?_)
  .obtain⟨v,q2⟩:=I1.cell x c q;exact B7 q2.lt MN
  .obtain⟨e1,e2⟩:=List.getElem?_zip_eq_some.mp e;obtain⟨u,hu,ru⟩:=rv.get e1;obtain⟨v,hv,rv'⟩:=rv2.get e2;have hj:j<acc.size:=by
    rw[q2,Ci];exact(List.getElem?_eq_some_iff.mp hu).1
   obtain⟨_,x,y,ex,ey,hp⟩:=q3 j acc[j] (C_ hj);have ex':its[j]?=some x:=by simpa using ex
   have ey':its2[j]?=some y:=by simpa using ey
   rw[hu]at ex';rw[hv]at ey';cases ex';cases ey';exact⟨u,v,ru,rv',hp⟩
 have zl:(xs.zip ys).length=xs.length:=by rw[List.length_zip,el,Nat.min_self]
 have hSn:H1 h'.objs.size=none:=I1.hok.fresh (by rw[sM];exact CN _ _);have hS4:kj H1 (h'.objs.size+1) (xs.zip ys) h'.objs.size=none:=by
  rw[lO (.inl (Dp _))];exact hSn
 have eac:acc.toList=((DF xs.length).map λj=>h'.objs.size+1+j).map Fh:=by
  refine List.ext_getElem? λj=>?_;rw[B_,B_];by_cases hj:j<acc.size
  .have hj2:j<xs.length:=by rw[q2,Ci]at hj;omega
   obtain⟨e1,_⟩:=q3 j acc[j] (C_ hj);rw[DW hj2,Array.getElem?_toList,C_ hj,e1];rfl
  .have hj2:xs.length<=j:=by rw[q2,Ci]at hj;omega
   rw[Array.getElem?_toList,D7 (by omega),Ea (by rw[Fa];exact hj2)];rfl
 have I4:Inv X pins σ (upd (kj H1 (h'.objs.size+1) (xs.zip ys)) h'.objs.size (.lst (((DF xs.length).map λj=>h'.objs.size+1+j).map V.ref))) { s1 with heap:=h2,toks:=s1.toks }:=by
  have MS:s1.heap.objs.size<=h'.objs.size:=by rw[sM];exact CN _ _
  refine I3.track hS4 (Ds I1.sz MS) (Dl (B7 I1.lt MS)) (λx c q=>?_) (λp hp=>Cn (B7 (Cc (I1.pin p hp).1) MS)) ⟨by rw[B3,B3,Fa];omega,acc.toList,c,by rw[eac];exact rP _,q1⟩;obtain⟨v,q2⟩:=I1.cell x c q;exact Cn (B7 q2.lt MS)
 refine⟨.ref h'.objs.size,_,I4,rfl,q _ _ _ (λb o e=>?_) hSn ah (by rw[B3,Fa]) λj c x y ec ex ey=>?_⟩
 .have nb:¬ s1.heap.objs.size<=b:=λhb=>by
   have:=I1.hok.fresh hb;rw[e]at this;cases this
  have lb:=Nat.lt_of_not_le nb;rw[aK (λz=>nb (by rw[z,sM];exact CN _ _)),lO (.inl (B7 lb MN))];exact e
 .have hj:j<xs.length:=(List.getElem?_eq_some_iff.mp ex).1;rw[B_,DW hj]at ec;cases ec;rw[aK (Dl (B7 (Dp _) (CN _ _))),vP (p:=(x,y)) (List.getElem?_zip_eq_some.mpr ⟨ex,ey⟩)]
structure y6(K:PySem.W.Frag)(x qual:Str)(st:Stmt)(f:Addr)(fd:Cf):Prop where
 ex:∃(oc:B5) (od:Option Addr) (dV kV doc pm:B5) (an:Option Addr) (cdv ct:B5) (osl:Array (Option B5)),fd=PySem.W.fnOf x qual (cA st) (cc st) (aw st) dV kV doc pm an cdv ct/\K.lookup f=some ⟨oc,od,.func fd,osl⟩/\PySem.W.codeIn K cdv qual=true
 kp:PySem.W.keepIn K (.ref f)=true
theorem y6.ok{P:CK}{w:CG}{K:PySem.W.Frag}{mg:Str->Option B5}{base:Heap}{x qual:Str}{st:Stmt}{f:Addr}{fd:Cf}{N ps:List Str}{k:Nat}{sp:Sp}(F:y6 K x qual st f fd)(S:aG N ps (aw st))(len:∀vs H Q E,sp vs H Q E->vs.length=ps.length)(hbody:∀(cdv:B5) (A:CY) (outer:List Env) (s:B9) (H:Hp) (vs:List V) (Q:VK) (E:XK),dB k (A.deeper (Fp qual (aw st) s.heap.objs.size f cdv))->sp vs H Q E->
   ∃t,PSs (oP CX0 P w K mg base N qual (aw st) f cdv A outer s H E).nox (cc st) t/\t { nx:=λ_ H'=>Q .non H',rt:=Q } (eB N vs) H):aS P w K mg base CX0 (k+1) f fd ps sp:=by
 obtain⟨oc,od,dV,kV,doc,pm,an,cdv,ct,osl,rfl,lk,hcd⟩:=F.ex;exact zK lk hcd S len λA outer s H vs Q E hr hsp=>let⟨t,h,q⟩:=hbody cdv A outer s H vs Q E hr hsp;⟨t,h.nox,q⟩
structure ub(K:PySem.W.Frag)(mg:Str->Option B5)(x:Str)(st:Stmt)(ps:List Str)(f:Addr)(fd:Cf)(dv:B5):Prop where
 fn:y6 K x x st f fd
 bd:jQ K fd ps []
 bd1:jQ K fd ps [dv]
 mg:mg x=some (.ref f)
section
variable {X:Cx}{x:Str}{st:Stmt}{ps:List Str}{f:Addr}{fd:Cf}{dv:B5}{k:Nat}{sp:Sp}{e:Expr}{es:List Expr}{t:TA}{p pos:Pos}
theorem x8{dx:V}(D:ub X.K X.mg x st ps f fd dv)(hdx:bA dx dv)(G:aS X.prog X.w X.K X.mg X.base CX0 k f fd ps sp)(hr:dB k X.A)(hg:Gl X x)(ha:PA X (e::es) t)(hd:(x==("__debug__" : Str))=false:=by decide)
  (he:CJ (e::es) X.env=(false,eval e X.env)::CJ es X.env:=by rfl)(hpl:(EK pos (CJ es X.env)).any (·.1)=false:=by rfl):PE X (.Call (.Name x p) (e::es) [] pos) (wt sp [dx] E0 t):=vC G hr hg D.mg D.fn.kp D.bd1 (.cons hdx .nil) zL ha hd he hpl
theorem x9{K:PySem.W.Frag}{h:Heap}{mg:Str->Option B5}(KX:K.In h)(G:h.Ns Db mg){od an od2:Option Addr}{sl sl2:Array (Option B5)}{oc oc2 kV dc pm cd ct:B5}{T:Addr}{n2:Nat}(a:PySem.W.nsIn K Db x=some (some (.ref f)))
  (l:K.lookup f=some ⟨oc,od,.func (PySem.W.fnOf x x (cA st) (cc st) (aw st) (.ref T) kV dc pm an cd ct),sl⟩)(c:PySem.W.codeIn K cd x=true)(k:PySem.W.keepIn K (.ref f)=true)(lt:K.lookup T=some ⟨oc2,od2,.seq #[dv] n2,sl2⟩)
  (b:∀(kV doc pm:B5) (an:Option Addr) (cdv ct:B5) (us:List B5),us.length=ps.length->∃k,FA (PySem.W.fnOf x x (cA st) (cc st) (aw st) (.ref T) kV doc pm an cdv ct) ⟨us,[]⟩=EG (.ref T) >>= k/\k (some #[dv])=pure (ps.zip us))
  (b1:∀(kV doc pm:B5) (an:Option Addr) (cdv ct:B5) (us:List B5),us.length+1=ps.length->∃k,FA (PySem.W.fnOf x x (cA st) (cc st) (aw st) (.ref T) kV doc pm an cdv ct) ⟨us,[]⟩=EG (.ref T) >>= k/\k (some #[dv])=pure (ps.zip (us++[dv]))) :
  ub K mg x st ps f (PySem.W.fnOf x x (cA st) (cc st) (aw st) (.ref T) kV dc pm an cd ct) dv:=by
 refine⟨⟨⟨oc,od,.ref T,kV,dc,pm,an,cd,ct,sl,rfl,l,c⟩,k⟩,λs us kin hl=>?_,λs us kin hl=>?_,PySem.W.mg_of KX G a⟩
 .rw[C4]at hl⊢;obtain⟨k',e1,e2⟩:=b kV dc pm an cd ct us hl;exact .of_defaults (T:=T) rfl (kin T _ lt) rfl e1 e2
 .rw[Ca,CS]at hl;obtain⟨k',e1,e2⟩:=b1 kV dc pm an cd ct us hl;exact .of_defaults (T:=T) rfl (kin T _ lt) rfl e1 e2
end
def eF(zs:List (Int×Int))(j i:Nat):List (Int×Int):=(zs.drop j).take (i+1-j)
def dH(zs:List (Int×Int))(j i:Nat):Int:=((eF zs j i).map (·.1)).sum+(eF zs j i).length-1
def db(zs:List (Int×Int))(j i:Nat):Int:=((eF zs j i).map (·.2)).sum
theorem jX{zs:List (Int×Int)}{j i:Nat}(hj:j<=i)(hi:i<zs.length):eF zs j i=xAt zs j::eF zs (j+1) i:=by
 unfold eF;have hj2:j<zs.length:=by omega
 have e:xAt zs j=zs[j]:=by
  show zs.getD j (0,0)=_;rw[B6,c7 hj2];rfl
 rw[List.drop_eq_getElem_cons hj2,show i+1-j=(i+1-(j+1))+1 by omega,List.take_succ_cons,e]
theorem uc{zs:List (Int×Int)}{i:Nat}:eF zs (i+1) i=[]:=by unfold eF;simp
theorem gX{zs:List (Int×Int)}{j i:Nat}(hj:j<=i)(hi:i<zs.length):dH zs j i=dH zs (j+1) i+1+(xAt zs j).1:=by
 unfold dH;rw[jX hj hi,Dh,Di,CA];omega
theorem gY{zs:List (Int×Int)}{j i:Nat}(hj:j<=i)(hi:i<zs.length):db zs j i=db zs (j+1) i+(xAt zs j).2:=by
 unfold db;rw[jX hj hi,Dh,Di];omega
theorem rQ{zs:List (Int×Int)}{i:Nat}(hi:i<zs.length):dH zs i i=(xAt zs i).1:=by
 rw[gX (B4 _) hi];unfold dH;rw[uc];simp
theorem ud{zs:List (Int×Int)}{i:Nat}:db zs (i+1) i=0:=by
 unfold db;rw[uc];rfl
def bg(F:Frm)(ds:List Wd)(xs:List (Int×Int)):List (Int×Int):=ds.map λd=>(bF F xs d,a9 F xs d)
theorem bH(F:Frm)(ds:List Wd)(xs:List (Int×Int)):(bg F ds xs).length=ds.length:=by unfold bg;rw[B3]
theorem gq(F:Frm)(ds:List Wd)(xs:List (Int×Int)){k:Nat}(hk:k<ds.length):xAt (bg F ds xs) k=(bF F xs (dAt ds k),a9 F xs (dAt ds k)):=by
 show(bg F ds xs).getD k (0,0)=_;have e:dAt ds k=ds[k]:=by
  show ds.getD k wd0=_;rw[B6,c7 hk];rfl
 rw[B6,bg,B_,c7 hk,e];rfl
theorem y7(ds:List Wd):dG ds 0 ds.length=ds:=by unfold dG;simp
theorem eN(F:Frm)(ds:List Wd)(xs:List (Int×Int))(j i:Nat):dH (bg F ds xs) j i=together (bS F ds xs j i):=by
 unfold dH eF together bS d8 bg;rw[<-Ff,<-Fe,DS,B3,B3];rfl
theorem eO(F:Frm)(ds:List Wd)(xs:List (Int×Int))(j i:Nat):db (bg F ds xs) j i=(bJ F ds xs j i).sum:=by
 unfold db eF bJ d8 bg;rw[<-Ff,<-Fe,DS];rfl
def LeZ(zs ys:List (Int×Int)):Prop:=zs.length=ys.length/\∀k,k<zs.length->(xAt zs k).1<=(xAt ys k).1/\(xAt zs k).2<=(xAt ys k).2
theorem LeZ.tog{zs ys:List (Int×Int)}(h:LeZ zs ys){i:Nat}(hi:i<zs.length):∀(d j:Nat),i+1-j=d->dH zs j i<=dH ys j i/\db zs j i<=db ys j i
 |0,j,e=>by
  have z:∀zs:List (Int×Int),eF zs j i=[]:=λzs=>by unfold eF;rw[e];simp
  unfold dH db;rw[z,z];exact⟨CC _,CC _⟩
 |d+1,j,e=>by
  have hj:j<=i:=by omega
  have ih:=h.tog hi d (j+1) (by omega);have hk:=h.2 j (by omega);rw[gX hj hi,gX hj (by rw[<-h.1];exact hi),gY hj hi,gY hj (by rw[<-h.1];exact hi)];omega
section
variable {F:Frm}{ds:List Wd}{xs ys zs:List (Int×Int)}{i j:Nat}
theorem wK(B:aR F ds xs)(C:aR F ds ys)(le:cw xs ys):LeZ (bg F ds xs) (bg F ds ys):=by
 refine⟨by rw[bH,bH],λk hk=>?_⟩;rw[bH]at hk;have hm:dAt ds k∈ds:=Cg (B.d hk).1;rw[gq F ds xs hk,gq F ds ys hk];exact⟨lM B C le hm,lN B C le hm⟩
structure NoR(F:Frm)(ds:List Wd)(xs zs:List (Int×Int))(i:Nat):Prop where
 w:(xAt zs i).1<=F.w
 h:(xAt zs i).2+1<=F.h
 b:az (xAt xs i) (bn F ds xs i)=false
 wide:∀j,j<i->(∀n,j<=n->n<=i->xAt xs n=xAt xs i)->dH zs j i<=F.w
 high:∀j,j<=i->(∀n,j<=n->n<=i->(xAt xs n).1=(xAt xs i).1)->(xAt xs i).2+1+db zs j i<=F.h
theorem qa{zs ys:List (Int×Int)}(e:zs.length=ys.length)(h:∀k,k<=i->xAt zs k=xAt ys k)(hi:i<zs.length):∀(d j:Nat),i+1-j=d->eF zs j i=eF ys j i
 |0,j,e=>by unfold eF;rw[e];simp
 |d+1,j,e2=>by
  rw[jX (zs:=zs) (j:=j) (by omega) hi,jX (zs:=ys) (j:=j) (by omega) (by rw[<-e];exact hi),h j (by omega),qa e h hi d (j+1) (by omega)]
theorem NoR.congr{xs' zs':List (Int×Int)}(N:NoR F ds xs zs i)(hx:∀k,k<=i->xAt xs' k=xAt xs k)(hz:∀k,k<=i->xAt zs' k=xAt zs k)(e:zs'.length=zs.length)(hi:i<zs.length):NoR F ds xs' zs' i:=by
 have tb:bn F ds xs' i=bn F ds xs i:=by
  unfold bn;rw[hx i (B4 _),hx (i-1) (Nat.sub_le _ _)]
 have sg:∀j,eF zs' j i=eF zs j i:=λj=>qa e hz (by rw[e];exact hi) _ j rfl;refine⟨by rw[hz i (B4 _)];exact N.w,by rw[hz i (B4 _)];exact N.h,by rw[hx i (B4 _),tb];exact N.b,λj hj hn=>?_,λj hj hn=>?_⟩
 .have:=N.wide j hj (λn a b=>by have:=hn n a b;rw[hx n b,hx i (B4 _)]at this;exact this);unfold dH at this⊢;rw[sg];exact this
 .have:=N.high j hj (λn a b=>by have:=hn n a b;rw[hx n b,hx i (B4 _)]at this;exact this);unfold db at this⊢;rw[sg,hx i (B4 _)];exact this
theorem x_(B:aR F ds xs)(hi:i<ds.length)(h:az (xAt xs i) (bn F ds xs i)=false)(h0:0<i):az (xAt xs i) (xAt xs (i-1))=false:=by
 have wk:=(B.d hi).2;have rx:=(B.x hi).1;have rx1:=(B.x (show i-1<ds.length by omega)).1;have bx:=fA (f:=F.f) rx1 wk.l0 wk.l1;unfold bn at h;rw[if_pos h0]at h;exact dw (kg (f:=F.f) rx1 wk.l0 wk.l1) (dw (jT (xAt xs i) _) (dw (iF (f:=F.f) (l:=(dAt ds i).lead) (o0 rx bx)) h))
theorem dI(h:∀k,0<k->k<=i->az (xAt xs k) (xAt xs (k-1))=false):∀(d n:Nat),n+d<=i->az (xAt xs (n+d)) (xAt xs n)=false
 |0,n,_=>ck _
 |d+1,n,e=>dw (dI h d n (by omega)) (h (n+(d+1)) (by omega) e)
theorem y8{h f:Int}{x y:Int×Int}(rx:bI h x)(ry:bI h y)(s:az x y=true):az y (bc h f x 1)=false:=by
 rw[bY]at s;obtain⟨q,r,e,d⟩:=cW h f 1 x.1 x.2 (by decide) (by decide);have a:=rx.r2;have b:=ry.r1;have c:=ry.r2;rw[show x=(x.1,x.2)from rfl,e,aJ];simp only;omega
theorem vQ(B:aR F ds xs)(N:∀i,i<ds.length->NoR F ds xs (bg F ds xs) i)(kp:∀i y,i<ds.length->bN ds xs i=some y->az (xAt xs i) y=false):fM F ds xs:=by
 intro i hi;have ch:∀k,0<k->k<=i->az (xAt xs k) (xAt xs (k-1))=false:=λk k0 k1=>x_ B (by omega) (N k (by omega)).b k0;have Ni:=N i hi;refine eM (ou _ _ _ (ck _) λx hx=>?_) xZ |>.symm▸rfl;rcases cM.mp hx with e|e|e|⟨j,hj,e⟩|⟨j,hj,e⟩
 .rw[e];exact Ni.b
 .exact kp i x hi e
 .unfold b5 at e;have w:=Ni.w;have h:=Ni.h;rw[gq F ds xs hi]at w h;rw[if_pos ⟨w,h⟩]at e;cases e
 .unfold cE at e
  split at e
  .cases e
  .rename_i c
   cases e;have le:az (xAt xs i) (xAt xs j)=false:=by
    have:=dI ch (i-j) j (by omega)
    rwa[show j+(i-j)=i by omega]at this
   by_cases eq:xAt xs j=xAt xs i
   .exfalso;have:=Ni.wide j hj (λn a b=>by
     have l1:=dI ch (n-j) j (by omega);rw[show j+(n-j)=n by omega]at l1;have l2:=dI ch (i-n) n (by omega);rw[show n+(i-n)=i by omega]at l2;rw[eq]at l1;exact eM l2 l1)
    rw[eN]at this;omega
   .refine y8 (B.x (show j<ds.length by omega)).1 (B.x hi).1 ?_;cases s:az (xAt xs j) (xAt xs i)with
    |true=>rfl
    |false=>exact absurd (eM le s) eq
 .unfold cq at e
  split at e
  .cases e
  .rename_i c
   exfalso;have pgl:∀n,j<=n->n<=i->(xAt xs n).1=(xAt xs i).1:=λn a b=>by
    have l1:=dI ch (n-j) j (by omega);rw[show j+(n-j)=n by omega]at l1;have l2:=dI ch (i-n) n (by omega);rw[show n+(i-n)=i by omega]at l2;rw[aJ]at l1 l2;omega
   have:=Ni.high j (by omega) pgl;rw[eO]at this;omega
theorem A3(B:aR F ds xs)(pg:jU F.m xs)(N:∀i,i<ds.length->NoR F ds xs (bg F ds xs) i)(kp:∀i y,i<ds.length->bN ds xs i=some y->az (xAt xs i) y=false):fM F ds xs:=vQ B N kp
theorem Aa{k:Str}{j:Int}{y:Int×Int}(hi:i<ds.length)(h:fL F ds xs k i j=some y):some y∈dO F ds xs i:=by
 rw[gp]at h;rw[cM]
 split at h
 .exact .inl (Cw h).symm
 .split at h
  .rename_i c
   exact .inr (.inr (.inr (.inl ⟨j.toNat,by omega,h⟩)))
  .split at h
   .rename_i c
    exact .inr (.inr (.inr (.inr ⟨j.toNat,by omega,h⟩)))
   .split at h
    .exact .inr (.inl h)
    .split at h
     .exact .inr (.inr (.inl h))
     .cases h
theorem qb{k:Str}{j:Int}{y:Int×Int}(h:cj F ds xs k i j=some y):fL F ds xs k i j=some y/\az (xAt xs i) y=true:=by
 unfold cj at h
 split at h
 .cases h
 .rename_i x e
  split at h
  .rename_i c
   cases h;exact⟨e,c⟩
  .cases h
theorem i6{k:Str}{j:Int}{y:Int×Int}(h:fL F ds xs k i j=some y)(s:az (xAt xs i) y=true):cj F ds xs k i j=some y:=by
 unfold cj;rw[h];simp only;rw[if_pos s]
def m9(F:Frm)(ds:List Wd)(x0 xs:List (Int×Int)):Prop:=∀X,aR F ds X->fM F ds X->cw x0 X->cw xs X
theorem m9.set{x0:List (Int×Int)}{y:Int×Int}(L:m9 F ds x0 xs)(B:aR F ds xs)(hi:i<ds.length)(hy:some y∈dO F ds xs i):m9 F ds x0 (xs.set i y):=by
 intro X C fx l0;have le:=L X C fx l0;refine⟨by rw[Ep];exact le.1,λk hk=>?_⟩;rw[Ep]at hk;have e:=iR (k:=k) (y:=y) (show i<xs.length by rw[<-B.len];exact hi);show az (xAt X k) (xAt (xs.set i y) k)=false;rw[e];by_cases c:k=i
 .rw[if_pos c,c];have g:=tY B C le hi;rw[fx i hi]at g;exact dw ((iQ _ _).2 y hy) g
 .rw[if_neg c];exact le.2 k hk
theorem wL(B:aR F ds xs)(lz:LeZ zs (bg F ds xs))(hi:i<ds.length)(hj:j<i)(e:xAt xs j=xAt xs i)(h:F.w<dH zs j i):∃y,cj F ds xs kW i (j:Int)=some y:=by
 have zl:zs.length=ds.length:=by rw[lz.1,bH]
 have t:=(lz.tog (by rw[zl];exact hi) _ j rfl).1;rw[eN]at t;obtain⟨n1,n2,n3,n4,n5,n6,n7,n8,n9,n10⟩:=kne;refine⟨bc F.h F.f (xAt xs j) 1,i6 ?_ ?_⟩
 .rw[gp,if_neg (λz=>n1 z.1.symm),if_pos ⟨rfl,by omega,by omega⟩,Dt,cE,if_neg (by omega)]
 .rw[e];have r:=(B.x hi).1;have a:=r.r1;obtain⟨q,s,e1,d⟩:=cW F.h F.f 1 (xAt xs i).1 (xAt xs i).2 (by decide) (by decide);rw[show bc F.h F.f (xAt xs i) 1=(q,s)from e1,bY];simp only;omega
theorem wM(lz:LeZ zs (bg F ds xs))(hi:i<ds.length)(hj:j<=i)(e:(xAt xs j).1=(xAt xs i).1)(h:F.h<(xAt xs i).2+1+db zs j i):∃y,cj F ds xs kH i (j:Int)=some y:=by
 have zl:zs.length=ds.length:=by rw[lz.1,bH]
 have t:=(lz.tog (by rw[zl];exact hi) _ j rfl).2;rw[eO]at t;obtain⟨n1,n2,n3,n4,n5,n6,n7,n8,n9,n10⟩:=kne;refine⟨((xAt xs i).1+1,0),i6 ?_ ?_⟩
 .rw[gp,if_neg (λz=>n2 z.1.symm),if_neg (λz=>n5 z.1.symm),if_pos ⟨rfl,by omega,by omega⟩,Dt,cq,if_neg (by omega)]
 .rw[bY];simp only;omega
theorem u3(lz:LeZ zs (bg F ds xs))(hi:i<ds.length)(pg:(xAt xs i).1<F.m)(h:F.w<(xAt zs i).1\/F.h<(xAt zs i).2+1):∃y,cj F ds xs kN i (i:Int)=some y:=by
 have zl:zs.length=ds.length:=by rw[lz.1,bH]
 have t:=lz.2 i (by rw[zl];exact hi);rw[gq F ds xs hi]at t;simp only at t;obtain⟨n1,n2,n3,n4,n5,n6,n7,n8,n9,n10⟩:=kne;refine⟨(F.m,0),i6 ?_ ?_⟩
 .rw[gp,if_neg (λz=>n4 z.1.symm),if_neg (λz=>n7 z.1.symm),if_neg (λz=>n9 z.1.symm),if_neg (λz=>n10 z.1.symm),if_pos ⟨rfl,rfl⟩,b5,if_neg (by omega)]
 .rw[bY];simp only;omega
end
theorem LeZ.trans{a b c:List (Int×Int)}(h:LeZ a b)(g:LeZ b c):LeZ a c:=⟨h.1.trans g.1,λk hk=>by
 have h1:=h.2 k hk;have h2:=g.2 k (by rw[<-h.1];exact hk);omega⟩
theorem cw.trans{a b c:List (Int×Int)}(h:cw a b)(g:cw b c):cw a c:=⟨h.1.trans g.1,λk hk=>dw (h.2 k hk) (g.2 k (by rw[<-h.1];exact hk))⟩
theorem cw.refl(a:List (Int×Int)):cw a a:=⟨rfl,λk _=>ck _⟩
theorem A4{xs:List (Int×Int)}{i:Nat}{y:Int×Int}(hi:i<xs.length)(h:az (xAt xs i) y=true):cw xs (xs.set i y):=by
 refine⟨by rw[Ep],λk hk=>?_⟩;show az (xAt (xs.set i y) k) (xAt xs k)=false;rw[iR hi];by_cases c:k=i
 .rw[if_pos c,c,aJ];rw[bY]at h;omega
 .rw[if_neg c];exact ck _
structure bT(F:Frm)(ds:List Wd)(x0 zs xs:List (Int×Int))(np:Nat):Prop where
 B:aR F ds xs
 low:m9 F ds x0 xs
 le0:cw x0 xs
 lz:LeZ zs (bg F ds xs)
 pg:∀k,k<ds.length->(xAt xs k).1<=F.m+2
 ps:(np:Int)<=(xs.map (aW F.h)).sum
section
variable {F:Frm}{ds:List Wd}{x0 xs zs:List (Int×Int)}{np i:Nat}
theorem bT.sum_le(R:bT F ds x0 zs xs np):(xs.map (aW F.h)).sum<=1512000:=by
 have h1:=R.B.fo.h1;have h2:=R.B.fo.h2;have m1:=R.B.fo.m1;have m2:=R.B.fo.m2;have n:=R.B.n;have b:=rN (f:=aW F.h) (c:=3780) xs (λx hx=>by
  obtain⟨k,hk,rfl⟩:=List.mem_iff_getElem.mp hx;have hk2:k<ds.length:=by rw[R.B.len];exact hk
  have p:=R.pg k hk2;have r:=(R.B.x hk2).1;have e:xAt xs k=xs[k]:=by
   show xs.getD k (0,0)=_;rw[B6,c7 hk];rfl
  rw[e]at p r;have s:=wH (m:=F.m+3) r (by omega);have t:F.h*(F.m+3)<=60*63:=Int.mul_le_mul h2 (by omega) (by omega) (by decide);omega)
 have l:(xs.length:Int)<=400:=by rw[<-R.B.len];omega
 have t:(xs.length:Int)*3780<=400*3780:=Dy l (by decide);omega
theorem bT.raise{k:Str}{j:Int}{y:Int×Int}(R:bT F ds x0 zs xs np)(all:∀k,k<ds.length->(xAt xs k).1<F.m)(hi:i<ds.length)(hy:cj F ds xs k i j=some y) :
  bT F ds x0 zs (xs.set i y) (np+1)/\(xs.map (aW F.h)).sum+1<=((xs.set i y).map (aW F.h)).sum:=by
 obtain⟨ht,hs⟩:=qb hy;have hm:=Aa hi ht;have ok:=z5 (n:=F.m-1) R.B hi (λk hk=>by have:=all k hk;omega) (by omega) hm;have hil:i<xs.length:=by rw[<-R.B.len];exact hi
 have m2:=R.B.fo.m2;have B2:=R.B.set (i:=i) ok.1 (by have:=ok.2;omega);have le:=A4 hil hs;have sm:=z7 (R.B.x hi).1 ok.1 hs;have ss:=vO (f:=aW F.h) (y:=y) hil;refine⟨⟨B2,R.low.set R.B hi hm,R.le0.trans le,R.lz.trans (wK R.B B2 le),λk hk=>?_,?_⟩,by omega⟩
 .rw[iR hil];by_cases c:k=i
  .rw[if_pos c];have:=ok.2;omega
  .rw[if_neg c];exact R.pg k hk
 .have:=R.ps;omega
theorem bT.np_le(R:bT F ds x0 zs xs np):np<=2000000:=by
 have:=R.sum_le;have:=R.ps;omega
end
theorem y9{F:Frm}{ds:List Wd}{xs:List (Int×Int)}(h:m9 F ds (Co ds.length (0,0)) xs):tZ F ds xs:=λX C fx =>
 h X C fx (tZ.zero (F:=F) (ds:=ds) (by rw[C0]) (λx hx=>DV hx) X C fx)
theorem Ab{F:Frm}{ds:List Wd}(fo:c_ F.w F.h F.f F.m)(wd:∀d∈ds,dN ds.length d)(n:ds.length<=400):aR F ds (Co ds.length (0,0)):=
 ⟨fo,by rw[C0],wd,λx hx=>by rw[DV hx];exact⟨⟨CC 0,CC 0,by have:=fo.h1;show(0:Int)<F.h;omega⟩,by decide⟩,n⟩
section
variable {prog:CK}{w:CG}{A:CY}{R:FM->B9->Prop}{I:Addr}{fp wr:List Addr}{n:Nat}{P:Nat->B5->Prop}{St:Nat->Heap->Prop}
theorem yb(W:Walks prog w A.in1 I fp wr n P St)(bt:Nat->Nat->Bool)(S:Addr)(hSf:S∉fp)(G:Heap->Prop)(hG:∀h h':Heap,G h->(∀b o,b∉wr->b≠S->h.get? b=some o->h'.get? b=some o)->G h')
  (hc:∀i j vi vj (s:B9) (Q:B5->B9->Prop) (E:B5->B9->Prop),G s.heap->P i vi->P j vj->Q (.bool (bt i j)) s->Cz (CF prog w) A.in1 (D0 .Gt vi vj) Q E s) :
  ∀(k j:Nat) (s:B9) (v:B5) (c:Nat),n-(j+1)=k->j+1<=n->St (j+1) s.heap->G s.heap->P (Ez bt j) v->s.heap.get? S=some { cls:=.type "list",dict:=none,data:=.seq #[v,v] c,slots:=#[] }->
  (∀v h' tk,P (Ez bt (n-1)) v->(∀b o,b∉wr->b≠S->s.heap.get? b=some o->h'.get? b=some o)->R (.ok (.ret v)) { s with heap:=h',toks:=tk })->Ee (CF prog w) A (.builtin "max.loop" ⟨[.ref I,.none,.ref S],[]⟩) R s:=by
 have n1:S∉wr:=λz=>hSf (W.sub _ z);have nmd:(DX "max"++DX ".loop" : String) = "max.loop":=(by decide);intro k;induction k with
 |zero =>
  intro j s v c e hj hst hg hP hS hR;have hn:j+1=n:=(by omega);refine DI DY (by
   rw[Df CW _];exact B8 (m:=EG (.ref S)) (DB hS rfl (B8 (m:=E4 (El (.ref I)) _) (DN (W.done s _ _ (hn▸hst) λh' tk kp =>
    B8 (m:=EH S (λ_=>#[])) (Dm (kp S _ n1 hS) rfl (B8 (D1 (Cs (hR v _ tk (hn▸hP) λb o b1 b2 e=>(Cq _ _ (CO b2)).trans (kp b o b1 e)))))))))))
 |succ k ih =>
  intro j s v c e hj hst hg hP hS hR;have hn:j+1<n:=(by omega);refine DI DY (by
   rw[Df CW _];refine B8 (m:=EG (.ref S)) (DB hS rfl (B8 (m:=E4 (El (.ref I)) _) (DN (W.item (j+1) s _ _ hn hst λu h' tk hu hst' kp=>?_))));skip;have hS':=kp S _ n1 hS;have hg':=hG _ _ hg (λb o b1 _ e=>kp b o b1 e);skip;refine B8 (m:=E4 (FP [u,u] (D0 .Gt u v >>= _)) _) (DN (Dr (B8 (hc (j+1) (Ez bt j) u v { s with heap:=h',toks:=tk } _ _ hg' hu hP ?_))));skip;refine B8 (Dr (Dc (B8 (D1 (Cs ?_)))));skip;cases hb:bt (j+1) (Ez bt j)with
   |true =>
    simp only[if_true];refine B8 (Dm hS' rfl (B8 (D1 ?_)));skip;rw[nmd];refine Cs ⟨DA CW _,ih (j+1) _ u _ (by omega) hn (W.frame _ _ _ hst' λb bf o e=>(Cq _ _ (λz:S=b=>hSf (z▸bf))).trans e) (hG _ _ hg' λb o _ b2 e=>(Cq _ _ (CO b2)).trans e) (by simp only[Ez,hb,if_true];exact hu) (C3 _ hS' rfl) λv2 h2 tk2 p2 k2=>?_⟩;exact hR v2 h2 tk2 p2 λb o b1 b2 e=>k2 b o b1 b2 ((Cq _ _ (CO b2)).trans (kp b o b1 e))
   |false =>
    simp only[DO,if_false];refine B8 (D1 ?_);skip;rw[nmd];refine Cs ⟨DA CW _,ih (j+1) _ v c (by omega) hn hst' hg' (by simp only[Ez,hb,DO,if_false];exact hP) hS' λv2 h2 tk2 p2 k2=>?_⟩;exact hR v2 h2 tk2 p2 λb o b1 b2 e=>k2 b o b1 b2 (kp b o b1 e))
theorem wN(W:Walks prog w A.in1 I fp wr n P St)(bt:Nat->Nat->Bool)(S:Addr)(hSf:S∉fp)(G:Heap->Prop)(hG:∀h h':Heap,G h->(∀b o,b∉wr->b≠S->h.get? b=some o->h'.get? b=some o)->G h')
  (hc:∀i j vi vj (s:B9) (Q:B5->B9->Prop) (E:B5->B9->Prop),G s.heap->P i vi->P j vj->Q (.bool (bt i j)) s->Cz (CF prog w) A.in1 (D0 .Gt vi vj) Q E s)(hn:0<n){s:B9}{c:Nat}(hst:St 0 s.heap)(hg:G s.heap)
  (hS:s.heap.get? S=some { cls:=.type "list",dict:=none,data:=.seq #[] c,slots:=#[] })(hR:∀v h' tk,P (Ez bt (n-1)) v->(∀b o,b∉wr->b≠S->s.heap.get? b=some o->h'.get? b=some o)->R (.ok (.ret v)) { s with heap:=h',toks:=tk }) :
  Ee (CF prog w) A (.builtin "max.loop" ⟨[.ref I,.none,.ref S],[]⟩) R s:=by
 have n1:S∉wr:=λz=>hSf (W.sub _ z);have nmd:(DX "max"++DX ".loop" : String) = "max.loop":=(by decide);refine DI DY (by
  rw[Df CW _];refine B8 (m:=EG (.ref S)) (DB hS rfl (B8 (m:=E4 (El (.ref I)) _) (DN (W.item 0 s _ _ hn hst λv h' tk hP hst' kp=>?_))));skip;have hS':=kp S _ n1 hS;have hg':=hG _ _ hg (λb o b1 _ e=>kp b o b1 e);refine B8 (m:=EH S (λ_=>#[v,v])) (Dm hS' rfl ?_);rw[nmd];refine Cs ⟨DA CW _,yb W bt S hSf G hG hc _ 0 _ v _ rfl hn (W.frame _ _ _ hst' λb bf o e=>(Cq _ _ (λz:S=b=>hSf (z▸bf))).trans e) (hG _ _ hg' λb o _ b2 e=>(Cq _ _ (CO b2)).trans e) hP (C3 _ hS' rfl) λv2 h2 tk2 p2 k2=>?_⟩;exact hR v2 h2 tk2 p2 λb o b1 b2 e=>k2 b o b1 b2 ((Cq _ _ (CO b2)).trans (kp b o b1 e)))
end
def wO(x:Int×Int):List Int:=[x.1,x.2]
section
variable {F:Frm}{ds:List Wd}{xs:List (Int×Int)}{i:Nat}
end
theorem oE(f:Nat->Int):∀k,Ez (λi j=>decide (f j<f i)) k<=k/\∀i,i<=k->f i<=f (Ez (λi j=>decide (f j<f i)) k)
 |0=>⟨B4 _,λi hi=>by have:i=0:=(by omega);subst this;exact CC _⟩
 |k+1=>by
  obtain⟨h1,h2⟩:=oE f k;rw[Ez];by_cases e:f (Ez (λi j=>decide (f j<f i)) k)<f (k+1)
  .rw[if_pos (decide_eq_true e)];refine⟨B4 _,λi hi=>?_⟩;by_cases c:i=k+1
   .subst c;exact CC _
   .have h3:=h2 i (by omega);omega
  .rw[if_neg (λz=>e (of_decide_eq_true z))];refine⟨Nat.le_succ_of_le h1,λi hi=>?_⟩;by_cases c:i=k+1
   .subst c;omega
   .exact h2 i (by omega)
theorem gZ{X:Cx}(hc:X.calm=true):dr X (.builtin "max") (λxs H Q=>∃(l:Addr) (ns:List Int),xs=[.ref l]/\SqL X.K H l (ns.map V.int)/\0<ns.length/\∀m,m∈ns->(∀x∈ns,x<=m)->Q (.int m) H):=by
 intro pins s σ H xs us Q I r h;obtain⟨l,ns,rfl,hl,pos,q⟩:=h;obtain⟨u,rfl,ru⟩:=eA r;cases ru;obtain⟨its,rv,p,z⟩:=I.list hl;have hlt:l<s.heap.objs.size:=by obtain⟨_,_,e,_⟩:=p;exact Cc e
 have len:=rv.length;rw[B3]at len;have nmd:(DX "max"++DX ".loop" : String) = "max.loop":=(by decide);have isz:its.toArray.size=ns.length:=by rw[Ci];omega
 have hv:∀i v,its[i]?=some v->∃n t,ns[i]?=some n/\v=FU n t:=λi v e=>by
  have hi:i<ns.length:=by have:=(List.getElem?_eq_some_iff.mp e).1;omega
  have eb:(ns.map V.int)[i]?=some (V.int ns[i]):=by rw[B_,c7 hi];rfl
  obtain⟨w',hw,rw'⟩:=rv.get eb;rw[e]at hw;cases hw;obtain⟨t,rfl⟩:=rw';exact⟨_,t,c7 hi,rfl⟩
 have gd:∀{i n},ns[i]?=some n->ns.getD i 0=n:=λ{i n} e=>by rw[B6,e];rfl
 refine call_function_tree F.kind_max F.plain_max F.entry_max (F.args_max1 _) (by
  refine B8 (m:=DK "max" ["key","default"] 0 ⟨[],[]⟩) (wpAny_of_eq (show DK "max" ["key","default"] 0 ⟨[],[]⟩=pure [none,none]from rfl) ?_);skip;refine B8 (Cs (B8 (Ec p.isList (B8 (Ey ?_)))));rw[nmd];refine Cs ⟨DA CW _,wN (FO (A:=X.A.in1) (I.ok.hd hc) s.heap.objs.size l (Cn hlt) its.toArray) (λi j=>decide (ns.getD j 0<ns.getD i 0)) _ ?nf (λh=>∀b o,s.heap.get? b=some o->h.get? b=some o) ?hG ?hc (by omega) ⟨⟨_,Cd _ (Cu _ rfl),rfl,rfl⟩,(p.isList.push _).push _⟩ (λb o e=>Cd _ (Cd _ e)) (Cu _ rfl) λv h' tk p0 kp=>?hr⟩
  case nf =>
   intro hm;rcases List.mem_cons.mp hm with e|e
   .rw[Du]at e;exact absurd e (Nat.succ_ne_self _)
   .rw[List.mem_singleton,Du]at e;rw[<-e]at hlt;exact absurd hlt (Nat.not_lt.mpr (Ew _))
  case hG =>
   intro h h' g kp b o e;have lt:=Cc e;refine kp b o (λhm=>?_) (λhm=>?_) (g b o e)
   .rw[List.mem_singleton.mp hm]at lt;exact CI _ lt
   .rw[hm,Du]at lt;exact absurd lt (Nat.not_lt.mpr (Ew _))
  case hc =>
   intro i j vi vj s' Q' E' g hi hj hq;obtain⟨a,t,ea,rfl⟩:=hv i vi (by simpa using hi);obtain⟨b,t',eb,rfl⟩:=hv j vj (by simpa using hj);rw[gd ea,gd eb]at hq;exact gt_int hq
  case hr =>
   obtain⟨a,t,ea,rfl⟩:=hv _ v (by simpa using p0);have sp:=oE (λi=>ns.getD i 0) (its.toArray.size-1);refine⟨.int a,H,I.kept λb o e=>?_,⟨t,rfl⟩,q a (Cg ea) λx hx=>?_⟩
   .have lt:=Cc e;refine kp b o (λhm=>?_) (λhm=>?_) (Cd _ (Cd _ e))
    .rw[List.mem_singleton.mp hm]at lt;exact CI _ lt
    .rw[hm,Du]at lt;exact absurd lt (Nat.not_lt.mpr (Ew _))
   .obtain⟨k,hk,rfl⟩:=List.mem_iff_getElem.mp hx;have:=sp.2 k (by omega);have e2:ns.getD (Ez (λi j=>decide (ns.getD j 0<ns.getD i 0)) (its.toArray.size-1)) 0=a:=gd ea;rw[e2,gd (c7 hk)]at this;exact this)
theorem jY{α:Type}(xs:List α)(x d:α)(k:Nat):(xs++[x]).getD k d=if k<xs.length then xs.getD k d else if k=xs.length then x else d:=by
 rw[yQ]
 split
 .rfl
 .rename_i c
  split
  .rename_i e
   rw[e,DT];rfl
  .rename_i e
   obtain⟨m,hm⟩:∃m,k-xs.length=m+1:=⟨k-xs.length-1,by omega⟩;rw[hm];rfl
section
variable {F:Frm}{ds:List Wd}{xs:List (Int×Int)}{i j:Nat}
theorem ue(hi:i<ds.length):∀(d j:Nat),j+d<=i->together (bS F ds xs (j+d) i)<=together (bS F ds xs j i)
 |0,j,_=>CC _
 |d+1,j,e=>by
  have ih:=ue hi d (j+1) (by omega);rw[show j+1+d=j+(d+1) by omega]at ih;refine Dj ih ?_;rw[<-eN,<-eN,gX (j:=j) (by omega) (by rw[bH];exact hi),gq F ds xs (by omega)];have:0<=bF F xs (dAt ds j):=Int.natCast_nonneg _;simp only;omega
end
theorem uf{ds:List Wd}{d:Wd}{k:Nat}:dAt (ds++[d]) k=if k<ds.length then dAt ds k else if k=ds.length then d else wd0:=jY ds d wd0 k
theorem lA{xs:List (Int×Int)}{x:Int×Int}{k:Nat}(e:xs[k]?=some x):xAt xs k=x:=by
 show xs.getD k (0,0)=x;rw[B6,e];rfl
structure eS(F:Frm)(ds:List Wd)(xs:List (Int×Int))(k:Nat):Prop where
 ff:bO F.f (xAt xs k) (dAt ds k).lead=xAt xs k
 bh:0<k->az (xAt xs k) (bc F.h F.f (xAt xs (k-1)) (dAt ds k).lead)=false
 wide:∀j,j<=k->(∀n,j<=n->n<=k->xAt xs n=xAt xs k)->together (bS F ds xs j k)<=F.w
 high:∀j,j<=k->(∀n,j<=n->n<=k->(xAt xs n).1=(xAt xs k).1)->(xAt xs k).2+1+(bJ F ds xs j k).sum<=F.h
 kept:0<k->(dAt ds k).kept=true->(xAt xs (k-1)).1=(xAt xs k).1
section
variable {F:Frm}{ds:List Wd}{xs:List (Int×Int)}{i j:Nat}
theorem y_(B:aR F ds xs)(fx:fM F ds xs)(pg:jU F.m xs)(hi:i<ds.length):eS F ds xs i:=by
 have pk:(xAt xs i).1<F.m:=pg _ (iS (by rw[<-B.len];exact hi));obtain⟨fl,fb⟩:=ua B fx hi;refine⟨fl,fb,λj hj hn=>yY B fx pk hi hj (hn j (B4 _) hj),λj hj hn=>yZ fx hi hj (hn j (B4 _) hj),λk0 hk=>?_⟩;have:=yX B fx (i:=i-1) (by omega) (by rw[show i-1+1=i by omega];exact hk);rw[show i-1+1=i by omega]at this;exact this
theorem ug(h1:1<=F.h)(d:Wd):0<=a9 F xs d:=by
 unfold a9 fJ
 split
 .omega
 .split<;>omega
theorem zb(B:aR F ds xs)(t:∀k,k<ds.length->eS F ds xs k):fM F ds xs:=by
 have h1:=B.fo.h1;refine vQ B (λi hi=>?_) (λi y hi e=>?_)
 .have hix:i<xs.length:=by rw[<-B.len];exact hi
  have lz:i<(bg F ds xs).length:=by rw[bH];exact hi
  have T:=t i hi;refine⟨?_,?_,?_,λj hj hn=>?_,λj hj hn=>?_⟩
  .have:=T.wide i (B4 _) (λn a b=>by rw[show n=i by omega]);rw[<-eN,rQ lz]at this;exact this
  .have:=T.high i (B4 _) (λn a b=>by rw[show n=i by omega]);rw[<-eO,gY (B4 _) lz,ud]at this;have r:=(B.x hi).1.r1;omega
  .unfold bn;by_cases c:0<i
   .have b:=T.bh c;rw[if_pos c,b0,if_neg (by rw[b];decide),T.ff];exact ck _
   .rw[if_neg c,T.ff];exact ck _
  .rw[eN];exact T.wide j (by omega) hn
  .rw[eO];exact T.high j hj hn
 .unfold bN at e
  split at e
  .cases e
  .rename_i c
   cases e;have hi2:i+1<ds.length:=by
    rcases EA (i+1) ds.length with z|z
    .exact z
    .exact absurd (.inl (by omega)) c
   have k:(dAt ds (i+1)).kept=true:=by
    cases e:(dAt ds (i+1)).kept with
    |true=>rfl
    |false=>exact absurd (.inr e) c
   have:=(t (i+1) hi2).kept (D6 _) k;rw[D5]at this;have r:=(B.x hi).1.r1;rw[aJ];simp only;omega
theorem uh(h1:1<=F.h)(hi:i<ds.length):∀(d j:Nat),j+d<=i->(bJ F ds xs (j+d) i).sum<=(bJ F ds xs j i).sum
 |0,j,_=>CC _
 |d+1,j,e=>by
  have ih:=uh h1 hi d (j+1) (by omega);rw[show j+1+d=j+(d+1) by omega]at ih;refine Dj ih ?_;rw[<-eO,<-eO,gY (j:=j) (by omega) (by rw[bH];exact hi),gq F ds xs (by omega)];have:=ug (F:=F) (xs:=xs) h1 (dAt ds j);simp only;omega
theorem yc(hi:i<ds.length){j0:Nat}(h0:j0<=i)(e:j0=0\/xAt xs (j0-1)≠xAt xs j0)(h:together (bS F ds xs j0 i)<=F.w):∀j,j<=i->(∀n,j<=n->n<=i->xAt xs n=xAt xs i)->together (bS F ds xs j i)<=F.w:=λj hj hn=>by
 have hj2:j0<=j:=by
  rcases EA j j0 with z|z
  .rcases e with e|e
   .omega
   .exact absurd ((hn (j0-1) (by omega) (by omega)).trans (hn j0 (by omega) h0).symm) e
  .exact z
 have:=ue (F:=F) (ds:=ds) (xs:=xs) hi (j-j0) j0 (by omega);rw[show j0+(j-j0)=j by omega]at this;omega
end
section
variable {room:Int}{brk:Nat->Bool}
end
section
variable {F:Frm}{ds:List Wd}{L room:Int}{brk:Nat->Bool}
end
def er1(H:Hp)(wa:Addr):Hp:=λb=>if b=wa then none else H b
theorem ui(H:Hp)(wa:Addr):av (er1 H wa) H:=λb o h=>by
 unfold er1 at h
 split at h
 .cases h
 .exact h
theorem uj{H:Hp}{wa b:Addr}(n:b≠wa):er1 H wa b=H b:=by
 unfold er1;rw[if_neg n]
theorem uk{H H':Hp}{wa:Addr}(s:av H H'):av (er1 H wa) (er1 H' wa):=λb o h=>by
 unfold er1 at h⊢
 split at h
 .cases h
 .rename_i c
  rw[if_neg c];exact s b o h
theorem vR{H:Hp}{wa:Addr}{o:HO}:er1 (upd H wa o) wa=er1 H wa:=by
 funext b
 unfold er1;by_cases c:b=wa
 .rw[if_pos c,if_pos c]
 .rw[if_neg c,if_neg c,aK c]
theorem ox{K:PySem.W.Frag}{H:Hp}{wa a:Addr}{xs zs:List V}(h2:H wa=some (.lst zs))(h:SqT K H a xs):SqT K (er1 H wa) a xs:=by
 have ne:∀o,H a=some o->(∀l,o≠.lst l)->er1 H wa a=some o:=λo e n=>by
  rw[uj (λz=>by rw[z,h2]at e;cases e;exact n _ rfl)];exact e
 rcases h with(h|⟨o,h⟩)|h
 .exact .inl (.inl (ne _ h (λl z=>by cases z)))
 .exact .inl (.inr ⟨o,ne _ h (λl z=>by cases z)⟩)
 .exact .inr h
section
variable {F:Frm}{ds:List Wd}{xs:List (Int×Int)}{k:Nat}
end
theorem oy{α β:Type}(f:α->β)(l:List α)(j k:Nat):((l.map f).drop j).take (k+1-j)=((l.drop j).take (k+1-j)).map f:=by
 rw[<-Ff,<-Fe]
structure Ris(b:Int)(xs:List (Int×Int)):Prop where
 row:∀k,k<xs.length->bI b (xAt xs k)
 pg:∀k,k<xs.length->(xAt xs k).1<=(k:Int)+2
 up:∀k,0<k->k<xs.length->az (xAt xs k) (xAt xs (k-1))=false
structure Szd(F:Frm)(ds:List Wd)(xs:List (Int×Int))(n:Nat)(W T:Int):Prop where
 w1:1<=W
 w2:W<=62+63*(n:Int)
 wide:∀k,k<n->∀j,j<=k->(∀n,j<=n->n<=k->xAt xs n=xAt xs k)->together (bS F ds xs j k)<=W
 foot:∀k,k<n->∀s∈(dAt ds k).foot,((ay F.h F.f xs s).length:Int)<=W
 high:∀k,k<n->∀j,j<=k->(∀n,j<=n->n<=k->(xAt xs n).1=(xAt xs k).1)->(xAt xs k).2+1+(bJ F ds xs j k).sum<=T
 top:T=1\/∃k j,k<n/\j<=k/\T=(xAt xs k).2+1+(bJ F ds xs j k).sum
section
variable {F:Frm}{ds es:List Wd}{xs:List (Int×Int)}{k j:Nat}{h h' f w:Int}
theorem rR(h1:h<=h')(po:b_ h xs){s:Say}(so:eC xs.length s):(ay h f xs s).length<=(ay h' f xs s).length:=by
 cases s with
 |text l=>exact B4 _
 |page k=>exact B4 _
 |row k =>
  have p:=(po.get (show k<xs.length from so)).1.p1;refine mZ _ _ ?_;show((xs.getD k (0,0)).1*h+(xs.getD k (0,0)).2+1).toNat<=((xs.getD k (0,0)).1*h'+(xs.getD k (0,0)).2+1).toNat;have:=Int.mul_le_mul_of_nonneg_left h1 p;omega
theorem zc{ts us:List Int}(hh:h<=h')(e:ts.length=us.length)(hk:∀k,k<ts.length->ts.getD k 0<=us.getD k 0)(h0:∀t∈ts,0<=t)(no:us.any (λt=>decide (w<t))=false):eL w h ts<=eL w h' us:=by
 have no2:ts.any (λt=>decide (w<t))=false:=by
  cases c:ts.any (λt=>decide (w<t))with
  |false=>rfl
  |true=>rw[m5 e hk c]at no;cases no
 have g:=lL (w:=w) e hk h0 (fK.refl (0,0)) (CC 0) (CC 0) (CC 0);have n1:(dM w ts).1<=(dM w us).1:=by
  rcases g with z|z
  .exact Int.le_of_lt z
  .exact FT z.1
 unfold eL;rw[no,no2,if_neg (show ¬ (false=true) by decide),if_neg (show ¬ (false=true) by decide)]
 split<;>split<;>omega
theorem yd(w:Int)(ts:List Int):(dM w ts).1<=ts.length:=by
 refine iZ (P:=λts=>(dM w ts).1<=(ts.length:Int)) (CC 0) (λl t ih=>?_) ts;rw[m4,Ca];unfold cB
 split
 .show(dM w l).1<=_;simp;omega
 .show(dM w l).1+1<=_;simp;omega
theorem wP{ts:List Int}(no:ts.any (λt=>decide (w<t))=false):eL w h ts<=ts.length:=by
 have:=yd w ts;unfold eL;rw[no,if_neg (show ¬ (false=true) by decide)]
 split<;>omega
theorem yf{ts:List Int}(h:∀t∈ts,t<=w):ts.any (λt=>decide (w<t))=false:=by
 rw[List.any_eq_false];intro t ht;have:=h t ht;simp;omega
theorem qQ{α:Type}{f:α->Int}:∀(l:List α),(∀d∈l,0<=f d)->0<=(l.map f).sum
 |[],_=>CC 0
 |a::l,h=>by
  have:=qQ l (λd hd=>h d (Ck _ hd));have:=h a Cp;show 0<=f a+(l.map f).sum;omega
theorem ul{α:Type}{f:α->Int}:∀(l:List α) (n:Nat),(∀d∈l,0<=f d)->((l.take n).map f).sum<=(l.map f).sum
 |[],n,_=>by simp
 |a::l,0,h=>by
  have:=qQ (f:=f) (a::l) h;simpa using this
 |a::l,n+1,h=>by
  have:=ul l n (λd hd=>h d (Ck _ hd));show f a+((l.take n).map f).sum<=f a+(l.map f).sum;omega
theorem um{α:Type}{f:α->Int}:∀(l:List α) (n:Nat),(∀d∈l,0<=f d)->((l.drop n).map f).sum<=(l.map f).sum
 |[],n,_=>by simp
 |a::l,0,h=>CC _
 |a::l,n+1,h=>by
  have:=um l n (λd hd=>h d (Ck _ hd));have h0:=h a Cp;show((l.drop n).map f).sum<=f a+(l.map f).sum;omega
def aY(ds:List Wd):Int:=(ds.map λd=>(d.foot.length:Int)).sum
theorem oF(ds:List Wd):0<=aY ds:=qQ ds λd _=>by omega
theorem Ac{W T b:Int}(S:Szd F ds xs ds.length W T)(R:Ris b xs)(l:ds.length=xs.length)(b1:1<=b)(hw:∀k,k<ds.length->∀s∈(dAt ds k).foot,((ay F.h F.f xs s).length:Int)<=F.w):T<=b+aY ds:=by
 have f0:=oF ds;rcases S.top with z|⟨k,j,hk,hj,z⟩
 .omega
 .have r:=(R.row k (by omega)).r2;have hm:∀d∈ds,a9 F xs d<=(d.foot.length:Int):=λd hd=>by
   obtain⟨i,hi,rfl⟩:=List.mem_iff_getElem.mp hd;have e:dAt ds i=ds[i]:=by
    show ds.getD i wd0=_;rw[B6,c7 hi];rfl
   have h1:=hw i hi;rw[e]at h1;unfold a9;rw[gn];have:=wP (w:=F.w) (h:=F.h) (ts:=(ds[i].foot.map (ay F.h F.f xs)).map λt=>(t.length:Int)) (yf λt ht=>by
    obtain⟨u,hu,rfl⟩:=List.mem_map.mp ht;obtain⟨s,hs,rfl⟩:=List.mem_map.mp hu;exact h1 s hs)
   simpa using this
  have s1:(bJ F ds xs j k).sum<=aY ds:=by
   unfold bJ d8 aY;refine Dj (sum_le _ λd hd=>hm d (DC (Dg hd))) ?_;exact Dj (ul (f:=λd:Wd=>(d.foot.length:Int)) _ _ λd _=>by omega) (um (f:=λd:Wd=>(d.foot.length:Int)) _ _ λd _=>by omega)
  omega
def qc(ds es:List Wd):Prop:=ds.length=es.length/\∀k,k<ds.length->(dAt ds k).say=(dAt es k).say/\(dAt ds k).foot=(dAt es k).foot
theorem uo{α:Type}{g:Wd->α}(hg:∀d e:Wd,d.say=e.say->d.foot=e.foot->g d=g e)(S:qc ds es):ds.map g=es.map g:=by
 refine List.ext_getElem (by simp[S.1]) λi h1 h2=>?_;rw[List.getElem_map,List.getElem_map];have a1:i<ds.length:=by simpa using h1
 have a2:i<es.length:=by simpa using h2
 have s:=S.2 i a1;have e1:dAt ds i=ds[i]:=by
  show ds.getD i wd0=_;rw[B6,c7 a1];rfl
 have e2:dAt es i=es[i]:=by
  show es.getD i wd0=_;rw[B6,c7 a2];rfl
 rw[e1,e2]at s;exact hg _ _ s.1 s.2
theorem wQ(S:qc ds es)(j k:Nat):bS F ds xs j k=bS F es xs j k:=by
 unfold bS d8;rw[<-oy,<-oy,uo (λd e h1 _=>by unfold bF;rw[h1]) S]
theorem wR(S:qc ds es)(j k:Nat):bJ F ds xs j k=bJ F es xs j k:=by
 unfold bJ d8;rw[<-oy,<-oy,uo (λd e _ h1=>by unfold a9;rw[h1]) S]
theorem vS{b:Int}(R:Ris b xs)(hb:b<=h)(hn:xs.length<=400):b_ h xs:=λx hx=>by
 obtain⟨k,hk,rfl⟩:=List.mem_iff_getElem.mp hx;have e:xAt xs k=xs[k]:=lA (c7 hk);have r:=R.row k hk;have p:=R.pg k hk;rw[e]at r p;exact⟨⟨r.p1,r.r1,Int.lt_of_lt_of_le r.r2 hb⟩,by omega⟩
theorem zd{F1:Frm}{W T:Int}(S:Szd F1 ds xs ds.length W T)(hf:F.f=F1.f)(hh:F.h<=F1.h)(po:b_ F.h xs)(wd:∀d∈ds,dN xs.length d)(hw:W<=F.w)(hk:k<ds.length):∀j,j<=k->(∀n,j<=n->n<=k->xAt xs n=xAt xs k)->together (bS F ds xs j k)<=F.w:=λj hj hn=>by
 refine Dj ?_ (Dj (S.wide k hk j hj hn) hw);have s1:((d8 ds j k).map (bF F xs)).sum<=((d8 ds j k).map (bF F1 xs)).sum:=sum_le _ λd hd=>by
  have:=rR (f:=F.f) hh po (wd d (DC (Dg hd))).s;unfold bF;rw[<-hf];omega
 unfold together bS;rw[B3,B3];omega
theorem ze{F1:Frm}{d:Wd}(hf:F.f=F1.f)(hh:F.h<=F1.h)(hw:F.w=F1.w)(po:b_ F.h xs)(wd:dN xs.length d)(no:∀s∈d.foot,((ay F1.h F1.f xs s).length:Int)<=F1.w):a9 F xs d<=a9 F1 xs d:=by
 unfold a9;rw[gn,gn,hw];refine zc hh (by simp) (λk hk=>?_) (λt ht=>?_) (yf λt ht=>?_)
 .simp only[B3]at hk;rw[B6,B_,B_,c7 hk,B6,B_,B_,c7 hk];have:=rR (f:=F.f) hh po (wd.f _ (CV hk));show((ay F.h F.f xs d.foot[k]).length:Int)<=((ay F1.h F1.f xs d.foot[k]).length:Int);rw[<-hf];omega
 .obtain⟨u,_,rfl⟩:=List.mem_map.mp ht;omega
 .obtain⟨u,hu,rfl⟩:=List.mem_map.mp ht;obtain⟨s,hs,rfl⟩:=List.mem_map.mp hu;exact no s hs
theorem zf{F2:Frm}{W T:Int}(S:Szd F2 ds xs ds.length W T)(hf:F.f=F2.f)(hh:F.h<=F2.h)(hw:F.w=F2.w)(po:b_ F.h xs)(wd:∀d∈ds,dN xs.length d)(no:∀d∈ds,∀s∈d.foot,((ay F2.h F2.f xs s).length:Int)<=F2.w)(ht:T<=F.h)(hk:k<ds.length):∀j,j<=k->(∀n,j<=n->n<=k->(xAt xs n).1=(xAt xs k).1)->(xAt xs k).2+1+(bJ F ds xs j k).sum<=F.h:=λj hj hn=>by
 have s:=S.high k hk j hj hn;have s1:(bJ F ds xs j k).sum<=(bJ F2 ds xs j k).sum:=by
  unfold bJ;refine sum_le _ λd hd=>?_;have hm:=DC (Dg hd);exact ze hf hh hw po (wd d hm) (no d hm)
 omega
structure qR(F:Frm)(ds:List Wd)(xs:List (Int×Int))(k:Nat)(r:Int):Prop where
 ex:∃j,j<=k/\(∀n,j<=n->n<=k->xAt xs n=xAt xs k)/\(j=0\/xAt xs (j-1)≠xAt xs j)/\r=together (bS F ds xs j k)
structure qS(F:Frm)(ds:List Wd)(xs:List (Int×Int))(k:Nat)(r:Int):Prop where
 ex:∃j,j<=k/\(∀n,j<=n->n<=k->(xAt xs n).1=(xAt xs k).1)/\(j=0\/(xAt xs (j-1)).1≠(xAt xs j).1)/\r=(bJ F ds xs j k).sum
theorem uq(hk:k<ds.length)(h:k=0\/xAt xs (k-1)≠xAt xs k):qR F ds xs k (bF F xs (dAt ds k)):=by
 refine⟨k,B4 _,λn n1 n2=>by rw[show n=k by omega],h,?_⟩;have:=jW (F:=F) (xs:=xs) (B4 k) hk;rw[fC]at this;rw[<-this];show bF F xs (dAt ds k)=together []+1+bF F xs (dAt ds k);have:together [] = -1:=rfl;omega
theorem Ad{r:Int}(R:qR F ds xs k r)(hk:k+1<ds.length)(h:xAt xs k=xAt xs (k+1)):qR F ds xs (k+1) (r+1+bF F xs (dAt ds (k+1))):=by
 obtain⟨j,hj,hn,ho,rfl⟩:=R.ex;refine⟨j,by omega,λn n1 n2=>?_,ho,?_⟩
 .by_cases c:n=k+1
  .rw[c]
  .rw[hn n n1 (by omega),h]
 .have:=jW (F:=F) (xs:=xs) (show j<=k+1 by omega) hk;rw[jV]at this;rw[<-this];rfl
theorem ur(hk:k<ds.length)(h:k=0\/(xAt xs (k-1)).1≠(xAt xs k).1):qS F ds xs k (0+a9 F xs (dAt ds k)):=by
 refine⟨k,B4 _,λn n1 n2=>by rw[show n=k by omega],h,?_⟩;have:=fD (F:=F) (xs:=xs) (B4 k) hk;rw[fC]at this;rw[<-this];rfl
theorem Ae{r:Int}(R:qS F ds xs k r)(hk:k+1<ds.length)(h:(xAt xs k).1=(xAt xs (k+1)).1):qS F ds xs (k+1) (r+a9 F xs (dAt ds (k+1))):=by
 obtain⟨j,hj,hn,ho,rfl⟩:=R.ex;refine⟨j,by omega,λn n1 n2=>?_,ho,?_⟩
 .by_cases c:n=k+1
  .rw[c]
  .rw[hn n n1 (by omega),h]
 .have:=fD (F:=F) (xs:=xs) (show j<=k+1 by omega) hk;rw[jV]at this;rw[<-this];rfl
theorem zg:Szd F ds xs 0 1 1:=⟨CC 1,by omega,λk hk=>absurd hk (Cy _),λk hk=>absurd hk (Cy _),λk hk=>absurd hk (Cy _),.inl rfl⟩
theorem zi{n:Nat}{W T W' T' r r2:Int}(S:Szd F ds xs n W T)(h1:1<=F.h)(hn:n<ds.length)(R:qR F ds xs n r)(R2:qS F ds xs n r2)(le:W<=W')(rl:r<=W')(fl:∀s∈(dAt ds n).foot,((ay F.h F.f xs s).length:Int)<=W')(wl:W'<=62+63*((n+1:Nat):Int))
  (et:T'=if(xAt xs n).2+1+r2>T then(xAt xs n).2+1+r2 else T):Szd F ds xs (n+1) W' T':=by
 obtain⟨j0,hj0,hn0,ho0,rfl⟩:=R.ex;obtain⟨j1,hj1,hn1,ho1,rfl⟩:=R2.ex;have t1:T<=T':=by rw[et];split<;>omega
 have t2:(xAt xs n).2+1+(bJ F ds xs j1 n).sum<=T':=by rw[et];split<;>omega
 refine⟨Dj S.w1 le,wl,λk hk j hj hx=>?_,λk hk s hs=>?_,λk hk j hj hx=>?_,?_⟩
 .by_cases c:k<n
  .exact Dj (S.wide k c j hj hx) le
  .have:k=n:=by omega
   subst this;exact yc (F:=⟨W',F.h,F.f,F.m⟩) hn hj0 ho0 rl j hj hx
 .by_cases c:k<n
  .exact Dj (S.foot k c s hs) le
  .have:k=n:=by omega
   subst this;exact fl s hs
 .by_cases c:k<n
  .exact Dj (S.high k c j hj hx) t1
  .have:k=n:=by omega
   subst this;have hj2:j1<=j:=by
    rcases EA j j1 with z|z
    .rcases ho1 with e|e
     .omega
     .exact absurd ((hx (j1-1) (by omega) (by omega)).trans (hx j1 (by omega) hj1).symm) e
    .exact z
   have:=uh (F:=F) (ds:=ds) (xs:=xs) h1 hn (j-j1) j1 (by omega);rw[show j1+(j-j1)=j by omega]at this;omega
 .rw[et]
  split
  .exact .inr ⟨n,j1,by omega,hj1,rfl⟩
  .rcases S.top with z|⟨k,j,hk,hj,z⟩
   .exact .inl z
   .exact .inr ⟨k,j,by omega,hj,z⟩
structure ut(F:Frm)(ds:List Wd)(xs:List (Int×Int)):Prop where
 len:ds.length=xs.length
 wide:∀k,k<ds.length->∀j,j<=k->(∀n,j<=n->n<=k->xAt xs n=xAt xs k)->together (bS F ds xs j k)<=F.w
 high:∀k,k<ds.length->∀j,j<=k->(∀n,j<=n->n<=k->(xAt xs n).1=(xAt xs k).1)->(xAt xs k).2+1+(bJ F ds xs j k).sum<=F.h
 pg:jU F.m xs
 po:b_ F.h xs
theorem ut.of{F1 F2:Frm}{W1 T1 W2 T2 b:Int}(S1:Szd F1 ds xs ds.length W1 T1)(S2:Szd F2 ds xs ds.length W2 T2)(R:Ris b xs)(l:ds.length=xs.length)(n4:ds.length<=400)(b1:1<=b)(wd:∀d∈ds,dN ds.length d)
  (f1:F.f=F1.f)(f2:F.f=F2.f)(h1:F1.h=b+aY ds)(h2:F2.h=F1.h)(w2:F.w=F2.w)(ww:W1<=F.w)(hb:b<=F.h)(hm:F.h<=F1.h)(ht:(if T2<F1.h then T2 else F1.h)<=F.h)(pg:jU F.m xs):ut F ds xs:=by
 have po:=vS (h:=F.h) R hb (by omega);have wdx:∀d∈ds,dN xs.length d:=λd hd=>by have:=wd d hd;rwa[l]at this
 have no:∀k,k<ds.length->∀s∈(dAt ds k).foot,((ay F2.h F2.f xs s).length:Int)<=F2.w:=λk hk s hs=>by
  have:=S1.foot k hk s hs;rw[h2,<-f2,f1,<-w2];omega
 have no2:∀d∈ds,∀s∈d.foot,((ay F2.h F2.f xs s).length:Int)<=F2.w:=λd hd s hs=>by
  obtain⟨i,hi,rfl⟩:=List.mem_iff_getElem.mp hd;have e:dAt ds i=ds[i]:=by
   show ds.getD i wd0=_;rw[B6,c7 hi];rfl
  exact no i hi s (by rw[e];exact hs)
 have tl:=Ac S2 R l b1 no;refine⟨l,λk hk=>zd S1 f1 hm po wdx ww hk,λk hk=>zf S2 f2 (by omega) w2 po wdx no2 ?_ hk,pg,po⟩
 split at ht<;>omega
def gN(F:Frm)(xs:List (Int×Int))(k:Nat)(l:Int):Prop:=¬ (l=4/\(F.f+(xAt xs k).1)%2=0)/\(0<k->az (xAt xs k) (bc F.h F.f (xAt xs (k-1)) l)=false)
theorem wS{es:List Wd}(Ft:ut F es xs)(S:qc ds es)(hk:k<ds.length)(l:gN F xs k (dAt ds k).lead)(kp:(dAt ds k).kept=true->0<k->(xAt xs (k-1)).1=(xAt xs k).1):eS F ds xs k:=by
 refine⟨?_,l.2,λj hj hx=>?_,λj hj hx=>?_,λk0 kt=>kp kt k0⟩
 .unfold bO;rw[if_neg l.1]
 .rw[wQ S];exact Ft.wide k (by rw[<-S.1];exact hk) j hj hx
 .rw[wR S];exact Ft.high k (by rw[<-S.1];exact hk) j hj hx
end
def uu(K:PySem.W.Frag)(H:Hp)(a:Addr)(d:Wd):Prop:=∃(sa fo:Addr) (bs:List Addr),SqT K H a [.ref sa,.ref fo]/\SqT K H sa (lI d.say)/\SqL K H fo (bs.map V.ref)/\cP K H bs d.foot
theorem uu.same{K:PySem.W.Frag}{H H':Hp}{a:Addr}{d:Wd}(s:av H H')(h:uu K H a d):uu K H' a d:=by
 obtain⟨sa,fo,bs,h1,h2,h3,h4⟩:=h;exact⟨sa,fo,bs,s.tup h1,s.tup h2,s.seq h3,h4.same s⟩
def fN(K:PySem.W.Frag)(H:Hp)(as:List Addr)(ds:List Wd):Prop:=as.length=ds.length/\∀(i:Nat) a d,as[i]?=some a->ds[i]?=some d->uu K H a d
theorem fN.same{K:PySem.W.Frag}{H H':Hp}{as:List Addr}{ds:List Wd}(s:av H H')(h:fN K H as ds):fN K H' as ds:=⟨h.1,λi a d e e'=>(h.2 i a d e e').same s⟩
theorem fN.nil{K:PySem.W.Frag}{H:Hp}:fN K H [] []:=⟨rfl,λi a x e _=>by simp at e⟩
theorem fN.snoc{K:PySem.W.Frag}{H:Hp}{as:List Addr}{ds:List Wd}{a:Addr}{d:Wd}(h:fN K H as ds)(hx:uu K H a d):fN K H (as++[a]) (ds++[d]):=by
 refine⟨by simp[h.1],λi b y e e'=>?_⟩;by_cases hi:i<as.length
 .rw[Ce hi]at e;rw[Ce (by rw[<-h.1];exact hi)]at e';exact h.2 i b y e e'
 .rw[Cj (by omega)]at e;rw[Cj (by rw[<-h.1];omega),<-h.1]at e';cases c:i-as.length with
  |zero=>rw[c]at e e';cases e;cases e';exact hx
  |succ n=>rw[c]at e;simp at e
theorem Af{H H2:Hp}{wa:Addr}(s:av H H2)(h:H wa=none):av H (er1 H2 wa):=λb o e=>by
 rw[uj (bR e h)];exact s b o e
def km(K:PySem.W.Frag)(H:Hp)(as:List Addr)(xss:List (List (Int×Int))):Prop:=as.length=xss.length/\∀(i:Nat) a xs,as[i]?=some a->xss[i]?=some xs->aU K H a xs
theorem km.same{K:PySem.W.Frag}{H H':Hp}{as:List Addr}{xss:List (List (Int×Int))}(s:av H H')(h:km K H as xss):km K H' as xss:=⟨h.1,λi a d e e'=>(h.2 i a d e e').same s⟩
theorem qd{as:List Addr}{xss:List (List (Int×Int))}(e:as.length=xss.length){i:Nat}{y:V}(h:(as.map V.ref)[i]?=some y):∃b xs,y=V.ref b/\as[i]?=some b/\xss[i]?=some xs:=by
 rw[B_]at h;obtain⟨b,hb,rfl⟩:=Option.map_eq_some_iff.mp h;have hi:i<xss.length:=by rw[<-e];exact(List.getElem?_eq_some_iff.mp hb).1
 exact⟨b,xss[i],rfl,hb,c7 hi⟩
theorem qU(x y b:Int)(hb:1<=b):0<=x%2*(y%b)/\x%2*(y%b)<b:=by
 have m0:=C5 y (show b≠0 by omega);have m1:=CZ y (show 0<b by omega);have:x%2=0\/x%2=1:=by omega
 rcases this with z|z<;>rw[z]
 .rw[Int.zero_mul];omega
 .rw[Int.one_mul];exact⟨m0,m1⟩
theorem uv{r b:Int}(h0:0<=r)(h1:r<b):((r+1)/b=0/\(r+1)%b=r+1/\r+1<b)\/((r+1)/b=1/\(r+1)%b=0/\r+1=b):=by
 by_cases c:r+1<b
 .exact .inl ⟨Int.ediv_eq_zero_of_lt (by omega) c,Int.emod_eq_of_lt (by omega) c,c⟩
 .have e:r+1=b:=by omega
  rw[e];exact .inr ⟨Int.ediv_self (by omega),Int.emod_self,rfl⟩
theorem eG(xs:List (Int×Int))(x:Int×Int)(k:Nat):xAt (xs++[x]) k=if k<xs.length then xAt xs k else if k=xs.length then x else(0,0):=jY xs x (0,0) k
theorem zj{b:Int}{xs:List (Int×Int)}{x:Int×Int}(R:Ris b xs)(r:bI b x)(p:x.1<=(xs.length:Int)+2)(u:0<xs.length->az x (xAt xs (xs.length-1))=false):Ris b (xs++[x]):=by
 refine⟨λk hk=>?_,λk hk=>?_,λk k0 hk=>?_⟩
 .rw[Ca]at hk;simp at hk;rw[eG];by_cases c:k<xs.length
  .rw[if_pos c];exact R.row k c
  .rw[if_neg c,if_pos (by omega)];exact r
 .rw[Ca]at hk;simp at hk;rw[eG];by_cases c:k<xs.length
  .rw[if_pos c];exact R.pg k c
  .rw[if_neg c,if_pos (by omega)];have:k=xs.length:=by omega
   rw[this];exact p
 .rw[Ca]at hk;simp at hk;rw[eG,eG,if_pos (show k-1<xs.length by omega)];by_cases c:k<xs.length
  .rw[if_pos c];exact R.up k k0 c
  .have:k=xs.length:=by omega
   rw[if_neg c,if_pos this,this];exact u (by omega)
theorem zk{b:Int}{xs:List (Int×Int)}(R:Ris b xs){k:Nat}(hk:k<xs.length):(xAt xs k).1<=(xAt xs (xs.length-1)).1:=by
 have:=dI (i:=xs.length-1) (xs:=xs) (λk k0 k1=>R.up k k0 (by omega)) (xs.length-1-k) k (by omega);rw[show k+(xs.length-1-k)=xs.length-1 by omega,aJ]at this;omega
def yg(K:PySem.W.Frag):R2:=λx y H Q=>∃a b xs,x=.ref a/\y=.ref b/\SqL K H a xs/\SqL K H b []/\Q (.bl (!xs.isEmpty)) H
theorem yh{X:Cx}(hu:X.A.units<Fy):OpR X (C7 .NotEq) (yg X.K):=yV hu
section
variable {K:PySem.W.Frag}{H0 H H':Hp}{as:List Addr}{ds:List Wd}
end
structure Grp(w:Int)(ts:List (List Nat))(gs:List (List (List Nat))):Prop where
 all:gs.flatten=ts
 rows:bE w ts=gs.map (bm [32])
 ne:∀g∈gs,g≠[]
 fit:∀g∈gs,(∃t,g=[t])\/((bm [32] g).length:Int)<=w
 next:∀(i:Nat) g g',gs[i]?=some g->gs[i+1]?=some g'->w<((bm [32] g).length:Int)+1+((g'.headD []).length:Int)
theorem jZ(t:List Nat):∀(g:List (List Nat)),g≠[]->bm [32] (g++[t])=bm [32] g++32::t
 |[],h=>absurd rfl h
 |[x],_=>by show x++[32]++t=x++32::t;simp
 |x::y::r,_=>by
  have ih:=jZ t (y::r) (by simp);show x++[32]++bm [32] ((y::r)++[t])=x++[32]++bm [32] (y::r)++32::t;rw[ih];simp only[DE]
theorem yi{g:List (List Nat)}(t:List Nat)(h:g≠[]):(g++[t]).headD []=g.headD []:=by
 cases g with
 |nil=>exact absurd rfl h
 |cons a r=>rfl
theorem yj{w:Int}{gs:List (List (List Nat))}{g:List (List Nat)}(h:∀(i:Nat) a b,(gs++[g])[i]?=some a->(gs++[g])[i+1]?=some b->w<((bm [32] a).length:Int)+1+((b.headD []).length:Int))(g2:List (List Nat))(e:g2.headD []=g.headD []) :
  ∀(i:Nat) a b,(gs++[g2])[i]?=some a->(gs++[g2])[i+1]?=some b->w<((bm [32] a).length:Int)+1+((b.headD []).length:Int):=by
 intro i a b ea eb;by_cases c:i+1<gs.length
 .rw[Ce (by omega)]at ea;rw[Ce c]at eb;exact h i a b (by rw[Ce (by omega)];exact ea) (by rw[Ce c];exact eb)
 .have hlt:=(List.getElem?_eq_some_iff.mp eb).1;rw[Ca,CS]at hlt;have ei:i+1=gs.length:=by omega
  rw[Cj (by omega),ei,DT]at eb;cases eb;rw[Ce (by omega)]at ea;have:=h i a g (by rw[Ce (by omega)];exact ea) (by rw[Cj (by omega),ei,DT];rfl);rw[e];exact this
theorem A5(w:Int)(ts:List (List Nat)):∃gs,Grp w ts gs:=by
 refine iZ (P:=λts=>∃gs,Grp w ts gs) ?_ ?_ ts
 .exact⟨[],rfl,rfl,λg h=>by simp at h,λg h=>by simp at h,λi g g' h _=>by simp at h⟩
 .rintro l t ⟨gs,G⟩;rcases eE gs with e|⟨gs0,g,e⟩
  .subst e;have hr:=G.rows;refine⟨[[t]],?_,?_,?_,?_,?_⟩
   .have:=G.all;rw[<-this];rfl
   .rw[dX,hr];rfl
   .intro g hg;rw[List.mem_singleton.mp hg];simp
   .intro g hg;exact .inl ⟨t,List.mem_singleton.mp hg⟩
   .intro i g g' h1 h2;have:=(List.getElem?_eq_some_iff.mp h2).1;simp at this
  .subst e;have hr:=G.rows;have gne:=G.ne g (by simp);rw[Ch,DM]at hr;by_cases c:((bm [32] g).length:Int)+1+t.length<=w
   .refine⟨gs0++[g++[t]],?_,?_,?_,?_,?_⟩
    .rw[<-G.all];simp
    .rw[dX,hr,cO,if_pos c,Ch,DM,jZ t g gne]
    .intro x hx;rcases List.mem_append.mp hx with hx|hx
     .exact G.ne x (C9 _ hx)
     .rw[List.mem_singleton.mp hx];simp
    .intro x hx;rcases List.mem_append.mp hx with hx|hx
     .exact G.fit x (C9 _ hx)
     .rw[List.mem_singleton.mp hx,jZ t g gne];refine .inr ?_;rw[Ca,CA];omega
    .exact yj G.next _ (yi t gne)
   .refine⟨gs0++[g]++[[t]],?_,?_,?_,?_,?_⟩
    .rw[<-G.all];simp
    .rw[dX,hr,cO,if_neg c];simp only[Ch,Dh,Fq];rfl
    .intro x hx;rcases List.mem_append.mp hx with hx|hx
     .exact G.ne x hx
     .rw[List.mem_singleton.mp hx];simp
    .intro x hx;rcases List.mem_append.mp hx with hx|hx
     .exact G.fit x hx
     .exact .inl ⟨t,List.mem_singleton.mp hx⟩
    .intro i a b ea eb;by_cases c2:i+1<(gs0++[g]).length
     .rw[Ce (by omega)]at ea;rw[Ce c2]at eb;exact G.next i a b ea eb
     .have hlt:=(List.getElem?_eq_some_iff.mp eb).1;rw[Ca,CS]at hlt;have ei:i+1=(gs0++[g]).length:=by omega
      rw[Cj (by omega),ei,DT]at eb;cases eb;rw[Ce (by omega)]at ea;have ei2:i=gs0.length:=by
       rw[Ca,CS]at ei;omega
      rw[ei2,Cj (B4 _),DT]at ea;cases ea;show w<((bm [32] g).length:Int)+1+(t.length:Int);omega
structure fP(b:Int)(xs:List (Int×Int)):Prop where
 row:∀k,k<xs.length->bI b (xAt xs k)
 up:∀k,0<k->k<xs.length->az (xAt xs k) (xAt xs (k-1))=false
theorem rS{b:Int}{xs:List (Int×Int)}(R:fP b xs){k:Nat}(hk:k<xs.length):(xAt xs k).1<=(xAt xs (xs.length-1)).1:=by
 have:=dI (i:=xs.length-1) (xs:=xs) (λk k0 k1=>R.up k k0 (by omega)) (xs.length-1-k) k (by omega);rw[show k+(xs.length-1-k)=xs.length-1 by omega,aJ]at this;omega
def bD(F:Frm)(ds:List Wd)(xs:List (Int×Int))(p r:Int):Nat->List (List Nat)
 |0=>[]
 |n+1=>bD F ds xs p r n++(if xAt xs n=(p,r)then[ay F.h F.f xs (dAt ds n).say]else[])
def aQ(F:Frm)(ds:List Wd)(xs:List (Int×Int))(p:Int):Nat->List (List Nat)
 |0=>[]
 |n+1=>aQ F ds xs p n++(if(xAt xs n).1=p then bE F.w ((dAt ds n).foot.map (ay F.h F.f xs))else[])
def cN(F:Frm)(ds:List Wd)(xs:List (Int×Int))(p:Int):List (List Nat):=(DF F.h.toNat).map λ(r:Nat)=>bm [32] (bD F ds xs p (r:Int) ds.length)
def pgR(F:Frm)(ds:List Wd)(xs:List (Int×Int))(p:Int):List (List Nat):=(cN F ds xs p).take (F.h.toNat-(aQ F ds xs p ds.length).length)++aQ F ds xs p ds.length
structure LsF(H0 H:Hp)(pr:Addr)(qs:List Addr)(ws:Nat->List (List Nat)):Prop where
 top:H pr=some (.lst (qs.map V.ref))
 nd:∀(i j:Nat) (q:Addr),qs[i]?=some q->qs[j]?=some q->i=j
 ne:pr∉qs
 at':∀(i:Nat) (q:Addr),qs[i]?=some q->H q=some (.lst (ax (ws i)))
 fr:∀q∈qs,H0 q=none
theorem LsF.same{H0 H H':Hp}{pr:Addr}{qs:List Addr}{ws:Nat->List (List Nat)}(S:LsF H0 H pr qs ws)(s:av H H'):LsF H0 H' pr qs ws:=⟨s _ _ S.top,S.nd,S.ne,λi q h=>s _ _ (S.at' i q h),S.fr⟩
theorem LsF.put{H0 H:Hp}{pr a:Addr}{o:HO}{qs:List Addr}{ws:Nat->List (List Nat)}(S:LsF H0 H pr qs ws)(n1:a≠pr)(n2:a∉qs):LsF H0 (upd H a o) pr qs ws:=
 ⟨by rw[aK n1.symm];exact S.top,S.nd,S.ne,λi q h=>by rw[aK (λz=>n2 (by rw[<-z];exact Cg h))];exact S.at' i q h,S.fr⟩
theorem LsF.push{H0 H:Hp}{pr q:Addr}{qs:List Addr}{ws ws':Nat->List (List Nat)}{j:Nat}{t:List Nat}(S:LsF H0 H pr qs ws)(hq:qs[j]?=some q)(e1:ws' j=ws j++[t])(e2:∀i,i≠j->ws' i=ws i):LsF H0 (upd H q (.lst (ax (ws j)++[V.str (tx t)]))) pr qs ws':=by
 refine⟨?_,S.nd,S.ne,λi q' h=>?_,S.fr⟩
 .rw[aK (λe=>S.ne (by rw[e];exact Cg hq))];exact S.top
 .by_cases e:i=j
  .subst e;have e3:q'=q:=Cw (h.symm.trans hq);subst e3;rw[ah,e1,dY]
  .rw[aK (λz=>e (S.nd i j q (by rw[<-z];exact h) hq)),e2 i e];exact S.at' i q' h
section
variable {F:Frm}{ds:List Wd}{xs:List (Int×Int)}
theorem lP(p r:Int):∀n,(bD F ds xs p r n).length<=n
 |0=>B4 _
 |n+1=>by
  have:=lP p r n;unfold bD;rw[Ca]
  split<;>simp<;>omega
theorem o3{p r:Int}{t:List Nat}:∀{n},t∈bD F ds xs p r n->∃k,k<n/\t=ay F.h F.f xs (dAt ds k).say
 |n+1,h=>by
  unfold bD at h;rcases List.mem_append.mp h with h|h
  .obtain⟨k,hk,e⟩:=o3 h;exact⟨k,by omega,e⟩
  .split at h
   .exact⟨n,by omega,List.mem_singleton.mp h⟩
   .cases h
theorem m_{b:Nat}:∀(l:List (List Nat)),(∀t∈l,t.length<=b)->(bm [32] l).length<=l.length*(b+1)
 |[],_=>by simp[bm]
 |[a],h=>by
  have:=h a Cp;simp[bm];omega
 |a::c::r,h=>by
  have h1:=h a Cp;have h2:=m_ (c::r) λt ht=>h t (Ck _ ht);show(a++[32]++bm [32] (c::r)).length<=_;rw[Ca,Ca];simp only[CA,DG]at h2⊢;have:(r.length+1+1)*(b+1)=(r.length+1)*(b+1)+(b+1):=by rw[FY (r.length+1) 1,Nat.one_mul]
  omega
theorem dU(p:Int):(cN F ds xs p).length=F.h.toNat:=by unfold cN;simp
theorem vT{p:Int}(h:(aQ F ds xs p ds.length).length<=F.h.toNat):(pgR F ds xs p).length=F.h.toNat:=by
 unfold pgR;rw[Ca,CB,dU];omega
end
def zO(K:PySem.W.Frag)(x:V)(xs:List V)(H:Hp)(Q:V->Hp->Prop):Prop:=∃sep a ys,x=.str sep/\xs=[.ref a]/\SqL K H a (ys.map V.str)/\sep.length<=16/\(ys.map (·.length)).sum+ys.length<=1048576/\Q (.str (Txt.join sep ys)) H
theorem zm{X:Cx}:MtR X "str.join" (zO X.K):=vF
section
variable {X:Cx}{T name id:String}{r:V->List V->Hp->(V->Hp->Prop)->Prop}{o e:Expr}{es:List Expr}{to:TE}{t:TA}{apos cpos:Pos}
theorem A6{Kk:PySem.W.Frag}(hK:X.K=Kk)(pa:PlainAttrs T)(slot:Slot T name id)(hty:typeOf (.builtin id)=pure (.type "method_descriptor"))(hm:MtR X id r)(ho:PE X o to)(ha:PA X (e::es) t)
  (hbase:attributeBase o name X.env (eval o X.env)=eval o X.env:=by rfl;skip)
  (hfew:((EK cpos (CJ (e::es) X.env)).all (λx=>!x.1)&&(backToKw cpos (keywordEach [] X.env)).all (λx=>x.1.isSome)&&decide ((e::es).length+([]:List FZ).length+(if([]:List FZ).isEmpty then 0 else 1)<30))=true:=by rfl)
  (hline:(apos.endLine==cpos.line)=true:=by rfl)(hs:CJ (e::es) X.env=(false,eval e X.env)::CJ es X.env:=by rfl)(hplain:(EK cpos (CJ es X.env)).any (·.1)=false:=by rfl):PE X (.Call (.Attribute o name apos) (e::es) [] cpos) (tBM Kk T r to t):=by
 subst hK;exact dt pa slot hty hm ho ha hbase hfew hline hs hplain
end
theorem zn(l:List (List Nat)):ax l=(l.map tx).map V.str:=by unfold ax;rw[DS];rfl
theorem yk{b:Nat}:∀(l:List (List Nat)),(∀t∈l,t.length<=b)->((l.map tx).map (·.length)).sum+(l.map tx).length<=l.length*(b+1)
 |[],_=>by simp
 |a::r,h=>by
  have h1:=h a Cp;have h2:=yk r λt ht=>h t (Ck _ ht);simp only[Dh,Di,CA]at h2⊢;rw[bz,FY r.length 1,Nat.one_mul];omega
def kn(K:PySem.W.Frag)(H:Hp)(q:Addr)(F:Frm)(ds:List Wd)(xs:List (Int×Int))(n:Nat):Prop:=∃ps rs:List Addr,ps.length=n/\rs.length=n/\SqL K H q (ps.map V.ref)/\∀(i:Nat) p r,ps[i]?=some p->rs[i]?=some r->SqT K H p [.int (F.f+(i:Int)),.ref r]/\SqL K H r (ax (pgR F ds xs (i:Int)))
theorem kn.same{K:PySem.W.Frag}{H H':Hp}{q:Addr}{F:Frm}{ds:List Wd}{xs:List (Int×Int)}{n:Nat}(s:av H H')(h:kn K H q F ds xs n):kn K H' q F ds xs n:=by
 obtain⟨ps,rs,h1,h2,h3,h4⟩:=h;exact⟨ps,rs,h1,h2,s.seq h3,λi p r a b=>⟨s.tup (h4 i p r a b).1,s.seq (h4 i p r a b).2⟩⟩
theorem kn.get{K:PySem.W.Frag}{H:Hp}{q:Addr}{F:Frm}{ds:List Wd}{xs:List (Int×Int)}{n i:Nat}(h:kn K H q F ds xs n)(hi:i<n):∃(ps:List Addr) (p r:Addr),SqL K H q (ps.map V.ref)/\atI (ps.map V.ref) (i:Int)=some (V.ref p)/\SqT K H p [.int (F.f+(i:Int)),.ref r]/\SqL K H r (ax (pgR F ds xs (i:Int))):=by
 obtain⟨ps,rs,h1,h2,h3,h4⟩:=h;have e1:ps[i]?=some (ps[i]'(by omega)):=c7 (by omega);have e2:rs[i]?=some (rs[i]'(by omega)):=c7 (by omega);exact⟨ps,_,_,h3,cY (by rw[B_,e1];rfl),(h4 i _ _ e1 e2).1,(h4 i _ _ e1 e2).2⟩
def nPg(xs:List (Int×Int)):Nat:=if xs=[]then 0 else((xAt xs (xs.length-1)).1+1).toNat
section
variable {F:Frm}{ds:List Wd}{xs:List (Int×Int)}{b:Int}
theorem fQ(R:fP b xs){j k:Nat}(h:j<=k)(hk:k<xs.length):az (xAt xs k) (xAt xs j)=false:=by
 have:=dI (i:=k) (xs:=xs) (λn n0 n1=>R.up n n0 (by omega)) (k-j) j (by omega)
 rwa[show j+(k-j)=k by omega]at this
theorem zp(R:fP b xs){k:Nat}(hk:k<xs.length):(xAt xs k).1.toNat<nPg xs:=by
 have l:=rS R hk;have p:=(R.row k hk).p1;unfold nPg;rw[if_neg (λz=>by rw[z]at hk;exact absurd hk (Cy _))];omega
theorem zq(p r:Int){m n:Nat}(h:m<=n):∃t,bD F ds xs p r n=bD F ds xs p r m++t:=by
 induction n with
 |zero=>exact⟨[],by rw[show m=0 by omega,C4]⟩
 |succ n ih =>
  by_cases c:m<=n
  .obtain⟨t,e⟩:=ih c;exact⟨t++(if xAt xs n=(p,r)then[ay F.h F.f xs (dAt ds n).say]else[]),by rw[<-DE,<-e];rfl⟩
  .exact⟨[],by rw[show m=n+1 by omega,C4]⟩
theorem j6(p r:Int):∀{m n:Nat},m<=n->(∀k,m<=k->k<n->xAt xs k≠(p,r))->bD F ds xs p r n=bD F ds xs p r m
 |m,0,h,_=>by rw[show m=0 by omega]
 |m,n+1,h,hn=>by
  by_cases c:m<=n
  .show bD F ds xs p r n++(if xAt xs n=(p,r)then _ else[])=_;rw[if_neg (hn n c (Dp _)),C4];exact j6 p r c λk k1 k2=>hn k k1 (by omega)
  .rw[show m=n+1 by omega]
def dj(F:Frm)(ds:List Wd)(xs:List (Int×Int))(k:Nat):Nat:=(bD F ds xs (xAt xs k).1 (xAt xs k).2 k).length
theorem zr{k:Nat}(h:xAt xs k=xAt xs (k+1)):dj F ds xs (k+1)=dj F ds xs k+1:=by
 unfold dj;rw[<-h];show(bD F ds xs (xAt xs k).1 (xAt xs k).2 k++(if xAt xs k=((xAt xs k).1,(xAt xs k).2)then[ay F.h F.f xs (dAt ds k).say]else[])).length=_;rw[if_pos rfl,Ca];rfl
theorem rT(R:fP b xs){k:Nat}(hk:k<xs.length)(h:k=0\/xAt xs (k-1)≠xAt xs k):dj F ds xs k=0:=by
 unfold dj;rw[j6 (m:=0) _ _ (Cv _) (λj _ hj e=>?_)]
 .rfl
 .rcases h with h|h
  .omega
  .have e':xAt xs j=xAt xs k:=e;have a:=fQ R (show j<=k-1 by omega) (by omega);have c:=fQ R (show k-1<=k by omega) hk;rw[e']at a;exact h (eM c a)
theorem A7{k:Nat}(hk:k<ds.length):(bD F ds xs (xAt xs k).1 (xAt xs k).2 ds.length)[dj F ds xs k]?=some (ay F.h F.f xs (dAt ds k).say):=by
 obtain⟨t,e⟩:=zq (F:=F) (ds:=ds) (xs:=xs) (xAt xs k).1 (xAt xs k).2 (show k+1<=ds.length from hk);rw[e];show(bD F ds xs (xAt xs k).1 (xAt xs k).2 k++(if xAt xs k=((xAt xs k).1,(xAt xs k).2)then[ay F.h F.f xs (dAt ds k).say]else[])++t)[dj F ds xs k]?=_;unfold dj;rw[if_pos rfl,DE,Cj (B4 _),DT];rfl
theorem vU(R:fP b xs){k:Nat}(l:ds.length=xs.length)(hk:k<ds.length)(h:k+1=ds.length\/xAt xs (k+1)≠xAt xs k):(bD F ds xs (xAt xs k).1 (xAt xs k).2 ds.length).length=dj F ds xs k+1:=by
 rw[j6 (m:=k+1) _ _ hk (λj j1 j2 e=>?_)]
 .show(bD F ds xs (xAt xs k).1 (xAt xs k).2 k++(if xAt xs k=((xAt xs k).1,(xAt xs k).2)then[ay F.h F.f xs (dAt ds k).say]else[])).length=_;rw[if_pos rfl,Ca];rfl
 .rcases h with h|h
  .omega
  .have e':xAt xs j=xAt xs k:=e;have a:=fQ R (show k<=k+1 by omega) (by omega);have c:=fQ R (show k+1<=j from j1) (by omega);rw[e']at c;exact h (eM c a)
theorem o4(h1:1<=F.h)(p:Int):∀{n:Nat} (S:Int),(∀k,k<n->(xAt xs k).1=p->a9 F xs (dAt ds k)<F.h)->(((DF n).map λk=>if(xAt xs k).1=p then a9 F xs (dAt ds k)else 0).sum<=S)->((aQ F ds xs p n).length:Int)<=S
 |0,S,_,h=>h
 |n+1,S,hh,h=>by
  rw[List.range_succ,Ch,D9]at h;have ih:=o4 h1 p (n:=n) (S-(if(xAt xs n).1=p then a9 F xs (dAt ds n)else 0)) (λk hk=>hh k (by omega)) (by simp only[Dh,Fq,Di,List.sum_nil]at h;omega);show((aQ F ds xs p n++(if(xAt xs n).1=p then bE F.w ((dAt ds n).foot.map (ay F.h F.f xs))else[])).length:Int)<=S;rw[Ca];by_cases c:(xAt xs n).1=p
  .rw[if_pos c]at ih⊢;have hn:=hh n (Dp _) c;have:a9 F xs (dAt ds n)=((bE F.w ((dAt ds n).foot.map (ay F.h F.f xs))).length:Int):=by
    unfold a9 fJ at hn⊢
    split at hn
    .omega
    .split at hn
     .omega
     .rename_i c1 c2
      rw[if_neg c1,if_neg c2]
   omega
  .rw[if_neg c]at ih⊢;simp;omega
def uw(F:Frm)(ds:List Wd)(xs:List (Int×Int))(p:Int)(n:Nat):Int:=((DF n).map λk=>if(xAt xs k).1=p then a9 F xs (dAt ds k)else 0).sum
theorem ym(p:Int)(n:Nat):uw F ds xs p (n+1)=uw F ds xs p n+(if(xAt xs n).1=p then a9 F xs (dAt ds n)else 0):=by
 unfold uw;rw[List.range_succ,Ch,D9];simp
theorem ux(l:ds.length=xs.length)(R:fP b xs)(p:Int):∀n,n<=ds.length->(∃K j,K<n/\j<=K/\(∀i,K<i->i<n->(xAt xs i).1≠p)/\(∀i,j<=i->i<=K->(xAt xs i).1=p)/\uw F ds xs p n=(bJ F ds xs j K).sum)\/((∀i,i<n->(xAt xs i).1≠p)/\uw F ds xs p n=0)
 |0,_=>.inr ⟨λi hi=>absurd hi (Cy _),rfl⟩
 |n+1,hn=>by
  have ih:=ux l R p n (by omega);rw[ym];by_cases c:(xAt xs n).1=p
  .rw[if_pos c];rcases ih with⟨K,j,hK,hj,ho,hi,e⟩|⟨hno,e⟩
   .have eK:K+1=n:=by
     rcases EA (K+1) n with z|z
     .have a:=fQ R (show K<=K+1 by omega) (by omega);have d:=fQ R (show K+1<=n by omega) (by omega);have pk:=hi K hj (B4 _);have ne:=ho (K+1) (by omega) z;rw[aJ]at a d;omega
     .omega
    subst eK;refine .inl ⟨K+1,j,by omega,by omega,λi i1 i2=>by omega,λi i1 i2=>?_,?_⟩
    .by_cases ci:i=K+1
     .rw[ci];exact c
     .exact hi i i1 (by omega)
    .have:=fD (F:=F) (xs:=xs) (show j<=K+1 by omega) (show K+1<ds.length by omega);rw[jV]at this;rw[<-this,e];rfl
   .refine .inl ⟨n,n,by omega,B4 _,λi i1 i2=>by omega,λi i1 i2=>by rw[show i=n by omega];exact c,?_⟩;have:=fD (F:=F) (xs:=xs) (B4 n) (show n<ds.length by omega);rw[fC]at this;rw[<-this,e];rfl
  .rw[if_neg c,Fw];rcases ih with⟨K,j,hK,hj,ho,hi,e⟩|⟨hno,e⟩
   .refine .inl ⟨K,j,by omega,hj,λi i1 i2=>?_,hi,e⟩;by_cases ci:i=n
    .rw[ci];exact c
    .exact ho i i1 (by omega)
   .refine .inr ⟨λi hi=>?_,e⟩;by_cases ci:i=n
    .rw[ci];exact c
    .exact hno i (by omega)
theorem rV(B:aR F ds xs)(R:fP b xs)(T:∀k,k<ds.length->eS F ds xs k)(p:Int):((aQ F ds xs p ds.length).length:Int)<=F.h/\∀k,k<ds.length->(xAt xs k).1=p->(xAt xs k).2+1+((aQ F ds xs p ds.length).length:Int)<=F.h:=by
 have h1:=B.fo.h1;have hh:∀k,k<ds.length->(xAt xs k).1=p->a9 F xs (dAt ds k)<F.h:=λk hk _=>by
  have a:=(T k hk).high k (B4 _) (λn n1 n2=>by rw[show n=k by omega]);have e:=fD (F:=F) (xs:=xs) (B4 k) hk;rw[fC]at e;have e2:(bJ F ds xs k k).sum=a9 F xs (dAt ds k):=by rw[<-e];exact D4 _
  rw[e2]at a;have r:=(B.x hk).1.r1;omega
 rcases ux (F:=F) B.len R p ds.length (B4 _)with⟨K,j,hK,hj,ho,hi,e⟩|⟨hno,e⟩
 .have a:=(T K hK).high j hj (λn n1 n2=>by rw[hi n n1 n2,hi K hj (B4 _)]);have f:=o4 h1 p (n:=ds.length) (bJ F ds xs j K).sum hh (FT e);have r:=(B.x hK).1.r1;refine⟨by omega,λk hk kp=>?_⟩;have kK:k<=K:=by
   rcases EA K k with z|z
   .exact absurd kp (ho k z hk)
   .exact z
  have le:=fQ R kK (by rw[<-B.len];exact hK);rw[aJ]at le;have pK:=hi K hj (B4 _);omega
 .have f:=o4 h1 p (n:=ds.length) 0 hh (FT e);exact⟨by omega,λk hk kp=>absurd kp (hno k hk)⟩
end
def A8(K:PySem.W.Frag)(xs:List V)(H:Hp)(Q:V->Hp->Prop):Prop:=∃x T b,xs=[x,V.ty T]/\(T = "bool"\/T = "int"\/T = "str"\/T = "tuple"\/T = "list")/\AO K T x H b/\Q (.bl b) H
theorem yn{X:Cx}:dr X (.builtin "isinstance") (A8 X.K):=dF
section
variable {F:Frm}{ds:List Wd}{xs:List (Int×Int)}{b:Int}
theorem vV(l:ds.length=xs.length)(R:fP b xs)(p r:Int):∀n,n<=ds.length->(∃K j,K<n/\j<=K/\(∀i,K<i->i<n->xAt xs i≠(p,r))/\(∀i,j<=i->i<=K->xAt xs i=(p,r))/\bD F ds xs p r n≠[]/\((bm [32] (bD F ds xs p r n)).length:Int)=together (bS F ds xs j K))\/((∀i,i<n->xAt xs i≠(p,r))/\bD F ds xs p r n=[])
 |0,_=>.inr ⟨λi hi=>absurd hi (Cy _),rfl⟩
 |n+1,hn=>by
  have ih:=vV l R p r n (by omega);have e1:bD F ds xs p r (n+1)=bD F ds xs p r n++(if xAt xs n=(p,r)then[ay F.h F.f xs (dAt ds n).say]else[]):=rfl;rw[e1];by_cases c:xAt xs n=(p,r)
  .rw[if_pos c];rcases ih with⟨K,j,hK,hj,ho,hi,ne,e⟩|⟨hno,e⟩
   .have eK:K+1=n:=by
     rcases EA (K+1) n with z|z
     .have a:=fQ R (show K<=K+1 by omega) (by omega);have d:=fQ R (show K+1<=n by omega) (by omega);have pk:=hi K hj (B4 _);have ne:=ho (K+1) (by omega) z;rw[c,<-pk]at d;exact absurd ((eM a d).symm.trans pk) ne
     .omega
    subst eK;refine .inl ⟨K+1,j,by omega,by omega,λi i1 i2=>by omega,λi i1 i2=>?_,by simp,?_⟩
    .by_cases ci:i=K+1
     .rw[ci];exact c
     .exact hi i i1 (by omega)
    .have:=jW (F:=F) (xs:=xs) (show j<=K+1 by omega) (show K+1<ds.length by omega);rw[jV]at this;rw[<-this,jZ _ _ ne,Ca,CA];have ew:bF F xs (dAt ds (K+1))=((ay F.h F.f xs (dAt ds (K+1)).say).length:Int):=rfl;have e':((bm [32] (bD F ds xs p r (K+1))).length:Int)=together ((d8 ds j K).map (bF F xs)):=e;omega
   .refine .inl ⟨n,n,by omega,B4 _,λi i1 i2=>by omega,λi i1 i2=>by rw[show i=n by omega];exact c,by simp,?_⟩;have:=jW (F:=F) (xs:=xs) (B4 n) (show n<ds.length by omega);rw[fC]at this;rw[<-this,e];show((bm [32] [ay F.h F.f xs (dAt ds n).say]).length:Int)=((0:Int)+(0:Nat)-1)+1+((ay F.h F.f xs (dAt ds n).say).length:Int);show((ay F.h F.f xs (dAt ds n).say).length:Int)=_;omega
  .rw[if_neg c,C4];rcases ih with⟨K,j,hK,hj,ho,hi,ne,e⟩|⟨hno,e⟩
   .refine .inl ⟨K,j,by omega,hj,λi i1 i2=>?_,hi,ne,e⟩;by_cases ci:i=n
    .rw[ci];exact c
    .exact ho i i1 (by omega)
   .refine .inr ⟨λi hi=>?_,e⟩;by_cases ci:i=n
    .rw[ci];exact c
    .exact hno i (by omega)
theorem zt(B:aR F ds xs)(R:fP b xs)(T:∀k,k<ds.length->eS F ds xs k)(p r:Int):((bm [32] (bD F ds xs p r ds.length)).length:Int)<=F.w:=by
 rcases vV (F:=F) B.len R p r ds.length (B4 _)with⟨K,j,hK,hj,ho,hi,ne,e⟩|⟨hno,e⟩
 .rw[e];exact(T K hK).wide j hj λn n1 n2=>by rw[hi n n1 n2,hi K hj (B4 _)]
 .rw[e];have:=B.fo.w1;show((0:Nat):Int)<=F.w;omega
theorem vW(B:aR F ds xs)(T:∀k,k<ds.length->eS F ds xs k){k:Nat}(hk:k<ds.length):a9 F xs (dAt ds k)<F.h:=by
 have a:=(T k hk).high k (B4 _) (λn n1 n2=>by rw[show n=k by omega]);have e:=fD (F:=F) (xs:=xs) (B4 k) hk;rw[fC]at e;have e2:(bJ F ds xs k k).sum=a9 F xs (dAt ds k):=by rw[<-e];exact D4 _
 rw[e2]at a;have r:=(B.x hk).1.r1;omega
theorem uy{d:Wd}(h:a9 F xs d<F.h):a9 F xs d=((bE F.w (d.foot.map (ay F.h F.f xs))).length:Int)/\∀t∈bE F.w (d.foot.map (ay F.h F.f xs)),(t.length:Int)<=F.w:=by
 unfold a9 fJ at h⊢
 split at h
 .omega
 .split at h
  .omega
  .rename_i c1 c2
   rw[if_neg c1,if_neg c2];refine⟨rfl,λt ht=>?_⟩;rcases Int.lt_or_le F.w (t.length:Int)with z|z
   .exact absurd (List.any_eq_true.mpr ⟨t,ht,decide_eq_true z⟩) c1
   .exact z
theorem rW(B:aR F ds xs)(T:∀k,k<ds.length->eS F ds xs k)(p:Int):∀n,n<=ds.length->∀t∈aQ F ds xs p n,(t.length:Int)<=F.w
 |0,_,t,ht=>by cases ht
 |n+1,hn,t,ht=>by
  have ht':t∈aQ F ds xs p n++(if(xAt xs n).1=p then bE F.w ((dAt ds n).foot.map (ay F.h F.f xs))else[]):=ht;rcases List.mem_append.mp ht' with h|h
  .exact rW B T p n (by omega) t h
  .split at h
   .exact(uy (vW B T (show n<ds.length by omega))).2 t h
   .cases h
theorem Ag(B:aR F ds xs)(R:fP b xs)(T:∀k,k<ds.length->eS F ds xs k)(p:Int):∀t∈pgR F ds xs p,(t.length:Int)<=F.w:=by
 intro t ht;unfold pgR at ht;rcases List.mem_append.mp ht with h|h
 .obtain⟨r,_,rfl⟩:=List.mem_map.mp (Dg h);exact zt B R T p _
 .exact rW B T p _ (B4 _) t h
def eH(F:Frm)(ds:List Wd)(xs:List (Int×Int))(p:Int):Nat->List (List Nat)
 |0=>[]
 |n+1=>eH F ds xs p n++(if(xAt xs n).1=p then(dAt ds n).foot.map (ay F.h F.f xs)else[])
def gt(xs:List (Int×Int))(p:Int):Nat->List Int
 |0=>[]
 |n+1=>gt xs p n++(if(xAt xs n).1=p then[(xAt xs n).2]else[])
theorem vX{p r:Int}:∀{n},r∉gt xs p n->∀k,k<n->xAt xs k≠(p,r)
 |0,_,k,hk=>absurd hk (Cy _)
 |n+1,h,k,hk=>by
  have h':r∉gt xs p n++(if(xAt xs n).1=p then[(xAt xs n).2]else[]):=h;by_cases c:k=n
  .subst c;intro e;rw[e,if_pos rfl]at h';exact h' (CQ _ Cp)
  .exact vX (λz=>h' (C9 _ z)) k (by omega)
theorem o5(p:Int):∀n,(gt xs p n).length<=n
 |0=>B4 _
 |n+1=>by
  have:=o5 p n;show(gt xs p n++(if(xAt xs n).1=p then[(xAt xs n).2]else[])).length<=_;rw[Ca]
  split<;>simp<;>omega
theorem uz{p:Int}{t:List Nat}:∀{n},t∈eH F ds xs p n->∃k s,k<n/\s∈(dAt ds k).foot/\t=ay F.h F.f xs s
 |0,h=>by cases h
 |n+1,h=>by
  have h':t∈eH F ds xs p n++(if(xAt xs n).1=p then(dAt ds n).foot.map (ay F.h F.f xs)else[]):=h;rcases List.mem_append.mp h' with h'|h'
  .obtain⟨k,s,hk,hs,e⟩:=uz h';exact⟨k,s,by omega,hs,e⟩
  .split at h'
   .obtain⟨s,hs,rfl⟩:=List.mem_map.mp h';exact⟨n,s,by omega,hs,rfl⟩
   .cases h'
theorem uA(p:Int):∀n,∃gs:List (List (List Nat)),aQ F ds xs p n=gs.map (bm [32])/\gs.flatten=eH F ds xs p n/\∀g∈gs,g≠[]
 |0=>⟨[],rfl,rfl,λg h=>by cases h⟩
 |n+1=>by
  obtain⟨gs,e1,e2,ne⟩:=uA p n;have ef:aQ F ds xs p (n+1)=aQ F ds xs p n++(if(xAt xs n).1=p then bE F.w ((dAt ds n).foot.map (ay F.h F.f xs))else[]):=rfl;have ed:eH F ds xs p (n+1)=eH F ds xs p n++(if(xAt xs n).1=p then(dAt ds n).foot.map (ay F.h F.f xs)else[]):=rfl;rw[ef,ed];by_cases c:(xAt xs n).1=p
  .obtain⟨hs,G⟩:=A5 F.w ((dAt ds n).foot.map (ay F.h F.f xs));rw[if_pos c,if_pos c];refine⟨gs++hs,by rw[Ch,e1,G.rows],by rw[En,e2,G.all],λg hg=>?_⟩;rcases List.mem_append.mp hg with h|h
   .exact ne g h
   .exact G.ne g h
  .rw[if_neg c,if_neg c,C4,C4];exact⟨gs,e1,e2,ne⟩
theorem zu{p:Int}(h:(aQ F ds xs p ds.length).length<=F.h.toNat):(pgR F ds xs p).drop (F.h.toNat-(aQ F ds xs p ds.length).length)=aQ F ds xs p ds.length:=by
 unfold pgR;rw[List.drop_append_of_le_length (by rw[CB,dU];omega),DJ (by rw[CB];omega)];rfl
theorem A9{p:Int}{r:Nat}(h:(r:Int)+1+((aQ F ds xs p ds.length).length:Int)<=F.h)(no:∀k,k<ds.length->xAt xs k≠(p,(r:Int))):(ax (pgR F ds xs p))[r]?=some (V.str (tx [])):=by
 unfold ax pgR;rw[B_,Ce (by rw[CB,dU];omega),Eo (by omega)];unfold cN;rw[B_,DW (by omega)];have:=j6 (F:=F) (ds:=ds) p (r:Int) (Cv ds.length) (λk _ k2=>no k k2);show some (V.str (tx (bm [32] (bD F ds xs p (r:Int) ds.length))))=_;rw[this];rfl
theorem u4{g:List (List Nat)}(ne:g≠[])(free:∀t∈g,32∉t):(Txt.split (tx (bm [32] g)) ⟨#[32]⟩).map V.str=ax g:=by
 rw[tR,kf 32 g ne free];unfold ax;rw[DS];rfl
theorem qe(a b:List (List Nat)):ax a++ax b=ax (a++b):=by unfold ax;rw[Ch]
theorem eP(a:List (List Nat)):(ax a).length=a.length:=by unfold ax;rw[B3]
theorem A_{r:Int}{l:List Int}(h:inV (.int r) (l.map V.int)=false):r∉l:=by
 intro m;have:inV (.int r) (l.map V.int)=true:=by
  unfold inV;rw[Fm];refine⟨V.int r,List.mem_map.mpr ⟨r,m,rfl⟩,?_⟩;show(r==r)=true;simp
 rw[this]at h;cases h
theorem wT(l:List Int):(l.map V.int).all cL=true:=by
 rw[List.all_eq_true];intro x hx;obtain⟨z,_,rfl⟩:=List.mem_map.mp hx;rfl
theorem Ah{gs:List (List (List Nat))}(i:Nat):((gs.take i).flatten).length<=gs.flatten.length:=by
 have e:gs.flatten=(gs.take i).flatten++(gs.drop i).flatten:=by rw[<-En,List.take_append_drop]
 rw[e,Ca];omega
theorem Ai{gs:List (List (List Nat))}{i:Nat}{g:List (List Nat)}(h:gs[i]?=some g):(gs.take (i+1)).flatten=(gs.take i).flatten++g:=by
 rw[cg h,En];simp
end
end L2

namespace K68
open PySem PySem.Spec L2 Tl

theorem lts{t:TS}{D:hJ}{σ:St}{H:Hp}(k:let D':=D;let s':=σ;t D' s' H):t D σ H:=k
local macro_rules | `(tactic| refine ⟨$a,$as,*⟩)=>`(tactic| ((try (refine lts ?_; intro _ _)); refine (⟨$a,$as,*⟩)))
local macro_rules | `(tactic| exact ⟨$a,$as,*⟩)=>`(tactic| ((try (refine lts ?_; intro _ _)); exact (⟨$a,$as,*⟩)))
local macro_rules | `(tactic| walk_at "c")=>`(tactic| exact (⟨rfl,rfl,rfl,by decide +kernel,rfl,by decide +kernel,by decide +kernel⟩))
noncomputable abbrev ko:Stmt:=top 41
noncomputable abbrev ng:Stmt:=top 43
noncomputable abbrev kq:Stmt:=top 45
noncomputable abbrev kr:Stmt:=top 46
noncomputable abbrev nj:Stmt:=top 53
noncomputable abbrev ku:Stmt:=top 54
noncomputable abbrev nk:Stmt:=top 42
noncomputable abbrev kv:Stmt:=top 49
noncomputable abbrev nq:Stmt:=top 44
noncomputable abbrev o6:Stmt:=top 51
noncomputable abbrev nt:Stmt:=top 52
noncomputable abbrev lQ:Stmt:=top 50
noncomputable abbrev hV:Stmt:=top 47
noncomputable abbrev lR:Stmt:=top 48
noncomputable abbrev qV:Stmt:=top 55
noncomputable abbrev nv:Stmt:=top 56
noncomputable abbrev nA:Stmt:=top 57
noncomputable abbrev nB:Stmt:=top 60
noncomputable abbrev hW:Stmt:=top 62
noncomputable abbrev i7:Stmt:=top 59
noncomputable abbrev i8:Stmt:=top 58
noncomputable abbrev o7:Stmt:=top 63
noncomputable abbrev gu:Stmt:=top 61
noncomputable abbrev i9:Stmt:=top 1
noncomputable abbrev uB:Stmt:=top 9
noncomputable abbrev kw:Stmt:=top 12
noncomputable abbrev kx:Stmt:=top 39
noncomputable abbrev lS:Stmt:=top 38
noncomputable abbrev gv:Stmt:=top 15
noncomputable abbrev gw:Stmt:=top 29
noncomputable abbrev ky:Stmt:=top 13
noncomputable abbrev lT:Stmt:=top 19
noncomputable abbrev lU:Stmt:=top 11
noncomputable abbrev lV:Stmt:=top 7
noncomputable abbrev i_:Stmt:=top 5
noncomputable abbrev nC:Stmt:=top 6
noncomputable abbrev o8:Stmt:=top 4
noncomputable abbrev qW:Stmt:=top 3
noncomputable abbrev hX:Stmt:=top 20
noncomputable abbrev kz:Stmt:=top 22
noncomputable abbrev kA:Stmt:=top 23
noncomputable abbrev nD:Stmt:=top 10
noncomputable abbrev ja:Stmt:=top 24
noncomputable abbrev kC:Stmt:=top 21
noncomputable abbrev lW:Stmt:=top 18
noncomputable abbrev gx:Stmt:=top 17
noncomputable abbrev qX:Stmt:=top 16
noncomputable abbrev lX:Stmt:=top 32
noncomputable abbrev jb:Stmt:=top 33
noncomputable abbrev fR:Stmt:=top 27
noncomputable abbrev fS:Stmt:=top 36
noncomputable abbrev fT:Stmt:=top 35
noncomputable abbrev jc:Stmt:=top 34
noncomputable abbrev jd:Stmt:=top 31
noncomputable abbrev jf:Stmt:=top 30
noncomputable abbrev hZ:Stmt:=top 28
noncomputable abbrev o9:Stmt:=top 26
noncomputable abbrev wU:Stmt:=top 64
set_option genInjectivity false in
structure AdD where
 (kP:Addr)(jE:Cf)(nV:Addr)(mw:Cf)(kT:Addr)(jI:Cf)(kR:Addr)(jG:Cf)(nZ:Addr)(mD:Cf)(kQ:Addr)(jF:Cf)(nW:Addr)(mz:Cf)(kS:Addr)(jH:Cf)(nY:Addr)(mC:Cf)(pE:Addr)(ol:Cf)(nX:Addr)(mB:Cf)(mh:Addr)(lc:Cf)(ij:Addr)(gI:Cf)(mj:Addr)(lg:Cf)(rk:Addr)(pG:Cf)(oe:Addr)(mF:Cf)(nU:Addr)(mv:Cf)(n_:Addr)(mE:Cf)(ik:Addr)(gJ:Cf)(ju:Addr)(iq:Cf)(jv:Addr)(ir:Cf)(pC:Addr)(oj:Cf)(gG:Addr)(gg:Cf)(jr:Addr)(io:Cf)(uY:Addr)(rz:Cf)(kO:Addr)(jD:Cf)(kU:Addr)(jJ:Cf)(mn:Addr)(lj:Cf)(gE:Addr)(gc:Cf)(gF:Addr)(gf:Cf)(kM:Addr)(jC:Cf)(mf:Addr)(k_:Cf)(mr:Addr)(ln:Cf)(ml:Addr)(lh:Cf)(jt:Addr)(ip:Cf)(og:Addr)(mG:Cf)(pB:Addr)(oi:Cf)(rn:Addr)(pH:Cf)(im:Addr)(gL:Cf)(kX:Addr)(jK:Cf)(kY:Addr)(jL:Cf)(oh:Addr)(mH:Cf)(jB:Addr)(iz:Cf)(kZ:Addr)(jM:Cf)(mt:Addr)(lq:Cf)(gH:Addr)(gh:Cf)(rp:Addr)(pI:Cf)(mq:Addr)(lm:Cf)(jy:Addr)(iw:Cf)(f9:Addr)(fg:Cf)(f_:Addr)(fk:Cf)(ga:Addr)(fu:Cf)(jA:Addr)(iy:Cf)(jz:Addr)(ix:Cf)(jx:Addr)(iu:Cf)(il:Addr)(gK:Cf)(pF:Addr)(om:Cf)(xv:Addr)(qB:Cf)
set_option genInjectivity false in
structure Adr extends AdD where
 
structure TxD(K:PySem.W.Frag)(mg:Str->Option B5)(a:AdD):Prop where
 d4:aM K mg "_law_cell_at" ko ["script","k"] a.kP a.jE
 nN:aM K mg "_law_first" ng ["cell"] a.nV a.mw
 eT:aM K mg "_law_said_by" kq ["form","saying","places"] a.kT a.jI
 gQ:aM K mg "_law_high_by" kr ["form","foot","places"] a.kR a.jG
 j8:aM K mg "_law_sizes" nj ["form","parts","places"] a.nZ a.mD
 kE:aM K mg "_law_fitting" ku ["parts","layings","base","first","number"] a.kQ a.jF
 dW:aM K mg "_law_mixed" nk ["cell"] a.nW a.mz
 kF:aM K mg "_law_numbers" kv ["script","most"] a.kS a.jH
 nP:aM K mg "_law_signs" nq ["number","size"] a.nY a.mC
 l9:aM K mg "_law_some" o6 ["number","many","big"] a.pE a.ol
 nO:aM K mg "_law_parts" nt ["numbers","big"] a.nX a.mB
 iI:aM K mg "_law_rising" lQ ["numbers","base","room"] a.mh a.lc
 ie:aM K mg "_law_behind_by" hV ["form","place","lead"] a.ij a.gI
 l_:aM K mg "_law_sooner" lR ["one","other"] a.mj a.lg
 rh:aM K mg "_law_let" qV ["form","layings","k","lead"] a.rk a.pG
 nQ:aM K mg "_law_words" nv ["form","parts","layings","numbers"] a.oe a.mF
 nM:aM K mg "_law_drawn" nA ["script","most","many"] a.nU a.mv
 j9:aM K mg "_law_truly" nB ["form","saying","places","pages"] a.n_ a.mE
 ig:aM K mg "_law_feet_read" hW ["book","places","pages"] a.ik a.gJ
 jk:aM K mg "_law_is_pages" i7 ["found","many","high"] a.ju a.iq
 jm:aM K mg "_law_is_place" i8 ["found"] a.jv a.ir
 pz:aM K mg "_law_laid" o7 ["found","many","high"] a.pC a.oj
 gC:aM K mg "_law_words_read" gu ["book","places","pages"] a.gG a.gg
 fX:aM K mg "figures_of" i9 ["number"] a.jr a.io
 nR:aM K mg "said" uB ["form","saying","places"] a.uY a.rz
 gP:aM K mg "foot_rows" kw ["form","foot","places"] a.kO a.jD
 kG:aM K mg "page_rows" kx ["book","places","page"] a.kU a.jJ
 md:aM K mg "pages_of" lS ["book","places"] a.mn a.lj
 gy:aM K mg "first_bounds" gv ["book"] a.gE a.gc
 gB:aM K mg "first_unlike" gw ["sizes","newer"] a.gF a.gf
 gO:aM K mg "foot_high" ky ["form","foot","places"] a.kM a.jC
 iH:aM K mg "highs_of" lT ["book","low","j","i"] a.mf a.k_
 me:aM K mg "together" lU ["wides"] a.mr a.ln
 fZ:aM K mg "next_top" lV ["place"] a.ml a.lh
 fY:aM K mg "first_from" i_ ["form","place","lead"] a.jt a.ip
 j_:aM K mg "rows_on" nC ["form","place","rows"] a.og a.mG
 l7:aM K mg "behind" o8 ["form","place","lead"] a.pB a.oi
 rj:aM K mg "later" qW ["one","other"] a.rn a.pH
 ii:aM K mg "told_behind" hX ["book","low","i"] a.im a.gL
 kI:aM K mg "told_high" kz ["book","low","i","j","high"] a.kX a.jK
 kJ:aM K mg "told_kept" kA ["book","low","i"] a.kY a.jL
 ka:aM K mg "wide_of" nD ["form","saying","places"] a.oh a.mH
 jq:aM K mg "told_never" ja ["book","low","i"] a.jB a.iz
 kL:aM K mg "told_wide" kC ["book","low","j","wide"] a.kZ a.jM
 iK:aM K mg "wides_of" lW ["book","low","j","i"] a.mt a.lq
 gD:aM K mg "told_by_kind" gx ["book","low","kind","i","j"] a.gH a.gh
 lD:aM K mg "reach" qX ["book","low","kind","i","j"] a.rp a.pI
 iJ:aM K mg "raise_by" lX ["book","bounds","paper","kind","i","j"] a.mq a.lm
 jo:aM K mg "raise_kept" jb ["book","bounds","paper","i"] a.jy a.iw
 dA:aM K mg "stands_beyond" fR ["book","place"] a.f9 a.fg
 f7:aM K mg "too_high_from" fS ["form","sizes","bounds","i"] a.f_ a.fk
 f8:aM K mg "too_wide_from" fT ["form","sizes","bounds","i"] a.ga a.fu
 f6:aM K mg "reason_for" jc ["book","sizes","bounds","i"] a.jA a.iy
 jp:aM K mg "raise_word" jd ["book","sizes","bounds","paper","i"] a.jz a.ix
 jn:aM K mg "raise_from" jf ["book","sizes","bounds","paper","start"] a.jx a.iu
 eV:aM K mg "sizes_under" hZ ["book","bounds"] a.il a.gK
 pA:ub K mg "settle" o9 ["book","low"] a.pF a.om .none
 sU:aM K mg "law" wU ["script"] a.xv a.qB
structure Txt(P:CK)(w:CG)(K:PySem.W.Frag)(mg:Str->Option B5)(a:Adr):Prop extends TxD K mg a.toAdD where
 oz:mg "all" = none
 kb:mg "any" = none
 jN:mg "bool" = none
 b8:mg "enumerate" = none
 gR:mg "int" = none
 bC:mg "isinstance" = none
 bu:mg "len" = none
 eI:mg "list" = none
 dZ:mg "max" = none
 iL:mg "min" = none
 cZ:mg "range" = none
 gj:mg "str" = none
 kc:mg "sum" = none
 gM:mg "tuple" = none
 mI:mg "zip" = none
section
variable {P:CK}{w:CG}{K:PySem.W.Frag}{mg:Str->Option B5}{base:Heap}{a:Adr}

def uC(K:PySem.W.Frag):Sp:=λvs H Q _=>∃(b:Addr) (ns:List Int) (k:Nat),vs=[.ref b,.int (k:Int)]/\SqL K H b (ns.map V.int)/\Q (.int (ns.getD k 0)) H
theorem uD:aG ["script","k"] ["script","k"] (aw ko):=by walk_at "c"
theorem fU(T:Txt P w K mg a):aS P w K mg base CX0 1 a.kP a.jE ["script","k"] (uC K):=by
 refine T.d4.fn.ok uD (λvs H Q E h=>?_) (λcdv A outer s H vs Q E hr h=>?_)
 .obtain⟨b,ns,k,rfl,_⟩:=h;rfl
 obtain⟨b,ns,k,rfl,hS,q⟩:=h;refine⟨_,(ac (aI (ao d_ (pv 1) (aA aL rfl T.bu PySem.boot_len (aa (pv 0) ae)) (ar _)) (af (au (ag aH (pv 0) (pv 1) (λ_ _=>rfl)))) aD)
   (af (au ab))),?_⟩
 refine⟨_,rfl,_,rfl,_,_,rfl,.inl hS,_,_,rfl,rfl,_,rfl,?_⟩;refine aX (λc=>?_) (λc=>?_)
 .have hk:k<ns.length:=by
   have:=of_decide_eq_true c;rw[B3]at this;omega
  refine⟨_,rfl,_,rfl,_,_,_,_,rfl,rfl,hS,cY (j:=k) (v:=.int (ns.getD k 0)) ?_,q⟩;rw[B_,c7 hk,B6,c7 hk];rfl
 .have hk:ns.length<=k:=by
   refine Fi λhk=>c (decide_eq_true ?_);rw[B3];omega
  have e:ns.getD k 0=0:=by rw[B6,Ea hk];rfl
  rw[e]at q;exact q
theorem c9:(PySem.Str.ofString "9")=tx [57]:=by decide +kernel
theorem c0:(PySem.Str.ofString "0")=tx [48]:=by decide +kernel
theorem p60:(10:Int)^(60:Int).toNat=10^60:=by decide +kernel
theorem zv(k:Nat)(h:k<=60):hU (48::dD [57] k)<10^60:=by
 have e:hU (48::dD [57] k)=hU (dD [57] k):=rfl;rw[e];have f:∀c∈dD [57] k,48<=c/\c<=57:=λc hc=>by rw[qJ _ _ _ hc];omega
 refine B7 (AS _ _ rfl f) (Nat.pow_le_pow_right (by (first|decide|(show(0:Int)<_;first|decide|omega))) ?_)
 rw[iW];simp;omega
def wV:Sp:=λvs H Q _=>∃c:Int,vs=[.int c]/\∀n:Int,0<=n->n<=10^60->Q (.int n) H
theorem lY:aG ["cell","kind","rest"] ["cell"] (aw ng):=by walk_at "c"
theorem wW(T:Txt P w K mg a):aS P w K mg base CX0 1 a.nV a.mw ["cell"] wV:=by
 refine T.nN.fn.ok lY (λvs H Q E h=>?_) (λcdv A outer s H vs Q E hr h=>?_)
 .obtain⟨c,rfl,_⟩:=h;rfl
 obtain⟨c,rfl,q⟩:=h;refine⟨_,(ac (am (i:=1) lY.nd rfl (Cb rfl) (ai aZ (pv 0) ab))
   (ac (am (i:=2) lY.nd rfl (Cb rfl) (ai bP (pv 0) ab))
   (ac (aI (ao a_ (pv 1) ab (ar _)) (af (au (ai aZ (pv 2) ab))) aD)
   (ac (aI (ao a_ (pv 1) ab (ar _)) (af (au (aA (jO rfl) rfl T.dZ C1 (aa ab (aa (ai bZ (cS r6 rfl T.gR DP (aa (ai iB bv (ai wz bv (ai aZ (pv 2) ab))) ae)) (ai aZ (ai bP (pv 2) ab) ab)) ae))))) aD)
   (ac (aI (ao a_ (pv 1) ab (ar _)) (af (au (ai aZ (pv 2) (ai aC (ai tD ab ab) ab)))) aD)
   (af (au (ai aC ab (ai aZ (pv 2) ab))))))))),?_⟩
 refine⟨_,rfl,_,_,rfl,rfl,(by (first|decide|(show(0:Int)<_;first|decide|omega))),?_⟩
 refine⟨_,rfl,_,_,rfl,rfl,⟨by decide,by decide⟩,?_⟩;refine⟨_,rfl,rfl,_,rfl,?_⟩;refine aX (λ_=>?_) (λ_=>?_)
 .refine⟨_,rfl,_,_,rfl,rfl,(by (first|decide|(show(0:Int)<_;first|decide|omega))),q _ (C5 _ (by (first|decide|(show(0:Int)<_;first|decide|omega)))) ?_⟩
  have:=CZ (c/4) (show(0:Int)<3 by decide);exact Dj (Int.le_of_lt this) (by (first|decide|(show(0:Int)<_;first|decide|omega)))
 refine⟨_,rfl,rfl,_,rfl,?_⟩;refine aX (λ_=>?_) (λ_=>?_)
 .have b1:=C5 (c/4) (show(61:Int)≠0 by decide);have b2:=CZ (c/4) (show(0:Int)<61 by decide);have b3:=C5 (c/4/61) (show(13:Int)≠0 by decide);obtain⟨k,hk⟩:=CP b1;have hk2:k<=60:=by omega
  refine⟨_,rfl,_,_,rfl,rfl,(by (first|decide|(show(0:Int)<_;first|decide|omega))),_,_,rfl,rfl,(by rw[hk,c9];exact u0 (by omega) (by (first|decide|(show(0:Int)<_;first|decide|omega)))),_,_,rfl,rfl,?_,?_⟩
  .rw[hk,c9,c0,tQ,bz,bz,iW];exact bi (by simp;omega)
  have ei:PySem.intText? (PySem.Str.ofString "0"++Txt.mul (PySem.Str.ofString "9") (c/4%61))=some ((hU (48::dD [57] k):Nat):Int):=by
   rw[hk,c9,c0,tQ,iV];refine u1 (l:=48::dD [57] k) (λd hd=>?_) (by simp) ?_
   .rcases List.mem_cons.mp hd with rfl|hd
    .omega
    .rw[qJ _ _ _ hd];omega
   .rw[CA,iW];simp;omega
  refine⟨_,_,rfl,ei,?_,_,rfl,_,_,rfl,rfl,⟨by decide,by decide⟩,_,_,rfl,rfl,(by (first|decide|(show(0:Int)<_;first|decide|omega))),_,_,rfl,rfl,_,_,rfl,?_⟩
  .rw[hk,c9,c0,tQ,iV,bz,Ca,iW];simp;omega
  have nb:=zv k hk2;have nb2:((hU (48::dD [57] k):Nat):Int)<=10^60:=by
   have:((hU (48::dD [57] k):Nat):Int)<=((10^60:Nat):Int):=Int.ofNat_le.mpr (EW nb);exact Dj this (by decide +kernel)
  generalize ((hU (48::dD [57] k):Nat):Int)=z at nb2⊢;refine q _ ?_ ?_
  .split<;>omega
  .split<;>omega
 refine⟨_,rfl,rfl,_,rfl,?_⟩;refine aX (λ_=>?_) (λ_=>?_)
 .refine⟨_,rfl,_,_,rfl,rfl,⟨by decide,by decide,by decide⟩,_,_,rfl,rfl,_,_,rfl,rfl,?_,?_⟩
  .show(0:Int)<10^(60:Int).toNat+1;rw[p60];decide
  .rw[p60];refine q _ (C5 _ (by (first|decide|(show(0:Int)<_;first|decide|omega)))) ?_
   have:=CZ (c/4) (show(0:Int)<10^60+1 by decide);omega
 .refine⟨_,rfl,_,_,rfl,rfl,(by (first|decide|(show(0:Int)<_;first|decide|omega))),_,_,rfl,rfl,q _ ?_ ?_⟩
  .have:=C5 (c/4) (show(6:Int)≠0 by decide);omega
  .have:=CZ (c/4) (show(0:Int)<6 by decide);exact Dj (show 95+c/4%6<=101 by omega) (by (first|decide|(show(0:Int)<_;first|decide|omega)))
def uF(K:PySem.W.Frag):Sp:=λvs H Q _=>∃(fa sa pa:Addr) (w h f m:Int) (s:Say) (as:List Addr) (xs:List (Int×Int)),vs=[.ref fa,.ref sa,.ref pa]/\SqT K H fa (fm w h f m)/\SqT K H sa (lI s)/\SqL K H pa (as.map V.ref)/\aV K H as xs/\c_ w h f m/\eC xs.length s/\b_ h xs/\Q (.str (tx (ay h f xs s))) H
theorem jg:aG ["form","saying","places","page","row"] ["form","saying","places"] (aw kq):=by walk_at "c"
theorem ji(T:Txt P w K mg a):aS P w K mg base CX0 1 a.kT a.jI ["form","saying","places"] (uF K):=by
 refine T.eT.fn.ok jg (λvs H Q E h=>?_) (λcdv A outer s H vs Q E hr h=>?_)
 .obtain⟨fa,sa,pa,w,h,f,m,s,as,xs,rfl,_⟩:=h;rfl
 obtain⟨fa,sa,pa,w,h,f,m,s,as,xs,rfl,hf,hs,hp,ha,fo,so,po,q⟩:=h;refine⟨_,(ac (aI (ao a_ (ag aj (pv 1) ab (λ_ _=>rfl)) bv (ar _)) (af (au (ag aj (pv 1) ab (λ_ _=>rfl)))) aD)
   (ac (fE (ag aH (pv 2) (ag aj (pv 1) ab (λ_ _=>rfl)) (λ_ _=>rfl)) (dn rfl (a8 (aO (i:=3) jg.nd rfl (Cb rfl)) (a8 (aO (i:=4) jg.nd rfl (Cb rfl)) cK))))
   (ac (aI (ao a_ (ag aj (pv 1) ab (λ_ _=>rfl)) bv (ar _)) (af (au (cS eD rfl T.gj Dx (aa (ai aC (ag aj (pv 0) ab (λ_ _=>rfl)) (pv 3)) ae)))) aD)
   (af (au (cS eD rfl T.gj Dx (aa (ai aC (ai aC (ai c5 (pv 3) (ag aj (pv 0) ab (λ_ _=>rfl))) (pv 4)) ab) ae))))))),?_⟩
 cases s with
 |text l =>
  refine⟨_,rfl,_,_,_,_,rfl,rfl,hs,rfl,rfl,_,rfl,?_⟩;rw[decide_eq_true rfl];refine bM ?_;exact⟨_,rfl,_,_,_,_,rfl,rfl,hs,rfl,q⟩
 |page k =>
  obtain⟨a1,e1,h1⟩:=ha.get so;obtain⟨i,b⟩:=po.get so;obtain⟨n,en,hn⟩:=lJ fo.f1 fo.f2 i.p1 b;refine⟨_,rfl,_,_,_,_,rfl,rfl,hs,rfl,rfl,_,rfl,?_⟩;rw[vI];refine aT ?_;refine⟨_,rfl,_,rfl,_,_,_,_,rfl,rfl,hs,rfl,_,_,_,_,rfl,rfl,hp,e1,_,_,rfl,h1,rfl,_,_,rfl,_,_,rfl,rfl,?_⟩;refine⟨_,rfl,_,_,_,_,rfl,rfl,hs,rfl,rfl,_,rfl,?_⟩;rw[decide_eq_true rfl];refine bM ?_;refine⟨_,rfl,_,_,_,_,rfl,rfl,hf,rfl,_,rfl,_,_,rfl,rfl,_,rfl,(by rw[en];exact gW (lx hn)),?_⟩;simp only[ay]at q;rw[en]at q;rw[en];exact Eq.mpr (congrArg (λz=>Q (.str z) H) (iX n)) q
 |row k =>
  obtain⟨a1,e1,h1⟩:=ha.get so;obtain⟨i,b⟩:=po.get so;obtain⟨n,en,hn⟩:=oq fo.h1 fo.h2 i.p1 b i.r1 i.r2;refine⟨_,rfl,_,_,_,_,rfl,rfl,hs,rfl,rfl,_,rfl,?_⟩;rw[xW];refine aT ?_;refine⟨_,rfl,_,rfl,_,_,_,_,rfl,rfl,hs,rfl,_,_,_,_,rfl,rfl,hp,e1,_,_,rfl,h1,rfl,_,_,rfl,_,_,rfl,rfl,?_⟩;refine⟨_,rfl,_,_,_,_,rfl,rfl,hs,rfl,rfl,_,rfl,?_⟩;rw[oC];refine aT ?_;have h1':=fo.h1;have h2':=fo.h2;refine⟨_,rfl,_,rfl,_,_,_,_,rfl,rfl,hf,rfl,_,_,rfl,rfl,.inr ⟨by omega,by omega⟩,_,rfl,_,_,rfl,rfl,_,_,rfl,rfl,_,rfl,(by rw[en];exact gW (lx hn)),?_⟩;simp only[ay]at q;rw[en]at q;rw[en];exact Eq.mpr (congrArg (λz=>Q (.str z) H) (iX n)) q
def uH(K:PySem.W.Frag):Sp:=λvs H Q _=>∃(fa oa pa:Addr) (w h f m:Int) (bs as:List Addr) (ss:List Say) (xs:List (Int×Int)),vs=[.ref fa,.ref oa,.ref pa]/\SqT K H fa (fm w h f m)/\SqL K H oa (bs.map V.ref)/\cP K H bs ss/\SqL K H pa (as.map V.ref)/\aV K H as xs/\c_ w h f m/\(∀s∈ss,eC xs.length s)/\b_ h xs/\ss.length<=60/\Q (.int (eL w h ((ss.map (ay h f xs)).map λt=>(t.length:Int)))) H
theorem cJ:aG ["form","foot","places","rows","used","saying","size"] ["form","foot","places"] (aw kr):=by walk_at "c"
theorem nE(T:Txt P w K mg a):aS P w K mg base CX0 2 a.kR a.jG ["form","foot","places"] (uH K):=by
 refine T.gQ.fn.ok cJ (λvs H Q E h=>?_) (λcdv A outer s H vs Q E hr h=>?_)
 .obtain⟨fa,oa,pa,w,h,f,m,bs,as,ss,xs,rfl,_⟩:=h;rfl
 obtain⟨fa,oa,pa,w,h,f,m,bs,as,ss,xs,rfl,hf,ho,hb,hp,ha,fo,so,po,s60,q⟩:=h;refine⟨_,(ac (am (i:=3) cJ.nd rfl (Cb rfl) ab)
   (ac (am (i:=4) cJ.nd rfl (Cb rfl) ab)
   (ac (cy Ct rfl (bL (pv 1)) (aO (i:=5) cJ.nd rfl (Cb rfl)) (ac (am (i:=6) cJ.nd rfl (Cb rfl) (aA cI rfl T.bu PySem.boot_len (aa (aq T.eT (ji T) (hr.mono (by decide)) rfl (aa (pv 0) (aa (pv 5) (aa (pv 2) ae)))) ae)))
   (ac (aI (ao di (pv 6) (ag aj (pv 0) ab (λ_ _=>rfl)) (ar _)) (af (au (ag aj (pv 0) ab (λ_ _=>rfl)))) aD)
   (af (aI (PW.pt (bW (ao di (pv 3) ab (ar _)) (bK (ao fG (ai aC (ai aC (pv 4) ab) (pv 6)) (ag aj (pv 0) ab (λ_ _=>rfl)) (ar _))))) (af (am (i:=4) cJ.nd rfl (Cb rfl) (ai aC (ai aC (pv 4) ab) (pv 6)))) (ac (am (i:=3) cJ.nd rfl (Cb rfl) (ai aC (pv 3) ab))
   (af (am (i:=4) cJ.nd rfl (Cb rfl) (pv 6)))))))))
   (af (au (aA (jP rfl) rfl T.iL Eb (aa (pv 3) (aa (ag aj (pv 0) ab (λ_ _=>rfl)) ae)))))))),?_⟩
 have hts:∀s∈ss,(ay h f xs s).length<=62:=λs hs=>(da fo po (so s hs)).2.1;refine⟨_,rfl,_,rfl,⟨_,ho⟩,eX (K:=K) (a:=oa) (xs:=bs.map V.ref) (λi σ H2=>H2=H/\(((ss.take i).map (ay h f xs)).map λt=>(t.length:Int)).any (λt=>decide (w<t))=false/\∃v1 v2:Option V,σ=[some (.ref fa),some (.ref oa),some (.ref pa),some (.int (dM w (((ss.take i).map (ay h f xs)).map λt=>(t.length:Int))).1),some (.int (dM w (((ss.take i).map (ay h f xs)).map λt=>(t.length:Int))).2),v1,v2])
  ⟨rfl,rfl,none,none,rfl⟩ (λi σ H2 _ h2=>by rw[h2.1];exact ho) ?_ ?_⟩
 .rintro i y σ H2 hi ⟨rfl,hw,v1,v2,rfl⟩;obtain⟨b,s,rfl,eb,es⟩:=qM hb.1 hi;have hs:=Cg es;have tl:=hts s hs;refine(⟨_,rfl,_,rfl,_,rfl,_,_,_,_,_,_,_,_,_,_,rfl,hf,hb.2 i b s eb es,hp,ha,fo,so s hs,po,_,rfl,(by rw[bz];exact d0 (by omega)),?_⟩);rw[bz];refine(⟨_,rfl,_,rfl,_,_,_,_,rfl,rfl,hf,rfl,_,_,rfl,rfl,_,rfl,?_⟩);refine aX (λc=>?_) (λc=>?_)
  .refine(⟨_,rfl,_,_,_,_,rfl,rfl,hf,rfl,?_⟩);have c1:w<((ay h f xs s).length:Int):=of_decide_eq_true c;have ew:(((ss.map (ay h f xs)).map λt=>(t.length:Int)).any λt=>decide (w<t))=true:=by
    rw[DS];exact List.any_eq_true.mpr ⟨_,List.mem_map.mpr ⟨s,hs,rfl⟩,decide_eq_true c1⟩
   unfold eL at q;rw[if_pos ew]at q;exact q
  .have c1:¬ w<((ay h f xs s).length:Int):=λz=>c (decide_eq_true z);have e1:((ss.take (i+1)).map (ay h f xs)).map (λt=>(t.length:Int))=((ss.take i).map (ay h f xs)).map (λt=>(t.length:Int))++[((ay h f xs s).length:Int)]:=by
    rw[cg es,Ch,Ch];rfl
   rw[e1,m4,Er,hw];generalize dM w (((ss.take i).map (ay h f xs)).map λt=>(t.length:Int))=z;generalize ((ay h f xs s).length:Int)=t at c1;refine(⟨_,rfl,_,_,rfl,rfl,_,rfl,?_⟩);by_cases k2:0<z.1/\z.2+1+t<=w
   .refine b4 (λc2=>absurd (decide_eq_true k2.1) c2) (λc2=>?_);refine(⟨_,rfl,_,_,rfl,rfl,_,rfl,_,_,rfl,rfl,_,rfl,_,_,_,_,rfl,rfl,hf,rfl,_,_,rfl,rfl,_,rfl,?_⟩);rw[decide_eq_true k2.2];refine bM ?_;refine(⟨_,rfl,_,_,rfl,rfl,_,rfl,_,_,rfl,rfl,?_⟩);refine(⟨rfl,by simp[c1],some (.ref b),some (.int t),?_⟩);rw[cB,if_pos k2];rfl
   refine mY ?_ (λc2 hb=>?_)
   .refine(⟨_,rfl,_,_,rfl,rfl,?_⟩);refine(⟨_,rfl,?_⟩);refine(⟨rfl,by simp[c1],some (.ref b),some (.int t),?_⟩);rw[cB,if_neg k2];rfl
   .refine(⟨_,rfl,_,_,rfl,rfl,_,rfl,_,_,rfl,rfl,_,rfl,_,_,_,_,rfl,rfl,hf,rfl,_,_,rfl,rfl,_,rfl,?_⟩);exact aX (λc3=>absurd ⟨of_decide_eq_true c2,of_decide_eq_true c3⟩ k2) (λ_=>hb)
 .rintro σ H2 ⟨rfl,hw,v1,v2,rfl⟩;rw[B3,hb.1,C8]at hw⊢;refine(⟨_,rfl,_,rfl,_,_,_,_,rfl,rfl,hf,rfl,_,_,rfl,?_⟩);unfold eL at q;rw[hw]at q;rw[if_neg Cm]at q;exact q
def wX(K:PySem.W.Frag):Sp:=λvs H Q _=>∃(fa pa la:Addr) (F:Frm) (pas:List Addr) (ds:List Wd) (xs:List (Int×Int)),vs=[.ref fa,.ref pa,.ref la]/\SqT K H fa (fm F.w F.h F.f F.m)/\SqL K H pa (pas.map V.ref)/\fN K H pas ds/\aU K H la xs/\aR F ds xs/\∀q W T H',av H H'->SqT K H' q [.int W,.int T]->Szd F ds xs ds.length W T->Q (.ref q) H'
theorem bU:aG ["form","parts","places","wide","high","row_wide","feet","k","part","size"] ["form","parts","places"] (aw nj):=by walk_at "c"
theorem qg(T:Txt P w K mg a):aS P w K mg base CX0 3 a.nZ a.mD ["form","parts","places"] (wX K):=by
 refine T.j8.fn.ok bU (λvs H Q E h=>?_) (λcdv A outer s H vs Q E hr h=>?_)
 .obtain⟨fa,pa,la,F,pas,ds,xs,rfl,_⟩:=h;rfl
 obtain⟨fa,pa,la,F,pas,ds,xs,rfl,hf,hp_,hps,hl,B,q⟩:=h;have hu:=C2 (eJ hr);refine⟨_,(ac (am (i:=3) bU.nd rfl (Cb rfl) ab)
   (ac (am (i:=4) bU.nd rfl (Cb rfl) ab)
   (ac (am (i:=5) bU.nd rfl (Cb rfl) ab)
   (ac (am (i:=6) bU.nd rfl (Cb rfl) ab)
   (ac (cy Ct rfl (iN rfl T.b8 (pv 1)) (dn rfl (a8 (aO (i:=7) bU.nd rfl (Cb rfl)) (a8 (aO (i:=8) bU.nd rfl (Cb rfl)) cK))) (ac (am (i:=9) bU.nd rfl (Cb rfl) (aA cI rfl T.bu PySem.boot_len (aa (aq T.eT (ji T) (hr.mono (by decide)) rfl (aa (pv 0) (aa (ag aj (pv 8) ab (λ_ _=>rfl)) (aa (pv 2) ae)))) ae)))
   (ac (aI (PW.pt (bW (ao di (pv 7) ab (ar _)) (bK (ao (pY hu) (ag aH (pv 2) (ai bZ (pv 7) ab) (λ_ _=>rfl)) (ag aH (pv 2) (pv 7) (λ_ _=>rfl)) (ar _))))) (af (am (i:=5) bU.nd rfl (Cb rfl) (ai aC (ai aC (pv 5) ab) (pv 9)))) (af (am (i:=5) bU.nd rfl (Cb rfl) (pv 9))))
   (ac (aI (PW.pt (cH (ao a_ (pv 7) ab (ar _)) (cx (ao fF (ag aj (ag aH (pv 2) (ai bZ (pv 7) ab) (λ_ _=>rfl)) ab (λ_ _=>rfl)) (ag aj (ag aH (pv 2) (pv 7) (λ_ _=>rfl)) ab (λ_ _=>rfl)) (ar _))))) (af (am (i:=6) bU.nd rfl (Cb rfl) ab)) aD)
   (ac (am (i:=6) bU.nd rfl (Cb rfl) (ai aC (pv 6) (aq T.gQ (nE T) (hr.mono (by decide)) rfl (aa (pv 0) (aa (ag aj (pv 8) ab (λ_ _=>rfl)) (aa (pv 2) ae))))))
   (ac (am (i:=4) bU.nd rfl (Cb rfl) (aA (jO rfl) rfl T.dZ C1 (aa (pv 4) (aa (ai aC (ai aC (ag aj (ag aH (pv 2) (pv 7) (λ_ _=>rfl)) ab (λ_ _=>rfl)) ab) (pv 6)) ae))))
   (af (am (i:=3) bU.nd rfl (Cb rfl) (aA (gZ rfl) rfl T.dZ C1 (aa (ai mV (bX (aa (pv 3) (aa (pv 5) ae))) (dJ rfl (dC (caps:=["form","places"]) (js:=[0,2]) (cap:=⟨⟨rfl,.inl rfl,rfl,.inl rfl⟩,⟨⟨rfl,.inl rfl,rfl,.inl rfl⟩,trivial⟩⟩)) (bL (ag aj (pv 8) ab (λ_ _=>rfl))) (λ_ _ _ _=>b7) (λ_ _ _ _=>(aA cI rfl T.bu PySem.boot_len (aa (aq T.eT (ji T) (hr.mono (by decide)) rfl (aa (pv 1) (aa (pv 0) (aa (pv 2) ae)))) ae))))) ae))))))))))
   (af (au (bj (aa (pv 3) (aa (pv 4) ae)))))))))),?_⟩
 obtain⟨las,hla,hls⟩:=hl;have n400:=B.n;have el:(pas.map V.ref).length=ds.length:=by rw[B3,hps.1]
 have wdx:∀d∈ds,dN xs.length d:=λd hd=>by have:=B.wd d hd;rwa[B.len]at this
 have h1:=B.fo.h1;refine⟨_,rfl,pa,rfl,⟨_,hp_⟩,gk (K:=K) (a:=pa) (xs:=pas.map V.ref) (λi σ H2=>av H H2/\∃(W T rw ft:Int) (v7 v8 v9:Option V),σ=[some (.ref fa),some (.ref pa),some (.ref la),some (.int W),some (.int T),some (.int rw),some (.int ft),v7,v8,v9]/\Szd F ds xs i W T/\(0<i->qR F ds xs (i-1) rw/\qS F ds xs (i-1) ft)/\rw<=63*(i:Int)) ?_ ?_ ?_ ?_⟩
 .exact⟨av.refl _,1,1,0,0,none,none,none,rfl,zg,λz=>absurd z (CI _),by decide⟩
 .rintro i σ H2 _ ⟨s2,_⟩;exact s2.seq hp_
 rotate_left
 .rintro σ H2 ⟨s2,W,T,rw,ft,v7,v8,v9,rfl,S,_,_⟩;rw[el]at S;refine⟨_,rfl,_,rfl,le2,λp3 hp3=>?_⟩;exact q p3 W T _ (s2.trans (ak hp3 _)) (SqT.of ah) S
 rintro i x σ H2 p hx ⟨s2,W,T,rw,ft,v7,v8,v9,rfl,S,RR,rl⟩ hp;obtain⟨b,d,rfl,eb,ed⟩:=jS hps.1 hx;have hid:i<ds.length:=(List.getElem?_eq_some_iff.mp ed).1;have hix:i<xs.length:=by rw[<-B.len];exact hid
 have edd:dAt ds i=d:=by
  show ds.getD i wd0=d;rw[B6,ed];rfl
 have wo:=wdx d (Cg ed);have n40:=wo.n;obtain⟨sy,fo,bs,g1,g2,g3,g4⟩:=hps.2 i b d eb ed;obtain⟨zo,ez,hz⟩:=aU.get (a:=la) hls hix;have s3:=ak hp (.tup [.int (i:Int),.ref b]);refine⟨p,_,rfl,SqT.of ah,rfl,_,_,rfl,_,_,rfl,rfl,?_⟩;generalize upd H2 p (.tup [.int (i:Int),.ref b])=H3 at s3⊢;dsimp only[aF];have t3:=s2.trans s3;have sl:=da B.fo B.po wo.s;refine⟨_,rfl,_,rfl,_,_,_,_,rfl,rfl,t3.tup g1,rfl,_,rfl,fa,sy,la,F.w,F.h,F.f,F.m,d.say,las,xs,rfl,t3.tup hf,t3.tup g2,t3.seq hla,hls.same t3,B.fo,wo.s,B.po,_,rfl,(by rw[bz];exact bi (by omega)),?_⟩;rw[bz,show((ay F.h F.f xs d.say).length:Int)=bF F xs d from rfl];dsimp only[aF];have w62:bF F xs d<=62:=by unfold bF;omega
 refine bQ (λσ' H'=>H'=H3/\∃rw':Int,σ'=[some (.ref fa),some (.ref pa),some (.ref la),some (.int W),some (.int T),some (.int rw'),some (.int ft),some (.int (i:Int)),some (.ref b),some (.int (bF F xs d))]/\qR F ds xs i rw'/\rw'<=63*((i:Int)+1)) ?_ (λkey=>?_)
 rotate_left
 .refine⟨_,rfl,_,_,rfl,rfl,_,rfl,?_⟩;by_cases c:0<i
  rotate_left
  .refine b4 (λ_=>?_) (λz=>absurd (of_decide_eq_true z) (by omega));have R:=uq (F:=F) (xs:=xs) hid (.inl (by omega));rw[edd]at R;exact⟨_,rfl,key _ _ ⟨rfl,_,rfl,R,by omega⟩⟩
  refine b4 (λz=>absurd (decide_eq_true (by omega)) z) (λ_=>?_);obtain⟨yo,ey,hy⟩:=aU.get (a:=la) hls (show i-1<xs.length by omega);refine⟨_,rfl,_,rfl,_,_,rfl,rfl,_,_,_,_,rfl,rfl,t3.seq hla,(by rw[show(i:Int)-1=((i-1:Nat):Int) by omega];exact ey),_,rfl,_,rfl,_,_,_,_,rfl,rfl,t3.seq hla,ez,_,_,_,_,rfl,rfl,t3.tup hy,t3.tup hz,rfl,rfl,_,rfl,?_⟩;rw[if_neg (by decide),m8];by_cases e:xAt xs (i-1)=xAt xs i
  .rw[decide_eq_true e];refine bM ?_;refine⟨_,rfl,_,_,rfl,rfl,_,rfl,_,_,rfl,rfl,?_⟩;have R:=Ad (k:=i-1) (RR c).1 (by omega) (by rw[show i-1+1=i by omega];exact e);rw[show i-1+1=i by omega,edd]at R;exact key _ _ ⟨rfl,_,rfl,R,by omega⟩
  .rw[decide_eq_false e];refine aT ?_;have R:=uq (F:=F) (xs:=xs) hid (.inr e);rw[edd]at R;exact⟨_,rfl,key _ _ ⟨rfl,_,rfl,R,by omega⟩⟩
 rintro σ' H3' ⟨rfl,rw',rfl,R1,rl'⟩;refine bQ (λσ' H'=>H'=H3'/\∃ft':Int,σ'=[some (.ref fa),some (.ref pa),some (.ref la),some (.int W),some (.int T),some (.int rw'),some (.int ft'),some (.int (i:Int)),some (.ref b),some (.int (bF F xs d))]/\qS F ds xs i (ft'+a9 F xs d)) ?_ (λkey=>?_)
 rotate_left
 .refine⟨_,rfl,rfl,_,rfl,?_⟩;by_cases c:0<i
  rotate_left
  .refine orG (λ_=>?_) (λz=>absurd (bB.mpr (by omega)) z);have R:=ur (F:=F) (xs:=xs) hid (.inl (by omega));rw[edd]at R;exact key _ _ ⟨rfl,0,rfl,R⟩
  refine orG (λz=>absurd (bB.mp z) (by omega)) (λ_=>?_);obtain⟨yo,ey,hy⟩:=aU.get (a:=la) hls (show i-1<xs.length by omega);refine⟨_,rfl,_,rfl,_,_,rfl,rfl,_,_,_,_,rfl,rfl,t3.seq hla,(by rw[show(i:Int)-1=((i-1:Nat):Int) by omega];exact ey),_,_,_,_,rfl,rfl,t3.tup hy,rfl,_,rfl,_,rfl,_,_,_,_,rfl,rfl,t3.seq hla,ez,_,_,_,_,rfl,rfl,t3.tup hz,rfl,rfl,_,rfl,?_⟩;by_cases e:(xAt xs (i-1)).1=(xAt xs i).1
  .rw[decide_eq_true (show V.int (xAt xs (i-1)).1=V.int (xAt xs i).1 by rw[e])];refine aT ?_;have R:=Ae (k:=i-1) (RR c).2 (by omega) (by rw[show i-1+1=i by omega];exact e);rw[show i-1+1=i by omega,edd]at R;exact key _ _ ⟨rfl,ft,rfl,R⟩
  .rw[decide_eq_false (show ¬ V.int (xAt xs (i-1)).1=V.int (xAt xs i).1 from λz=>e (V.int.inj z))];refine bM ?_;have R:=ur (F:=F) (xs:=xs) hid (.inr e);rw[edd]at R;exact key _ _ ⟨rfl,0,rfl,R⟩
 rintro σ' H4 ⟨rfl,ft',rfl,R2⟩;refine⟨_,rfl,_,rfl,_,rfl,_,_,_,_,rfl,rfl,t3.tup g1,rfl,_,rfl,fa,fo,la,F.w,F.h,F.f,F.m,bs,las,d.foot,xs,rfl,t3.tup hf,t3.seq g3,g4.same t3,t3.seq hla,hls.same t3,B.fo,wo.f,B.po,(by omega),_,_,rfl,rfl,?_⟩;rw[<-gn,show fJ F.w F.h (d.foot.map (ay F.h F.f xs))=a9 F xs d from rfl];dsimp only[aF];refine⟨_,rfl,_,rfl,_,rfl,_,_,_,_,rfl,rfl,t3.seq hla,ez,_,_,_,_,rfl,rfl,t3.tup hz,rfl,_,_,rfl,rfl,_,rfl,_,_,rfl,rfl,_,_,rfl,?_⟩;dsimp only[aF];refine⟨_,rfl,_,rfl,le2,λp1 hp1=>?_⟩;have s5:=ak hp1 (.lst [V.int W,V.int rw']);have h5:(upd H4 p1 (.lst [V.int W,V.int rw'])) p1=some (.lst [V.int W,V.int rw']):=ah;generalize upd H4 p1 (.lst [V.int W,V.int rw'])=H5 at s5 h5⊢;have t5:=t3.trans s5;refine⟨_,rfl,_,_,_,_,rfl,rfl,t5.tup g1,rfl,fo,rfl,⟨_,t5.seq g3⟩,cu (K:=K) (a:=fo) (xs:=bs.map V.ref) (λj ys H6=>H6=H5/\ys=((d.foot.take j).map λs=>((ay F.h F.f xs s).length:Int)).map V.int) ⟨rfl,rfl⟩ (λj ys H6 _ g=>by rw[g.1];exact t5.seq g3) ?_ ?_ ?_⟩
 .rintro j ys H6 hj ⟨_,rfl⟩;rw[B3,B3,CB];exact B7 (show _<1000 by omega) (bi (B4 _))
 .rintro j y ys H6 hj ⟨rfl,rfl⟩;obtain⟨bo,s,rfl,eb2,es⟩:=qM g4.1 hj;have so:=wo.f s (Cg es);have sl2:=da B.fo B.po so;refine cz ?_;refine⟨_,rfl,_,rfl,_,rfl,fa,bo,la,F.w,F.h,F.f,F.m,s,las,xs,rfl,t5.tup hf,t5.tup (g4.2 j bo s eb2 es),t5.seq hla,hls.same t5,B.fo,so,B.po,_,rfl,(by rw[bz];exact bi (by omega)),rfl,?_⟩;rw[bz,cg es,Ch,Ch];rfl
 rintro ys H6 ⟨rfl,rfl⟩ p2 hp2;rw[B3,g4.1,C8];have s7:=ak hp2 (.lst ((d.foot.map λs=>((ay F.h F.f xs s).length:Int)).map V.int));have h7:(upd H6 p2 (.lst ((d.foot.map λs=>((ay F.h F.f xs s).length:Int)).map V.int))) p2=some (.lst ((d.foot.map λs=>((ay F.h F.f xs s).length:Int)).map V.int)):=ah;generalize upd H6 p2 (.lst ((d.foot.map λs=>((ay F.h F.f xs s).length:Int)).map V.int))=H7 at s7 h7⊢;refine⟨_,_,_,_,rfl,rfl,s7 _ _ h5,h7,bi (by rw[B3,B3];simp;omega),λp4 hp4=>?_⟩;have s8:=ak hp4 (.lst ([V.int W,V.int rw']++(d.foot.map λs=>((ay F.h F.f xs s).length:Int)).map V.int));refine⟨p4,W::rw'::(d.foot.map λs=>((ay F.h F.f xs s).length:Int)),rfl,SqL.of ah,D6 _,λmx hm hx=>?_⟩;have f62:∀s∈d.foot,((ay F.h F.f xs s).length:Int)<=62:=λs hs=>by have:=da B.fo B.po (wo.f s hs);omega
 have w2:=S.w2;refine⟨t5.trans (s7.trans s8),mx,_,rw',_,_,_,_,rfl,zi S h1 hid R1 R2 (hx W Cp) (hx rw' (Ck _ Cp)) (λs hs=>?_) ?_ rfl,λ_=>⟨R1,R2⟩,by omega⟩
 .rw[edd]at hs;exact hx _ (Ck _ (Ck _ (List.mem_map.mpr ⟨s,hs,rfl⟩)))
 .rcases List.mem_cons.mp hm with rfl|hm
  .omega
  .rcases List.mem_cons.mp hm with rfl|hm
   .omega
   .obtain⟨s,hs,rfl⟩:=List.mem_map.mp hm;have:=f62 s hs;omega
def uI(K:PySem.W.Frag):Sp:=λvs H Q _=>∃(pa ly:Addr) (pas las:List Addr) (ds:List Wd) (xss:List (List (Int×Int))) (b f num:Int),vs=[.ref pa,.ref ly,.int b,.int f,.int num]/\SqL K H pa (pas.map V.ref)/\fN K H pas ds/\SqL K H ly (las.map V.ref)/\km K H las xss/\0<xss.length/\xss.length<=2/\(∀xs∈xss,Ris b xs/\xs.length=ds.length)/\1<=b/\b<=6/\aY ds<=40/\ds.length<=40/\(∀d∈ds,dN ds.length d)/\0<=f/\f<=10^60/\∀q (F:Frm) H',av H H'->SqT K H' q (fm F.w F.h F.f F.m)->c_ F.w F.h F.f F.m->F.f=f->b<=F.h->(∀xs∈xss,ut F ds xs)->Q (.ref q) H'
theorem de:aG ["parts","layings","base","first","number","most","wide","high","pages"] ["parts","layings","base","first","number"] (aw ku):=by walk_at "c"
theorem uJ(T:Txt P w K mg a):aS P w K mg base CX0 4 a.kQ a.jF ["parts","layings","base","first","number"] (uI K):=by
 refine T.kE.fn.ok de (λvs H Q E h=>?_) (λcdv A outer s H vs Q E hr h=>?_)
 .obtain⟨pa,ly,pas,las,ds,xss,b,f,num,rfl,_⟩:=h;rfl
 obtain⟨pa,ly,pas,las,ds,xss,b,f,num,rfl,hp_,hps,hly,hls,x0,x2,hr_,b1,b6,f40,d40,wd,f0,f60,q⟩:=h;have hu:=C2 (eJ hr);refine⟨_,(ac (am (i:=5) de.nd rfl (Ex rfl) (ai aC (pv 2) (aA (oZ rfl) rfl T.kc EB (aa (dJ rfl (dC (caps:=[]) (js:=[]) (cap:=trivial)) (bL (pv 0)) (λ_ _ _ _=>b7) (λ_ _ _ _=>(aA (r:=AZ K) aL rfl T.bu PySem.boot_len (aa (ag (r:=eY K) aj (pv 0) ab (λ_ _=>rfl)) ae)))) ae))))
   (ac (am (i:=6) de.nd rfl (Ex rfl) (aA (gZ rfl) rfl T.dZ C1 (aa (dJ rfl (dC (caps:=["parts","first","most"]) (js:=[0,3,5]) (cap:=⟨⟨rfl,.inl rfl,rfl,.inl rfl⟩,⟨⟨rfl,.inl rfl,rfl,.inl rfl⟩,⟨⟨rfl,.inl rfl,rfl,.inl rfl⟩,trivial⟩⟩⟩)) (bL (pv 1)) (λ_ _ _ _=>b7) (λ_ _ _ _=>(ag (r:=eY K) aj (aq T.j8 (qg T) (hr.mono (by decide)) rfl (aa (bj (aa ab (aa (pv 3) (aa (pv 2) (aa ab ae))))) (aa (pv 1) (aa (pv 0) ae)))) ab (λ_ _=>rfl)))) ae)))
   (ac (am (i:=6) de.nd rfl (Ex rfl) (ai aC (pv 6) (ai c5 (ai aZ (pv 4) ab) (ai aZ (ai bP (pv 4) ab) ab))))
   (ac (am (i:=7) de.nd rfl (Cb rfl) (aA (gZ rfl) rfl T.dZ C1 (aa (ai mV (bX (aa (pv 2) ae)) (dJ rfl (dC (caps:=["parts","first","most","wide"]) (js:=[0,3,5,6]) (cap:=⟨⟨rfl,.inl rfl,rfl,.inl rfl⟩,⟨⟨rfl,.inl rfl,rfl,.inl rfl⟩,⟨⟨rfl,.inl rfl,rfl,.inl rfl⟩,⟨⟨rfl,.inl rfl,rfl,.inl rfl⟩,trivial⟩⟩⟩⟩)) (bL (pv 1)) (λ_ _ _ _=>b7) (λ_ _ _ _=>(ag (r:=eY K) aj (aq T.j8 (qg T) (hr.mono (by decide)) rfl (aa (bj (aa (pv 4) (aa (pv 3) (aa (pv 2) (aa ab ae))))) (aa (pv 1) (aa (pv 0) ae)))) ab (λ_ _=>rfl))))) ae)))
   (ac (am (i:=7) de.nd rfl (Cb rfl) (aA (jP rfl) rfl T.iL Eb (aa (pv 5) (aa (ai aC (pv 7) (ai aZ (ai bP (pv 4) ab) ab)) ae))))
   (ac (am (i:=8) de.nd rfl (Cb rfl) (aA (gZ rfl) rfl T.dZ C1 (aa (ai mV (bX (aa ab ae)) (dJ rfl (dC (caps:=[]) (js:=[]) (cap:=trivial)) (bL (pv 1)) (λ_ _ _ _=>(qE (ao (r:=yg K) (yh hu) (pv 0) (bX ae) (ar _)))) (λ_ _ _ _=>(ag (r:=eY K) aj (ag (r:=wu K) aH (pv 0) (pV mS ab) (λ_ _=>rfl)) ab (λ_ _=>rfl))))) ae)))
   (af (au (bj (aa (pv 6) (aa (pv 7) (aa (pv 3) (aa (ai aC (ai aC (pv 8) ab) (ai aZ (ai bP (pv 4) ab) ab)) ae))))))))))))),?_⟩
 have fn0:=oF ds;have elp:(pas.map V.ref).length=ds.length:=by rw[B3,hps.1]
 have ell:(las.map V.ref).length=xss.length:=by rw[B3,hls.1]
 have mk:∀w:Int,1<=w->w<=4000->∀xs∈xss,aR ⟨w,b+aY ds,f,60⟩ ds xs:=λw w1 w2 xs hx=>by
  obtain⟨R,l⟩:=hr_ xs hx;exact⟨⟨w1,w2,by show 1<=b+aY ds;omega,by show b+aY ds<=60;omega,f0,f60,by show(1:Int)<=60;decide,by show(60:Int)<=60;decide⟩,l.symm,wd,vS R (by show b<=b+aY ds;omega) (by omega),by omega⟩
 refine⟨_,rfl,_,rfl,_,rfl,⟨_,hp_⟩,cu (K:=K) (a:=pa) (xs:=pas.map V.ref) (λi ys H2=>H2=H/\ys=((ds.take i).map λd=>(d.foot.length:Int)).map V.int) ⟨rfl,rfl⟩ (λi ys H2 _ g=>by rw[g.1];exact hp_) ?_ ?_ ?_⟩
 .rintro i ys H2 hi ⟨_,rfl⟩;rw[B3,B3,CB];exact B7 (show _<1000 by omega) (bi (B4 _))
 .rintro i y ys H2 hi ⟨rfl,rfl⟩;obtain⟨bo,d,rfl,eb,ed⟩:=jS hps.1 hi;obtain⟨sy,fo,bs,g1,g2,g3,g4⟩:=hps.2 i bo d eb ed;refine cz ?_;refine⟨_,rfl,_,_,_,_,rfl,rfl,g1,rfl,_,_,rfl,.inl g3,rfl,?_⟩;rw[B3,g4.1,cg ed,Ch,Ch];rfl
 rintro ys HA ⟨rfl,rfl⟩ p0 hp0;rw[elp,C8];have sB:=ak hp0 (.lst ((ds.map λd=>(d.foot.length:Int)).map V.int));refine⟨p0,_,rfl,SqL.of ah,_,_,rfl,rfl,?_⟩;rw[show(ds.map λd=>(d.foot.length:Int)).sum=aY ds from rfl];generalize upd HA p0 (.lst ((ds.map λd=>(d.foot.length:Int)).map V.int))=HB at sB⊢;dsimp only[aF];have T0:=sB;have b1k:=mk 200 (by decide) (by decide);refine⟨_,rfl,ly,rfl,⟨_,T0.seq hly⟩,cu (K:=K) (a:=ly) (xs:=las.map V.ref) (λi ys H2=>av HB H2/\∃ws:List Int,ws.length=i/\ys=ws.map V.int/\∀k xs,k<i->xss[k]?=some xs->∃T,Szd ⟨200,b+aY ds,f,60⟩ ds xs ds.length (ws.getD k 0) T) ⟨av.refl _,[],rfl,rfl,λk xs hk=>absurd hk (Cy _)⟩ (λi ys H2 _ g=>(T0.trans g.1).seq hly) ?_ ?_ ?_⟩
 .rintro i ys H2 hi ⟨_,ws,wl,rfl,_⟩;rw[B3,wl];exact B7 (show i<1000 by rw[ell]at hi;omega) (bi (B4 _))
 .rintro i y ys H2 hi ⟨s2,ws,wl,rfl,hw⟩;obtain⟨lo,xs,rfl,eb,ex⟩:=qd hls.1 hi;have t2:=T0.trans s2;have xm:=Cg ex;refine cz ?_;refine⟨_,rfl,_,rfl,le4,λp1 hp1=>?_⟩;have s3:=ak hp1 (.tup [V.int 200,V.int (b+aY ds),V.int f,V.int 60]);have h3:SqT K (upd H2 p1 (.tup [V.int 200,V.int (b+aY ds),V.int f,V.int 60])) p1 (fm 200 (b+aY ds) f 60):=SqT.of ah;generalize upd H2 p1 (.tup [V.int 200,V.int (b+aY ds),V.int f,V.int 60])=H3 at s3 h3⊢;have t3:=t2.trans s3;refine⟨_,rfl,_,rfl,p1,pa,lo,⟨200,b+aY ds,f,60⟩,pas,ds,xs,rfl,h3,t3.seq hp_,hps.same t3,(hls.2 i lo xs eb ex).same t3,b1k xs xm,λq4 W T H4 s4 hq4 S=>?_⟩;refine⟨_,_,_,_,rfl,rfl,hq4,rfl,s2.trans (s3.trans s4),ws++[W],by simp[wl],by rw[Ch];rfl,λk ys2 hk e=>?_⟩;rw[jY,wl];by_cases c:k<i
  .rw[if_pos c];exact hw k ys2 c e
  .have:k=i:=by omega
   rw[if_neg c,if_pos this];rw[this,ex]at e;cases e;exact⟨_,S⟩
 rintro ys HC ⟨sc,ws,wl,rfl,hw⟩ p hp;rw[ell]at wl hw;have hwm:∀xs∈xss,∃w,w∈ws/\∃T,Szd ⟨200,b+aY ds,f,60⟩ ds xs ds.length w T:=λxs hx=>by
  obtain⟨k,hk,ek⟩:=List.mem_iff_getElem.mp hx;have e2:xss[k]?=some xs:=by rw[c7 hk,ek]
  obtain⟨T,S⟩:=hw k xs hk e2;refine⟨ws.getD k 0,?_,T,S⟩;rw[B6,c7 (by omega)];exact CV _
 have hmw:∀w∈ws,∃xs,xs∈xss/\∃T,Szd ⟨200,b+aY ds,f,60⟩ ds xs ds.length w T:=λw hw2=>by
  obtain⟨k,hk,ek⟩:=List.mem_iff_getElem.mp hw2;have hk2:k<xss.length:=by omega
  obtain⟨T,S⟩:=hw k _ hk2 (c7 hk2);refine⟨xss[k],CV hk2,T,?_⟩;rw[B6,c7 hk,ek]at S;exact S
 clear hw;have sD:=ak hp (.lst (ws.map V.int));refine⟨p,ws,rfl,SqL.of ah,by omega,λmx hm hx=>?_⟩;generalize upd HC p (.lst (ws.map V.int))=HD at sD⊢;dsimp only[aF];have m1:1<=mx/\mx<=3000:=by
  obtain⟨xs,hxs,T,S⟩:=hmw mx hm;have:=S.w1;have:=S.w2;omega
 have bb:=qU num (num/2) 6 (by decide);refine⟨_,rfl,_,rfl,_,_,rfl,rfl,(by (first|decide|(show(0:Int)<_;first|decide|omega))),_,rfl,_,_,rfl,rfl,⟨by decide,by decide⟩,_,_,rfl,rfl,(by (first|decide|(show(0:Int)<_;first|decide|omega))),_,_,rfl,rfl,.inl ⟨by omega,by omega⟩,_,_,rfl,rfl,?_⟩
 dsimp only[aF];generalize num%2*(num/2%6)=ex6 at bb⊢;have ww:∀xs∈xss,∃W T,W<=mx+ex6/\Szd ⟨200,b+aY ds,f,60⟩ ds xs ds.length W T:=λxs hxs=>by
  obtain⟨w,hw,T,S⟩:=hwm xs hxs;exact⟨w,T,by have:=hx w hw;omega,S⟩
 have wb:1<=mx+ex6/\mx+ex6<=4000:=by omega
 generalize mx+ex6=wi at ww wb⊢;have sE:=T0.trans (sc.trans sD);clear hwm hmw hm hx hp sc sD T0;refine⟨_,rfl,le1,λp2 hp2=>?_⟩;have sF:=ak hp2 (.lst [V.int b]);have hF:(upd HD p2 (.lst [V.int b])) p2=some (.lst [V.int b]):=ah;generalize upd HD p2 (.lst [V.int b])=HB' at sF hF⊢;have T0:=sE.trans sF;have b2k:=mk wi wb.1 wb.2;refine⟨_,rfl,ly,rfl,⟨_,T0.seq hly⟩,cu (K:=K) (a:=ly) (xs:=las.map V.ref) (λi ys H2=>av HB' H2/\∃ts:List Int,ts.length=i/\ys=ts.map V.int/\∀k xs,k<i->xss[k]?=some xs->∃W,Szd ⟨wi,b+aY ds,f,60⟩ ds xs ds.length W (ts.getD k 0)) ⟨av.refl _,[],rfl,rfl,λk xs hk=>absurd hk (Cy _)⟩ (λi ys H2 _ g=>(T0.trans g.1).seq hly) ?_ ?_ ?_⟩
 .rintro i ys H2 hi ⟨_,ts,wl,rfl,_⟩;rw[B3,wl];exact B7 (show i<1000 by rw[ell]at hi;omega) (bi (B4 _))
 .rintro i y ys H2 hi ⟨s2,ts,wl,rfl,hw⟩;obtain⟨lo,xs,rfl,eb,ex⟩:=qd hls.1 hi;have t2:=T0.trans s2;have xm:=Cg ex;refine cz ?_;refine⟨_,rfl,_,rfl,_,rfl,le4,λp1 hp1=>?_⟩;have s3:=ak hp1 (.tup [V.int wi,V.int (b+aY ds),V.int f,V.int 60]);have h3:SqT K (upd H2 p1 (.tup [V.int wi,V.int (b+aY ds),V.int f,V.int 60])) p1 (fm wi (b+aY ds) f 60):=SqT.of ah;generalize upd H2 p1 (.tup [V.int wi,V.int (b+aY ds),V.int f,V.int 60])=H3 at s3 h3⊢;have t3:=t2.trans s3;refine⟨_,rfl,_,rfl,p1,pa,lo,⟨wi,b+aY ds,f,60⟩,pas,ds,xs,rfl,h3,t3.seq hp_,hps.same t3,(hls.2 i lo xs eb ex).same t3,b2k xs xm,λq4 W T H4 s4 hq4 S=>?_⟩;refine⟨_,_,_,_,rfl,rfl,hq4,rfl,s2.trans (s3.trans s4),ts++[T],by simp[wl],by rw[Ch];rfl,λk ys2 hk e=>?_⟩;rw[jY,wl];by_cases c:k<i
  .rw[if_pos c];exact hw k ys2 c e
  .have:k=i:=by omega
   rw[if_neg c,if_pos this];rw[this,ex]at e;cases e;exact⟨_,S⟩
 rintro ys HC ⟨sc,ts,wl,rfl,hw⟩ p hp;rw[ell]at wl hw;have htm:∀xs∈xss,∃w,w∈ts/\∃W,Szd ⟨wi,b+aY ds,f,60⟩ ds xs ds.length W w:=λxs hx=>by
  obtain⟨k,hk,ek⟩:=List.mem_iff_getElem.mp hx;have e2:xss[k]?=some xs:=by rw[c7 hk,ek]
  obtain⟨T,S⟩:=hw k xs hk e2;refine⟨ts.getD k 0,?_,T,S⟩;rw[B6,c7 (by omega)];exact CV _
 have hmt:∀w∈ts,∃xs,xs∈xss/\∃W,Szd ⟨wi,b+aY ds,f,60⟩ ds xs ds.length W w:=λw hw2=>by
  obtain⟨k,hk,ek⟩:=List.mem_iff_getElem.mp hw2;have hk2:k<xss.length:=by omega
  obtain⟨T,S⟩:=hw k _ hk2 (c7 hk2);refine⟨xss[k],CV hk2,T,?_⟩;rw[B6,c7 hk,ek]at S;exact S
 clear hw;have sG:=ak hp (.lst (ts.map V.int));have hG:(upd HC p (.lst (ts.map V.int))) p=some (.lst (ts.map V.int)):=ah;generalize upd HC p (.lst (ts.map V.int))=HG at sG hG⊢;refine⟨_,_,_,_,rfl,rfl,(sc.trans sG) _ _ hF,hG,bi (by rw[B3,wl];simp;omega),λp4 hp4=>?_⟩;have sI:=ak hp4 (.lst ([V.int b]++ts.map V.int));refine⟨p4,b::ts,rfl,SqL.of ah,D6 _,λth hm hx=>?_⟩;generalize upd HG p4 (.lst ([V.int b]++ts.map V.int))=HI at sI⊢;dsimp only[aF];have tb:=hx b Cp;have tt:∀xs∈xss,∃W T,T<=th/\Szd ⟨wi,b+aY ds,f,60⟩ ds xs ds.length W T:=λxs hxs=>by
  obtain⟨t,ht,W,S⟩:=htm xs hxs;exact⟨W,t,hx t (Ck _ ht),S⟩
 have sJ:=T0.trans (sc.trans (sG.trans sI));clear htm hmt hm hx hp sc sG sI T0 hG hF;refine⟨_,rfl,_,rfl,_,rfl,_,_,rfl,rfl,⟨by decide,by decide⟩,_,_,rfl,rfl,(by (first|decide|(show(0:Int)<_;first|decide|omega))),_,_,rfl,rfl,_,_,rfl,?_⟩
 dsimp only[aF];have hq:b<=(if th+num/12%2<b+aY ds then th+num/12%2 else b+aY ds)/\(if th+num/12%2<b+aY ds then th+num/12%2 else b+aY ds)<=b+aY ds/\∀T,T<=th->(if T<b+aY ds then T else b+aY ds)<=(if th+num/12%2<b+aY ds then th+num/12%2 else b+aY ds):=by
  refine⟨by split<;>omega,by split<;>omega,λT hT=>?_⟩
  split<;>split<;>omega
 generalize (if th+num/12%2<b+aY ds then th+num/12%2 else b+aY ds)=hi_ at hq⊢;refine⟨le1,λp5 hp5=>?_⟩;have sK:=ak hp5 (.lst [V.int 0]);have hK:(upd HI p5 (.lst [V.int 0])) p5=some (.lst [V.int 0]):=ah;generalize upd HI p5 (.lst [V.int 0])=HK at sK hK⊢;have T0:=sJ.trans sK;refine⟨_,rfl,ly,rfl,⟨_,T0.seq hly⟩,cu (K:=K) (a:=ly) (xs:=las.map V.ref) (λi ys H2=>av HK H2/\∃gs:List Int,gs.length<=i/\ys=gs.map V.int/\(∀k xs,k<i->xss[k]?=some xs->xs≠[]->(xAt xs (xs.length-1)).1∈gs)/\∀g∈gs,0<=g/\g<=41) ⟨av.refl _,[],B4 _,rfl,(λk xs hk=>absurd hk (Cy _)),λg hg=>(by cases hg)⟩ (λi ys H2 _ g=>(T0.trans g.1).seq hly) ?_ ?_ ?_⟩
 .rintro i ys H2 hi ⟨_,gs,gl,rfl,_,_⟩;rw[B3];exact B7 (show gs.length<1000 by rw[ell]at hi;omega) (bi (B4 _))
 .rintro i y ys H2 hi ⟨s2,gs,gl,rfl,hg,gb⟩;obtain⟨lo,xs,rfl,eb,ex⟩:=qd hls.1 hi;have t2:=T0.trans s2;have xm:=Cg ex;obtain⟨R,xl⟩:=hr_ xs xm;obtain⟨as,hla,hps2⟩:=hls.2 i lo xs eb ex;refine⟨_,rfl,Cv _,λp6 hp6=>?_⟩;have s6:=ak hp6 (.lst []);refine⟨lo,p6,as.map V.ref,rfl,rfl,(t2.trans s6).seq hla,SqL.of ah,_,rfl,?_⟩;generalize upd H2 p6 (.lst [])=H6 at s6⊢;have t6:=t2.trans s6;rcases eE xs with rfl|⟨rs,x,rfl⟩
  .have:as=[]:=by
    have:=hps2.1;exact List.length_eq_zero_iff.mp this
   subst this;refine aT ?_;refine⟨s2.trans s6,gs,by omega,rfl,λk ys2 hk e ne=>?_,gb⟩;by_cases c:k<i
   .exact hg k ys2 c e ne
   .have:k=i:=by omega
    rw[this,ex]at e;cases e;exact absurd rfl ne
  .rcases eE as with rfl|⟨bs,a',rfl⟩
   .have:=hps2.1;simp at this
   have bl:bs.length=rs.length:=by
    have:=hps2.1;simp at this;exact this
   have ha':SqT K HA a' (pl x):=hps2.2 bs.length a' x (by simp) (by rw[bl];simp);have ne:(!((bs++[a']).map V.ref).isEmpty)=true:=by simp
   rw[ne];refine bM ?_;refine⟨_,rfl,_,rfl,_,_,_,_,rfl,rfl,t6.seq hla,(by rw[Ch];exact qL _ _),_,_,_,_,rfl,rfl,t6.tup ha',rfl,s2.trans s6,gs++[x.1],by simp;omega,by rw[Ch];rfl,λk ys2 hk e ne=>?_,λg hg2=>?_⟩
   .by_cases c:k<i
    .exact C9 _ (hg k ys2 c e ne)
    .have:k=i:=by omega
     rw[this,ex]at e;cases e;refine CQ _ ?_;rw[eG,Ca];simp
   .rcases List.mem_append.mp hg2 with hg2|hg2
    .exact gb g hg2
    .rw[List.mem_singleton.mp hg2];have p1:=(R.row rs.length (by simp)).p1;have p2:=R.pg rs.length (by simp);rw[eG,if_neg (CI _),if_pos rfl]at p1 p2;simp at xl;exact⟨p1,by omega⟩
 rintro ys HC ⟨sc,gs,gl,rfl,hg,gb⟩ p hp;rw[ell]at gl hg;have sG:=ak hp (.lst (gs.map V.int));have hG:(upd HC p (.lst (gs.map V.int))) p=some (.lst (gs.map V.int)):=ah;generalize upd HC p (.lst (gs.map V.int))=HG at sG hG⊢;refine⟨_,_,_,_,rfl,rfl,(sc.trans sG) _ _ hK,hG,bi (by rw[B3];simp;omega),λp7 hp7=>?_⟩;have sL:=ak hp7 (.lst ([V.int 0]++gs.map V.int));refine⟨p7,0::gs,rfl,SqL.of ah,D6 _,λpm hm hx=>?_⟩;generalize upd HG p7 (.lst ([V.int 0]++gs.map V.int))=HL_ at sL⊢;dsimp only[aF];have p0':=hx 0 Cp;have p41:pm<=41:=by
  rcases List.mem_cons.mp hm with rfl|hm
  .decide
  .exact(gb pm hm).2
 refine⟨_,rfl,_,rfl,_,rfl,_,rfl,_,_,rfl,rfl,_,rfl,_,_,rfl,rfl,⟨by decide,by decide⟩,_,_,rfl,rfl,(by (first|decide|(show(0:Int)<_;first|decide|omega))),_,_,rfl,rfl,le4,λp8 hp8=>?_⟩
 have sM:=ak hp8 (.tup [V.int wi,V.int hi_,V.int f,V.int (pm+1+num/24%4)]);have fo:c_ wi hi_ f (pm+1+num/24%4):=⟨wb.1,wb.2,by omega,by omega,f0,f60,by omega,by omega⟩;refine q p8 ⟨wi,hi_,f,pm+1+num/24%4⟩ _ (T0.trans (sc.trans (sG.trans (sL.trans sM)))) (SqT.of ah) fo rfl hq.1 (λxs hxs=>?_);obtain⟨R,xl⟩:=hr_ xs hxs;obtain⟨W1,T1,w1,S1⟩:=ww xs hxs;obtain⟨W2,T2,t2,S2⟩:=tt xs hxs;refine ut.of (F:=⟨wi,hi_,f,pm+1+num/24%4⟩) S1 S2 R xl.symm (by omega) b1 wd rfl rfl rfl rfl rfl w1 hq.1 hq.2.1 (hq.2.2 T2 t2) (λx hx2=>?_);obtain⟨k,hk,rfl⟩:=List.mem_iff_getElem.mp hx2;have e:=lA (c7 hk);have l:=zk R hk;rw[e]at l;obtain⟨j,hj,ej⟩:=List.mem_iff_getElem.mp hxs;have g:=hx _ (Ck _ (hg j xs hj (by rw[c7 hj,ej]) (λz=>by rw[z]at hk;exact absurd hk (Cy _))));show xs[k].1<pm+1+num/24%4;omega
def lZ(c:Int):Int:=(c+1)*1357913579135791357%2305843009213693951
def wY:Sp:=λvs H Q _=>∃c:Int,vs=[.int c]/\Q (.int (lZ c)) H
theorem wZ:aG ["cell"] ["cell"] (aw nk):=by walk_at "c"
theorem eQ(T:Txt P w K mg a):aS P w K mg base CX0 1 a.nW a.mz ["cell"] wY:=by
 refine T.dW.fn.ok wZ (λvs H Q E h=>?_) (λcdv A outer s H vs Q E hr h=>?_)
 .obtain⟨c,rfl,_⟩:=h;rfl
 obtain⟨c,rfl,q⟩:=h;refine⟨_,(af (au (ai aZ (ai c5 (ai aC (pv 0) ab) ab) ab))),?_⟩;exact⟨_,rfl,_,_,rfl,rfl,_,_,rfl,rfl,.inr ⟨by decide,by decide⟩,_,_,rfl,rfl,(by (first|decide|(show(0:Int)<_;first|decide|omega))),q⟩
def uK(K:PySem.W.Frag):Sp:=λvs H Q _=>∃(sa:Addr) (ns:List Int) (mo:Nat),vs=[.ref sa,.int (mo:Int)]/\SqL K H sa (ns.map V.int)/\mo<=40/\∀q (zs:List Int) H',av H H'->H' q=some (.lst (zs.map V.int))->zs.length<=40->Q (.ref q) H'
theorem dP:aG ["script","most","cells","first","many","found","k"] ["script","most"] (aw kv):=by walk_at "c"
theorem uL(T:Txt P w K mg a):aS P w K mg base CX0 2 a.kS a.jH ["script","most"] (uK K):=by
 refine T.kF.fn.ok dP (λvs H Q E h=>?_) (λcdv A outer s H vs Q E hr h=>?_)
 .obtain⟨sa,ns,mo,rfl,_⟩:=h;rfl
 obtain⟨sa,ns,mo,rfl,hS,m40,q⟩:=h;refine⟨_,(ac (am (i:=2) dP.nd rfl (Cb rfl) (iT lu (pv 0) (fv ab) (fv (ai aC (pv 1) ab))))
   (ac (am (i:=3) dP.nd rfl (Cb rfl) (aq T.d4 (fU T) (hr.mono (by decide)) rfl (aa (pv 0) (aa ab ae))))
   (ac (am (i:=4) dP.nd rfl (Cb rfl) (aA (jO rfl) rfl T.dZ C1 (aa (aA aL rfl T.bu PySem.boot_len (aa (pv 2) ae)) (aa (ai aZ (aq T.dW (eQ T) (hr.mono (by decide)) rfl (aa (pv 3) ae)) ab) ae))))
   (ac (am (i:=5) dP.nd rfl (Cb rfl) (bX ae))
   (ac (cy Ct rfl (dS rfl T.cZ (aa (pv 4) ae)) (aO (i:=6) dP.nd rfl (Cb rfl)) (af (aI (ao d_ (pv 6) (aA aL rfl T.bu PySem.boot_len (aa (pv 2) ae)) (ar _)) (af (cr (dt PySem.F.plainAttrs_list PySem.F.slot_list_append PySem.F.type_list_append cU (pv 5) (aa (aq T.dW (eQ T) (hr.mono (by decide)) rfl (aa (ag aH (pv 2) (pv 6) (λ_ _=>rfl)) ae)) ae)))) (af (cr (dt PySem.F.plainAttrs_list PySem.F.slot_list_append PySem.F.type_list_append cU (pv 5) (aa (aq T.dW (eQ T) (hr.mono (by decide)) rfl (aa (ai aC (ai c5 (ai aZ (pv 3) ab) (ai aC (ai aC (ai c5 (pv 6) (pv 6)) (pv 6)) ab)) (pv 6)) ae)) ae)))))))
   (af (au (pv 5)))))))),?_⟩
 refine⟨_,rfl,_,rfl,_,rfl,_,_,rfl,rfl,_,rfl,_,_,rfl,hS,λp1 hp1=>?_⟩;have c1:c6 (ns.map V.int) (some 2) (some ((mo:Int)+2))=((ns.drop 2).take mo).map V.int:=by
  have:=qO ns 2 (mo+2);rw[D5]at this;rw[i4,show(mo:Int)+2=((mo+2:Nat):Int) by omega];exact congrArg (List.map V.int) this
 have s1:=ak hp1 (.lst (c6 (ns.map V.int) (some 2) (some ((mo:Int)+2))));have h1:(upd H p1 (.lst (c6 (ns.map V.int) (some 2) (some ((mo:Int)+2))))) p1=some (.lst (((ns.drop 2).take mo).map V.int)):=by rw[ah,c1]
 generalize upd H p1 (.lst (c6 (ns.map V.int) (some 2) (some ((mo:Int)+2))))=H1 at s1 h1⊢;dsimp only[aF];have cl:((ns.drop 2).take mo).length<=40:=by rw[CB];omega
 generalize (ns.drop 2).take mo=cs at h1 cl;refine⟨_,rfl,sa,ns,(0:Nat),rfl,s1.seq hS,?_⟩;dsimp only[aF];generalize ns.getD 0 0=fi;refine⟨_,rfl,_,_,rfl,.inl (SqL.of h1),_,rfl,_,rfl,_,_,rfl,rfl,(by (first|decide|(show(0:Int)<_;first|decide|omega))),_,_,rfl,?_⟩
 dsimp only[aF];have m0:=C5 (lZ fi) (show(25:Int)≠0 by decide);have m1:=CZ (lZ fi) (show(0:Int)<25 by decide);generalize lZ fi%25=mi at m0 m1⊢;rw[B3];have e0:0<=(if mi>(cs.length:Int)then mi else(cs.length:Int))/\(if mi>(cs.length:Int)then mi else(cs.length:Int))<=40:=by split<;>omega
 generalize (if mi>(cs.length:Int)then mi else(cs.length:Int))=ma at e0⊢;refine⟨Cv _,λr hr=>?_⟩;have s2:=ak hr (.lst []);have hr2:(upd H1 r (.lst [])) r=some (.lst []):=ah;generalize upd H1 r (.lst [])=H2 at s2 hr2⊢;dsimp only[aF];refine⟨_,rfl,_,rfl,(by omega),(by omega),mR (λi σ H3=>av H1 H3/\∃(zs:List Int) (v:Option V),σ=[some (.ref sa),some (.int (mo:Int)),some (.ref p1),some (.int fi),some (.int ma),some (.ref r),v]/\zs.length=i/\H3 r=some (.lst (zs.map V.int))) ⟨s2,[],none,rfl,rfl,hr2⟩ ?_ ?_⟩
 .rintro i σ H3 hi ⟨s3,zs,v,rfl,zl,h3⟩;have hi:i<40:=by simp at hi;omega
  have fin:∀y:Int,(zs.map V.int).length<Cr/\(av H1 (upd H3 r (.lst (zs.map V.int++[V.int y])))/\∃(zs':List Int) (v':Option V),[some (V.ref sa),some (V.int (mo:Int)),some (V.ref p1),some (V.int fi),some (V.int ma),some (V.ref r),some (V.int (0+(i:Int)))]=[some (.ref sa),some (.int (mo:Int)),some (.ref p1),some (.int fi),some (.int ma),some (.ref r),v']/\zs'.length=i+1/\(upd H3 r (.lst (zs.map V.int++[V.int y]))) r=some (.lst (zs'.map V.int))):=λy =>
   ⟨by rw[B3,zl];exact B7 (show i<1000 by omega) (bi (B4 _)),s3.put hr,zs++[y],_,rfl,by simp[zl],by rw[ah,yO]⟩
  refine⟨_,rfl,_,rfl,_,_,rfl,.inl (SqL.of (s3 _ _ h1)),_,_,rfl,rfl,_,rfl,?_⟩;rw[B3];refine aX (λc=>?_) (λc=>?_)
  .have c':i<cs.length:=by have:=of_decide_eq_true c;omega
   obtain⟨y,hy⟩:∃y,atI (cs.map V.int) (0+(i:Int))=some (V.int y):=⟨cs[i],by rw[D4];exact cY (by rw[B_,c7 c'];rfl)⟩;exact⟨_,rfl,.inl ⟨rfl,_,SqL.of h3⟩,_,rfl,_,rfl,_,_,_,_,rfl,rfl,SqL.of (s3 _ _ h1),hy,_,rfl,_,_,_,rfl,rfl,h3,fin _⟩
  .have f0:=C5 fi (show(1000003:Int)≠0 by decide);have f1:=CZ fi (show(0:Int)<1000003 by decide);exact⟨_,rfl,.inl ⟨rfl,_,SqL.of h3⟩,_,rfl,_,_,rfl,rfl,(by (first|decide|(show(0:Int)<_;first|decide|omega))),_,rfl,_,rfl,_,_,rfl,rfl,.inl ⟨by omega,by omega⟩,_,rfl,_,_,rfl,rfl,_,_,rfl,rfl,_,_,rfl,rfl,.inl ⟨by omega,by omega⟩,_,rfl,_,_,rfl,rfl,_,rfl,_,_,_,rfl,rfl,h3,fin _⟩
 .rintro σ H3 ⟨s3,zs,v,rfl,zl,h3⟩;exact⟨_,rfl,q r zs H3 (s1.trans s3) h3 (by omega)⟩
theorem BA:(PySem.Str.ofString "!\"#$&'()*+,-./0123456789:;<=>?@ABCDEFGHIJKLMNOPQRSTUVWXYZ[\\]^_")++(PySem.Str.ofString "`abcdefghijklmnopqrstuvwxyz{|}~")=tx oX:=by decide +kernel
theorem BB:(PySem.Str.ofString "!\"#$&'()*+,-./0123456789:;<=>?@ABCDEFGHIJKLMNOPQRSTUVWXYZ[\\]^_").length+(PySem.Str.ofString "`abcdefghijklmnopqrstuvwxyz{|}~").length<=1000:=by decide +kernel
theorem ce:(PySem.Str.ofString "")=tx []:=by decide +kernel
theorem Ba(k:Int):∃c,atI (tx oX).cps.toList (k%93)=some c/\33<=c/\c<127:=by
 have b1:=C5 k (show(93:Int)≠0 by decide);have b2:=CZ k (show(0:Int)<93 by decide);obtain⟨d,hd⟩:=CP b1;rw[hd];have hd2:d<93:=by omega
 have hl:d<oX.length:=hd2;refine⟨oX.getD d 0,?_,AT d hd2⟩;refine cY ?_;show(oX.toArray.toList)[d]?=_;rw[B6,c7 hl];rfl
def w5:Sp:=λvs H Q _=>∃n size:Int,vs=[.int n,.int size]/\1<=size/\size<=60/\∀(l:List Nat) (H':Hp),av H H'->1<=l.length->l.length<=60->(∀c∈l,33<=c/\c<127)->Q (.str (tx l)) H'
theorem iG:aG ["number","size","some","step"] ["number","size"] (aw nq):=by walk_at "c"
theorem w6(T:Txt P w K mg a):aS P w K mg base CX0 1 a.nY a.mC ["number","size"] w5:=by
 refine T.nP.fn.ok iG (λvs H Q E h=>?_) (λcdv A outer s H vs Q E hr h=>?_)
 .obtain⟨n,size,rfl,_⟩:=h;rfl
 obtain⟨n,size,rfl,z1,z2,q⟩:=h;refine⟨_,(ac (am (i:=2) iG.nd rfl (Ex rfl) bv)
   (ac (am (i:=2) iG.nd rfl (Ex rfl) (ai iB (pv 2) bv))
   (ac (am (i:=3) iG.nd rfl (Ex rfl) (ai aC ab (ai aZ (ai bP (pv 0) ab) ab)))
   (af (au (dt PySem.F.plainAttrs_str PySem.F.slot_str_join PySem.F.type_str_join vF bv (aa (dJ rfl (dC (caps:=["number","some","step"]) (js:=[0,2,3]) (cap:=⟨⟨rfl,.inl rfl,rfl,.inl rfl⟩,⟨⟨rfl,.inl rfl,rfl,.inl rfl⟩,⟨⟨rfl,.inl rfl,rfl,.inl rfl⟩,trivial⟩⟩⟩)) (dS rfl T.cZ (aa (pv 1) ae)) (λ_ _ _ _=>b7) (λ_ _ _ _=>(ag AG (pv 2) (ai aZ (ai aC (pv 1) (ai c5 (pv 0) (pv 3))) ab) (λ_ _=>rfl)))) ae))))))),?_⟩
 refine⟨_,rfl,_,_,rfl,rfl,bi BB,?_⟩;rw[BA];refine⟨_,rfl,_,_,rfl,rfl,⟨by decide,by decide⟩,_,_,rfl,rfl,(by (first|decide|(show(0:Int)<_;first|decide|omega))),_,_,rfl,rfl,?_⟩
 have b1:=C5 (n/93) (show(92:Int)≠0 by decide);have b2:=CZ (n/93) (show(0:Int)<92 by decide);obtain⟨k,hk⟩:=CP (show 0<=size by omega);subst hk;refine⟨rfl,_,rfl,_,rfl,(by omega),(by omega),iU (λi ys H'=>H'=H/\∃cs:List Nat,cs.length=i/\(∀d∈cs,33<=d/\d<127)/\ys=cs.map λd=>V.str (tx [d])) ⟨rfl,[],rfl,by simp,rfl⟩ ?_ ?_ ?_⟩
 .rintro i ys H' hi ⟨_,cs,hl,_,rfl⟩;rw[B3,hl];exact B7 (show i<1000 by simp at hi;omega) (bi (B4 _))
 .rintro i ys H' hi ⟨rfl,cs,hl,hd,rfl⟩;refine cz ?_;have hi':i<60:=by simp at hi;omega
  obtain⟨c,ec,hc⟩:=Ba (n+(0+(i:Int))*(1+n/93%92));refine⟨_,rfl,_,rfl,_,rfl,_,rfl,_,_,rfl,rfl,.inl ⟨by omega,by omega⟩,_,_,rfl,rfl,_,_,rfl,rfl,(by (first|decide|(show(0:Int)<_;first|decide|omega))),_,_,_,rfl,rfl,bi (by rw[bz];decide),ec,rfl,cs++[c],by simp[hl],?_,by simp⟩
  intro e he;rcases List.mem_append.mp he with he|he
  .exact hd e he
  .rw[List.mem_singleton.mp he];exact hc
 .rintro ys H' ⟨rfl,cs,hl,hd,rfl⟩ p hp;have hl':cs.length=k:=by rw[hl];simp
  have g1:av H' (upd H' p (.lst (cs.map λd=>V.str (tx [d])))):=ak hp _;refine⟨_,p,cs.map (λd=>tx [d]),rfl,rfl,SqL.of (by rw[ah,DS];rfl),by decide,by rw[vJ,B3];omega,?_⟩;have ej:Txt.join (PySem.Str.ofString "") (cs.map λd=>tx [d])=tx cs:=by
   have:=qI [] (cs.map λd=>[d]);rw[DS,tW]at this;rw[ce];exact this
  rw[ej];exact q _ _ g1 (by omega) (by omega) hd
def yr(K:PySem.W.Frag):Sp:=λvs H Q _=>∃(n:Int) (many:Nat) (big:Bool),vs=[.int n,.int (many:Int),.bl big]/\1<=many/\∀q s H',av H H'->SqT K H' q (lI s)->eC many s->Q (.ref q) H'
theorem g_:aG ["number","many","big","kind","size"] ["number","many","big"] (aw o6):=by walk_at "c"
theorem rX(T:Txt P w K mg a):aS P w K mg base CX0 2 a.pE a.ol ["number","many","big"] (yr K):=by
 refine T.l9.fn.ok g_ (λvs H Q E h=>?_) (λcdv A outer s H vs Q E hr h=>?_)
 .obtain⟨n,many,big,rfl,_⟩:=h;rfl
 obtain⟨n,many,big,rfl,m1,q⟩:=h;refine⟨_,(ac (am (i:=3) g_.nd rfl (Cb rfl) (ai aZ (pv 0) ab))
   (ac (am (i:=0) g_.nd rfl (Cb rfl) (ai bP (pv 0) ab))
   (ac (aI (ao a_ (pv 3) ab (ar _)) (af (au (bj (aa bv (aa (ai aZ (pv 0) (pv 1)) ae))))) aD)
   (ac (aI (ao a_ (pv 3) ab (ar _)) (af (au (bj (aa bv (aa (ai aZ (pv 0) (pv 1)) ae))))) aD)
   (ac (am (i:=4) g_.nd rfl (Cb rfl) (ai aC ab (ai aZ (pv 0) ab)))
   (ac (aI (PW.pt (bW (bV (pv 2) (λ_=>rfl)) (bK (ao a_ (ai aZ (ai bP (pv 0) ab) ab) ab (ar _))))) (af (am (i:=4) g_.nd rfl (Cb rfl) (ai aC ab (ai aZ (ai bP (pv 0) ab) ab)))) aD)
   (af (au (bj (aa bv (aa (aq T.nP (w6 T) (hr.mono (by decide)) rfl (aa (ai bP (pv 0) ab) (aa (pv 4) ae))) ae))))))))))),?_⟩
 have mp:(0:Int)<(many:Int):=by omega
 refine⟨_,rfl,_,_,rfl,rfl,(by (first|decide|(show(0:Int)<_;first|decide|omega))),?_⟩
 dsimp only[aF];refine⟨_,rfl,_,_,rfl,rfl,⟨by decide,by decide⟩,?_⟩;dsimp only[aF];generalize n/4=n4;have AV:∃z:Nat,n4%(many:Int)=(z:Int)/\z<many:=by
  have a0:=C5 n4 (show(many:Int)≠0 by omega);have a1:=CZ n4 mp;exact⟨(n4%(many:Int)).toNat,by omega,by omega⟩
 obtain⟨z,ez,hz⟩:=AV;refine⟨_,rfl,rfl,_,rfl,?_⟩;refine aX (λc=>?_) (λc=>?_)
 .refine⟨_,rfl,_,rfl,_,_,rfl,rfl,mp,le2,λp hp=>?_⟩;exact q p (.page z) _ (ak hp _) (SqT.of (by rw[ah];show some (HO.tup [V.str (PySem.Str.ofString "page"),V.int (n4%(many:Int))])=_;rw[ez];rfl)) hz
 dsimp only[cm];refine⟨_,rfl,rfl,_,rfl,?_⟩;refine aX (λc=>?_) (λc=>?_)
 .refine⟨_,rfl,_,rfl,_,_,rfl,rfl,mp,le2,λp hp=>?_⟩;exact q p (.row z) _ (ak hp _) (SqT.of (by rw[ah];show some (HO.tup [V.str (PySem.Str.ofString "row"),V.int (n4%(many:Int))])=_;rw[ez];rfl)) hz
 dsimp only[cm];refine⟨_,rfl,_,_,rfl,rfl,(by (first|decide|(show(0:Int)<_;first|decide|omega))),_,_,rfl,rfl,?_⟩
 dsimp only[aF];refine bQ (λσ' H'=>H'=H/\∃sz:Int,σ'=[some (.int n4),some (.int (many:Int)),some (.bl big),some (.int (n%4)),some (.int sz)]/\1<=sz/\sz<=60) ?_ (λkey=>?_)
 rotate_left
 .have stay:=key [some (V.int n4),some (V.int (many:Int)),some (V.bl big),some (V.int (n%4)),some (V.int (1+n4%12))] H ⟨rfl,_,rfl,by omega,by omega⟩;refine⟨_,rfl,_,rfl,?_⟩;cases big with
  |false=>exact b4 (λ_=>stay) (λz=>absurd z (by decide))
  |true =>
   refine b4 (λz=>absurd rfl z) (λ_=>?_);refine⟨_,rfl,_,_,rfl,rfl,⟨by decide,by decide⟩,_,_,rfl,rfl,(by (first|decide|(show(0:Int)<_;first|decide|omega))),rfl,_,rfl,?_⟩
   refine aX (λc=>?_) (λc=>stay);refine⟨_,rfl,_,_,rfl,rfl,⟨by decide,by decide⟩,_,_,rfl,rfl,(by (first|decide|(show(0:Int)<_;first|decide|omega))),_,_,rfl,rfl,?_⟩
   exact key _ _ ⟨rfl,_,rfl,by omega,by omega⟩
 rintro σ' H' ⟨rfl,sz,rfl,z1,z2⟩;refine⟨_,rfl,_,_,rfl,rfl,⟨by decide,by decide⟩,_,rfl,_,sz,rfl,z1,z2,λl H2 s2 l1 l2 l3=>?_⟩;refine⟨le2,λp hp=>?_⟩;exact q p (.text l) _ (s2.trans (ak hp _)) (SqT.of ah) ⟨l1,l2,l3⟩
theorem yt(ds:List Wd)(d:Wd):aY (ds++[d])=aY ds+(d.foot.length:Int):=by
 unfold aY;rw[Ch,D9];simp
theorem BC(n:Int):∃c:Nat,atI [V.int 0,V.int 0,V.int 0,V.int 0,V.int 0,V.int 1,V.int 2,V.int 4] (n%8)=some (V.int (c:Int))/\c<=4:=by
 have h:n%8=0\/n%8=1\/n%8=2\/n%8=3\/n%8=4\/n%8=5\/n%8=6\/n%8=7:=by omega
 rcases h with h|h|h|h|h|h|h|h<;>rw[h]
 .exact⟨0,rfl,by decide⟩
 .exact⟨0,rfl,by decide⟩
 .exact⟨0,rfl,by decide⟩
 .exact⟨0,rfl,by decide⟩
 .exact⟨0,rfl,by decide⟩
 .exact⟨1,rfl,by decide⟩
 .exact⟨2,rfl,by decide⟩
 .exact⟨4,rfl,by decide⟩
def w_(K:PySem.W.Frag):Sp:=λvs H Q _=>∃(na:Addr) (zs:List Int) (big:Bool),vs=[.ref na,.bl big]/\SqL K H na (zs.map V.int)/\zs.length<=40/\∀q (as:List Addr) (ds:List Wd) H',av H H'->H' q=some (.lst (as.map V.ref))->fN K H' as ds->ds.length=zs.length->(∀d∈ds,dN ds.length d)->aY ds<=40->Q (.ref q) H'
theorem cQ:aG ["numbers","big","left","parts","number","many","own","foot"] ["numbers","big"] (aw nt):=by walk_at "c"
theorem xa(T:Txt P w K mg a):aS P w K mg base CX0 3 a.nX a.mB ["numbers","big"] (w_ K):=by
 refine T.nO.fn.ok cQ (λvs H Q E h=>?_) (λcdv A outer s H vs Q E hr h=>?_)
 .obtain⟨na,zs,big,rfl,_⟩:=h;rfl
 obtain⟨na,zs,big,rfl,hn,z40,q⟩:=h;refine⟨_,(ac (am (i:=2) cQ.nd rfl (Cb rfl) ab)
   (ac (am (i:=3) cQ.nd rfl (Cb rfl) (bX ae))
   (ac (cy Ct rfl (bL (pv 0)) (aO (i:=4) cQ.nd rfl (Ex rfl)) (ac (am (i:=4) cQ.nd rfl (Ex rfl) (ai bP (pv 4) ab))
   (ac (am (i:=5) cQ.nd rfl (Cb rfl) (aA (jP rfl) rfl T.iL Eb (aa (pv 2) (aa (ag aH (bX (wE (CL.int (CL.int (CL.int (CL.int (CL.int (CL.int (CL.int (CL.int CL.nil)))))))))) (ai aZ (pv 4) ab) (λ_ _=>rfl)) ae))))
   (ac (am (i:=2) cQ.nd rfl (Cb rfl) (ai bZ (pv 2) (pv 5)))
   (ac (am (i:=6) cQ.nd rfl (Cb rfl) (aq T.l9 (rX T) (hr.mono (by decide)) rfl (aa (ai bP (pv 4) ab) (aa (aA aL rfl T.bu PySem.boot_len (aa (pv 0) ae)) (aa (pv 1) ae)))))
   (ac (pX (k:=7) rfl (dC (caps:=["numbers","big","number"]) (js:=[0,1,4]) (cap:=⟨⟨rfl,.inl rfl,rfl,.inl rfl⟩,⟨⟨rfl,.inl rfl,rfl,.inl rfl⟩,⟨⟨rfl,.inl rfl,rfl,.inl rfl⟩,trivial⟩⟩⟩)) (dS rfl T.cZ (aa (pv 5) ae)) (λ_ _ _ _=>b7) (λ_ _ _ _=>(aq T.l9 (rX T) (hr.mono (by decide)) rfl (aa (aq T.dW (eQ T) (hr.mono (by decide)) rfl (aa (ai c5 (pv 3) (ai aC (ai aC (ai c5 (pv 0) (pv 0)) (ai c5 ab (pv 0))) ab)) ae)) (aa (aA (r:=AZ K) aL rfl T.bu PySem.boot_len (aa (pv 1) ae)) (aa (pv 2) ae))))) cQ.nd rfl rfl)
   (af (cr (dt PySem.F.plainAttrs_list PySem.F.slot_list_append PySem.F.type_list_append cU (pv 3) (aa (bj (aa (pv 6) (aa (pv 7) ae))) ae))))))))))
   (af (au (pv 3)))))),?_⟩
 have ez:(zs.map V.int).length=zs.length:=B3 _;refine⟨Cv _,λr hr=>?_⟩;have s1:=ak hr (.lst []);have hr1:(upd H r (.lst [])) r=some (.lst []):=ah;generalize upd H r (.lst [])=H1 at s1 hr1⊢;dsimp only[aF];refine⟨_,rfl,_,rfl,⟨_,s1.seq hn⟩,eX (K:=K) (a:=na) (xs:=zs.map V.int) (λi σ H2=>av H H2/\∃(as:List Addr) (ds:List Wd) (left:Int) (v1 v2 v3 v4:Option V),σ=[some (.ref na),some (.bl big),some (.int left),some (.ref r),v1,v2,v3,v4]/\H2 r=some (.lst (as.map V.ref))/\fN K (er1 H2 r) as ds/\ds.length=i/\(∀d∈ds,dN zs.length d)/\0<=left/\left+aY ds<=40) ⟨s1,[],[],40,none,none,none,none,rfl,hr1,fN.nil,rfl,(λd hd=>(by cases hd)),(by decide),(by decide)⟩ (λi σ H2 _ h2=>h2.1.seq hn) ?_ ?_⟩
 rotate_left
 .rintro σ H2 ⟨s2,as,ds,left,v1,v2,v3,v4,rfl,hr2,pa,dl,wd,l0,l1⟩;rw[ez]at dl;exact⟨_,rfl,q r as ds H2 s2 hr2 (pa.same (ui H2 r)) dl (by rw[dl];exact wd) (by omega)⟩
 rintro i y σ H2 hi ⟨s2,as,ds,left,v1,v2,v3,v4,rfl,hr2,pa,dl,wd,l0,l1⟩;obtain⟨c,rfl,ec⟩:=qP hi;have hiz:i<zs.length:=(List.getElem?_eq_some_iff.mp ec).1;refine⟨_,rfl,_,_,rfl,rfl,⟨by decide,by decide⟩,?_⟩;dsimp only[aF];have n0:True:=trivial;generalize c/82944=nu;refine⟨_,rfl,bi (by decide),λp2 hp2=>?_⟩;have s3:=ak hp2 (.lst [V.int 0,V.int 0,V.int 0,V.int 0,V.int 0,V.int 1,V.int 2,V.int 4]);have h3:(upd H2 p2 (.lst [V.int 0,V.int 0,V.int 0,V.int 0,V.int 0,V.int 1,V.int 2,V.int 4])) p2=some (.lst [V.int 0,V.int 0,V.int 0,V.int 0,V.int 0,V.int 1,V.int 2,V.int 4]):=ah;generalize upd H2 p2 (.lst [V.int 0,V.int 0,V.int 0,V.int 0,V.int 0,V.int 1,V.int 2,V.int 4])=H3 at s3 h3⊢;obtain⟨c8,e8,l8⟩:=BC nu;refine⟨_,rfl,_,_,rfl,rfl,(by (first|decide|(show(0:Int)<_;first|decide|omega))),_,_,_,_,rfl,rfl,SqL.of h3,e8,_,_,rfl,?_⟩
 dsimp only[aF];have mb:0<=(if(c8:Int)<left then(c8:Int)else left)/\(if(c8:Int)<left then(c8:Int)else left)<=4/\(if(c8:Int)<left then(c8:Int)else left)<=left:=by split<;>omega
 generalize (if(c8:Int)<left then(c8:Int)else left)=my at mb⊢;obtain⟨mm,rfl⟩:=CP mb.1;refine⟨_,rfl,_,rfl,_,_,rfl,rfl,?_⟩;dsimp only[aF];have t3:=s2.trans s3;refine⟨_,rfl,_,_,rfl,rfl,⟨by decide,by decide⟩,_,rfl,_,_,rfl,.inl (t3.seq hn),_,rfl,nu/8,zs.length,big,(by rw[ez];rfl),(by omega),λso sy H4 s4 hso sok=>?_⟩;dsimp only[aF];have t4:=t3.trans s4;have hr4:=(s3.trans s4) _ _ hr2;refine⟨_,rfl,_,rfl,(by omega),(by omega),?_⟩;refine iU (λk ys H5=>av H4 H5/\∃(bs:List Addr) (ss:List Say),ss.length=k/\ys=bs.map V.ref/\cP K H5 bs ss/\∀s∈ss,eC zs.length s) ⟨av.refl _,[],[],rfl,rfl,cP.nil,λs hs=>(by cases hs)⟩ ?_ ?_ ?_
 .rintro k ys H5 hk ⟨_,bs,ss,sl,rfl,hb,_⟩;rw[B3,hb.1,sl];exact B7 (show k<1000 by simp at hk;omega) (bi (B4 _))
 .rintro k ys H5 hk ⟨s5,bs,ss,sl,rfl,hb,so5⟩;have hk:k<4:=by simp at hk;omega
  have kk:(0+(k:Int))*(0+(k:Int))<=16:=by
   have:k=0\/k=1\/k=2\/k=3:=by omega
   rcases this with rfl|rfl|rfl|rfl<;>decide
  have kk0:0<=(0+(k:Int))*(0+(k:Int)):=FC (by omega) (by omega);refine cz ?_;refine⟨_,rfl,_,rfl,_,rfl,_,_,rfl,rfl,.inl ⟨by omega,by omega⟩,_,rfl,_,_,rfl,rfl,.inl ⟨by decide,by decide⟩,_,_,rfl,rfl,_,_,rfl,rfl,_,_,rfl,rfl,.inr ⟨by omega,by omega⟩,_,rfl,_,rfl,_,_,rfl,.inl ((t4.trans s5).seq hn),_,rfl,lZ (nu*((0+(k:Int))*(0+(k:Int))+3*(0+(k:Int))+3)),zs.length,big,(by rw[ez];rfl),(by omega),λq6 s6' H6 s6 hq6 ok6=>?_⟩;refine⟨s5.trans s6,bs++[q6],ss++[s6'],by simp[sl],fB _ _,(hb.same s6).app (cP.one hq6),λs hs=>?_⟩;rcases List.mem_append.mp hs with hs|hs
  .exact so5 s hs
  .rw[List.mem_singleton.mp hs];exact ok6
 rintro ys H5 ⟨s5,bs,ss,sl,rfl,hb,so5⟩ fo hfo;simp only[Dt]at sl;have s6:=ak hfo (.lst (bs.map V.ref));have hf6:(upd H5 fo (.lst (bs.map V.ref))) fo=some (.lst (bs.map V.ref)):=ah;have nfo:fo≠r:=λz=>by rw[z]at hfo;rw[s5 _ _ hr4]at hfo;cases hfo
 generalize upd H5 fo (.lst (bs.map V.ref))=H6 at s6 hf6⊢;dsimp only[aF];have t6:=t4.trans (s5.trans s6);have hr6:=(s5.trans s6) _ _ hr4;refine⟨_,rfl,.inl ⟨rfl,_,SqL.of hr6⟩,_,rfl,_,rfl,le2,λp3 hp3=>?_⟩;have s7:=ak hp3 (.tup [V.ref so,V.ref fo]);have h7:SqT K (upd H6 p3 (.tup [V.ref so,V.ref fo])) p3 [V.ref so,V.ref fo]:=SqT.of ah;generalize upd H6 p3 (.tup [V.ref so,V.ref fo])=H7 at s7 h7⊢;have hr7:=s7 _ _ hr6;have u7:=s3.trans (s4.trans (s5.trans (s6.trans s7)));refine⟨_,_,_,rfl,rfl,hr7,?_,?_⟩
 .rw[B3,pa.1,dl];exact B7 (show i<1000 by omega) (bi (B4 _))
 refine⟨(t6.trans s7).put hr,as++[p3],ds++[⟨0,false,sy,ss⟩],_,_,_,_,_,rfl,by rw[ah,fB],?_,by simp[dl],λd hd=>?_,by omega,?_⟩
 .rw[vR];exact(pa.same (uk u7)).snoc ⟨so,fo,bs,ox hr7 h7,ox hr7 ((s5.trans (s6.trans s7)).tup hso),SqL.of (by rw[uj nfo];exact s7 _ _ hf6),⟨hb.1,λj b s e1 e2=>ox hr7 ((s6.trans s7).tup (hb.2 j b s e1 e2))⟩⟩
 .rcases List.mem_append.mp hd with hd|hd
  .exact wd d hd
  .rw[List.mem_singleton.mp hd];exact⟨by show(0:Int)<=0;decide,by show(0:Int)<=4;decide,sok,so5,by show ss.length<=40;omega⟩
 .rw[yt];show left-(mm:Int)+(aY ds+(ss.length:Int))<=40;omega
def u5(K:PySem.W.Frag):Sp:=λvs H Q _=>∃(na:Addr) (zs:List Int) (b ro:Int),vs=[.ref na,.int b,.int ro]/\SqL K H na (zs.map V.int)/\1<=b/\b<=6/\zs.length<=40/\∀q (as:List Addr) (xs:List (Int×Int)) H',av H H'->H q=none->H' q=some (.lst (as.map V.ref))->aV K H' as xs->xs.length=zs.length->Ris b xs->Q (.ref q) H'
theorem br:aG ["numbers","base","room","found","page","row","count","k","number","old","step","far"] ["numbers","base","room"] (aw lQ):=by walk_at "c"
theorem oG(T:Txt P w K mg a):aS P w K mg base CX0 1 a.mh a.lc ["numbers","base","room"] (u5 K):=by
 refine T.iI.fn.ok br (λvs H Q E h=>?_) (λcdv A outer s H vs Q E hr h=>?_)
 .obtain⟨na,zs,b,ro,rfl,_⟩:=h;rfl
 obtain⟨na,zs,b,ro,rfl,hn,b1,b6,z40,q⟩:=h;have hu:=C2 (eJ hr);refine⟨_,(ac (am (i:=3) br.nd rfl (Cb rfl) (bX ae))
   (ac (am (i:=4) br.nd rfl (Cb rfl) ab)
   (ac (am (i:=5) br.nd rfl (Cb rfl) ab)
   (ac (am (i:=6) br.nd rfl (Cb rfl) ab)
   (ac (cy Ct rfl (iN rfl T.b8 (pv 0)) (dn rfl (a8 (aO (i:=7) br.nd rfl (Cb rfl)) (a8 (aO (i:=8) br.nd rfl (Cb rfl)) cK))) (ac (am (i:=9) br.nd rfl (Cb rfl) (bj (aa (pv 4) (aa (pv 5) ae))))
   (ac (am (i:=10) br.nd rfl (Cb rfl) (ai aZ (pv 8) ab))
   (ac (am (i:=11) br.nd rfl (Cb rfl) (ai bP (pv 8) ab))
   (ac (aI (ao a_ (pv 7) ab (ar _)) (ac (am (i:=4) br.nd rfl (Cb rfl) (ai aZ (pv 11) ab))
   (af (am (i:=5) br.nd rfl (Cb rfl) (ai c5 (ai aZ (ai bP (pv 11) ab) ab) (ai aZ (ai bP (pv 11) ab) (pv 1)))))) (af (aI (ao di (pv 10) ab (ar _)) (ac (am (i:=4) br.nd rfl (Cb rfl) (ai aC (ai aC (pv 4) ab) (cS rB rfl T.gR DP (aa (pU (cX a_ (pv 10) ab (ar _)) (mO (cX fG (pv 4) (pv 7) (ar _)))) ae))))
   (af (am (i:=5) br.nd rfl (Cb rfl) (ai c5 (ai aZ (pv 11) ab) (ai aZ (ai bP (pv 11) ab) (pv 1)))))) (af (aI (PW.pt (cH (ao di (pv 10) ab (ar _)) (cx (ao lG (pv 6) (pv 2) (ar _))))) (ac (am (i:=4) br.nd rfl (Cb rfl) (ai aC (pv 4) (ai bP (ai aC (pv 5) ab) (pv 1))))
   (af (am (i:=5) br.nd rfl (Cb rfl) (ai aZ (ai aC (pv 5) ab) (pv 1))))) aD)))))
   (ac (aI (PW.pt (cH (ao (xR hu) (bj (aa (pv 4) (aa (pv 5) ae))) (pv 9) (ar _)) (cx (ao a_ (pv 7) ab (ar _))))) (af (am (i:=6) br.nd rfl (Cb rfl) ab)) aD)
   (ac (am (i:=6) br.nd rfl (Cb rfl) (ai aC (pv 6) ab))
   (af (cr (dt PySem.F.plainAttrs_list PySem.F.slot_list_append PySem.F.type_list_append cU (pv 3) (aa (bj (aa (pv 4) (aa (pv 5) ae))) ae)))))))))))
   (af (au (pv 3)))))))),?_⟩
 have ez:(zs.map V.int).length=zs.length:=B3 _;refine(⟨Cv _,λr hr=>?_⟩);have s1:=ak hr (.lst []);have hr1:(upd H r (.lst [])) r=some (.lst []):=ah;generalize upd H r (.lst [])=H1 at s1 hr1⊢;dsimp only[aF];refine(⟨_,rfl,na,rfl,⟨_,s1.seq hn⟩,gk (K:=K) (a:=na) (xs:=zs.map V.int) (λi σ H2=>av H H2/\∃(as:List Addr) (xs:List (Int×Int)) (page row cnt:Int) (v7 v8 v9 v10 v11:Option V),σ=[some (.ref na),some (.int b),some (.int ro),some (.ref r),some (.int page),some (.int row),some (.int cnt),v7,v8,v9,v10,v11]/\H2 r=some (.lst (as.map V.ref))/\aV K H2 as xs/\xs.length=i/\Ris b xs/\(0<i->xAt xs (i-1)=(page,row))/\0<=page/\0<=row/\row<b/\page<=(i:Int)+1) ?_ ?_ ?_ ?_⟩)
 .exact(⟨s1,[],[],0,0,0,none,none,none,none,none,rfl,hr1,aV.nil,rfl,⟨λk hk=>absurd hk (Cy _),λk hk=>absurd hk (Cy _),λk _ hk=>absurd hk (Cy _)⟩,λz=>absurd z (CI _),by decide,by decide,by omega,by decide⟩)
 .rintro i σ H2 _ ⟨s2,_⟩;exact s2.seq hn
 rotate_left
 .rintro σ H2 ⟨s2,as,xs,page,row,cnt,v7,v8,v9,v10,v11,rfl,hr2,pa,xl,R,_,_,_,_,_⟩;exact(⟨_,rfl,q r as xs H2 s2 hr hr2 pa (by rw[xl,ez]) R⟩)
 rintro i x σ H2 p hx ⟨s2,as,xs,page,row,cnt,v7,v8,v9,v10,v11,rfl,hr2,pa,xl,R,lp,p0,r0,rb,pi_⟩ hp;obtain⟨c,rfl,ec⟩:=qP hx;have hiz:i<zs.length:=(List.getElem?_eq_some_iff.mp ec).1;have s3:=ak hp (.tup [.int (i:Int),.int c]);refine(⟨p,_,rfl,SqT.of ah,rfl,_,_,rfl,_,_,rfl,rfl,?_⟩);generalize upd H2 p (.tup [.int (i:Int),.int c])=H3 at s3⊢;dsimp only[aF];refine(⟨_,rfl,_,rfl,le2,λp2 hp2=>?_⟩);have s4:=ak hp2 (.tup [V.int page,V.int row]);have h4:SqT K (upd H3 p2 (.tup [V.int page,V.int row])) p2 [V.int page,V.int row]:=SqT.of ah;generalize upd H3 p2 (.tup [V.int page,V.int row])=H4 at s4 h4⊢;dsimp only[aF];refine(⟨_,rfl,_,_,rfl,rfl,(by (first|decide|(show(0:Int)<_;first|decide|omega))),?_⟩)
 dsimp only[aF];refine(⟨_,rfl,_,_,rfl,rfl,⟨by decide,by decide⟩,?_⟩);dsimp only[aF];generalize c/8=far;generalize c%8=stp;refine bQ (λσ' H'=>H'=H4/\∃pg' rw':Int,σ'=[some (.ref na),some (.int b),some (.int ro),some (.ref r),some (.int pg'),some (.int rw'),some (.int cnt),some (.int (i:Int)),some (.int c),some (.ref p2),some (.int stp),some (.int far)]/\0<=pg'/\0<=rw'/\rw'<b/\pg'<=(i:Int)+2/\(0<i->az (pg',rw') (page,row)=false)) ?_ (λkey=>?_)
 rotate_left
 .refine(⟨_,rfl,rfl,_,rfl,?_⟩);refine aX (λc0=>?_) (λc0=>?_)
  .have i0:i=0:=by have:=bB.mp c0;omega
   refine(⟨_,rfl,_,_,rfl,rfl,(by (first|decide|(show(0:Int)<_;first|decide|omega))),?_⟩)
   refine(⟨_,rfl,_,_,rfl,rfl,⟨by decide,by decide⟩,_,_,rfl,rfl,(by (first|decide|(show(0:Int)<_;first|decide|omega))),_,rfl,_,_,rfl,rfl,⟨by decide,by decide⟩,_,rfl,_,_,rfl,rfl,(by omega),_,_,rfl,rfl,.inl ⟨by omega,by omega⟩,?_⟩)
   have bb:=qU (far/3) (far/6) b b1;exact key _ _ ⟨rfl,_,_,rfl,by omega,bb.1,bb.2,by omega,λz=>absurd z (by omega)⟩
  .refine(⟨_,rfl,_,_,rfl,rfl,_,rfl,?_⟩);refine aX (λc4=>?_) (λc4=>?_)
   .have bb:=qU far (far/2) b b1;have ge:∀e:Int,0<=e->az (page+1+e,far%2*(far/2%b)) (page,row)=false:=λe e0=>by
     rw[aJ];show ¬ (page+1+e<page\/page+1+e=page/\_);omega
    refine(⟨_,rfl,_,_,rfl,rfl,_,rfl,rfl,_,rfl,?_⟩);refine aX (λc7=>?_) (λc7=>?_)
    .refine(⟨_,rfl,_,rfl,_,_,rfl,rfl,.inr ⟨_,rfl,_,_,rfl,rfl,?_⟩⟩);refine(⟨_,rfl,_,_,rfl,rfl,(by (first|decide|(show(0:Int)<_;first|decide|omega))),_,rfl,_,_,rfl,rfl,⟨by decide,by decide⟩,_,rfl,_,_,rfl,rfl,(by omega),_,_,rfl,rfl,.inl ⟨by omega,by omega⟩,?_⟩)
     have ee:0<=(if decide (page<=(i:Int))=true then(1:Int)else 0)/\page+(if decide (page<=(i:Int))=true then(1:Int)else 0)<=(i:Int)+1:=by
      by_cases z:page<=(i:Int)
      .rw[decide_eq_true z,if_pos rfl];omega
      .rw[decide_eq_false z,if_neg (by decide)];omega
     exact key _ _ ⟨rfl,_,_,rfl,by omega,bb.1,bb.2,by omega,λ_=>ge _ ee.1⟩
    .refine .inr ⟨_,rfl,_,_,rfl,rfl,?_⟩;refine(⟨_,rfl,_,_,rfl,rfl,(by (first|decide|(show(0:Int)<_;first|decide|omega))),_,rfl,_,_,rfl,rfl,⟨by decide,by decide⟩,_,rfl,_,_,rfl,rfl,(by omega),_,_,rfl,rfl,.inl ⟨by omega,by omega⟩,?_⟩)
     have e7:(if false=true then(1:Int)else 0)=0:=rfl;exact key _ _ ⟨rfl,_,_,rfl,by omega,bb.1,bb.2,by omega,λ_=>ge _ (by omega)⟩
   .refine(⟨_,rfl,_,_,rfl,rfl,_,rfl,?_⟩);refine orG (λ_=>?_) (λ_=>?_)
    .refine(⟨_,rfl,_,rfl,_,_,rfl,rfl,_,rfl,_,_,rfl,rfl,⟨by omega,by omega⟩,_,_,rfl,rfl,?_⟩);refine(⟨_,rfl,_,_,rfl,rfl,_,rfl,_,_,rfl,rfl,(by omega),?_⟩);have nr:=uv r0 rb;refine key _ _ ⟨rfl,_,_,rfl,by omega,by omega,by omega,by omega,λ_=>?_⟩;rw[aJ];show ¬ (page+(row+1)/b<page\/page+(row+1)/b=page/\(row+1)%b<row);omega
    .refine(⟨_,rfl,_,rfl,_,_,rfl,rfl,_,rfl,?_⟩);refine aX (λ_=>?_) (λ_=>?_)
     .refine(⟨_,rfl,_,rfl,_,_,rfl,rfl,_,rfl,_,_,rfl,rfl,⟨by omega,by omega⟩,_,_,rfl,rfl,?_⟩);refine(⟨_,rfl,_,_,rfl,rfl,_,rfl,_,_,rfl,rfl,(by omega),?_⟩);have nr:=uv r0 rb;refine key _ _ ⟨rfl,_,_,rfl,by omega,by omega,by omega,by omega,λ_=>?_⟩;rw[aJ];show ¬ (page+(row+1)/b<page\/page+(row+1)/b=page/\(row+1)%b<row);omega
     .exact key _ _ ⟨rfl,page,row,rfl,p0,r0,rb,by omega,λ_=>ck _⟩
 rintro σ' H4' ⟨rfl,pg',rw',rfl,g0,g1,g2,g3,g4⟩;refine bQ (λσ' H'=>av H4' H'/\∃cn:Int,σ'=[some (.ref na),some (.int b),some (.int ro),some (.ref r),some (.int pg'),some (.int rw'),some (.int cn),some (.int (i:Int)),some (.int c),some (.ref p2),some (.int stp),some (.int far)]) ?_ (λkey=>?_)
 rotate_left
 .refine(⟨_,rfl,_,rfl,le2,λp4 hp4=>?_⟩);have s5:=ak hp4 (.tup [V.int pg',V.int rw']);refine(⟨_,rfl,_,_,_,_,rfl,rfl,SqT.of ah,s5.tup h4,rfl,rfl,_,rfl,?_⟩);refine orG (λ_=>key _ _ ⟨s5,0,rfl⟩) (λ_=>?_);refine(⟨_,rfl,rfl,_,rfl,?_⟩);refine aX (λ_=>key _ _ ⟨s5,0,rfl⟩) (λ_=>key _ _ ⟨s5,cnt,rfl⟩)
 rintro σ' H5 ⟨s5,cn,rfl⟩;refine(⟨_,rfl,_,_,rfl,rfl,?_⟩);dsimp only[aF];have t5:=s3.trans (s4.trans s5);have hr5:=t5 _ _ hr2;refine(⟨_,rfl,.inl ⟨rfl,_,SqL.of hr5⟩,_,rfl,_,rfl,le2,λp3 hp3=>?_⟩);have s6:=ak hp3 (.tup [V.int pg',V.int rw']);have h6:SqT K (upd H5 p3 (.tup [V.int pg',V.int rw'])) p3 (pl (pg',rw')):=SqT.of ah;generalize upd H5 p3 (.tup [V.int pg',V.int rw'])=H6 at s6 h6⊢;have hr6:=s6 _ _ hr5;refine(⟨_,_,_,rfl,rfl,hr6,?_,?_⟩)
 .rw[B3,pa.1,xl];exact B7 (show i<1000 by omega) (bi (B4 _))
 refine(⟨(s2.trans (t5.trans s6)).put hr,as++[p3],xs++[(pg',rw')],pg',rw',_,_,_,_,_,_,rfl,by rw[ah,fB],((pa.same (t5.trans s6)).snoc h6).lst hr6,by simp[xl],zj R ⟨g0,g1,g2⟩ (by rw[xl];exact g3) (λz=>?_),λ_=>?_,g0,g1,g2,by omega⟩)
 .rw[xl]at z⊢;rw[lp z];exact g4 z
 .rw[eG,D5,if_neg (by omega),if_pos xl.symm]
def qY(K:PySem.W.Frag):Sp:=λvs H Q _=>∃(fa a:Addr) (w h f m l:Int) (x:Int×Int),vs=[.ref fa,.ref a,.int l]/\SqT K H fa (fm w h f m)/\SqT K H a (pl x)/\1<=h/\h<=60/\∀q H',av H H'->SqT K H' q (pl (eZ h f x l))->Q (.ref q) H'
theorem dQ:aG ["form","place","lead","page","row","high","count"] ["form","place","lead"] (aw hV):=by walk_at "c"
theorem qZ(T:Txt P w K mg a):aS P w K mg base CX0 1 a.ij a.gI ["form","place","lead"] (qY K):=by
 refine T.ie.fn.ok dQ (λvs H Q E h=>?_) (λcdv A outer s H vs Q E hr h=>?_)
 .obtain⟨fa,a,w,h,f,m,k,x,rfl,_⟩:=h;rfl
 obtain⟨fa,a,w,h,f,m,l,x,rfl,hf,hx,h1,h2,q⟩:=h;refine⟨_,(ac (fE (pv 1) (dn rfl (a8 (aO (i:=3) dQ.nd rfl (Cb rfl)) (a8 (aO (i:=4) dQ.nd rfl (Cb rfl)) cK))))
   (ac (am (i:=5) dQ.nd rfl (Cb rfl) (ag aj (pv 0) ab (λ_ _=>rfl)))
   (ac (aI (ao d_ (pv 2) ab (ar _)) (ac (am (i:=6) dQ.nd rfl (Cb rfl) (ai aC (ai aC (ai c5 (pv 3) (pv 5)) (pv 4)) (pv 2)))
   (af (au (bj (aa (ai bP (pv 6) (pv 5)) (aa (ai aZ (pv 6) (pv 5)) ae)))))) aD)
   (ac (aI (PW.pt (bW (ao a_ (pv 2) ab (ar _)) (bK (ao d_ (ai aC (pv 4) ab) (pv 5) (ar _))))) (af (au (bj (aa (pv 3) (aa (ai aC (pv 4) ab) ae))))) aD)
   (ac (aI (PW.pt (bW (ao a_ (pv 2) ab (ar _)) (bK (ao a_ (ai aZ (ai aC (ag aj (pv 0) ab (λ_ _=>rfl)) (pv 3)) ab) ab (ar _))))) (af (au (bj (aa (ai aC (pv 3) ab) (aa ab ae))))) aD)
   (af (au (bj (aa (ai aC (pv 3) ab) (aa ab ae)))))))))),?_⟩
 refine⟨_,rfl,_,_,rfl,hx,rfl,_,_,rfl,_,_,rfl,rfl,?_⟩;refine⟨_,rfl,_,_,_,_,rfl,rfl,hf,rfl,?_⟩;refine⟨_,rfl,_,_,rfl,rfl,_,rfl,?_⟩;refine aX (λc=>?_) (λc=>?_)
 .have c1:l<2:=of_decide_eq_true c;refine⟨_,rfl,_,rfl,_,_,rfl,rfl,.inr ⟨by omega,by omega⟩,_,rfl,_,_,rfl,rfl,_,rfl,_,_,rfl,rfl,?_⟩;refine⟨_,rfl,_,rfl,_,_,rfl,rfl,⟨by omega,by omega⟩,_,rfl,_,rfl,_,_,rfl,rfl,(show 0<h by omega),le2,λp1 hp1=>q _ _ (ak hp1 _) ?_⟩;rw[eZ,if_pos c1];exact SqT.of ah
 have n1:¬ l<2:=λz=>c (decide_eq_true z);refine⟨_,rfl,rfl,_,rfl,?_⟩;by_cases k2:l=2/\x.2+2<h
 .refine b4 (λc2=>absurd (bB.mpr k2.1) c2) (λc2=>?_);refine⟨_,rfl,_,_,rfl,rfl,_,rfl,_,_,rfl,rfl,_,rfl,?_⟩;rw[decide_eq_true k2.2];refine bM ?_;refine⟨_,rfl,_,rfl,_,_,rfl,rfl,le2,λp1 hp1=>q _ _ (ak hp1 _) ?_⟩;rw[eZ,if_neg n1,if_pos k2];exact SqT.of ah
 refine mY ?_ (λc2 hb=>?_)
 .refine⟨_,rfl,rfl,_,rfl,?_⟩;by_cases k3:l=4/\(f+x.1)%2=1
  .refine b4 (λc3=>absurd (bB.mpr k3.1) c3) (λc3=>?_);refine⟨_,rfl,_,_,_,_,rfl,rfl,hf,rfl,_,rfl,_,_,rfl,rfl,_,_,rfl,rfl,(by (first|decide|(show(0:Int)<_;first|decide|omega))),rfl,_,rfl,?_⟩
   refine aX (λ_=>?_) (λc4=>absurd (bB.mpr k3.2) c4);refine⟨_,rfl,_,_,rfl,rfl,le2,λp1 hp1=>q _ _ (ak hp1 _) ?_⟩;rw[eZ,if_neg n1,if_neg k2,if_pos k3];exact SqT.of ah
  refine mY ?_ (λc3 hb=>?_)
  .refine⟨_,rfl,_,_,rfl,rfl,le2,λp1 hp1=>q _ _ (ak hp1 _) ?_⟩;rw[eZ,if_neg n1,if_neg k2,if_neg k3];exact SqT.of ah
  .refine⟨_,rfl,_,_,_,_,rfl,rfl,hf,rfl,_,rfl,_,_,rfl,rfl,_,_,rfl,rfl,(by (first|decide|(show(0:Int)<_;first|decide|omega))),rfl,_,rfl,?_⟩
   exact aX (λc4=>absurd ⟨bB.mp c3,bB.mp c4⟩ k3) (λ_=>hb)
 .refine⟨_,rfl,_,_,rfl,rfl,_,rfl,_,_,rfl,rfl,_,rfl,?_⟩;exact aX (λc3=>absurd ⟨bB.mp c2,of_decide_eq_true c3⟩ k2) (λ_=>hb)
def u6(K:PySem.W.Frag):Sp:=λvs H Q _=>∃(a b:Addr) (x y:Int×Int),vs=[.ref a,.ref b]/\SqT K H a (pl x)/\SqT K H b (pl y)/\Q (.bl (az x y)) H
theorem u_:aG ["one","other"] ["one","other"] (aw lR):=by walk_at "c"
theorem va(T:Txt P w K mg a):aS P w K mg base CX0 1 a.mj a.lg ["one","other"] (u6 K):=by
 refine T.l_.fn.ok u_ (λvs H Q E h=>?_) (λcdv A outer s H vs Q E hr h=>?_)
 .obtain⟨a,b,x,y,rfl,_⟩:=h;rfl
 obtain⟨a,b,x,y,rfl,hx,hy,q⟩:=h;refine⟨_,(af (au (Bq (cX d_ (ag aj (pv 0) ab (λ_ _=>rfl)) (ag aj (pv 1) ab (λ_ _=>rfl)) (ar _)) (mO (pU (cX a_ (ag aj (pv 0) ab (λ_ _=>rfl)) (ag aj (pv 1) ab (λ_ _=>rfl)) (ar _)) (mO (cX d_ (ag aj (pv 0) ab (λ_ _=>rfl)) (ag aj (pv 1) ab (λ_ _=>rfl)) (ar _)))))))),?_⟩;refine⟨_,rfl,_,_,_,_,rfl,rfl,hx,rfl,_,rfl,_,_,_,_,rfl,rfl,hy,rfl,_,_,rfl,rfl,_,rfl,?_⟩;refine aX (λc=>?_) (λc=>?_)
 .have:az x y=true:=bY.mpr (.inl (of_decide_eq_true c));rw[this]at q;exact q
 have c0:¬ x.1<y.1:=λz=>c (decide_eq_true z);refine⟨_,rfl,_,_,_,_,rfl,rfl,hx,rfl,_,rfl,_,_,_,_,rfl,rfl,hy,rfl,rfl,_,rfl,?_⟩;refine aX (λc1=>?_) (λc1=>?_)
 .refine⟨_,rfl,_,_,_,_,rfl,rfl,hx,rfl,_,rfl,_,_,_,_,rfl,rfl,hy,rfl,_,_,rfl,rfl,?_⟩;have c2:x.1=y.1:=bB.mp c1;have:az x y=decide (x.2<y.2):=by
   rw[az,decide_eq_false c0,decide_eq_true c2];rfl
  rw[this]at q;exact q
 .have c2:x.1≠y.1:=pZ.mp c1;have:az x y=false:=by
   rw[az,decide_eq_false c0,decide_eq_false c2];rfl
  rw[this]at q;exact q
def zx(K:PySem.W.Frag):Sp:=λvs H Q _=>∃(fa ly:Addr) (las:List Addr) (F:Frm) (xss:List (List (Int×Int))) (k:Nat) (l:Int),vs=[.ref fa,.ref ly,.int (k:Int),.int l]/\SqT K H fa (fm F.w F.h F.f F.m)/\SqL K H ly (las.map V.ref)/\km K H las xss/\0<=l/\l<5/\1<=F.h/\F.h<=60/\(∀xs∈xss,k<xs.length/\b_ F.h xs)/\∀b H',av H H'->(b=true↔∀xs∈xss,gN F xs k l)->Q (.bl b) H'
theorem uM:aG ["form","layings","k","lead","places"] ["form","layings","k","lead"] (aw qV):=by walk_at "c"
theorem zy(T:Txt P w K mg a):aS P w K mg base CX0 2 a.rk a.pG ["form","layings","k","lead"] (zx K):=by
 refine T.rh.fn.ok uM (λvs H Q E h=>?_) (λcdv A outer s H vs Q E hr h=>?_)
 .obtain⟨fa,ly,las,F,xss,k,l,rfl,_⟩:=h;rfl
 obtain⟨fa,ly,las,F,xss,k,l,rfl,hf,hly,hls,l0,l5,h1,h60,hx_,q⟩:=h;refine⟨_,(ac (cy Ct rfl (bL (pv 1)) (aO (i:=4) uM.nd rfl (Cb rfl)) (ac (aI (PW.pt (bW (ao a_ (pv 3) ab (ar _)) (bK (ao a_ (ai aZ (ai aC (ag aj (pv 0) ab (λ_ _=>rfl)) (ag aj (ag aH (pv 4) (pv 2) (λ_ _=>rfl)) ab (λ_ _=>rfl))) ab) ab (ar _))))) (af (au b9)) aD)
   (af (aI (PW.pt (bW (ao di (pv 2) ab (ar _)) (bK (bV (aq T.l_ (va T) (hr.mono (by decide)) rfl (aa (ag aH (pv 4) (pv 2) (λ_ _=>rfl)) (aa (aq T.ie (qZ T) (hr.mono (by decide)) rfl (aa (pv 0) (aa (ag aH (pv 4) (ai bZ (pv 2) ab) (λ_ _=>rfl)) (aa (pv 3) ae)))) ae))) (λ_=>rfl))))) (af (au b9)) aD))))
   (af (au b9))),?_⟩
 have ell:(las.map V.ref).length=xss.length:=by rw[B3,hls.1]
 refine⟨_,rfl,_,rfl,⟨_,hly⟩,eX (K:=K) (a:=ly) (xs:=las.map V.ref) (λi σ H2=>av H H2/\(∃v:Option V,σ=[some (.ref fa),some (.ref ly),some (.int (k:Int)),some (.int l),v])/\∀j xs,j<i->xss[j]?=some xs->gN F xs k l) ⟨av.refl _,⟨none,rfl⟩,λj xs hj=>absurd hj (Cy _)⟩ (λi σ H2 _ g=>g.1.seq hly) ?_ ?_⟩
 rotate_left
 .rintro σ H2 ⟨s2,_,ho⟩;refine q true H2 s2 ⟨λ_ xs hx=>?_,λ_=>rfl⟩;obtain⟨j,hj,ej⟩:=List.mem_iff_getElem.mp hx;exact ho j xs (by rw[ell];exact hj) (by rw[c7 hj,ej])
 rintro i y σ H2 hi ⟨s2,⟨v,rfl⟩,ho⟩;obtain⟨lo,xs,rfl,eb,ex⟩:=qd hls.1 hi;have xm:=Cg ex;obtain⟨hk,po⟩:=hx_ xs xm;obtain⟨as,hla,hps⟩:=hls.2 i lo xs eb ex;obtain⟨zo,ez,hz⟩:=aU.get (a:=lo) hps hk;have no:∀H',av H H'->¬ gN F xs k l->_:=λH' s n=>q false H' s ⟨λz=>absurd z (by decide),λz=>absurd (z xs xm) n⟩;dsimp only[aF];refine bQ (λσ' H'=>H'=H2/\σ'=[some (.ref fa),some (.ref ly),some (.int (k:Int)),some (.int l),some (.ref lo)]/\¬ (l=4/\(F.f+(xAt xs k).1)%2=0)) ?_ (λkey=>?_)
 rotate_left
 .refine⟨_,rfl,rfl,_,rfl,?_⟩;by_cases l4:l=4
  rotate_left
  .exact b4 (λ_=>key _ _ ⟨rfl,rfl,λz=>l4 z.1⟩) (λz=>absurd (bB.mp z) l4)
  refine b4 (λz=>absurd (bB.mpr l4) z) (λ_=>?_);refine⟨_,rfl,_,_,_,_,rfl,rfl,s2.tup hf,rfl,_,rfl,_,rfl,_,_,_,_,rfl,rfl,s2.seq hla,ez,_,_,_,_,rfl,rfl,s2.tup hz,rfl,_,_,rfl,rfl,_,_,rfl,rfl,(by (first|decide|(show(0:Int)<_;first|decide|omega))),rfl,_,rfl,?_⟩
  by_cases od:(F.f+(xAt xs k).1)%2=0
  .rw[decide_eq_true (show V.int ((F.f+(xAt xs k).1)%2)=V.int 0 by rw[od])];refine bM ?_;exact no _ s2 λz=>z.1 ⟨l4,od⟩
  .rw[decide_eq_false (show ¬ V.int ((F.f+(xAt xs k).1)%2)=V.int 0 from λz=>od (V.int.inj z))];refine aT ?_;exact key _ _ ⟨rfl,rfl,λz=>od z.2⟩
 rintro σ' H2' ⟨rfl,rfl,ok1⟩;have fin:∀H',av H2' H'->gN F xs k l->av H H'/\(∃v:Option V,[some (V.ref fa),some (V.ref ly),some (V.int (k:Int)),some (V.int l),some (V.ref lo)]=[some (.ref fa),some (.ref ly),some (.int (k:Int)),some (.int l),v])/\∀j xs,j<i+1->xss[j]?=some xs->gN F xs k l:=λH' s' o=>⟨s2.trans s',⟨_,rfl⟩,λj ys hj e=>by
  by_cases c:j<i
  .exact ho j ys c e
  .have:j=i:=by omega
   rw[this,ex]at e;cases e;exact o⟩
 refine⟨_,rfl,_,_,rfl,rfl,_,rfl,?_⟩;by_cases k0:0<k
 rotate_left
 .exact b4 (λ_=>fin _ (av.refl _) ⟨ok1,λz=>absurd z k0⟩) (λz=>absurd (of_decide_eq_true z) (by omega))
 refine b4 (λz=>absurd (decide_eq_true (by omega)) z) (λ_=>?_);obtain⟨yo,ey,hy⟩:=aU.get (a:=lo) hps (show k-1<xs.length by omega);have ry:=(po.get (show k-1<xs.length by omega)).1;refine⟨_,rfl,_,rfl,_,_,_,_,rfl,rfl,s2.seq hla,ez,_,rfl,_,rfl,_,rfl,_,_,rfl,rfl,_,_,_,_,rfl,rfl,s2.seq hla,(by rw[show(k:Int)-1=((k-1:Nat):Int) by omega];exact ey),_,rfl,fa,yo,F.w,F.h,F.f,F.m,l,xAt xs (k-1),rfl,s2.tup hf,s2.tup hy,h1,h60,λq2 H3 s3 h3=>?_⟩;rw[xV ⟨ry.r1,ry.r2⟩ ⟨l0,l5⟩]at h3;refine⟨zo,q2,xAt xs k,_,rfl,(s2.trans s3).tup hz,h3,_,rfl,?_⟩;cases e:az (xAt xs k) (bc F.h F.f (xAt xs (k-1)) l)with
 |true =>
  refine bM ?_;exact no _ (s2.trans s3) λz=>absurd ((z.2 k0).symm.trans e) (by decide)
 |false =>
  refine aT ?_;exact fin _ s3 ⟨ok1,λ_=>e⟩
theorem zz{F:Frm}{b:Int}{xs:List (Int×Int)}{k:Nat}(R:Ris b xs)(hk:k<xs.length):gN F xs k 0:=by
 refine⟨λz=>absurd z.1 (by decide),λk0=>?_⟩;unfold bc;rw[if_pos rfl];exact R.up k k0 hk
def xb(K:PySem.W.Frag):Sp:=λvs H Q _=>∃(fa pa ly na:Addr) (F:Frm) (pas las:List Addr) (ds:List Wd) (xss:List (List (Int×Int))) (zs:List Int) (b:Int),vs=[.ref fa,.ref pa,.ref ly,.ref na]/\SqT K H fa (fm F.w F.h F.f F.m)/\SqL K H pa (pas.map V.ref)/\fN K H pas ds/\SqL K H ly (las.map V.ref)/\km K H las xss/\xss.length<=2/\SqL K H na (zs.map V.int)/\zs.length=ds.length/\ds.length<=40/\(∀d∈ds,dN ds.length d)/\1<=F.h/\F.h<=60/\(∀xs∈xss,xs.length=ds.length/\b_ F.h xs/\Ris b xs)/\∀q (was:List Addr) (es:List Wd) H',av H H'->H' q=some (.lst (was.map V.ref))->dk K H' was es->qc es ds->(∀d∈es,dN es.length d)->(∀k,k<es.length->∀xs∈xss,gN F xs k (dAt es k).lead/\((dAt es k).kept=true->0<k->(xAt xs (k-1)).1=(xAt xs k).1))->Q (.ref q) H'
theorem dy:aG ["form","parts","layings","numbers","words","k","part","choices","number","apart","kept"] ["form","parts","layings","numbers"] (aw nv):=by walk_at "c"
theorem xc(T:Txt P w K mg a):aS P w K mg base CX0 3 a.oe a.mF ["form","parts","layings","numbers"] (xb K):=by
 refine T.nQ.fn.ok dy (λvs H Q E h=>?_) (λcdv A outer s H vs Q E hr h=>?_)
 .obtain⟨fa,pa,ly,na,F,pas,las,ds,xss,zs,b,rfl,_⟩:=h;rfl
 obtain⟨fa,pa,ly,na,F,pas,las,ds,xss,zs,b,rfl,hf,hp_,hps,hly,hls,x2,hn,zl,d40,wd,h1,h60,hx_,q⟩:=h;have hu:=C2 (eJ hr);refine⟨_,(ac (am (i:=4) dy.nd rfl (Cb rfl) (bX ae))
   (ac (cy Ct rfl (iN rfl T.b8 (pv 1)) (dn rfl (a8 (aO (i:=5) dy.nd rfl (Ex rfl)) (a8 (aO (i:=6) dy.nd rfl (Cb rfl)) cK))) (ac (pX (k:=7) rfl (dC (caps:=["form","layings","k"]) (js:=[0,2,5]) (cap:=⟨⟨rfl,.inl rfl,rfl,.inl rfl⟩,⟨⟨rfl,.inl rfl,rfl,.inl rfl⟩,⟨⟨rfl,.inl rfl,rfl,.inl rfl⟩,trivial⟩⟩⟩)) (dS rfl T.cZ (aa ab ae)) (λ_ _ _ _=>(qE (bV (aq T.rh (zy T) (hr.mono (by decide)) rfl (aa (pv 1) (aa (pv 2) (aa (pv 3) (aa (pv 0) ae))))) (λ_=>rfl)))) (λ_ _ _ _=>(pv 0)) dy.nd rfl rfl)
   (ac (am (i:=8) dy.nd rfl (Cb rfl) (ai yN (ag aH (pv 3) (pv 5) (λ_ _=>rfl)) (ai tD ab ab)))
   (ac (pX (k:=9) rfl (dC (caps:=["k"]) (js:=[5]) (cap:=⟨⟨rfl,.inl rfl,rfl,.inl rfl⟩,trivial⟩)) (bL (pv 2)) (λ_ _ _ _=>(qE (PW.pt (bW (ao di (pv 1) ab (ar _)) (bK (ao fF (ag (r:=eY K) aj (ag (r:=wu K) aH (pv 0) (ai bZ (pv 1) ab) (λ_ _=>rfl)) ab (λ_ _=>rfl)) (ag (r:=eY K) aj (ag (r:=wu K) aH (pv 0) (pv 1) (λ_ _=>rfl)) ab (λ_ _=>rfl)) (ar _))))))) (λ_ _ _ _=>(pv 0)) dy.nd rfl rfl)
   (ac (am (i:=10) dy.nd rfl (Cb rfl) (pU (cX (tT hu) (pv 9) (bX ae) (ar _)) (mO (cX a_ (ai aZ (ai bP (pv 8) ab) ab) ab (ar _)))))
   (af (cr (dt PySem.F.plainAttrs_list PySem.F.slot_list_append PySem.F.type_list_append cU (pv 4) (aa (bj (aa (ag aH (pv 7) (ai aZ (pv 8) (aA aL rfl T.bu PySem.boot_len (aa (pv 7) ae))) (λ_ _=>rfl)) (aa (pv 10) (aa (ag aj (pv 6) ab (λ_ _=>rfl)) (aa (ag aj (pv 6) ab (λ_ _=>rfl)) ae))))) ae)))))))))
   (af (au (pv 4))))),?_⟩
 have elp:(pas.map V.ref).length=ds.length:=by rw[B3,hps.1]
 have ell:(las.map V.ref).length=xss.length:=by rw[B3,hls.1]
 refine⟨Cv _,λr hr=>?_⟩;have s1:=ak hr (.lst []);have hr1:(upd H r (.lst [])) r=some (.lst []):=ah;generalize upd H r (.lst [])=H1 at s1 hr1⊢;dsimp only[aF];refine⟨_,rfl,pa,rfl,⟨_,s1.seq hp_⟩,gk (K:=K) (a:=pa) (xs:=pas.map V.ref) (λi σ H2=>av H H2/\∃(was:List Addr) (es:List Wd) (v5 v6 v7 v8 v9 v10:Option V),σ=[some (.ref fa),some (.ref pa),some (.ref ly),some (.ref na),some (.ref r),v5,v6,v7,v8,v9,v10]/\H2 r=some (.lst (was.map V.ref))/\dk K (er1 H2 r) was es/\es.length=i/\(∀k,k<i->(dAt es k).say=(dAt ds k).say/\(dAt es k).foot=(dAt ds k).foot)/\(∀d∈es,dN ds.length d)/\∀k,k<i->∀xs∈xss,gN F xs k (dAt es k).lead/\((dAt es k).kept=true->0<k->(xAt xs (k-1)).1=(xAt xs k).1)) ?_ ?_ ?_ ?_⟩
 .exact⟨s1,[],[],none,none,none,none,none,none,rfl,hr1,dk.nil,rfl,λk hk=>absurd hk (Cy _),λd hd=>(by cases hd),λk hk=>absurd hk (Cy _)⟩
 .rintro i σ H2 _ ⟨s2,_⟩;exact s2.seq hp_
 rotate_left
 .rintro σ H2 ⟨s2,was,es,v5,v6,v7,v8,v9,v10,rfl,hr2,wa,wl,sm,wo,lt⟩;rw[elp]at wl sm lt;exact⟨_,rfl,q r was es H2 s2 hr2 (wa.same (ui H2 r)) ⟨wl,λk hk=>sm k (by omega)⟩ (by rw[wl];exact wo) (λk hk=>lt k (by omega))⟩
 rintro i x σ H2 p hx ⟨s2,was,es,v5,v6,v7,v8,v9,v10,rfl,hr2,wa,wl,sm,wo,lt⟩ hp;obtain⟨pb,d,rfl,eb,ed⟩:=jS hps.1 hx;have hid:i<ds.length:=(List.getElem?_eq_some_iff.mp ed).1;have edd:dAt ds i=d:=by
  show ds.getD i wd0=d;rw[B6,ed];rfl
 have wdd:=wd d (Cg ed);obtain⟨sy,fo,bs,g1,g2,g3,g4⟩:=hps.2 i pb d eb ed;have hk_:∀xs∈xss,i<xs.length:=λxs hxm=>by rw[(hx_ xs hxm).1];exact hid
 have s3:=ak hp (.tup [.int (i:Int),.ref pb]);refine⟨p,_,rfl,SqT.of ah,rfl,_,_,rfl,_,_,rfl,rfl,?_⟩;generalize upd H2 p (.tup [.int (i:Int),.ref pb])=H3 at s3⊢;dsimp only[aF];have t3:=s2.trans s3;refine⟨_,rfl,(by omega),(by omega),?_⟩;refine iU (λj ys H4=>av H3 H4/\∃cs:List Int,cs.length<=j/\ys=cs.map V.int/\(∀c∈cs,0<=c/\c<=4/\∀xs∈xss,gN F xs i c)/\(0<j->0<cs.length)) ⟨av.refl _,[],B4 _,rfl,λc hc=>(by cases hc),λz=>absurd z (CI _)⟩ ?_ ?_ ?_
 .rintro j ys H4 hj ⟨_,cs,cl,rfl,_,_⟩;rw[B3];exact B7 (show cs.length<1000 by simp at hj;omega) (bi (B4 _))
 .rintro j ys H4 hj ⟨s4,cs,cl,rfl,co,cn⟩;have hj:j<5:=by simp at hj;omega
  have t4:=t3.trans s4;refine⟨_,rfl,_,rfl,_,rfl,_,rfl,fa,ly,las,F,xss,i,0+(j:Int),rfl,t4.tup hf,t4.seq hly,hls.same t4,by omega,by omega,h1,h60,λxs hxm=>⟨hk_ xs hxm,(hx_ xs hxm).2.1⟩,λb' H5 s5 hb=>?_⟩;cases b' with
  |true =>
   refine⟨_,rfl,?_⟩;refine bM ?_;refine⟨_,rfl,s4.trans s5,cs++[0+(j:Int)],by simp;omega,by rw[Ch];rfl,λc hc=>?_,λ_=>by simp⟩;rcases List.mem_append.mp hc with hc|hc
   .exact co c hc
   .rw[List.mem_singleton.mp hc];exact⟨by omega,by omega,hb.mp rfl⟩
  |false =>
   refine⟨_,rfl,?_⟩;refine aT ?_;refine⟨s4.trans s5,cs,by omega,rfl,co,λ_=>?_⟩;by_cases j0:0<j
   .exact cn j0
   .have:j=0:=by omega
    subst this;exact absurd (hb.mpr λxs hxm=>zz (hx_ xs hxm).2.2 (hk_ xs hxm)) (by decide)
 rintro ys H4 ⟨s4,cs,cl,rfl,co,cn⟩ ch hch;have cpos:0<cs.length:=cn (by decide);have cl5:cs.length<=5:=cl;have s5:=ak hch (.lst (cs.map V.int));have h5:(upd H4 ch (.lst (cs.map V.int))) ch=some (.lst (cs.map V.int)):=ah;generalize upd H4 ch (.lst (cs.map V.int))=H5 at s5 h5⊢;dsimp only[aF];have t5:=t3.trans (s4.trans s5);obtain⟨nz,ez⟩:∃nz,atI (zs.map V.int) (i:Int)=some (V.int nz):=⟨zs[i]'(by omega),cY (by rw[B_,c7 (by omega)];rfl)⟩;refine⟨_,rfl,_,rfl,_,_,_,_,rfl,rfl,t5.seq hn,ez,_,_,rfl,rfl,⟨by decide,by decide,by decide⟩,_,_,rfl,rfl,⟨by decide +kernel,by decide +kernel⟩,?_⟩;dsimp only[aF];generalize nz/10^(13:Int).toNat=nu;refine⟨_,rfl,_,rfl,⟨_,t5.seq hly⟩,cu (K:=K) (a:=ly) (xs:=las.map V.ref) (λj ys H6=>H6=H5/\ys.length<=j/\(ys=[]->∀j' xs,j'<j->xss[j']?=some xs->0<i->(xAt xs (i-1)).1=(xAt xs i).1)) ⟨rfl,B4 _,λ_ j' xs hj'=>absurd hj' (Cy _)⟩ (λj ys H6 _ g=>by rw[g.1];exact t5.seq hly) ?_ ?_ ?_⟩
 .rintro j ys H6 hj ⟨_,yl,_⟩;exact B7 (show ys.length<1000 by rw[ell]at hj;omega) (bi (B4 _))
 .rintro j y ys H6 hj ⟨rfl,yl,ya⟩;obtain⟨lo,xs,rfl,eb2,ex⟩:=qd hls.1 hj;have xm:=Cg ex;obtain⟨as,hla,hps2⟩:=hls.2 j lo xs eb2 ex;obtain⟨zo,ezo,hz⟩:=aU.get (a:=lo) hps2 (hk_ xs xm);have no:((0<i->(xAt xs (i-1)).1=(xAt xs i).1))->H6=H6/\ys.length<=j+1/\(ys=[]->∀j' xs,j'<j+1->xss[j']?=some xs->0<i->(xAt xs (i-1)).1=(xAt xs i).1):=λo=>⟨rfl,by omega,λe j' ys2 hj' e2=>by
   by_cases c:j'<j
   .exact ya e j' ys2 c e2
   .have:j'=j:=by omega
    rw[this,ex]at e2;cases e2;exact o⟩
  refine⟨_,rfl,_,_,rfl,rfl,_,rfl,?_⟩;by_cases i0:0<i
  rotate_left
  .refine b4 (λ_=>?_) (λz=>absurd (of_decide_eq_true z) (by omega));exact no λz=>absurd z i0
  refine b4 (λz=>absurd (decide_eq_true (by omega)) z) (λ_=>?_);obtain⟨yo,ey,hy⟩:=aU.get (a:=lo) hps2 (show i-1<xs.length by have:=hk_ xs xm;omega);refine⟨_,rfl,_,rfl,_,_,rfl,rfl,_,_,_,_,rfl,rfl,t5.seq hla,(by rw[show(i:Int)-1=((i-1:Nat):Int) by omega];exact ey),_,_,_,_,rfl,rfl,t5.tup hy,rfl,_,rfl,_,rfl,_,_,_,_,rfl,rfl,t5.seq hla,ezo,_,_,_,_,rfl,rfl,t5.tup hz,rfl,rfl,_,rfl,?_⟩;by_cases e:(xAt xs (i-1)).1=(xAt xs i).1
  .rw[decide_eq_true (show V.int (xAt xs (i-1)).1=V.int (xAt xs i).1 by rw[e])];refine aT ?_;exact no λ_=>e
  .rw[decide_eq_false (show ¬ V.int (xAt xs (i-1)).1=V.int (xAt xs i).1 from λz=>e (V.int.inj z))];refine bM ?_;exact⟨_,rfl,rfl,by simp;omega,λz=>absurd z (by simp)⟩
 rintro ys H6 ⟨rfl,yl,ya⟩ ap hap;rw[ell]at ya yl;have s7:=ak hap (.lst ys);have h7:(upd H6 ap (.lst ys)) ap=some (.lst ys):=ah;generalize upd H6 ap (.lst ys)=H7 at s7 h7⊢;dsimp only[aF];refine bQ (λσ' H'=>av H7 H'/\∃kp:Bool,σ'=[some (.ref fa),some (.ref pa),some (.ref ly),some (.ref na),some (.ref r),some (.int (i:Int)),some (.ref pb),some (.ref ch),some (.int nu),some (.ref ap),some (.bl kp)]/\(kp=true->ys=[])) ?_ (λkey=>?_)
 rotate_left
 .refine⟨_,rfl,Cv _,λp2 hp2=>?_⟩;have s8:=ak hp2 (.lst []);refine⟨ap,p2,ys,rfl,rfl,SqL.of (s8 _ _ h7),SqL.of ah,_,rfl,?_⟩;cases e:ys.isEmpty with
  |false =>
   refine aT ?_;exact key _ _ ⟨s8,false,rfl,λz=>absurd z (by decide)⟩
  |true =>
   refine bM ?_;have ye:ys=[]:=List.isEmpty_iff.mp e;exact⟨_,rfl,_,_,rfl,rfl,⟨by decide,by decide⟩,_,_,rfl,rfl,(by (first|decide|(show(0:Int)<_;first|decide|omega))),rfl,key _ _ ⟨s8,_,rfl,λ_=>ye⟩⟩
 rintro σ' H8 ⟨s8,kp,rfl,ke⟩;have t8:=t5.trans (s7.trans s8);have h8:=(s7.trans s8) _ _ h5;have u8:=s3.trans (s4.trans (s5.trans (s7.trans s8)));have hr8:=u8 _ _ hr2;have clI:(0:Int)<(cs.length:Int):=by omega
 obtain⟨ld,el_,ldm⟩:∃ld,atI (cs.map V.int) (nu%(cs.length:Int))=some (V.int ld)/\ld∈cs:=by
  have a0:=C5 nu (show(cs.length:Int)≠0 by omega);have a1:=CZ nu clI;obtain⟨z,ez2⟩:=CP a0;have hz:z<cs.length:=by omega
  exact⟨cs[z],by rw[ez2];exact cY (by rw[B_,c7 hz];rfl),CV hz⟩
 obtain⟨ld0,ld4,ldo⟩:=co ld ldm;have ecs:((cs.map V.int).length:Int)=(cs.length:Int):=by rw[B3]
 refine⟨_,rfl,.inl ⟨rfl,_,SqL.of hr8⟩,_,rfl,_,rfl,_,rfl,_,_,rfl,.inl (SqL.of h8),_,_,rfl,rfl,(by rw[ecs];exact clI),_,_,_,_,rfl,rfl,SqL.of h8,(by rw[ecs];exact el_),_,rfl,_,rfl,_,_,_,_,rfl,rfl,t8.tup g1,rfl,_,rfl,_,_,_,_,rfl,rfl,t8.tup g1,rfl,le4,λp3 hp3=>?_⟩;have s9:=ak hp3 (.tup [V.int ld,V.bl kp,V.ref sy,V.ref fo]);have h9:SqT K (upd H8 p3 (.tup [V.int ld,V.bl kp,V.ref sy,V.ref fo])) p3 [V.int ld,V.bl kp,V.ref sy,V.ref fo]:=SqT.of ah;generalize upd H8 p3 (.tup [V.int ld,V.bl kp,V.ref sy,V.ref fo])=H9 at s9 h9⊢;have hr9:=s9 _ _ hr8;have e9:=Af (t8.trans s9) hr;refine⟨_,_,_,rfl,rfl,hr9,?_,?_⟩
 .rw[B3,wa.1,wl];exact B7 (show i<1000 by omega) (bi (B4 _))
 refine⟨(t8.trans s9).put hr,was++[p3],es++[⟨ld,kp,d.say,d.foot⟩],_,_,_,_,_,_,rfl,by rw[ah,fB],?_,by simp[wl],λk hk=>?_,λe he=>?_,λk hk xs hxm=>?_⟩
 .rw[vR];exact(wa.same (uk (u8.trans s9))).snoc ⟨sy,fo,bs,ox hr9 h9,e9.tup g2,e9.seq g3,g4.same e9⟩
 .rw[uf,wl];by_cases c:k<i
  .rw[if_pos c];exact sm k c
  .have:k=i:=by omega
   rw[if_neg c,if_pos this,this,edd];exact⟨rfl,rfl⟩
 .rcases List.mem_append.mp he with he|he
  .exact wo e he
  .rw[List.mem_singleton.mp he];exact⟨ld0,ld4,wdd.s,wdd.f,wdd.n⟩
 .rw[uf,wl];by_cases c:k<i
  .rw[if_pos c];exact lt k c xs hxm
  .have:k=i:=by omega
   rw[if_neg c,if_pos this,this];refine⟨ldo xs hxm,λkt i0=>?_⟩;obtain⟨j,hj,ej⟩:=List.mem_iff_getElem.mp hxm;exact ya (ke kt) j xs hj (by rw[c7 hj,ej]) i0
def xf(K:PySem.W.Frag):Sp:=λvs H Q _=>∃(sa:Addr) (ns:List Int) (mo my:Nat),vs=[.ref sa,.int (mo:Int),.int (my:Int)]/\SqL K H sa (ns.map V.int)/\mo<=40/\(my=1\/my=2)/\∀q bq ly (las:List Addr) (F:Frm) (es:List Wd) (xss:List (List (Int×Int))) (b:Int) H',av H H'->SqT K H' q [.ref bq,.ref ly]->cC K H' bq F.w F.h F.f F.m es->SqL K H' ly (las.map V.ref)->km K H' las xss->xss.length=my->es.length<=40->(∀xs∈xss,aR F es xs/\jU F.m xs/\Ris b xs/\∀k,k<es.length->eS F es xs k)->Q (.ref q) H'
theorem cR:aG ["script","most","many","numbers","first","number","base","room","layings","parts","form"] ["script","most","many"] (aw nA):=by walk_at "c"
theorem xg(T:Txt P w K mg a):aS P w K mg base CX0 5 a.nU a.mv ["script","most","many"] (xf K):=by
 refine T.nM.fn.ok cR (λvs H Q E h=>?_) (λcdv A outer s H vs Q E hr h=>?_)
 .obtain⟨sa,ns,mo,my,rfl,_⟩:=h;rfl
 obtain⟨sa,ns,mo,my,rfl,hS,m40,my2,q⟩:=h;refine⟨_,(ac (am (i:=3) cR.nd rfl (Cb rfl) (aq T.kF (uL T) (hr.mono (by decide)) rfl (aa (pv 0) (aa (pv 1) ae))))
   (ac (am (i:=4) cR.nd rfl (Cb rfl) (aq T.nN (wW T) (hr.mono (by decide)) rfl (aa (aq T.d4 (fU T) (hr.mono (by decide)) rfl (aa (pv 0) (aa ab ae))) ae)))
   (ac (am (i:=5) cR.nd rfl (Cb rfl) (aq T.dW (eQ T) (hr.mono (by decide)) rfl (aa (ai aC (aq T.d4 (fU T) (hr.mono (by decide)) rfl (aa (pv 0) (aa ab ae))) ab) ae)))
   (ac (am (i:=6) cR.nd rfl (Cb rfl) (ai aC ab (ai aZ (pv 5) ab)))
   (ac (am (i:=7) cR.nd rfl (Cb rfl) (yC (ao lG (pv 4) (ai tD ab ab) (ar _)) ab ab))
   (ac (am (i:=8) cR.nd rfl (Cb rfl) (bX (aa (aq T.iI (oG T) (hr.mono (by decide)) rfl (aa (pv 3) (aa (pv 6) (aa (pv 7) ae)))) ae)))
   (ac (aI (ao a_ (pv 2) ab (ar _)) (af (cr (dt PySem.F.plainAttrs_list PySem.F.slot_list_append PySem.F.type_list_append cU (pv 8) (aa (aq T.iI (oG T) (hr.mono (by decide)) rfl (aa (dJ rfl (dC (caps:=[]) (js:=[]) (cap:=trivial)) (bL (pv 3)) (λ_ _ _ _=>b7) (λ_ _ _ _=>(ai bP (pv 0) ab))) (aa (pv 6) (aa (pv 7) ae)))) ae)))) aD)
   (ac (am (i:=9) cR.nd rfl (Cb rfl) (aq T.nO (xa T) (hr.mono (by decide)) rfl (aa (pv 3) (aa (cX a_ (pv 7) ab (ar _)) ae))))
   (ac (am (i:=10) cR.nd rfl (Cb rfl) (aq T.kE (uJ T) (hr.mono (by decide)) rfl (aa (pv 9) (aa (pv 8) (aa (pv 6) (aa (pv 4) (aa (ai bP (pv 5) ab) ae)))))))
   (af (au (bj (aa (bj (aa (pv 10) (aa (aq T.nQ (xc T) (hr.mono (by decide)) rfl (aa (pv 10) (aa (pv 9) (aa (pv 8) (aa (pv 3) ae))))) ae))) (aa (pv 8) ae)))))))))))))),?_⟩
 refine⟨_,rfl,_,rfl,sa,ns,mo,rfl,hS,m40,λna zs H1 s1 hna z40=>?_⟩;dsimp only[aF];refine⟨_,rfl,sa,ns,(1:Nat),rfl,s1.seq hS,_,rfl,λf f0 f60=>?_⟩;dsimp only[aF];refine⟨_,rfl,sa,ns,(0:Nat),rfl,s1.seq hS,_,_,rfl,rfl,_,rfl,?_⟩;dsimp only[aF];generalize lZ (ns.getD 0 0+7)=nu;refine⟨_,rfl,_,_,rfl,rfl,(by (first|decide|(show(0:Int)<_;first|decide|omega))),_,_,rfl,rfl,?_⟩
 dsimp only[aF];have bb:1<=1+nu%6/\1+nu%6<=6:=by omega
 generalize 1+nu%6=b at bb⊢;refine bQ (λσ' H'=>H'=H1/\∃ro:Int,σ'=[some (.ref sa),some (.int (mo:Int)),some (.int (my:Int)),some (.ref na),some (.int f),some (.int nu),some (.int b),some (.int ro),none,none,none]) ?_ (λkey=>?_)
 rotate_left
 .refine⟨_,rfl,_,_,rfl,rfl,⟨by decide,by decide,by decide⟩,_,_,rfl,rfl,_,rfl,?_⟩;refine aX (λ_=>?_) (λ_=>?_)
  .exact key _ _ ⟨rfl,3,rfl⟩
  .exact key _ _ ⟨rfl,10,rfl⟩
 rintro σ' H1' ⟨rfl,ro,rfl⟩;refine⟨_,rfl,_,rfl,_,rfl,na,zs,b,ro,rfl,SqL.of hna,bb.1,bb.2,z40,λl1 as1 xs1 H2 s2 _ hl1 pl1 xl1 R1=>?_⟩;refine⟨le1,λly hly=>?_⟩;have s3:=ak hly (.lst [V.ref l1]);have h3:(upd H2 ly (.lst [V.ref l1])) ly=some (.lst [V.ref l1]):=ah;have n3:l1≠ly:=bR hl1 hly;generalize upd H2 ly (.lst [V.ref l1])=H3 at s3 h3⊢;dsimp only[aF];refine bQ (λσ' H'=>av H2 H'/\σ'=[some (.ref sa),some (.int (mo:Int)),some (.int (my:Int)),some (.ref na),some (.int f),some (.int nu),some (.int b),some (.int ro),some (.ref ly),none,none]/\∃(las:List Addr) (xss:List (List (Int×Int))),H' ly=some (.lst (las.map V.ref))/\km K H' las xss/\xss.length=my/\∀xs∈xss,Ris b xs/\xs.length=zs.length) ?_ (λkey=>?_)
 rotate_left
 .have one:km K H3 [l1] [xs1]:=by
   refine⟨rfl,λi a xs e1 e2=>?_⟩;cases i with
   |zero=>cases e1;cases e2;exact⟨as1,SqL.of (s3 _ _ hl1),pl1.same s3⟩
   |succ i=>simp at e1
  refine⟨_,rfl,rfl,_,rfl,?_⟩;rcases my2 with rfl|rfl
  .refine aX (λz=>absurd (bB.mp z) (by decide)) (λ_=>?_);refine key _ _ ⟨s3,rfl,[l1],[xs1],h3,one,rfl,λxs hx=>?_⟩;rw[List.mem_singleton.mp hx];exact⟨R1,xl1⟩
  .refine aX (λ_=>?_) (λz=>absurd (bB.mpr rfl) z);have t3:=s2.trans s3;refine⟨_,rfl,.inl ⟨rfl,_,SqL.of h3⟩,_,rfl,_,rfl,⟨_,SqL.of (t3 _ _ hna)⟩,cu (K:=K) (a:=na) (xs:=zs.map V.int) (λi ys H4=>H4=H3/\∃ws:List Int,ws.length=i/\ys=ws.map V.int) ⟨rfl,[],rfl,rfl⟩ (λi ys H4 _ g=>by rw[g.1];exact SqL.of (t3 _ _ hna)) ?_ ?_ ?_⟩
   .rintro i ys H4 hi ⟨_,ws,wl,rfl⟩;rw[B3]at hi⊢;exact B7 (show ws.length<1000 by omega) (bi (B4 _))
   .rintro i y ys H4 hi ⟨rfl,ws,wl,rfl⟩;obtain⟨c,rfl,_⟩:=qP hi;refine cz ?_;exact⟨_,rfl,_,_,rfl,rfl,⟨by decide,by decide⟩,rfl,ws++[c/288],by simp[wl],by rw[Ch];rfl⟩
   rintro ys H4 ⟨rfl,ws,wl,rfl⟩ p4 hp4;rw[B3]at wl;have s5:=ak hp4 (.lst (ws.map V.int));have h5:(upd H4 p4 (.lst (ws.map V.int))) p4=some (.lst (ws.map V.int)):=ah;generalize upd H4 p4 (.lst (ws.map V.int))=H5 at s5 h5⊢;refine⟨_,rfl,_,rfl,p4,ws,b,ro,rfl,SqL.of h5,bb.1,bb.2,by omega,λl2 as2 xs2 H6 s6 nl2 hl2 pl2 xl2 R2=>?_⟩;have h6:=(s5.trans s6) _ _ h3;refine⟨_,_,_,rfl,rfl,h6,B7 (show 1<1000 by decide) (bi (B4 _)),?_⟩;have n6:l2≠ly:=λz=>by rw[z,s5 _ _ h3]at nl2;cases nl2
   have t6:=s3.trans (s5.trans s6);have two:km K (upd H6 ly (.lst ([V.ref l1]++[V.ref l2]))) [l1,l2] [xs1,xs2]:=by
    refine⟨rfl,λi a xs e1 e2=>?_⟩
    match i,e1,e2 with
    |0,e1,e2=>cases e1;cases e2;exact⟨as1,SqL.of (by rw[aK n3];exact t6 _ _ hl1),(pl1.same t6).lst h6⟩
    |1,e1,e2=>cases e1;cases e2;exact⟨as2,SqL.of (by rw[aK n6];exact hl2),pl2.lst h6⟩
    |i+2,e1,_=>exact absurd e1 (by simp)
   refine key _ _ ⟨t6.put hly,rfl,[l1,l2],[xs1,xs2],by rw[ah];rfl,two,rfl,λxs hx=>?_⟩;rcases List.mem_cons.mp hx with rfl|hx
   .exact⟨R1,xl1⟩
   .rw[List.mem_singleton.mp hx];exact⟨R2,by omega⟩
 rintro σ' H4 ⟨s4,rfl,las,xss,hly4,hls,xm,hx⟩;have t4:=s2.trans s4;have x12:0<xss.length/\xss.length<=2:=by rcases my2 with z|z<;>omega
 refine⟨_,rfl,_,rfl,rfl,na,zs,_,rfl,SqL.of (t4 _ _ hna),z40,λpq pas ds H5 s5 hpq hps dl wd f40=>?_⟩;dsimp only[aF];have hly5:=s5 _ _ hly4;refine⟨_,rfl,_,rfl,_,rfl,_,rfl,_,rfl,_,_,rfl,rfl,⟨by decide,by decide⟩,pq,ly,pas,las,ds,xss,b,f,nu/6,rfl,SqL.of hpq,hps,SqL.of hly5,hls.same s5,x12.1,x12.2,(λxs h=>⟨(hx xs h).1,(hx xs h).2.trans dl.symm⟩),bb.1,bb.2,f40,by omega,wd,f0,f60,λfq F H6 s6 hfq fo ff hb ft=>?_⟩;dsimp only[aF];refine⟨_,rfl,_,rfl,_,rfl,_,rfl,_,rfl,fq,pq,ly,na,F,pas,las,ds,xss,zs,b,rfl,hfq,SqL.of (s6 _ _ hpq),hps.same s6,SqL.of (s6 _ _ hly5),(hls.same s5).same s6,x12.2,SqL.of ((t4.trans (s5.trans s6)) _ _ hna),dl.symm,by omega,wd,fo.h1,fo.h2,(λxs h=>⟨(ft xs h).len.symm,(ft xs h).po,(hx xs h).1⟩),λwq was es H7 s7 hwq hws sm wo lt=>?_⟩;refine⟨le2,λp2 hp2=>?_⟩;have s8:=ak hp2 (.tup [V.ref fq,V.ref wq]);have h8:SqT K (upd H7 p2 (.tup [V.ref fq,V.ref wq])) p2 [V.ref fq,V.ref wq]:=SqT.of ah;generalize upd H7 p2 (.tup [V.ref fq,V.ref wq])=H8 at s8 h8⊢;refine⟨_,rfl,le2,λp3 hp3=>?_⟩;have s9:=ak hp3 (.tup [V.ref p2,V.ref ly]);have k7:=s7.trans (s8.trans s9);have e40:es.length<=40:=by rw[sm.1];omega
 refine q p3 p2 ly las F es xss b _ (s1.trans (t4.trans (s5.trans (s6.trans k7)))) (SqT.of ah) ⟨fq,wq,was,s9.tup h8,k7.tup hfq,SqL.of ((s8.trans s9) _ _ hwq),hws.same (s8.trans s9)⟩ (SqL.of ((s6.trans k7) _ _ hly5)) (hls.same (s5.trans (s6.trans k7))) xm e40 (λxs h=>⟨⟨fo,sm.1.trans (ft xs h).len,wo,(ft xs h).po,by omega⟩,(ft xs h).pg,(hx xs h).1,λk hk=>wS (ft xs h) sm hk (lt k hk xs h).1 (lt k hk xs h).2⟩)
def xh(K:PySem.W.Frag):Sp:=λvs H Q _=>∃(fa sa la pq:Addr) (F:Frm) (s:Say) (ds:List Wd) (xs:List (Int×Int)) (n:Nat),vs=[.ref fa,.ref sa,.ref la,.ref pq]/\SqT K H fa (fm F.w F.h F.f F.m)/\SqT K H sa (lI s)/\aU K H la xs/\kn K H pq F ds xs n/\c_ F.w F.h F.f F.m/\eC xs.length s/\b_ F.h xs/\(∀k,k<xs.length->(xAt xs k).1.toNat<n)/\Q (.str (tx (ay F.h F.f xs s))) H
theorem l6:aG ["form","saying","places","pages","page","row"] ["form","saying","places","pages"] (aw nB):=by walk_at "c"
theorem qh(T:Txt P w K mg a):aS P w K mg base CX0 1 a.n_ a.mE ["form","saying","places","pages"] (xh K):=by
 refine T.j9.fn.ok l6 (λvs H Q E h=>?_) (λcdv A outer s H vs Q E hr h=>?_)
 .obtain⟨fa,sa,la,pq,F,s,ds,xs,n,rfl,_⟩:=h;rfl
 obtain⟨fa,sa,la,pq,F,s,ds,xs,n,rfl,hf,hs,hl,hpq,fo,so,po,pn,q⟩:=h;refine⟨_,(ac (aI (ao a_ (ag aj (pv 1) ab (λ_ _=>rfl)) bv (ar _)) (af (au (ag aj (pv 1) ab (λ_ _=>rfl)))) aD)
   (ac (fE (ag aH (pv 2) (ag aj (pv 1) ab (λ_ _=>rfl)) (λ_ _=>rfl)) (dn rfl (a8 (aO (i:=4) l6.nd rfl (Cb rfl)) (a8 (aO (i:=5) l6.nd rfl (Cb rfl)) cK))))
   (ac (aI (ao a_ (ag aj (pv 1) ab (λ_ _=>rfl)) bv (ar _)) (af (au (cS eD rfl T.gj Dx (aa (ag aj (ag aH (pv 3) (pv 4) (λ_ _=>rfl)) ab (λ_ _=>rfl)) ae)))) aD)
   (af (au (cS eD rfl T.gj Dx (aa (ai aC (ai aC (ai c5 (pv 4) (ag aj (pv 0) ab (λ_ _=>rfl))) (pv 5)) ab) ae))))))),?_⟩
 obtain⟨las,hla,hls⟩:=hl;cases s with
 |text l =>
  refine⟨_,rfl,_,_,_,_,rfl,rfl,hs,rfl,rfl,_,rfl,?_⟩;rw[decide_eq_true rfl];refine bM ?_;exact⟨_,rfl,_,_,_,_,rfl,rfl,hs,rfl,q⟩
 |page k =>
  have hk:k<xs.length:=so;obtain⟨zo,ez,hz⟩:=aU.get (a:=la) hls hk;have px:=po.get hk;have p1:=px.1.p1;obtain⟨ps,pp,rr,h3,ep,g1,_⟩:=hpq.get (pn k hk);obtain⟨m,em,m62⟩:=lJ fo.f1 fo.f2 p1 px.2;refine⟨_,rfl,_,_,_,_,rfl,rfl,hs,rfl,rfl,_,rfl,?_⟩;rw[decide_eq_false (λz=>absurd (V.str.inj z) (by decide +kernel))];refine aT ?_;dsimp only[cm];refine⟨_,rfl,_,rfl,_,_,_,_,rfl,rfl,hs,rfl,_,_,_,_,rfl,rfl,hla,ez,zo,_,rfl,hz,rfl,_,_,rfl,_,_,rfl,rfl,?_⟩;dsimp only[aF];refine⟨_,rfl,_,_,_,_,rfl,rfl,hs,rfl,rfl,_,rfl,?_⟩;rw[decide_eq_true rfl];refine bM ?_;have ef:F.f+(((xAt xs k).1.toNat:Nat):Int)=(m:Int):=by
   have:(((xAt xs k).1.toNat:Nat):Int)=(xAt xs k).1:=by show((xs.getD k (0,0)).1.toNat:Int)=(xs.getD k (0,0)).1;omega
   rw[this];exact em
  refine⟨_,rfl,_,rfl,_,_,_,_,rfl,rfl,h3,(by rw[show(xs.getD k (0,0)).1=(((xAt xs k).1.toNat:Nat):Int) by show(xs.getD k (0,0)).1=((xs.getD k (0,0)).1.toNat:Int);omega];exact ep),_,_,_,_,rfl,rfl,g1,rfl,_,rfl,(by rw[ef];exact gW (lx m62)),?_⟩;rw[ef];have es:ay F.h F.f xs (.page k)=d7 m:=by
   show d7 (F.f+(xs.getD k (0,0)).1).toNat=_;rw[em];rfl
  rw[es]at q;show _;have:=iX m
  first|(rw[this];exact q)|exact this▸q
 |row k =>
  have hk:k<xs.length:=so;obtain⟨zo,ez,hz⟩:=aU.get (a:=la) hls hk;have px:=po.get hk;obtain⟨m,em,m62⟩:=oq fo.h1 fo.h2 px.1.p1 px.2 px.1.r1 px.1.r2;have h60:=fo.h2;have h1:=fo.h1;refine⟨_,rfl,_,_,_,_,rfl,rfl,hs,rfl,rfl,_,rfl,?_⟩;rw[decide_eq_false (λz=>absurd (V.str.inj z) (by decide +kernel))];refine aT ?_;dsimp only[cm];refine⟨_,rfl,_,rfl,_,_,_,_,rfl,rfl,hs,rfl,_,_,_,_,rfl,rfl,hla,ez,zo,_,rfl,hz,rfl,_,_,rfl,_,_,rfl,rfl,?_⟩;dsimp only[aF];refine⟨_,rfl,_,_,_,_,rfl,rfl,hs,rfl,rfl,_,rfl,?_⟩;rw[decide_eq_false (λz=>absurd (V.str.inj z) (by decide +kernel))];refine aT ?_;dsimp only[cm];refine⟨_,rfl,_,rfl,_,_,_,_,rfl,rfl,hf,rfl,_,_,rfl,rfl,.inr ⟨by omega,by omega⟩,_,rfl,_,_,rfl,rfl,_,_,rfl,rfl,_,rfl,(by rw[em];exact gW (lx m62)),?_⟩;have es:ay F.h F.f xs (.row k)=d7 m:=by
   show d7 ((xs.getD k (0,0)).1*F.h+(xs.getD k (0,0)).2+1).toNat=_;rw[em];rfl
  rw[es]at q;have:=iX m;rw[em]
  first|(rw[this];exact q)|exact this▸q
def q9(K:PySem.W.Frag):Sp:=λvs H Q _=>∃(ba la pq:Addr) (F:Frm) (ds:List Wd) (xs:List (Int×Int)) (n:Nat),vs=[.ref ba,.ref la,.ref pq]/\cC K H ba F.w F.h F.f F.m ds/\aU K H la xs/\kn K H pq F ds xs n/\aR F ds xs/\ds.length<=40/\(∀k,k<xs.length->(xAt xs k).1.toNat<n)/\(∀k,k<ds.length->a9 F xs (dAt ds k)<F.h)/\(∀p:Int,((aQ F ds xs p ds.length).length:Int)<=F.h)/\n<=1000/\∀H',av H H'->Q (.bl true) H'
theorem bp:aG ["book","places","pages","form","words","page","due","many","body","k","word","rows","read","row"] ["book","places","pages"] (aw hW):=by walk_at "c"
theorem q_(T:Txt P w K mg a):aS P w K mg base CX0 3 a.ik a.gJ ["book","places","pages"] (q9 K):=by
 refine T.ig.fn.ok bp (λvs H Q E h=>?_) (λcdv A outer s H vs Q E hr h=>?_)
 .obtain⟨ba,la,pq,F,ds,xs,n,rfl,_⟩:=h;rfl
 obtain⟨ba,la,pq,F,ds,xs,n,rfl,hbk,hl,hpq,B,d40,pn,hlt,fl,n1000,q⟩:=h;have hu:=C2 (eJ hr);refine⟨_,(ac (fE (pv 0) (dn rfl (a8 (aO (i:=3) bp.nd rfl (Ex rfl)) (a8 (aO (i:=4) bp.nd rfl (Cb rfl)) cK))))
   (ac (cy Ct rfl (dS rfl T.cZ (aa (aA aL rfl T.bu PySem.boot_len (aa (pv 2) ae)) ae)) (aO (i:=5) bp.nd rfl (Cb rfl)) (ac (am (i:=6) bp.nd rfl (Cb rfl) (bX ae))
   (ac (am (i:=7) bp.nd rfl (Cb rfl) ab)
   (ac (am (i:=8) bp.nd rfl (Cb rfl) (bX ae))
   (ac (cy Ct rfl (iN rfl T.b8 (pv 4)) (dn rfl (a8 (aO (i:=9) bp.nd rfl (Cb rfl)) (a8 (aO (i:=10) bp.nd rfl (Cb rfl)) cK))) (af (aI (ao a_ (ag aj (ag aH (pv 1) (pv 9) (λ_ _=>rfl)) ab (λ_ _=>rfl)) (pv 5) (ar _)) (ac (am (i:=7) bp.nd rfl (Cb rfl) (ai aC (pv 7) (aq T.gQ (nE T) (hr.mono (by decide)) rfl (aa (pv 3) (aa (ag aj (pv 10) ab (λ_ _=>rfl)) (aa (pv 1) ae))))))
   (ac (cr (dt PySem.F.plainAttrs_list PySem.F.slot_list_extend PySem.F.type_list_extend mU (pv 6) (aa (dJ rfl (dC (caps:=["places","pages","form"]) (js:=[1,2,3]) (cap:=⟨⟨rfl,.inl rfl,rfl,.inl rfl⟩,⟨⟨rfl,.inl rfl,rfl,.inl rfl⟩,⟨⟨rfl,.inl rfl,rfl,.inl rfl⟩,trivial⟩⟩⟩)) (bL (ag aj (pv 10) ab (λ_ _=>rfl))) (λ_ _ _ _=>b7) (λ_ _ _ _=>(aq T.j9 (qh T) (hr.mono (by decide)) rfl (aa (pv 3) (aa (pv 0) (aa (pv 1) (aa (pv 2) ae))))))) ae)))
   (af (cr (dt PySem.F.plainAttrs_list PySem.F.slot_list_append PySem.F.type_list_append cU (pv 8) (aa (ag aj (ag aH (pv 1) (pv 9) (λ_ _=>rfl)) ab (λ_ _=>rfl)) ae)))))) aD)))
   (ac (am (i:=11) bp.nd rfl (Cb rfl) (ag aj (ag aH (pv 2) (pv 5) (λ_ _=>rfl)) ab (λ_ _=>rfl)))
   (ac (am (i:=12) bp.nd rfl (Cb rfl) (bX ae))
   (ac (cy Ct rfl (bL (iT lu (pv 11) (fv (ai bZ (ag aj (pv 3) ab (λ_ _=>rfl)) (pv 7))) vD)) (aO (i:=13) bp.nd rfl (Cb rfl)) (af (cr (dt PySem.F.plainAttrs_list PySem.F.slot_list_extend PySem.F.type_list_extend mU (pv 12) (aa (dt PySem.F.plainAttrs_str PySem.F.slot_str_split PySem.F.type_str_split rK (pv 13) (aa bv ae)) ae)))))
   (ac (aI (ao (xP hu) (pv 12) (pv 6) (ar _)) (af (au b9)) aD)
   (af (cy Ct rfl (dS rfl T.cZ (aa (ai bZ (ag aj (pv 3) ab (λ_ _=>rfl)) (pv 7)) ae)) (aO (i:=13) bp.nd rfl (Cb rfl)) (af (aI (PW.pt (bW (ao tJ (pv 13) (pv 8) (by with_unfolding_all rfl)) (bK (ao fF (ag aH (pv 11) (pv 13) (λ_ _=>rfl)) bv (ar _))))) (af (au b9)) aD)))))))))))))
   (af (au b9)))),?_⟩
 obtain⟨fa,wo,was,hb,hf,hw,hws⟩:=hbk;have hl0:=hl;obtain⟨las,hla,hls⟩:=hl;have fo:=B.fo;have h1:=fo.h1;have h60:=fo.h2;have wdx:∀d∈ds,dN xs.length d:=λd hd=>by have:=B.wd d hd;rwa[B.len]at this
 have elw:(was.map V.ref).length=ds.length:=by rw[B3,hws.1]
 obtain⟨ps0,rs0,q1,q2,q3,_⟩:=id hpq;refine⟨_,rfl,ba,_,rfl,hb,rfl,_,_,rfl,_,_,rfl,rfl,?_⟩;dsimp only[aF];refine⟨_,rfl,_,_,rfl,.inl q3,_,rfl,(by omega),(by rw[B3,q1];omega),?_⟩;rw[B3,q1];refine mR (λi σ H2=>av H H2/\∃(v5 v6 v7 v8 v9 v10 v11 v12 v13:Option V),σ=[some (.ref ba),some (.ref la),some (.ref pq),some (.ref fa),some (.ref wo),v5,v6,v7,v8,v9,v10,v11,v12,v13]) ⟨av.refl _,none,none,none,none,none,none,none,none,none,rfl⟩ ?_ ?_
 rotate_left
 .rintro σ H2 ⟨s2,v5,v6,v7,v8,v9,v10,v11,v12,v13,rfl⟩;exact q _ s2
 rintro i σ H2 hi ⟨s2,v5,v6,v7,v8,v9,v10,v11,v12,v13,rfl⟩;have e0:(0:Int)+(i:Int)=(i:Int):=D4 _;rw[e0];have hin:i<n:=by omega
 refine⟨Cv _,λdu hdu=>?_⟩;have s3:=ak hdu (.lst []);have g3:(upd H2 du (.lst [])) du=some (.lst (ax (eH F ds xs (i:Int) 0))):=ah;have du0:H du=none:=s2.free hdu;generalize upd H2 du (.lst [])=H3 at s3 g3⊢;dsimp only[aF];refine⟨Cv _,λbo hbo=>?_⟩;have s4:=ak hbo (.lst []);have g4:(upd H3 bo (.lst [])) bo=some (.lst ((gt xs (i:Int) 0).map V.int)):=ah;have bo0:H bo=none:=(s2.trans s3).free hbo;have ndb:du≠bo:=λe=>by rw[e,hbo]at g3;cases g3
 have k4:=s4 _ _ g3;generalize upd H3 bo (.lst [])=H4 at s4 g4 k4⊢;dsimp only[aF];have t4:=s2.trans (s3.trans s4);refine⟨_,rfl,wo,rfl,⟨_,t4.seq hw⟩,gk (K:=K) (a:=wo) (xs:=was.map V.ref) (λj σ H5=>av H H5/\∃(w9 w10:Option V),σ=[some (.ref ba),some (.ref la),some (.ref pq),some (.ref fa),some (.ref wo),some (.int (i:Int)),some (.ref du),some (.int ((aQ F ds xs (i:Int) j).length:Int)),some (.ref bo),w9,w10,v11,v12,v13]/\H5 du=some (.lst (ax (eH F ds xs (i:Int) j)))/\H5 bo=some (.lst ((gt xs (i:Int) j).map V.int))/\(eH F ds xs (i:Int) j).length<=40*j) ⟨t4,_,_,rfl,k4,g4,B4 _⟩ (λj σ H5 _ g=>g.1.seq hw) ?_ ?_⟩
 .rintro j x σ H5 p hx ⟨s5,w9,w10,rfl,k5,g5,dl⟩ hp;obtain⟨wb,d,rfl,eb,ed⟩:=jS hws.1 hx;have hid:j<ds.length:=(List.getElem?_eq_some_iff.mp ed).1;have hix:j<xs.length:=by rw[<-B.len];exact hid
  have edd:dAt ds j=d:=by
   show ds.getD j wd0=d;rw[B6,ed];rfl
  have wk:=wdx d (Cg ed);have n40:=wk.n;obtain⟨sy,fo',bs,c1,c2,c3,c4⟩:=hws.2 j wb d eb ed;obtain⟨zo,ez,hz⟩:=aU.get (a:=la) hls hix;have s6:=ak hp (.tup [.int (j:Int),.ref wb]);refine⟨p,_,rfl,SqT.of ah,rfl,_,_,rfl,_,_,rfl,rfl,?_⟩;have k6:=s6 _ _ k5;have g6:=s6 _ _ g5;generalize upd H5 p (.tup [.int (j:Int),.ref wb])=H6 at s6 k6 g6⊢;dsimp only[aF];have t6:=s5.trans s6;refine⟨_,rfl,_,rfl,_,_,_,_,rfl,rfl,t6.seq hla,ez,_,_,_,_,rfl,rfl,t6.tup hz,rfl,_,rfl,rfl,_,rfl,?_⟩;have ef:aQ F ds xs (i:Int) (j+1)=aQ F ds xs (i:Int) j++(if(xAt xs j).1=(i:Int)then bE F.w ((dAt ds j).foot.map (ay F.h F.f xs))else[]):=rfl;have edu:eH F ds xs (i:Int) (j+1)=eH F ds xs (i:Int) j++(if(xAt xs j).1=(i:Int)then(dAt ds j).foot.map (ay F.h F.f xs)else[]):=rfl;have ebo:gt xs (i:Int) (j+1)=gt xs (i:Int) j++(if(xAt xs j).1=(i:Int)then[(xAt xs j).2]else[]):=rfl;by_cases cp:(xAt xs j).1=(i:Int)
  rotate_left
  .rw[decide_eq_false (show ¬ V.int (xAt xs j).1=V.int (i:Int)from λz=>cp (V.int.inj z))];refine aT ?_;rw[if_neg cp,C4]at ef edu ebo;refine⟨t6,some (.int (j:Int)),some (.ref wb),by rw[ef];rfl,by rw[edu];exact k6,by rw[ebo];exact g6,by rw[edu];omega⟩
  rw[decide_eq_true (show V.int (xAt xs j).1=V.int (i:Int) by rw[cp])];refine bM ?_;rw[if_pos cp,edd]at ef edu;rw[if_pos cp]at ebo;have hl_:=uy (hlt j hid);rw[edd]at hl_;refine⟨_,rfl,_,rfl,_,rfl,_,_,_,_,rfl,rfl,t6.tup c1,rfl,_,rfl,fa,fo',la,F.w,F.h,F.f,F.m,bs,las,d.foot,xs,rfl,t6.tup hf,t6.seq c3,c4.same t6,t6.seq hla,hls.same t6,fo,wk.f,B.po,(by omega),_,_,rfl,rfl,?_⟩;dsimp only[aF];rw[<-gn];have em:((aQ F ds xs (i:Int) j).length:Int)+fJ F.w F.h (d.foot.map (ay F.h F.f xs))=((aQ F ds xs (i:Int) (j+1)).length:Int):=by
   have:fJ F.w F.h (d.foot.map (ay F.h F.f xs))=((bE F.w (d.foot.map (ay F.h F.f xs))).length:Int):=hl_.1;rw[this,ef,Ca];omega
  rw[em];have efl:(bs.map V.ref).length=d.foot.length:=by rw[B3,c4.1]
  refine⟨_,rfl,.inl ⟨rfl,_,SqL.of k6⟩,_,rfl,_,_,_,_,rfl,rfl,t6.tup c1,rfl,fo',rfl,⟨_,t6.seq c3⟩,cu (K:=K) (a:=fo') (xs:=bs.map V.ref) (λk ys H7=>H7=H6/\ys=ax ((d.foot.map (ay F.h F.f xs)).take k)) ⟨rfl,rfl⟩ (λk ys H7 _ g=>by rw[g.1];exact t6.seq c3) ?_ ?_ ?_⟩
  .rintro k ys H7 hk ⟨_,rfl⟩;rw[eP,CB,B3];exact B7 (show _<1000 by omega) (bi (B4 _))
  .rintro k y ys H7 hk ⟨rfl,rfl⟩;obtain⟨so,e1,rfl⟩:∃so,bs[k]?=some so/\V.ref so=y:=by
    rw[B_]at hk;exact Option.map_eq_some_iff.mp hk
   obtain⟨s,e2⟩:∃s,d.foot[k]?=some s:=⟨d.foot[k]'(by rw[<-c4.1];exact(List.getElem?_eq_some_iff.mp e1).1),c7 _⟩;refine cz ?_;refine⟨_,rfl,_,rfl,_,rfl,_,rfl,fa,so,la,pq,F,s,ds,xs,n,rfl,t6.tup hf,t6.tup (c4.2 k so s e1 e2),hl0.same t6,hpq.same t6,fo,wk.f s (Cg e2),B.po,pn,rfl,?_⟩;rw[cg (show(d.foot.map (ay F.h F.f xs))[k]?=some (ay F.h F.f xs s) by rw[B_,e2];rfl),dY]
  rintro ys H7 ⟨rfl,rfl⟩ p7 hp7;rw[efl,Dv (show(d.foot.map (ay F.h F.f xs)).length<=d.foot.length by rw[B3];exact B4 _)];have s8:=ak hp7 (.lst (ax (d.foot.map (ay F.h F.f xs))));have h8:(upd H7 p7 (.lst (ax (d.foot.map (ay F.h F.f xs))))) p7=some (.lst (ax (d.foot.map (ay F.h F.f xs)))):=ah;have k8:=s8 _ _ k6;have g8:=s8 _ _ g6;generalize upd H7 p7 (.lst (ax (d.foot.map (ay F.h F.f xs))))=H8 at s8 h8 k8 g8⊢;refine⟨_,_,_,_,rfl,rfl,k8,h8,?_,?_⟩
  .rw[eP,eP,B3];exact d0 (by omega)
  rw[qe,<-edu];have t9:av H (upd H8 du (.lst (ax (eH F ds xs (i:Int) (j+1))))):=(t6.trans s8).put du0;have k9:(upd H8 du (.lst (ax (eH F ds xs (i:Int) (j+1))))) du=some (.lst (ax (eH F ds xs (i:Int) (j+1)))):=ah;have g9:(upd H8 du (.lst (ax (eH F ds xs (i:Int) (j+1))))) bo=some (.lst ((gt xs (i:Int) j).map V.int)):=by rw[aK ndb.symm];exact g8
  generalize upd H8 du (.lst (ax (eH F ds xs (i:Int) (j+1))))=H9 at t9 k9 g9⊢;have bl:=o5 (xs:=xs) (i:Int) j;refine⟨_,rfl,.inl ⟨rfl,_,SqL.of g9⟩,_,rfl,_,rfl,_,_,_,_,rfl,rfl,t9.seq hla,ez,_,_,_,_,rfl,rfl,t9.tup hz,rfl,_,_,_,rfl,rfl,g9,?_,?_⟩
  .rw[B3];exact B7 (show _<1000 by omega) (bi (B4 _))
  refine⟨t9.put bo0,some (.int (j:Int)),some (.ref wb),rfl,by rw[aK ndb];exact k9,?_,?_⟩
  .rw[ah,ebo,Ch];rfl
  .rw[edu,Ca,B3];omega
 .rintro σ H5 ⟨s5,w9,w10,rfl,k5,g5,dl⟩;rw[elw]at k5 g5 dl;rw[elw];obtain⟨ps,pp,rr,m0,ep,m1,m2⟩:=hpq.get hin;have fli:=fl (i:Int);have bl:=o5 (xs:=xs) (i:Int) ds.length;generalize em:(aQ F ds xs (i:Int) ds.length).length=many at fli⊢;refine⟨_,rfl,_,rfl,_,_,_,_,rfl,rfl,s5.seq m0,ep,_,_,_,_,rfl,rfl,s5.tup m1,rfl,?_⟩;dsimp only[aF];refine⟨Cv _,λre hre=>?_⟩;have s6:=ak hre (.lst []);have h6:(upd H5 re (.lst [])) re=some (.lst []):=ah;have re0:H re=none:=s5.free hre;have k6:=s6 _ _ k5;have g6:=s6 _ _ g5;have nrd:re≠du:=λe=>by rw[e,k5]at hre;cases hre
  have nrb:re≠bo:=λe=>by rw[e,g5]at hre;cases hre
  generalize upd H5 re (.lst [])=H6 at s6 h6 k6 g6⊢;dsimp only[aF];have t6:=s5.trans s6;refine⟨_,rfl,_,rfl,_,_,_,_,rfl,rfl,t6.tup hf,rfl,_,rfl,_,_,rfl,rfl,_,rfl,_,_,rfl,t6.seq m2,λp4 hp4=>?_⟩;have ec:c6 (ax (pgR F ds xs (i:Int))) (some (F.h-(many:Int))) none=ax (aQ F ds xs (i:Int) ds.length):=by
   unfold ax;rw[i4,show F.h-(many:Int)=((F.h.toNat-many:Nat):Int) by omega,AY,<-em,zu (by omega)]
  rw[ec];have s7:=ak hp4 (.lst (ax (aQ F ds xs (i:Int) ds.length)));have h7:(upd H6 p4 (.lst (ax (aQ F ds xs (i:Int) ds.length)))) p4=some (.lst (ax (aQ F ds xs (i:Int) ds.length))):=ah;have k7:=s7 _ _ k6;have g7:=s7 _ _ g6;have r7:=s7 _ _ h6;have np4:p4≠re:=λe=>by rw[e,h6]at hp4;cases hp4
  generalize upd H6 p4 (.lst (ax (aQ F ds xs (i:Int) ds.length)))=H7 at s7 h7 k7 g7 r7⊢;have t7:=t6.trans s7;obtain⟨gs,eg1,eg2,gne⟩:=uA (F:=F) (ds:=ds) (xs:=xs) (i:Int) ds.length;have tok:∀g∈gs,∀t∈g,t.length<=62/\32∉t:=λg hg t ht=>by
   obtain⟨k,s,hk,hs,rfl⟩:=uz (F:=F) (ds:=ds) (xs:=xs) (p:=(i:Int)) (n:=ds.length) (by rw[<-eg2];exact List.mem_flatten.mpr ⟨g,hg,ht⟩);have:=da fo B.po ((B.d hk).2.f s hs);exact⟨this.2.1,λz=>absurd (this.2.2 32 z).1 (by decide)⟩
  have gl:∀g∈gs,g.length<=40*ds.length:=λg hg=>by
   have:g.length<=gs.flatten.length:=by
    obtain⟨a,b,rfl⟩:=List.append_of_mem hg;rw[En,DD,Ca,Ca];omega
   rw[eg2]at this;omega
  have fle:=λi=>Ah (gs:=gs) i;rw[eg2]at fle;rw[eg1]at h7;refine⟨_,rfl,⟨_,SqL.of h7⟩,eX (K:=K) (a:=p4) (xs:=ax (gs.map (bm [32]))) (λj σ H8=>av H H8/\(∃v:Option V,σ=[some (.ref ba),some (.ref la),some (.ref pq),some (.ref fa),some (.ref wo),some (.int (i:Int)),some (.ref du),some (.int (many:Int)),some (.ref bo),w9,w10,some (.ref rr),some (.ref re),v])/\H8 p4=some (.lst (ax (gs.map (bm [32]))))/\H8 du=some (.lst (ax (eH F ds xs (i:Int) ds.length)))/\H8 bo=some (.lst ((gt xs (i:Int) ds.length).map V.int))/\H8 re=some (.lst (ax ((gs.take j).flatten)))) ⟨t7,⟨v13,rfl⟩,h7,k7,g7,r7⟩ (λj σ H8 _ g=>SqL.of g.2.2.1) ?_ ?_⟩
  .rintro j y σ H8 hj ⟨s8,⟨v,rfl⟩,h8,k8,g8,r8⟩;obtain⟨l,rfl,el⟩:=ot hj;rw[B_]at el;cases eg:gs[j]? with
   |none=>rw[eg]at el;cases el
   |some g =>
   rw[eg]at el;cases el;have hg:=Cg eg;have fj:=fle j;have glg:=gl g hg;have jl:=m_ g (λt ht=>(tok g hg t ht).1);have rm:g.length*(62+1)<=(40*ds.length)*63:=E3 glg (B4 _);refine⟨_,rfl,.inl ⟨rfl,_,SqL.of r8⟩,_,rfl,rfl,_,32,rfl,congrArg (λz=>[V.str z]) cbl,(by rw[bz];exact d0 (by omega)),λp2 hp2=>?_⟩;rw[u4 (gne g hg) (λt ht=>(tok g hg t ht).2)];have s9:=ak hp2 (.lst (ax g));refine⟨_,_,_,_,rfl,rfl,s9 _ _ r8,ah,(by rw[eP,eP];exact d0 (by omega)),?_⟩;rw[qe,<-Ai eg];have u9:av H8 (upd H8 p2 (.lst (ax g))):=s9;generalize upd H8 p2 (.lst (ax g))=H9 at s9 u9⊢;have k9:=s9 _ _ k8;have g9:=s9 _ _ g8;have h9:=s9 _ _ h8;refine⟨(s8.trans s9).put re0,⟨_,rfl⟩,?_,by rw[aK nrd.symm];exact k9,by rw[aK nrb.symm];exact g9,ah⟩;rw[aK np4];exact h9
  .rintro σ H8 ⟨s8,⟨v,rfl⟩,h8,k8,g8,r8⟩;have elg:(ax (gs.map (bm [32]))).length=gs.length:=by rw[eP,B3]
   rw[elg,C8,eg2]at r8;refine⟨_,rfl,_,rfl,_,_,_,_,rfl,rfl,SqL.of r8,SqL.of k8,jR _,jR _,_,rfl,?_⟩;show if(!d6 _ _)=true then _ else _;rw[rL (jR _)];refine aT ?_;dsimp only[cm];refine⟨_,rfl,_,_,_,_,rfl,rfl,s8.tup hf,rfl,_,rfl,_,_,rfl,rfl,_,rfl,(by omega),(by omega),mR (λj σ H9=>H9=H8/\∃v:Option V,σ=[some (.ref ba),some (.ref la),some (.ref pq),some (.ref fa),some (.ref wo),some (.int (i:Int)),some (.ref du),some (.int (many:Int)),some (.ref bo),w9,w10,some (.ref rr),some (.ref re),v]) ⟨rfl,v,rfl⟩ ?_ ?_⟩
   .rintro j σ H9 hj ⟨rfl,v,rfl⟩;have ej:(0:Int)+(j:Int)=(j:Int):=D4 _;rw[ej];refine⟨_,rfl,_,rfl,_,_,rfl,.inl (SqL.of g8),rfl,wT _,_,rfl,?_⟩;show if(!inV (.int (j:Int)) ((gt xs (i:Int) ds.length).map V.int))=true then _ else _;cases hv:inV (.int (j:Int)) ((gt xs (i:Int) ds.length).map V.int)with
    |true =>
     refine b4 (λ_=>⟨rfl,_,rfl⟩) (λz=>absurd z (by decide))
    |false =>
     refine b4 (λz=>absurd rfl z) (λ_=>?_);have no:=vX (A_ hv);refine⟨_,rfl,_,rfl,_,_,_,_,rfl,rfl,s8.seq m2,cY (A9 (by omega) no),rfl,_,rfl,?_⟩;rw[decide_eq_true (show V.str (tx [])=V.str (PySem.Str.ofString "") by rw[ce])];refine aT ?_;exact⟨rfl,_,rfl⟩
   .rintro σ H9 ⟨rfl,v,rfl⟩;exact⟨s8,_,_,_,_,_,_,_,_,_,rfl⟩
def sf(K:PySem.W.Frag):Sp:=λvs H Q _=>∃(q0:Addr) (F:Frm) (ds:List Wd) (xs:List (Int×Int)) (n:Nat),vs=[.ref q0,.int (n:Int),.int F.h]/\kn K H q0 F ds xs n/\1<=F.h/\F.h<=60/\(∀p:Int,((aQ F ds xs p ds.length).length:Int)<=F.h)/\∀H',av H H'->Q (.bl true) H'
theorem mJ:aG ["found","many","high","page"] ["found","many","high"] (aw i7):=by walk_at "c"
theorem sh(T:Txt P w K mg a):aS P w K mg base CX0 1 a.ju a.iq ["found","many","high"] (sf K):=by
 refine T.jk.fn.ok mJ (λvs H Q E h=>?_) (λcdv A outer s H vs Q E hr h=>?_)
 .obtain⟨q0,F,ds,xs,n,rfl,_⟩:=h;rfl
 obtain⟨q0,F,ds,xs,n,rfl,hq,h1,h60,fl,q⟩:=h;refine⟨_,(ac (aI (PW.pt (cH (dm (bV (aA dF rfl T.bC CD (aa (pv 0) (aa (d3 (v:=.ty "list") rfl T.eI Dw rfl) ae))) (λ_=>rfl))) (cx (ao fF (aA aL rfl T.bu PySem.boot_len (aa (pv 0) ae)) (pv 1) (ar _))))) (af (au b9)) aD)
   (ac (cy Ct rfl (bL (pv 0)) (aO (i:=3) mJ.nd rfl (Cb rfl)) (ac (aI (PW.pt (cH (dm (bV (aA dF rfl T.bC CD (aa (pv 3) (aa (d3 (v:=.ty "tuple") rfl T.gM PyProof.Rows.boot_tuple rfl) ae))) (λ_=>rfl))) (cH (ao fF (aA aL rfl T.bu PySem.boot_len (aa (pv 3) ae)) ab (ar _)) (cH (dm (bV (aA dF rfl T.bC CD (aa (ag aj (pv 3) ab (λ_ _=>rfl)) (aa (d3 (v:=.ty "list") rfl T.eI Dw rfl) ae))) (λ_=>rfl))) (cx (ao fF (aA aL rfl T.bu PySem.boot_len (aa (ag aj (pv 3) ab (λ_ _=>rfl)) ae)) (pv 2) (ar _))))))) (af (au b9)) aD)
   (ac (aI (PW.pt (cH (dm (bV (aA dF rfl T.bC CD (aa (ag aj (pv 3) ab (λ_ _=>rfl)) (aa (d3 (v:=.ty "int") rfl T.gR DP rfl) ae))) (λ_=>rfl))) (cx (bV (aA dF rfl T.bC CD (aa (ag aj (pv 3) ab (λ_ _=>rfl)) (aa (d3 (v:=.ty "bool") rfl T.jN PyProof.Rows.boot_bool rfl) ae))) (λ_=>rfl))))) (af (au b9)) aD)
   (af (aI (dm (bV (aA (yM rfl) rfl T.oz PyProof.Rows.boot_all (aa (dJ rfl (dC (caps:=[]) (js:=[]) (cap:=trivial)) (bL (ag aj (pv 3) ab (λ_ _=>rfl))) (λ_ _ _ _=>b7) (λ_ _ _ _=>(aA (r:=A8 K) yn rfl T.bC CD (aa (pv 0) (aa (d3 (v:=.ty "str") rfl T.gj Dx rfl) ae))))) ae)) (λ_=>rfl))) (af (au b9)) aD)))))
   (af (au b9)))),?_⟩
 obtain⟨ps,rs,pl_,rl,h3,h4⟩:=hq;have el:(ps.map V.ref).length=n:=by rw[B3,pl_]
 refine⟨_,rfl,_,"list",true,rfl,(by decide),.inl ⟨⟨_,h3⟩,rfl⟩,_,rfl,?_⟩;refine aT ?_;refine⟨_,rfl,_,_,rfl,.inl h3,_,rfl,rfl,_,rfl,?_⟩;rw[el,decide_eq_true rfl];refine aT ?_;dsimp only[cm];refine⟨_,rfl,_,rfl,⟨_,h3⟩,eX (K:=K) (a:=q0) (xs:=ps.map V.ref) (λi σ H2=>av H H2/\∃v:Option V,σ=[some (.ref q0),some (.int (n:Int)),some (.int F.h),v]) ⟨av.refl _,none,rfl⟩ (λi σ H2 _ g=>g.1.seq h3) ?_ ?_⟩
 rotate_left
 .rintro σ H2 ⟨s2,v,rfl⟩;exact q _ s2
 rintro i y σ H2 hi ⟨s2,v,rfl⟩;obtain⟨p,ep,rfl⟩:∃p,ps[i]?=some p/\V.ref p=y:=by
  rw[B_]at hi;exact Option.map_eq_some_iff.mp hi
 have hin:i<n:=by rw[<-pl_];exact(List.getElem?_eq_some_iff.mp ep).1
 obtain⟨g1,g2⟩:=h4 i p (rs[i]'(by omega)) ep (c7 (by omega));generalize rs[i]'(by omega)=r at g1 g2;have fli:=fl (i:Int);have rlen:((ax (pgR F ds xs (i:Int))).length:Int)=F.h:=by
  unfold ax;rw[B3,vT (by omega)];omega
 refine⟨_,rfl,_,"tuple",true,rfl,(by decide),.inr ⟨⟨_,s2.tup g1⟩,rfl⟩,_,rfl,?_⟩;refine aT ?_;refine⟨_,rfl,_,_,rfl,.inr (s2.tup g1),rfl,_,rfl,?_⟩;refine aT ?_;refine⟨_,rfl,_,_,_,_,rfl,rfl,s2.tup g1,rfl,_,"list",true,rfl,(by decide),.inl ⟨⟨_,s2.seq g2⟩,rfl⟩,_,rfl,?_⟩;refine aT ?_;refine⟨_,rfl,_,_,_,_,rfl,rfl,s2.tup g1,rfl,_,_,rfl,.inl (s2.seq g2),_,rfl,rfl,_,rfl,?_⟩;rw[rlen,decide_eq_true rfl];refine aT ?_;dsimp only[cm];refine⟨_,rfl,_,_,_,_,rfl,rfl,s2.tup g1,rfl,_,"int",true,rfl,(by decide),rfl,_,rfl,?_⟩;refine aT ?_;refine⟨_,rfl,_,_,_,_,rfl,rfl,s2.tup g1,rfl,_,"bool",false,rfl,(by decide),rfl,_,rfl,?_⟩;refine aT ?_;dsimp only[cm];refine⟨_,rfl,_,_,_,_,rfl,rfl,s2.tup g1,rfl,r,rfl,⟨_,s2.seq g2⟩,cu (K:=K) (a:=r) (xs:=ax (pgR F ds xs (i:Int))) (λj ys H3=>H3=H2/\ys=(Co j true).map V.bl) ⟨rfl,rfl⟩ (λj ys H3 _ g=>by rw[g.1];exact s2.seq g2) ?_ ?_ ?_⟩
 .rintro j ys H3 hj ⟨_,rfl⟩;rw[B3,C0];exact B7 (show j<1000 by omega) (bi (B4 _))
 .rintro j y ys H3 hj ⟨rfl,rfl⟩;obtain⟨t,rfl,_⟩:=ot hj;refine cz ?_;refine⟨_,rfl,_,"str",true,rfl,(by decide),rfl,rfl,?_⟩;rw[List.replicate_succ',Ch];rfl
 rintro ys H3 ⟨rfl,rfl⟩ p3 hp3;refine⟨p3,_,rfl,SqL.of ah,_,rfl,?_⟩;have all:(Co (ax (pgR F ds xs (i:Int))).length true).all id=true:=by
  rw[List.all_eq_true];intro x hx;rw[DV hx];rfl
 rw[all];refine aT ?_;exact⟨s2.trans (ak hp3 _),_,rfl⟩
def si(K:PySem.W.Frag):Sp:=λvs H Q _=>∃(a:Addr) (x:Int×Int),vs=[.ref a]/\SqT K H a (pl x)/\Q (.bl true) H
theorem mK:aG ["found","part"] ["found"] (aw i8):=by walk_at "c"
theorem sj(T:Txt P w K mg a):aS P w K mg base CX0 1 a.jv a.ir ["found"] (si K):=by
 refine T.jm.fn.ok mK (λvs H Q E h=>?_) (λcdv A outer s H vs Q E hr h=>?_)
 .obtain⟨a,x,rfl,_⟩:=h;rfl
 obtain⟨a,x,rfl,hx,q⟩:=h;refine⟨_,(ac (aI (PW.pt (cH (dm (bV (aA dF rfl T.bC CD (aa (pv 0) (aa (d3 (v:=.ty "tuple") rfl T.gM PyProof.Rows.boot_tuple rfl) ae))) (λ_=>rfl))) (cx (ao fF (aA aL rfl T.bu PySem.boot_len (aa (pv 0) ae)) ab (ar _))))) (af (au b9)) aD)
   (ac (cy Ct rfl (AB (pv 0)) (aO (i:=1) mK.nd rfl (Cb rfl)) (af (aI (PW.pt (cH (dm (bV (aA dF rfl T.bC CD (aa (pv 1) (aa (d3 (v:=.ty "int") rfl T.gR DP rfl) ae))) (λ_=>rfl))) (cx (bV (aA dF rfl T.bC CD (aa (pv 1) (aa (d3 (v:=.ty "bool") rfl T.jN PyProof.Rows.boot_bool rfl) ae))) (λ_=>rfl))))) (af (au b9)) aD)))
   (af (au b9)))),?_⟩
 refine⟨_,rfl,_,"tuple",true,rfl,(by (first|decide|(show(0:Int)<_;first|decide|omega))),.inr ⟨⟨_,hx⟩,rfl⟩,_,rfl,?_⟩
 refine aT ?_;refine⟨_,rfl,_,_,rfl,.inr hx,rfl,_,rfl,?_⟩;refine zM rfl ?_;refine⟨_,rfl,_,rfl,⟨_,hx⟩,zV (K:=K) (a:=a) (xs:=pl x) (λi σ H2=>H2=H/\∃v,σ=[some (.ref a),v]) ⟨rfl,none,rfl⟩ (λi σ H2 _ h2=>by rw[h2.1];exact hx) ?_ ?_⟩
 .rintro i y σ H2 hi ⟨rfl,v,rfl⟩;have hy:∃z,y=V.int z:=by
   match i,hi with
   |0,hi=>exact⟨_,(Cw hi).symm⟩
   |1,hi=>exact⟨_,(Cw hi).symm⟩
  obtain⟨z,rfl⟩:=hy;refine⟨_,rfl,_,"int",true,rfl,(by (first|decide|(show(0:Int)<_;first|decide|omega))),rfl,_,rfl,?_⟩
  refine aT ?_;refine⟨_,rfl,_,"bool",false,rfl,(by (first|decide|(show(0:Int)<_;first|decide|omega))),rfl,_,rfl,?_⟩
  refine aT ?_;exact⟨rfl,_,rfl⟩
 .rintro σ H2 ⟨rfl,v,rfl⟩;exact q
def yu(K:PySem.W.Frag):Sp:=λvs H Q _=>∃(la:Addr) (as:List Addr) (xs:List (Int×Int)) (h:Int),vs=[.ref la,.int (as.length:Int),.int h]/\SqL K H la (as.map V.ref)/\aV K H as xs/\as.length<=400/\fP h xs/\Q (.bl true) H
theorem j7:aG ["found","many","high","page","place"] ["found","many","high"] (aw o7):=by walk_at "c"
theorem yv(T:Txt P w K mg a):aS P w K mg base CX0 2 a.pC a.oj ["found","many","high"] (yu K):=by
 refine T.pz.fn.ok j7 (λvs H Q E h=>?_) (λcdv A outer s H vs Q E hr h=>?_)
 .obtain⟨la,as,xs,h,rfl,_⟩:=h;rfl
 obtain⟨la,as,xs,h,rfl,hla,pxs,a60,R,q⟩:=h;refine⟨_,(ac (aI (PW.pt (cH (dm (bV (aA dF rfl T.bC CD (aa (pv 0) (aa (d3 (v:=.ty "list") rfl T.eI Dw rfl) ae))) (λ_=>rfl))) (cx (ao fF (aA aL rfl T.bu PySem.boot_len (aa (pv 0) ae)) (pv 1) (ar _))))) (af (au b9)) aD)
   (ac (am (i:=3) j7.nd rfl (Cb rfl) ab)
   (ac (cy Ct rfl (bL (pv 0)) (aO (i:=4) j7.nd rfl (Cb rfl)) (ac (aI (PW.pt (cH (dm (bV (aq T.jm (sj T) (hr.mono (by decide)) rfl (aa (pv 4) ae)) (λ_=>rfl))) (cH (ao d_ (ag aj (pv 4) ab (λ_ _=>rfl)) (pv 3) (ar _)) (cx (dm (oO fG d_ ab (ag aj (pv 4) ab (λ_ _=>rfl)) (pv 2))))))) (af (au b9)) aD)
   (af (am (i:=3) j7.nd rfl (Cb rfl) (ag aj (pv 4) ab (λ_ _=>rfl))))))
   (af (au b9))))),?_⟩
 refine⟨_,rfl,_,"list",true,rfl,(by (first|decide|(show(0:Int)<_;first|decide|omega))),.inl ⟨⟨_,hla⟩,rfl⟩,_,rfl,?_⟩
 refine aT ?_;refine⟨_,rfl,_,_,rfl,.inl hla,_,rfl,rfl,_,rfl,?_⟩;refine zM (by rw[B3]) ?_;dsimp only[cm];refine⟨_,rfl,_,rfl,⟨_,hla⟩,eX (K:=K) (a:=la) (xs:=as.map V.ref) (λi σ H2=>H2=H/\∃(p:Int) (v:Option V),σ=[some (.ref la),some (.int (as.length:Int)),some (.int h),some (.int p),v]/\∀k,k<xs.length->i<=k->p<=(xAt xs k).1) ⟨rfl,0,none,rfl,λk hk _=>(R.row k hk).p1⟩ (λi σ H2 _ g=>by rw[g.1];exact hla) ?_ ?_⟩
 .rintro i y σ H2 hi ⟨rfl,p,v,rfl,hp⟩;rw[B_]at hi;obtain⟨a,ea,rfl⟩:=Option.map_eq_some_iff.mp hi;have hil:i<xs.length:=by rw[<-pxs.1];exact(List.getElem?_eq_some_iff.mp ea).1
  have hz:=pxs.2 i a _ ea (c7 hil);have ex:xAt xs i=xs[i]:=lA (c7 hil);have rw_:=R.row i hil;have hpi:=hp i hil (B4 _);rw[ex]at rw_ hpi;have up:∀k,k<xs.length->i+1<=k->xs[i].1<=(xAt xs k).1:=λk hk h1=>by
   have:=dI (i:=k) (xs:=xs) (λn n0 n1=>R.up n n0 (by omega)) (k-i) i (by omega);rw[show i+(k-i)=k by omega,aJ,ex]at this;omega
  generalize xs[i]=x at *;refine⟨_,rfl,a,x,rfl,hz,_,rfl,?_⟩;refine aT ?_;refine⟨_,rfl,_,_,_,_,rfl,rfl,hz,rfl,_,rfl,_,_,rfl,rfl,_,rfl,?_⟩;rw[decide_eq_false (show ¬ (x.1<p) by omega)];refine aT ?_;refine⟨_,rfl,_,_,_,_,rfl,rfl,hz,rfl,_,_,rfl,rfl,_,rfl,?_⟩;rw[decide_eq_true (show(0:Int)<=x.2 from rw_.r1),if_pos rfl];refine⟨_,rfl,_,_,rfl,rfl,_,rfl,?_⟩;rw[decide_eq_true (show x.2<h from rw_.r2)];refine aT ?_;dsimp only[cm];exact⟨_,rfl,_,_,_,_,rfl,rfl,hz,rfl,rfl,x.1,_,rfl,up⟩
 .rintro σ H2 ⟨rfl,p,v,rfl,_⟩;exact q
theorem xi{g:List (List Nat)}(ne:g≠[])(free:∀t∈g,32∉t):(Txt.split (tx (bm [32] g)) ⟨#[32]⟩).map V.str=ax g:=by
 rw[tR,kf 32 g ne free];unfold ax;rw[DS];rfl
theorem nF(a:List (List Nat)):(ax a).length=a.length:=by unfold ax;rw[B3]
theorem Bb{F:Frm}{ds:List Wd}{xs:List (Int×Int)}{p:Int}{r:Nat}(h:(r:Int)+1+((aQ F ds xs p ds.length).length:Int)<=F.h):(ax (pgR F ds xs p))[r]?=some (V.str (tx (bm [32] (bD F ds xs p (r:Int) ds.length)))):=by
 unfold ax pgR;rw[B_,Ce (by rw[CB,dU];omega),Eo (by omega)];unfold cN;rw[B_,DW (by omega)];rfl
def qj(K:PySem.W.Frag):Sp:=λvs H Q _=>∃(ba la pq:Addr) (F:Frm) (ds:List Wd) (xs:List (Int×Int)) (b:Int) (n:Nat),vs=[.ref ba,.ref la,.ref pq]/\cC K H ba F.w F.h F.f F.m ds/\aU K H la xs/\kn K H pq F ds xs n/\aR F ds xs/\ds.length<=40/\fP b xs/\(∀k,k<xs.length->(xAt xs k).1.toNat<n)/\(∀k,k<ds.length->(xAt xs k).2+1+((aQ F ds xs (xAt xs k).1 ds.length).length:Int)<=F.h)/\∀H',av H H'->Q (.bl true) H'
theorem bG:aG ["book","places","pages","form","words","at","k","word","page","row","some"] ["book","places","pages"] (aw gu):=by walk_at "c"
theorem qk(T:Txt P w K mg a):aS P w K mg base CX0 2 a.gG a.gg ["book","places","pages"] (qj K):=by
 refine T.gC.fn.ok bG (λvs H Q E h=>?_) (λcdv A outer s H vs Q E hr h=>?_)
 .obtain⟨ba,la,pq,F,ds,xs,b,n,rfl,_⟩:=h;rfl
 obtain⟨ba,la,pq,F,ds,xs,b,n,rfl,hbk,hl,hpq,B,d40,R,pn,room,q⟩:=h;have hu:=C2 (eJ hr);refine⟨_,(ac (fE (pv 0) (dn rfl (a8 (aO (i:=3) bG.nd rfl (Cb rfl)) (a8 (aO (i:=4) bG.nd rfl (Cb rfl)) cK))))
   (ac (am (i:=5) bG.nd rfl (Cb rfl) ab)
   (ac (cy Ct rfl (iN rfl T.b8 (pv 4)) (dn rfl (a8 (aO (i:=6) bG.nd rfl (Cb rfl)) (a8 (aO (i:=7) bG.nd rfl (Cb rfl)) cK))) (ac (aI (PW.pt (bW (ao di (pv 6) ab (ar _)) (bK (ao (pY hu) (ag aH (pv 1) (ai bZ (pv 6) ab) (λ_ _=>rfl)) (ag aH (pv 1) (pv 6) (λ_ _=>rfl)) (ar _))))) (af (am (i:=5) bG.nd rfl (Cb rfl) (ai aC (pv 5) ab))) (af (am (i:=5) bG.nd rfl (Cb rfl) ab)))
   (ac (fE (ag aH (pv 1) (pv 6) (λ_ _=>rfl)) (dn rfl (a8 (aO (i:=8) bG.nd rfl (Cb rfl)) (a8 (aO (i:=9) bG.nd rfl (Cb rfl)) cK))))
   (ac (am (i:=10) bG.nd rfl (Cb rfl) (dt PySem.F.plainAttrs_str PySem.F.slot_str_split PySem.F.type_str_split rK (ag aH (ag aj (ag aH (pv 2) (pv 8) (λ_ _=>rfl)) ab (λ_ _=>rfl)) (pv 9) (λ_ _=>rfl)) (aa bv ae)))
   (ac (aI (PW.pt (cH (ao lG (pv 5) (aA aL rfl T.bu PySem.boot_len (aa (pv 10) ae)) (ar _)) (cx (ao fF (ag aH (pv 10) (pv 5) (λ_ _=>rfl)) (aq T.j9 (qh T) (hr.mono (by decide)) rfl (aa (pv 3) (aa (ag aj (pv 7) ab (λ_ _=>rfl)) (aa (pv 1) (aa (pv 2) ae))))) (ar _))))) (af (au b9)) aD)
   (af (aI (PW.pt (bW (PW.pt (cH (ao a_ (ai aC (pv 6) ab) (aA aL rfl T.bu PySem.boot_len (aa (pv 4) ae)) (ar _)) (cx (ao (xR hu) (ag aH (pv 1) (ai aC (pv 6) ab) (λ_ _=>rfl)) (ag aH (pv 1) (pv 6) (λ_ _=>rfl)) (ar _))))) (bK (ao fF (aA aL rfl T.bu PySem.boot_len (aa (pv 10) ae)) (ai aC (pv 5) ab) (ar _))))) (af (au b9)) aD)))))))
   (af (au b9))))),?_⟩
 obtain⟨fa,wo,was,hb,hf,hw,hws⟩:=hbk;have hl0:=hl;obtain⟨las,hla,hls⟩:=hl;have fo:=B.fo;have wdx:∀d∈ds,dN xs.length d:=λd hd=>by have:=B.wd d hd;rwa[B.len]at this
 have elw:(was.map V.ref).length=ds.length:=by rw[B3,hws.1]
 refine⟨_,rfl,ba,_,rfl,hb,rfl,_,_,rfl,_,_,rfl,rfl,?_⟩;dsimp only[aF];refine⟨_,rfl,wo,rfl,⟨_,hw⟩,gk (K:=K) (a:=wo) (xs:=was.map V.ref) (λi σ H2=>av H H2/\∃(at':Nat) (v6 v7 v8 v9 v10:Option V),σ=[some (.ref ba),some (.ref la),some (.ref pq),some (.ref fa),some (.ref wo),some (.int (at':Int)),v6,v7,v8,v9,v10]/\(0<i->at'=dj F ds xs (i-1))) ⟨av.refl _,0,none,none,none,none,none,rfl,λz=>absurd z (CI _)⟩ (λi σ H2 _ g=>g.1.seq hw) ?_ ?_⟩
 rotate_left
 .rintro σ H2 ⟨s2,at',v6,v7,v8,v9,v10,rfl,_⟩;exact q _ s2
 rintro i x σ H2 p hx ⟨s2,at',v6,v7,v8,v9,v10,rfl,ha⟩ hp;obtain⟨wb,d,rfl,eb,ed⟩:=jS hws.1 hx;have hid:i<ds.length:=(List.getElem?_eq_some_iff.mp ed).1;have hix:i<xs.length:=by rw[<-B.len];exact hid
 have edd:dAt ds i=d:=by
  show ds.getD i wd0=d;rw[B6,ed];rfl
 have wk:=wdx d (Cg ed);obtain⟨sy,fo',bs,g1,g2,g3,g4⟩:=hws.2 i wb d eb ed;obtain⟨zo,ez,hz⟩:=aU.get (a:=la) hls hix;have s3:=ak hp (.tup [.int (i:Int),.ref wb]);refine⟨p,_,rfl,SqT.of ah,rfl,_,_,rfl,_,_,rfl,rfl,?_⟩;generalize upd H2 p (.tup [.int (i:Int),.ref wb])=H3 at s3⊢;dsimp only[aF];have t3:=s2.trans s3;refine bQ (λσ' H'=>H'=H3/\σ'=[some (.ref ba),some (.ref la),some (.ref pq),some (.ref fa),some (.ref wo),some (.int (dj F ds xs i:Int)),some (.int (i:Int)),some (.ref wb),v8,v9,v10]) ?_ (λkey=>?_)
 rotate_left
 .refine⟨_,rfl,_,_,rfl,rfl,_,rfl,?_⟩;by_cases i0:i=0
  .refine b4 (λ_=>?_) (λz=>absurd (of_decide_eq_true z) (by omega));refine key _ _ ⟨rfl,?_⟩;rw[rT R hix (.inl i0)];rfl
  refine b4 (λz=>absurd (decide_eq_true (show(0:Int)<(i:Int) by omega)) z) (λ_=>?_);have hi1:i-1<xs.length:=by omega
  obtain⟨z1,e1,h1⟩:=aU.get (a:=la) hls hi1;refine⟨_,rfl,_,rfl,_,_,rfl,rfl,_,_,_,_,rfl,rfl,t3.seq hla,(by rw[show(i:Int)-1=((i-1:Nat):Int) by omega];exact e1),_,rfl,_,rfl,_,_,_,_,rfl,rfl,t3.seq hla,ez,_,_,_,_,rfl,rfl,t3.tup h1,t3.tup hz,rfl,rfl,_,rfl,?_⟩;show if d6 (pl (xAt xs (i-1))) (pl (xAt xs i))=true then _ else _;rw[m8];have a1:=ha (by omega);by_cases c:xAt xs (i-1)=xAt xs i
  .rw[decide_eq_true c];refine bM ?_;refine⟨_,rfl,_,_,rfl,rfl,?_⟩;refine key _ _ ⟨rfl,?_⟩;have:=zr (F:=F) (ds:=ds) (xs:=xs) (k:=i-1) (by rw[show i-1+1=i by omega];exact c);rw[show i-1+1=i by omega]at this;rw[this,a1];rfl
  .rw[decide_eq_false c];refine aT ?_;refine key _ _ ⟨rfl,?_⟩;rw[rT R hix (.inr c)];rfl
 rintro σ' H' ⟨rfl,rfl⟩;have rx:=(B.x hid).1;obtain⟨ps,pp,rr,h3,ep,k1,k2⟩:=hpq.get (pn i hix);have p0:=rx.p1;have r0:=rx.r1;have ex1:(((xAt xs i).1.toNat:Nat):Int)=(xAt xs i).1:=by omega
 have ex2:(((xAt xs i).2.toNat:Nat):Int)=(xAt xs i).2:=by omega
 rw[ex1]at ep k1 k2;have rw_:=Bb (F:=F) (ds:=ds) (xs:=xs) (p:=(xAt xs i).1) (r:=(xAt xs i).2.toNat) (by rw[ex2];exact room i hid);rw[ex2]at rw_;have row1:=A7 (F:=F) (ds:=ds) (xs:=xs) hid;have rl:=lP (F:=F) (ds:=ds) (xs:=xs) (xAt xs i).1 (xAt xs i).2 ds.length;have ra:dj F ds xs i<(bD F ds xs (xAt xs i).1 (xAt xs i).2 ds.length).length:=(List.getElem?_eq_some_iff.mp row1).1;have tl:∀t∈bD F ds xs (xAt xs i).1 (xAt xs i).2 ds.length,t.length<=62/\32∉t:=λt ht=>by
  obtain⟨k,hk,rfl⟩:=o3 ht;have:=da fo B.po (by have:=(B.d hk).2.s;exact this);exact⟨this.2.1,λz=>absurd (this.2.2 32 z).1 (by decide)⟩
 have jl:=m_ _ (λt ht=>(tl t ht).1);have rm:(bD F ds xs (xAt xs i).1 (xAt xs i).2 ds.length).length*(62+1)<=40*63:=E3 (by omega) (B4 _);refine⟨_,rfl,_,rfl,_,_,_,_,rfl,rfl,t3.seq hla,ez,zo,_,rfl,t3.tup hz,rfl,_,_,rfl,_,_,rfl,rfl,?_⟩;dsimp only[aF];refine⟨_,rfl,_,rfl,_,_,_,_,rfl,rfl,t3.seq h3,ep,_,_,_,_,rfl,rfl,t3.tup k1,rfl,_,rfl,_,_,_,_,rfl,rfl,t3.seq k2,(show atI (ax (pgR F ds xs (xAt xs i).1)) (xAt xs i).2=some (V.str (tx (bm [32] (bD F ds xs (xAt xs i).1 (xAt xs i).2 ds.length)))) by rw[<-ex2];rw[<-ex2]at rw_;exact cY rw_),rfl,_,32,rfl,congrArg (λz=>[V.str z]) cbl,(by rw[bz];exact d0 (by omega)),λp5 hp5=>?_⟩;generalize er:bD F ds xs (xAt xs i).1 (xAt xs i).2 ds.length=g at *;rw[xi (λz=>by rw[z]at ra;exact absurd ra (Cy _)) (λt ht=>(tl t ht).2)];have s5:=ak hp5 (.lst (ax g));have h5:SqL K (upd H' p5 (.lst (ax g))) p5 (ax g):=SqL.of ah;generalize upd H' p5 (.lst (ax g))=H5 at s5 h5⊢;have t5:=t3.trans s5;refine⟨_,rfl,_,rfl,_,_,rfl,.inl h5,_,_,rfl,rfl,_,rfl,?_⟩;rw[nF];refine orG (λz=>absurd (of_decide_eq_true z) (by omega)) (λ_=>?_);refine⟨_,rfl,_,rfl,_,_,_,_,rfl,rfl,h5,(show atI (ax g) (dj F ds xs i:Int)=some (V.str (tx (ay F.h F.f xs (dAt ds i).say)))from cY (by unfold ax;rw[B_,row1];rfl)),_,rfl,_,rfl,_,_,_,_,rfl,rfl,t5.tup g1,rfl,_,rfl,_,rfl,fa,sy,la,pq,F,d.say,ds,xs,n,rfl,t5.tup hf,t5.tup g2,hl0.same t5,hpq.same t5,fo,wk.s,B.po,pn,rfl,_,rfl,?_⟩;rw[edd,decide_eq_true rfl];refine aT ?_;dsimp only[cm];refine⟨_,rfl,_,_,rfl,rfl,_,rfl,_,_,rfl,.inl (t5.seq hw),rfl,_,rfl,?_⟩;rw[elw];by_cases c:i+1=ds.length
 .rw[decide_eq_true (show V.int ((i:Int)+1)=V.int (ds.length:Int) by rw[<-c];rfl)];refine bM ?_;refine bM ?_;refine⟨_,rfl,_,_,rfl,.inl h5,_,rfl,_,_,rfl,rfl,rfl,_,rfl,?_⟩;rw[nF,decide_eq_true (show V.int (g.length:Int)=V.int ((dj F ds xs i:Int)+1) by rw[<-er,vU R B.len hid (.inl c)];rfl)];refine aT ?_;exact⟨t5,dj F ds xs i,_,_,_,_,_,rfl,λ_=>rfl⟩
 rw[decide_eq_false (show ¬ V.int ((i:Int)+1)=V.int (ds.length:Int)from λz=>c (by have:=V.int.inj z;omega))];refine aT ?_;have hi1:i+1<xs.length:=by rw[<-B.len];omega
 obtain⟨z1,e1,h1⟩:=aU.get (a:=la) hls hi1;refine⟨_,rfl,_,rfl,_,_,rfl,rfl,_,_,_,_,rfl,rfl,t5.seq hla,(show atI (las.map V.ref) ((i:Int)+1)=some (V.ref z1)from e1),_,rfl,_,rfl,_,_,_,_,rfl,rfl,t5.seq hla,ez,_,_,_,_,rfl,rfl,t5.tup h1,t5.tup hz,rfl,rfl,_,rfl,?_⟩;show if(!d6 (pl (xAt xs (i+1))) (pl (xAt xs i)))=true then _ else _;rw[m8];by_cases c2:xAt xs (i+1)=xAt xs i
 .rw[decide_eq_true c2];refine aT ?_;exact⟨t5,dj F ds xs i,_,_,_,_,_,rfl,λ_=>rfl⟩
 .rw[decide_eq_false c2];refine bM ?_;refine⟨_,rfl,_,_,rfl,.inl h5,_,rfl,_,_,rfl,rfl,rfl,_,rfl,?_⟩;rw[nF,decide_eq_true (show V.int (g.length:Int)=V.int ((dj F ds xs i:Int)+1) by rw[<-er,vU R B.len hid (.inr c2)];rfl)];refine aT ?_;exact⟨t5,dj F ds xs i,_,_,_,_,_,rfl,λ_=>rfl⟩
def sk:Sp:=λvs H Q _=>∃n:Nat,vs=[.int (n:Int)]/\n<10^100/\Q (.str (tx (d7 n))) H
theorem sq:aG ["number"] ["number"] (aw i9):=by walk_at "c"
theorem mL(T:Txt P w K mg a):aS P w K mg base CX0 1 a.jr a.io ["number"] sk:=by
 refine T.fX.fn.ok sq (λvs H Q E h=>?_) (λcdv A outer s H vs Q E hr h=>?_)
 .obtain⟨n,rfl,_⟩:=h;rfl
 obtain⟨n,rfl,hn,q⟩:=h;refine⟨_,(af (au (cS eD rfl T.gj Dx (aa (pv 0) ae)))),?_⟩;refine⟨_,rfl,_,rfl,gW hn,?_⟩;exact Eq.mpr (congrArg (λz=>Q (.str z) H) (iX n)) q
def Aj(K:PySem.W.Frag):Sp:=λvs H Q _=>∃(fa sa pa:Addr) (w h f m:Int) (s:Say) (as:List Addr) (xs:List (Int×Int)),vs=[.ref fa,.ref sa,.ref pa]/\SqT K H fa (fm w h f m)/\SqT K H sa (lI s)/\SqL K H pa (as.map V.ref)/\aV K H as xs/\c_ w h f m/\eC xs.length s/\b_ h xs/\Q (.str (tx (ay h f xs s))) H
theorem vY:aG ["form","saying","places","place"] ["form","saying","places"] (aw uB):=by walk_at "c"
theorem rc(T:Txt P w K mg a):aS P w K mg base CX0 2 a.uY a.rz ["form","saying","places"] (Aj K):=by
 refine T.nR.fn.ok vY (λvs H Q E h=>?_) (λcdv A outer s H vs Q E hr h=>?_)
 .obtain⟨fa,sa,pa,w,h,f,m,s,as,xs,rfl,_⟩:=h;rfl
 obtain⟨fa,sa,pa,w,h,f,m,s,as,xs,rfl,hf,hs,hp,ha,fo,so,po,q⟩:=h;refine⟨_,(ac (aI (ao a_ (ag aj (pv 1) ab (λ_ _=>rfl)) bv (ar _)) (af (au (ag aj (pv 1) ab (λ_ _=>rfl)))) aD)
   (ac (am (i:=3) vY.nd rfl (Cb rfl) (ag aH (pv 2) (ag aj (pv 1) ab (λ_ _=>rfl)) (λ_ _=>rfl)))
   (ac (aI (ao a_ (ag aj (pv 1) ab (λ_ _=>rfl)) bv (ar _)) (af (au (aq T.fX (mL T) (hr.mono (by decide)) rfl (aa (ai aC (ag aj (pv 0) ab (λ_ _=>rfl)) (ag aj (pv 3) ab (λ_ _=>rfl))) ae)))) aD)
   (af (au (aq T.fX (mL T) (hr.mono (by decide)) rfl (aa (ai aC (ai aC (ai c5 (ag aj (pv 3) ab (λ_ _=>rfl)) (ag aj (pv 0) ab (λ_ _=>rfl))) (ag aj (pv 3) ab (λ_ _=>rfl))) ab) ae))))))),?_⟩
 cases s with
 |text l =>
  refine⟨_,rfl,_,_,_,_,rfl,rfl,hs,rfl,rfl,_,rfl,?_⟩;rw[decide_eq_true rfl];refine bM ?_;exact⟨_,rfl,_,_,_,_,rfl,rfl,hs,rfl,q⟩
 |page k =>
  obtain⟨a1,e1,h1⟩:=ha.get so;obtain⟨i,b⟩:=po.get so;obtain⟨n,en,hn⟩:=lJ fo.f1 fo.f2 i.p1 b;refine⟨_,rfl,_,_,_,_,rfl,rfl,hs,rfl,rfl,_,rfl,?_⟩;rw[vI];refine aT ?_;refine⟨_,rfl,_,rfl,_,_,_,_,rfl,rfl,hs,rfl,_,_,_,_,rfl,rfl,hp,e1,?_⟩;refine⟨_,rfl,_,_,_,_,rfl,rfl,hs,rfl,rfl,_,rfl,?_⟩;rw[decide_eq_true rfl];refine bM ?_;refine⟨_,rfl,_,_,_,_,rfl,rfl,hf,rfl,_,rfl,_,_,_,_,rfl,rfl,h1,rfl,_,_,rfl,rfl,n,congrArg (λz=>[V.int z]) en,lx hn,?_⟩;simp only[ay]at q;rw[en]at q;exact q
 |row k =>
  obtain⟨a1,e1,h1⟩:=ha.get so;obtain⟨i,b⟩:=po.get so;obtain⟨n,en,hn⟩:=oq fo.h1 fo.h2 i.p1 b i.r1 i.r2;refine⟨_,rfl,_,_,_,_,rfl,rfl,hs,rfl,rfl,_,rfl,?_⟩;rw[xW];refine aT ?_;refine⟨_,rfl,_,rfl,_,_,_,_,rfl,rfl,hs,rfl,_,_,_,_,rfl,rfl,hp,e1,?_⟩;refine⟨_,rfl,_,_,_,_,rfl,rfl,hs,rfl,rfl,_,rfl,?_⟩;rw[oC];refine aT ?_;have h1':=fo.h1;have h2':=fo.h2;refine⟨_,rfl,_,_,_,_,rfl,rfl,h1,rfl,_,rfl,_,_,_,_,rfl,rfl,hf,rfl,_,_,rfl,rfl,.inr ⟨by omega,by omega⟩,_,rfl,_,_,_,_,rfl,rfl,h1,rfl,_,_,rfl,rfl,_,_,rfl,rfl,n,congrArg (λz=>[V.int z]) en,lx hn,?_⟩;simp only[ay]at q;rw[en]at q;exact q
def uN(K:PySem.W.Frag):Sp:=λvs H Q _=>∃(fa oa pa:Addr) (w h f m:Int) (bs as:List Addr) (ss:List Say) (xs:List (Int×Int)),vs=[.ref fa,.ref oa,.ref pa]/\SqT K H fa (fm w h f m)/\SqL K H oa (bs.map V.ref)/\cP K H bs ss/\SqL K H pa (as.map V.ref)/\aV K H as xs/\c_ w h f m/\(∀s∈ss,eC xs.length s)/\b_ h xs/\ss.length<=60/\∀q H',av H H'->H q=none->H' q=some (.lst (ax (bE w (ss.map (ay h f xs)))))->Q (.ref q) H'
theorem fV:aG ["form","foot","places","rows","saying","text"] ["form","foot","places"] (aw kw):=by walk_at "c"
theorem nG(T:Txt P w K mg a):aS P w K mg base CX0 3 a.kO a.jD ["form","foot","places"] (uN K):=by
 refine T.gP.fn.ok fV (λvs H Q E h=>?_) (λcdv A outer s H vs Q E hr h=>?_)
 .obtain⟨fa,oa,pa,w,h,f,m,bs,as,ss,xs,rfl,_⟩:=h;rfl
 obtain⟨fa,oa,pa,w,h,f,m,bs,as,ss,xs,rfl,hf,ho,hb,hp,ha,fo,so,po,s60,q⟩:=h;have hu:=C2 (eJ hr);refine⟨_,(ac (am (i:=3) fV.nd rfl (Cb rfl) (bX ae))
   (ac (cy Ct rfl (bL (pv 1)) (aO (i:=4) fV.nd rfl (Cb rfl)) (ac (am (i:=5) fV.nd rfl (Cb rfl) (aq T.nR (rc T) (hr.mono (by decide)) rfl (aa (pv 0) (aa (pv 4) (aa (pv 2) ae)))))
   (af (aI (PW.pt (bW (ao (xP hu) (pv 3) (bX ae) (ar _)) (bK (ao fG (ai aC (ai aC (aA cI rfl T.bu PySem.boot_len (aa (ag aH (pv 3) (pV mS ab) (λ_ _=>rfl)) ae)) ab) (aA cI rfl T.bu PySem.boot_len (aa (pv 5) ae))) (ag aj (pv 0) ab (λ_ _=>rfl)) (ar _))))) (af (fE (ai iB (ai iB (ag aH (pv 3) (pV mS ab) (λ_ _=>rfl)) bv) (pv 5)) (xD (pv 3) (pV mS ab) tH))) (af (cr (dt PySem.F.plainAttrs_list PySem.F.slot_list_append PySem.F.type_list_append cU (pv 3) (aa (pv 5) ae))))))))
   (af (au (pv 3))))),?_⟩
 refine(⟨Cv _,λr hr=>?_⟩);have s0:=ak hr (.lst []);have sl:∀s∈ss,(ay h f xs s).length<=62:=λs hs=>(da fo po (so s hs)).2.1;refine⟨_,rfl,_,rfl,⟨_,s0.seq ho⟩,eX (K:=K) (a:=oa) (xs:=bs.map V.ref) (λi σ H2=>(∃v1 v2:Option V,σ=[some (.ref fa),some (.ref oa),some (.ref pa),some (.ref r),v1,v2])/\av H H2/\H2 r=some (.lst (ax (bE w ((ss.take i).map (ay h f xs))))))
  ⟨⟨none,none,rfl⟩,s0,ah⟩ (λi σ H2 _ h2=>h2.2.1.seq ho) ?_ ?_⟩
 .rintro i y σ H2 hi ⟨⟨v1,v2,rfl⟩,s2,h2⟩;obtain⟨b,s,rfl,eb,es⟩:=qM hb.1 hi;have hs:=Cg es;have is:i<ss.length:=(List.getElem?_eq_some_iff.mp es).1;have hts:∀t∈(ss.take i).map (ay h f xs),t.length<=62:=λt ht=>by
   obtain⟨u,hu,rfl⟩:=List.mem_map.mp ht;exact sl u (Dg hu)
  obtain⟨fs1,fs2⟩:=lK fo.w2 _ hts;rw[B3,CB]at fs2;rw[cg es,Ch,DM,dX];have tl:=sl s hs;generalize bE w ((ss.take i).map (ay h f xs))=rows at h2 fs1 fs2;refine(⟨_,rfl,_,rfl,_,rfl,_,_,_,_,_,_,_,_,_,_,rfl,s2.tup hf,s2.tup (hb.2 i b s eb es),s2.seq hp,ha.same s2,fo,so s hs,po,?_⟩);generalize ay h f xs s=t at tl;dsimp only[aF];refine(⟨_,rfl,Cv _,λp2 hp2=>?_⟩);have s3:=ak hp2 (.lst []);have h3:=s3 _ _ h2;refine(⟨_,_,_,_,rfl,rfl,SqL.of h3,SqL.of ah,jR _,rfl,_,rfl,?_⟩);rw[if_pos rfl,yT];rcases eE rows with e|⟨rs,l,e⟩
  .have e:rows=[]/\e_ w rows t=rows++[t]:=⟨e,by rw[e];rfl⟩;rw[e.1];refine aT (aT ?_);rw[<-e.1]
   replace e:=e.2
   refine(⟨_,rfl,.inl ⟨rfl,_,SqL.of h3⟩,_,rfl,_,_,_,rfl,rfl,h3,?_,?_⟩)
   .unfold ax;rw[B3];exact B7 (show _<1000 by omega) (bi (B4 _))
   .refine(⟨⟨_,_,rfl⟩,(s2.trans s3).put hr,?_⟩);rw[ah,e,dY]
  .have ne:(!rows.isEmpty)=true:=by rw[e];simp
   rw[ne];refine bM ?_;have ll:=fs1 l (by rw[e];simp);have h4:=h3;rw[e,dY]at h4;refine(⟨_,rfl,_,rfl,_,_,_,_,rfl,rfl,SqL.of h4,qL _ _,_,rfl,(by rw[bz];exact d0 (by omega)),_,_,rfl,rfl,_,rfl,_,rfl,(by rw[bz];exact d0 (by omega)),_,_,rfl,rfl,_,rfl,_,_,_,_,rfl,rfl,s3.tup (s2.tup hf),rfl,_,_,rfl,rfl,_,rfl,?_⟩);rw[bz,bz];refine aX (λc=>?_) (λc=>?_)
   .have c1:(l.length:Int)+1+t.length<=w:=of_decide_eq_true c;have w2:=fo.w2;rw[e,cO,if_pos c1];refine(⟨_,rfl,_,rfl,_,_,_,_,rfl,rfl,SqL.of h4,qL _ _,_,_,rfl,rfl,(by rw[bz,cbl,bz];exact d0 (by simp;omega)),_,rfl,_,_,rfl,rfl,?_,_,rfl,_,rfl,_,_,_,_,rfl,rfl,h4,vL _ (by simp),?_⟩)
    .rw[cbl,iV,bz,bz];exact d0 (by simp;omega)
    .rw[yS,cbl,iV,iV];refine(⟨⟨_,_,rfl⟩,(s2.trans s3).put hr,?_⟩);rw[ah,dY,DE];rfl
   .have c1:¬ (l.length:Int)+1+t.length<=w:=λz=>c (decide_eq_true z);have e:e_ w rows t=rows++[t]:=by rw[e,cO,if_neg c1]
    refine(⟨_,rfl,.inl ⟨rfl,_,SqL.of h3⟩,_,rfl,_,_,_,rfl,rfl,h3,?_,?_⟩)
    .unfold ax;rw[B3];exact B7 (show _<1000 by omega) (bi (B4 _))
    .refine(⟨⟨_,_,rfl⟩,(s2.trans s3).put hr,?_⟩);rw[ah,e,dY]
 .rintro σ H2 ⟨⟨v1,v2,rfl⟩,s2,h2⟩;rw[B3,hb.1,C8]at h2;exact(⟨_,rfl,q _ _ s2 hr h2⟩)
def uO(K:PySem.W.Frag):Sp:=λvs H Q _=>∃(ba la:Addr) (F:Frm) (ds:List Wd) (xs:List (Int×Int)) (p:Nat),vs=[.ref ba,.ref la,.int (p:Int)]/\cC K H ba F.w F.h F.f F.m ds/\aU K H la xs/\aR F ds xs/\ds.length<=40/\(aQ F ds xs (p:Int) ds.length).length<=F.h.toNat/\∀q H',av H H'->H' q=some (.lst (ax (pgR F ds xs (p:Int))))->Q (.ref q) H'
theorem df:aG ["book","places","page","form","texts","feet","word","place","rows"] ["book","places","page"] (aw kx):=by walk_at "c"
theorem uP(T:Txt P w K mg a):aS P w K mg base CX0 4 a.kU a.jJ ["book","places","page"] (uO K):=by
 refine T.kG.fn.ok df (λvs H Q E h=>?_) (λcdv A outer s H vs Q E hr h=>?_)
 .obtain⟨ba,la,F,ds,xs,p,rfl,_⟩:=h;rfl
 obtain⟨ba,la,F,ds,xs,p,rfl,hbk,hl,B,d40,fl,q⟩:=h;refine⟨_,(ac (am (i:=3) df.nd rfl (Cb rfl) (ag aj (pv 0) ab (λ_ _=>rfl)))
   (ac (pX (k:=4) rfl (dC (caps:=[]) (js:=[]) (cap:=trivial)) (dS rfl T.cZ (aa (ag aj (pv 3) ab (λ_ _=>rfl)) ae)) (λ_ _ _ _=>b7) (λ_ _ _ _=>(bX ae)) df.nd rfl rfl)
   (ac (am (i:=5) df.nd rfl (Cb rfl) (bX ae))
   (ac (cy Ct rfl (A2 rfl T.mI (ag aj (pv 0) ab (λ_ _=>rfl)) (pv 1)) (dn rfl (a8 (aO (i:=6) df.nd rfl (Cb rfl)) (a8 (aO (i:=7) df.nd rfl (Cb rfl)) cK))) (af (aI (ao a_ (ag aj (pv 7) ab (λ_ _=>rfl)) (pv 2) (ar _)) (ac (cr (dt PySem.F.plainAttrs_list PySem.F.slot_list_append PySem.F.type_list_append cU (ag aH (pv 4) (ag aj (pv 7) ab (λ_ _=>rfl)) (λ_ _=>rfl)) (aa (aq T.nR (rc T) (hr.mono (by decide)) rfl (aa (pv 3) (aa (ag aj (pv 6) ab (λ_ _=>rfl)) (aa (pv 1) ae)))) ae)))
   (af (cr (dt PySem.F.plainAttrs_list PySem.F.slot_list_extend PySem.F.type_list_extend mU (pv 5) (aa (aq T.gP (nG T) (hr.mono (by decide)) rfl (aa (pv 3) (aa (ag aj (pv 6) ab (λ_ _=>rfl)) (aa (pv 1) ae)))) ae))))) aD)))
   (ac (pX (k:=8) rfl (dC (caps:=[]) (js:=[]) (cap:=trivial)) (bL (pv 4)) (λ_ _ _ _=>b7) (λ_ _ _ _=>(A6 (Kk:=K) (r:=zO K) rfl PySem.F.plainAttrs_str PySem.F.slot_str_join PySem.F.type_str_join zm bv (aa (pv 0) ae))) df.nd rfl rfl)
   (af (au (ai mV (iT lu (pv 8) vD (fv (ai bZ (aA aL rfl T.bu PySem.boot_len (aa (pv 8) ae)) (aA aL rfl T.bu PySem.boot_len (aa (pv 5) ae))))) (pv 5))))))))),?_⟩
 obtain⟨fa,wo,was,hb,hf,hw,hws⟩:=hbk;obtain⟨las,hla,hls⟩:=hl;have fo:=B.fo;have h1:=fo.h1;have h60:=fo.h2;have wdx:∀d∈ds,dN xs.length d:=λd hd=>by have:=B.wd d hd;rwa[B.len]at this
 have elw:(was.map V.ref).length=ds.length:=by rw[B3,hws.1]
 have ell:(las.map V.ref).length=ds.length:=by rw[B3,hls.1,B.len]
 refine⟨_,rfl,_,_,_,_,rfl,rfl,hb,rfl,?_⟩;dsimp only[aF];refine⟨_,rfl,_,_,_,_,rfl,rfl,hf,rfl,_,rfl,(by omega),(by omega),?_⟩;refine iU (λi ys H2=>av H H2/\∃qs:List Addr,qs.length=i/\ys=qs.map V.ref/\(∀(i j:Nat) (q:Addr),qs[i]?=some q->qs[j]?=some q->i=j)/\∀q∈qs,H2 q=some (.lst [])/\H q=none) ⟨av.refl _,[],rfl,rfl,(λi j q h=>by simp at h),λq hq=>(by cases hq)⟩ ?_ ?_ ?_
 .rintro i ys H2 hi ⟨_,qs,ql,rfl,_⟩;rw[B3,ql];exact B7 (show i<1000 by omega) (bi (B4 _))
 .rintro i ys H2 hi ⟨s2,qs,ql,rfl,nd,at_⟩;refine cz ?_;refine⟨Cv _,λp1 hp1=>?_⟩;have s3:=ak hp1 (.lst []);have np:∀q∈qs,q≠p1:=λq hq e=>by rw[e]at hq;rw[(at_ p1 hq).1]at hp1;cases hp1
  refine⟨s2.trans s3,qs++[p1],by simp[ql],fB _ _,λa b q ha hb2=>?_,λq hq=>?_⟩
  .by_cases ca:a<qs.length
   .rw[Ce ca]at ha;by_cases cb:b<qs.length
    .rw[Ce cb]at hb2;exact nd a b q ha hb2
    .rw[Cj (by omega)]at hb2;have:q=p1:=by
      cases hc:b-qs.length with
      |zero=>rw[hc]at hb2;exact(Cw hb2).symm
      |succ n=>rw[hc]at hb2;simp at hb2
     exact absurd this (np q (Cg ha))
   .rw[Cj (by omega)]at ha;have ea:q=p1/\a=qs.length:=by
     cases hc:a-qs.length with
     |zero=>rw[hc]at ha;exact⟨(Cw ha).symm,by omega⟩
     |succ n=>rw[hc]at ha;simp at ha
    by_cases cb:b<qs.length
    .rw[Ce cb]at hb2;exact absurd ea.1 (np q (Cg hb2))
    .rw[Cj (by omega)]at hb2;cases hc:b-qs.length with
     |zero=>omega
     |succ n=>rw[hc]at hb2;simp at hb2
  .rcases List.mem_append.mp hq with hq|hq
   .exact⟨s3 _ _ (at_ q hq).1,(at_ q hq).2⟩
   .rw[List.mem_singleton.mp hq];exact⟨ah,s2.free hp1⟩
 rintro ys H2 ⟨s2,qs,ql,rfl,nd,at_⟩ pr hpr;have s3:=ak hpr (.lst (qs.map V.ref));have h3:(upd H2 pr (.lst (qs.map V.ref))) pr=some (.lst (qs.map V.ref)):=ah;have npr:pr∉qs:=λh=>by rw[(at_ pr h).1]at hpr;cases hpr
 have hpr0:H pr=none:=s2.free hpr;generalize upd H2 pr (.lst (qs.map V.ref))=H3 at s3 h3⊢;dsimp only[aF];have L0:LsF H H3 pr qs (λr=>bD F ds xs (p:Int) (r:Int) 0):=⟨h3,nd,npr,λi q h=>s3 _ _ (at_ q (Cg h)).1,λq h=>(at_ q h).2⟩;refine⟨Cv _,λfe hfe=>?_⟩;have s4:=ak hfe (.lst []);have h4:(upd H3 fe (.lst [])) fe=some (.lst (ax (aQ F ds xs (p:Int) 0))):=ah;have nf1:fe≠pr:=λe=>by rw[e,h3]at hfe;cases hfe
 have nf2:fe∉qs:=λh=>by rw[(s3 _ _ (at_ fe h).1)]at hfe;cases hfe
 have hfe0:H fe=none:=(s2.trans s3).free hfe;have L1:=L0.same s4;generalize upd H3 fe (.lst [])=H4 at s4 h4 L1⊢;dsimp only[aF];have t4:=s2.trans (s3.trans s4);refine⟨_,rfl,_,_,_,_,rfl,rfl,t4.tup hb,rfl,_,rfl,wo,la,rfl,rfl,⟨_,t4.seq hw⟩,⟨_,t4.seq hla⟩,z8 (K:=K) (a:=wo) (b:=la) (xs:=was.map V.ref) (ys:=las.map V.ref) (λi σ H5=>av H H5/\∃v6 v7:Option V,σ=[some (.ref ba),some (.ref la),some (.int (p:Int)),some (.ref fa),some (.ref pr),some (.ref fe),v6,v7,none]/\LsF H H5 pr qs (λr=>bD F ds xs (p:Int) (r:Int) i)/\H5 fe=some (.lst (ax (aQ F ds xs (p:Int) i)))/\(aQ F ds xs (p:Int) i).length<=40*i) (by rw[elw,ell]) ⟨t4,none,none,rfl,L1,h4,B4 _⟩ (λi σ H5 _ g=>⟨g.1.seq hw,g.1.seq hla⟩) ?_ ?_⟩
 .rintro i x y σ H5 pp hx hy ⟨s5,v6,v7,rfl,L,h5,f5⟩ hpp;obtain⟨wb,d,rfl,eb,ed⟩:=jS hws.1 hx;obtain⟨lb,elb,rfl⟩:∃lb,las[i]?=some lb/\V.ref lb=y:=by
   rw[B_]at hy;exact Option.map_eq_some_iff.mp hy
  have hid:i<ds.length:=(List.getElem?_eq_some_iff.mp ed).1;have hix:i<xs.length:=by rw[<-B.len];exact hid
  have hz:SqT K H lb (pl (xAt xs i)):=by
   have:=hls.2 i lb xs[i] elb (c7 hix)
   rwa[<-lA (c7 hix)]at this
  have edd:dAt ds i=d:=by
   show ds.getD i wd0=d;rw[B6,ed];rfl
  have wk:=wdx d (Cg ed);have n40:=wk.n;obtain⟨sy,fo',bs,g1,g2,g3,g4⟩:=hws.2 i wb d eb ed;have s6:=ak hpp (.tup [.ref wb,.ref lb]);refine⟨pp,_,rfl,SqT.of ah,rfl,_,_,rfl,_,_,rfl,rfl,?_⟩;generalize upd H5 pp (.tup [.ref wb,.ref lb])=H6 at s6⊢;dsimp only[aF];have t6:=s5.trans s6;have L6:=L.same s6;have h6:=s6 _ _ h5;refine⟨_,rfl,_,_,_,_,rfl,rfl,t6.tup hz,rfl,_,rfl,rfl,_,rfl,?_⟩;by_cases cp:(xAt xs i).1=(p:Int)
  rotate_left
  .rw[decide_eq_false (show ¬ V.int (xAt xs i).1=V.int (p:Int)from λz=>cp (V.int.inj z))];refine aT ?_;refine⟨t6,_,_,rfl,⟨L6.top,L6.nd,L6.ne,λj q hq=>?_,L6.fr⟩,?_,?_⟩
   .rw[L6.at' j q hq];show some (HO.lst (ax (bD F ds xs (p:Int) (j:Int) i)))=some (HO.lst (ax (bD F ds xs (p:Int) (j:Int) i++(if xAt xs i=((p:Int),(j:Int))then _ else[]))));rw[if_neg (λz=>cp (by rw[z])),C4]
   .show H6 fe=some (.lst (ax (aQ F ds xs (p:Int) i++(if(xAt xs i).1=(p:Int)then _ else[]))));rw[if_neg cp,C4];exact h6
   .show(aQ F ds xs (p:Int) i++(if(xAt xs i).1=(p:Int)then _ else[])).length<=_;rw[if_neg cp,C4];omega
  rw[decide_eq_true (show V.int (xAt xs i).1=V.int (p:Int) by rw[cp])];refine bM ?_;have rx:=(B.x hid).1;obtain⟨r,er⟩:=CP rx.r1;have rl:r<qs.length:=by have:=rx.r2;omega
  have exi:xAt xs i=((p:Int),(r:Int)):=F3 cp er;have qr:qs[r]?=some qs[r]:=c7 rl;have atr:atI (qs.map V.ref) (xAt xs i).2=some (V.ref qs[r]):=by rw[er];exact cY (by rw[B_,qr];rfl)
  have hqr:=L6.at' r qs[r] qr;have rlen:=lP (F:=F) (ds:=ds) (xs:=xs) (p:Int) (r:Int) i;refine⟨_,rfl,_,rfl,_,_,_,_,rfl,rfl,t6.tup hz,rfl,_,_,_,_,rfl,rfl,SqL.of L6.top,atr,.inl ⟨rfl,_,SqL.of hqr⟩,_,rfl,_,rfl,_,_,_,_,rfl,rfl,t6.tup g1,rfl,_,rfl,fa,sy,la,F.w,F.h,F.f,F.m,d.say,las,xs,rfl,t6.tup hf,t6.tup g2,t6.seq hla,hls.same t6,fo,wk.s,B.po,_,_,_,rfl,rfl,hqr,?_,?_⟩
  .unfold ax;rw[B3];exact B7 (show _<1000 by omega) (bi (B4 _))
  have hq0:H qs[r]=none:=L6.fr _ (CV rl);have L7:LsF H (upd H6 qs[r] (.lst (ax (bD F ds xs (p:Int) (r:Int) i)++[V.str (tx (ay F.h F.f xs d.say))]))) pr qs (λr=>bD F ds xs (p:Int) (r:Int) (i+1)):=by
   refine L6.push qr ?_ (λj hj=>?_)
   .show bD F ds xs (p:Int) (r:Int) i++(if xAt xs i=((p:Int),(r:Int))then[ay F.h F.f xs (dAt ds i).say]else[])=_;rw[if_pos exi,edd]
   .show bD F ds xs (p:Int) (j:Int) i++(if xAt xs i=((p:Int),(j:Int))then _ else[])=_;rw[if_neg (λz=>hj (by rw[exi]at z;have:=congrArg Prod.snd z;simp only at this;omega)),C4]
  have s7:av H (upd H6 qs[r] (.lst (ax (bD F ds xs (p:Int) (r:Int) i)++[V.str (tx (ay F.h F.f xs d.say))]))):=t6.put hq0;have h7:(upd H6 qs[r] (.lst (ax (bD F ds xs (p:Int) (r:Int) i)++[V.str (tx (ay F.h F.f xs d.say))]))) fe=some (.lst (ax (aQ F ds xs (p:Int) i))):=by
   rw[aK (λe=>nf2 (by rw[e];exact CV rl))];exact h6
  generalize upd H6 qs[r] (.lst (ax (bD F ds xs (p:Int) (r:Int) i)++[V.str (tx (ay F.h F.f xs d.say))]))=H7 at L7 s7 h7⊢;refine⟨_,rfl,.inl ⟨rfl,_,SqL.of h7⟩,_,rfl,_,rfl,_,_,_,_,rfl,rfl,s7.tup g1,rfl,_,rfl,fa,fo',la,F.w,F.h,F.f,F.m,bs,las,d.foot,xs,rfl,s7.tup hf,s7.seq g3,g4.same s7,s7.seq hla,hls.same s7,fo,wk.f,B.po,(by omega),λq8 H8 s8 n8 h8=>?_⟩;have fsm:=(lK (w:=F.w) fo.w2 (d.foot.map (ay F.h F.f xs)) (λt ht=>by
   obtain⟨s,hs,rfl⟩:=List.mem_map.mp ht;exact(da fo B.po (wk.f s hs)).2.1)).2
  rw[B3]at fsm;have h78:=s8 _ _ h7;refine⟨_,_,_,_,rfl,rfl,h78,h8,?_,?_⟩
  .unfold ax;rw[B3,B3];exact d0 (by omega)
  have L8:=L7.same s8;have n8a:q8≠fe:=λe=>by rw[e,h7]at n8;cases n8
  refine⟨(s7.trans s8).put hfe0,_,_,rfl,L8.put nf1 nf2,?_,?_⟩
  .rw[ah];show _=some (HO.lst (ax (aQ F ds xs (p:Int) i++(if(xAt xs i).1=(p:Int)then bE F.w ((dAt ds i).foot.map (ay F.h F.f xs))else[]))));rw[if_pos cp,edd];unfold ax;rw[Ch]
  .show(aQ F ds xs (p:Int) i++(if(xAt xs i).1=(p:Int)then bE F.w ((dAt ds i).foot.map (ay F.h F.f xs))else[])).length<=_;rw[if_pos cp,edd,Ca];omega
 .rintro σ H5 ⟨s5,v6,v7,rfl,L,h5,f5⟩;rw[elw]at L h5 f5;have tle:∀r,∀t∈bD F ds xs (p:Int) r ds.length,t.length<=62:=λr t ht=>by
   obtain⟨k,hk,rfl⟩:=o3 ht;exact(da fo B.po (by have:=(B.d hk).2.s;exact this)).2.1
  have eqs:(qs.map V.ref).length=F.h.toNat:=by rw[B3,ql]
  refine⟨_,rfl,_,rfl,⟨_,SqL.of L.top⟩,cu (K:=K) (a:=pr) (xs:=qs.map V.ref) (λi ys H6=>H6=H5/\ys=ax ((cN F ds xs (p:Int)).take i)) ⟨rfl,rfl⟩ (λi ys H6 _ g=>by rw[g.1];exact SqL.of L.top) ?_ ?_ ?_⟩
  .rintro i ys H6 hi ⟨_,rfl⟩;unfold ax;rw[B3,CB,dU];exact B7 (show _<1000 by omega) (bi (B4 _))
  .rintro i y ys H6 hi ⟨rfl,rfl⟩;have hih:i<F.h.toNat:=by rw[<-eqs];exact(List.getElem?_eq_some_iff.mp hi).1
   obtain⟨qi,eqi,rfl⟩:∃qi,qs[i]?=some qi/\V.ref qi=y:=by
    rw[B_]at hi;exact Option.map_eq_some_iff.mp hi
   have hqi:=L.at' i qi eqi;have sm:=yk _ (tle (i:Int));have rl:=lP (F:=F) (ds:=ds) (xs:=xs) (p:Int) (i:Int) ds.length;have rm:(bD F ds xs (p:Int) (i:Int) ds.length).length*(62+1)<=40*63:=E3 (by omega) (B4 _);refine cz ?_;refine⟨rfl,_,rfl,_,qi,(bD F ds xs (p:Int) (i:Int) ds.length).map tx,rfl,rfl,SqL.of (by rw[hqi,zn]),by decide,by omega,rfl,?_⟩;have eb:(cN F ds xs (p:Int))[i]?=some (bm [32] (bD F ds xs (p:Int) (i:Int) ds.length)):=by
    unfold cN;rw[B_,DW hih];rfl
   rw[cg eb,dY,cbl,qI]
  rintro ys H6 ⟨rfl,rfl⟩ ro hro;rw[eqs,<-dU (F:=F) (ds:=ds) (xs:=xs) (p:Int),C8];have s6:=ak hro (.lst (ax (cN F ds xs (p:Int))));have h6:(upd H6 ro (.lst (ax (cN F ds xs (p:Int))))) ro=some (.lst (ax (cN F ds xs (p:Int)))):=ah;have h56:=s6 _ _ h5;generalize upd H6 ro (.lst (ax (cN F ds xs (p:Int))))=H7 at s6 h6 h56⊢;dsimp only[aF];have lb:((ax (cN F ds xs (p:Int))).length:Int)=F.h:=by unfold ax;rw[B3,dU];omega
  have lf:((ax (aQ F ds xs (p:Int) ds.length)).length:Int)=((aQ F ds xs (p:Int) ds.length).length:Int):=by unfold ax;rw[B3]
  refine⟨_,rfl,_,rfl,_,_,rfl,.inl (SqL.of h6),_,rfl,_,_,rfl,.inl (SqL.of h56),_,_,rfl,rfl,_,rfl,_,_,rfl,SqL.of h6,λp3 hp3=>?_⟩;rw[lb,lf];have c3:c6 (ax (cN F ds xs (p:Int))) none (some (F.h-((aQ F ds xs (p:Int) ds.length).length:Int)))=ax ((cN F ds xs (p:Int)).take (F.h.toNat-(aQ F ds xs (p:Int) ds.length).length)):=by
   unfold ax;rw[i4,show F.h-((aQ F ds xs (p:Int) ds.length).length:Int)=((F.h.toNat-(aQ F ds xs (p:Int) ds.length).length:Nat):Int) by omega,Tl.cut_to]
  rw[lb,lf]at *;have s8:=ak hp3 (.lst (c6 (ax (cN F ds xs (p:Int))) none (some (F.h-((aQ F ds xs (p:Int) ds.length).length:Int)))));have h8:(upd H7 p3 (.lst (c6 (ax (cN F ds xs (p:Int))) none (some (F.h-((aQ F ds xs (p:Int) ds.length).length:Int)))))) p3=some (.lst (ax ((cN F ds xs (p:Int)).take (F.h.toNat-(aQ F ds xs (p:Int) ds.length).length)))):=by rw[ah,c3]
  generalize upd H7 p3 (.lst (c6 (ax (cN F ds xs (p:Int))) none (some (F.h-((aQ F ds xs (p:Int) ds.length).length:Int)))))=H8 at s8 h8⊢;refine⟨_,rfl,_,_,_,_,rfl,rfl,h8,s8 _ _ h56,?_,λp4 hp4=>?_⟩
  .unfold ax;rw[B3,B3,CB,dU];exact bi (by omega)
  have s9:=ak hp4 (.lst (ax ((cN F ds xs (p:Int)).take (F.h.toNat-(aQ F ds xs (p:Int) ds.length).length))++ax (aQ F ds xs (p:Int) ds.length)));refine q p4 _ (s5.trans (s6.trans (s8.trans s9))) ?_;rw[ah];unfold pgR ax;rw[Ch]
def vb(K:PySem.W.Frag):Sp:=λvs H Q _=>∃(ba la:Addr) (F:Frm) (ds:List Wd) (xs:List (Int×Int)),vs=[.ref ba,.ref la]/\cC K H ba F.w F.h F.f F.m ds/\aU K H la xs/\aR F ds xs/\ds.length<=40/\(∀p:Int,((aQ F ds xs p ds.length).length:Int)<=F.h)/\(∀k,k<xs.length->(xAt xs k).1<=60)/\∀q H',av H H'->kn K H' q F ds xs (nPg xs)->Q (.ref q) H'
theorem oH:aG ["book","places","form"] ["book","places"] (aw lS):=by walk_at "c"
theorem vc(T:Txt P w K mg a):aS P w K mg base CX0 5 a.mn a.lj ["book","places"] (vb K):=by
 refine T.md.fn.ok oH (λvs H Q E h=>?_) (λcdv A outer s H vs Q E hr h=>?_)
 .obtain⟨ba,la,F,ds,xs,rfl,_⟩:=h;rfl
 obtain⟨ba,la,F,ds,xs,rfl,hbk,hl,B,d40,fl,p60,q⟩:=h;have hu:=C2 (eJ hr);refine⟨_,(ac (am (i:=2) oH.nd rfl (Ex rfl) (ag aj (pv 0) ab (λ_ _=>rfl)))
   (ac (aI (ao (tT hu) (pv 1) (bX ae) (ar _)) (af (au (bX ae))) aD)
   (af (au (dJ rfl (dC (caps:=["book","places","form"]) (js:=[0,1,2]) (cap:=⟨⟨rfl,.inl rfl,rfl,.inl rfl⟩,⟨⟨rfl,.inl rfl,rfl,.inl rfl⟩,⟨⟨rfl,.inl rfl,rfl,.inl rfl⟩,trivial⟩⟩⟩)) (dS rfl T.cZ (aa (ai aC (ag aj (ag aH (pv 1) (pV mS ab) (λ_ _=>rfl)) ab (λ_ _=>rfl)) ab) ae)) (λ_ _ _ _=>b7) (λ_ _ _ _=>(bj (aa (ai aC (ag (r:=eY K) aj (pv 3) ab (λ_ _=>rfl)) (pv 0)) (aa (aq T.kG (uP T) (hr.mono (by decide)) rfl (aa (pv 1) (aa (pv 2) (aa (pv 0) ae)))) ae))))))))),?_⟩
 have hbk0:=hbk;have hl0:=hl;obtain⟨fa,wo,was,hb,hf,hw,hws⟩:=hbk;obtain⟨las,hla,hls⟩:=hl;refine⟨_,rfl,_,_,_,_,rfl,rfl,hb,rfl,?_⟩;dsimp only[aF];refine⟨_,rfl,Cv _,λp1 hp1=>?_⟩;have s1:=ak hp1 (.lst []);refine⟨la,p1,las.map V.ref,rfl,rfl,s1.seq hla,SqL.of ah,_,rfl,?_⟩;generalize upd H p1 (.lst [])=H1 at s1⊢;by_cases x0:xs.length=0
 .have xe:xs=[]:=List.length_eq_zero_iff.mp x0;have le:las=[]:=List.length_eq_zero_iff.mp (by rw[hls.1];exact x0);rw[le];refine bM ?_;refine⟨Cv _,λp2 hp2=>?_⟩;refine q p2 _ (s1.trans (ak hp2 _)) ?_;have:nPg xs=0:=by unfold nPg;rw[if_pos xe]
  rw[this];exact⟨[],[],rfl,rfl,SqL.of ah,λi p r e=>by simp at e⟩
 have lne:((las.map V.ref).isEmpty)=false:=by
  cases las with
  |nil=>exact absurd (show xs.length=0 from hls.1.symm) x0
  |cons a l=>rfl
 rw[lne];refine aT ?_;dsimp only[cm];have hkl:xs.length-1<xs.length:=by omega
 have hlk:las.length-1<las.length:=by rw[hls.1];exact hkl
 have atl:atI (las.map V.ref) (-1)=some (V.ref las[las.length-1]):=by
  unfold atI;rw[B3,vL las.length (by omega)];show(las.map V.ref)[las.length-1]?=_;rw[B_,c7 hlk];rfl
 have hz:SqT K H las[las.length-1] (pl (xAt xs (xs.length-1))):=by
  have:=hls.2 (las.length-1) _ (xs[xs.length-1]) (c7 hlk) (by rw[hls.1];exact c7 hkl)
  rwa[<-lA (c7 hkl)]at this
 have rx:=(B.x (show xs.length-1<ds.length by rw[B.len];exact hkl)).1.p1;have p6:=p60 _ hkl;have en:nPg xs=((xAt xs (xs.length-1)).1+1).toNat:=by unfold nPg;rw[if_neg (λz=>x0 (by rw[z];rfl))]
 refine⟨_,rfl,_,rfl,_,_,_,_,rfl,rfl,s1.seq hla,atl,_,_,_,_,rfl,rfl,s1.tup hz,rfl,_,_,rfl,rfl,_,rfl,(by omega),(by omega),?_⟩;refine iU (λi ys H2=>av H H2/\∃ps rs:List Addr,ps.length=i/\rs.length=i/\ys=ps.map V.ref/\∀(j:Nat) p r,ps[j]?=some p->rs[j]?=some r->SqT K H2 p [.int (F.f+(j:Int)),.ref r]/\SqL K H2 r (ax (pgR F ds xs (j:Int)))) ⟨s1,[],[],rfl,rfl,rfl,λj p r e=>by simp at e⟩ ?_ ?_ ?_
 .rintro i ys H2 hi ⟨_,ps,rs,pl_,rl,rfl,_⟩;rw[B3,pl_];exact B7 (show i<1000 by omega) (bi (B4 _))
 .rintro i ys H2 hi ⟨s2,ps,rs,pl_,rl,rfl,hps⟩;refine cz ?_;have fli:=fl (i:Int);refine⟨_,rfl,_,_,_,_,rfl,rfl,s2.tup hf,rfl,_,rfl,_,_,rfl,rfl,_,rfl,_,rfl,_,rfl,ba,la,F,ds,xs,i,(by show[_,_,V.int (0+(i:Int))]=_;rw[D4]),hbk0.same s2,hl0.same s2,B,d40,(by omega),λrq H3 s3 hrq=>?_⟩;refine⟨le2,λp3 hp3=>?_⟩;have s4:=ak hp3 (.tup [V.int (F.f+(0+(i:Int))),V.ref rq]);have t4:=s3.trans s4;refine⟨s2.trans t4,ps++[p3],rs++[rq],by simp[pl_],by simp[rl],fB _ _,λj p r e1 e2=>?_⟩;by_cases c:j<i
  .rw[Ce (by omega)]at e1 e2;have:=hps j p r e1 e2;exact⟨t4.tup this.1,t4.seq this.2⟩
  .rw[Cj (by omega)]at e1 e2;cases hc:j-ps.length with
   |zero =>
    rw[hc]at e1;rw[show j-rs.length=0 by omega]at e2;cases e1;cases e2;have ej:j=i:=by omega
    subst ej;exact⟨SqT.of (by rw[ah,D4]),SqL.of (s4 _ _ hrq)⟩
   |succ n=>rw[hc]at e1;simp at e1
 rintro ys H2 ⟨s2,ps,rs,pl_,rl,rfl,hps⟩ p hp;have s3:=ak hp (.lst (ps.map V.ref));refine q p _ (s2.trans s3) ?_;rw[en];exact⟨ps,rs,pl_,rl,SqL.of ah,λj a r e1 e2=>⟨s3.tup (hps j a r e1 e2).1,s3.seq (hps j a r e1 e2).2⟩⟩
def qm(K:PySem.W.Frag):Sp:=λvs H Q _=>∃(ba:Addr) (w h f m:Int) (ds:List Wd),vs=[.ref ba]/\cC K H ba w h f m ds/\ds.length<=400/\∀q as H',av H H'->H q=none->H' q=some (.lst (as.map V.ref))->aV K H' as (Co ds.length (0,0))->Q (.ref q) H'
theorem qp:aG ["book"] ["book"] (aw gv):=by walk_at "c"
theorem qq(T:Txt P w K mg a):aS P w K mg base CX0 1 a.gE a.gc ["book"] (qm K):=by
 refine T.gy.fn.ok qp (λvs H Q E h=>?_) (λcdv A outer s H vs Q E hr h=>?_)
 .obtain⟨ba,w,h,f,m,ds,rfl,_⟩:=h;rfl
 obtain⟨ba,w,h,f,m,ds,rfl,hbk,n60,q⟩:=h;refine⟨_,(af (au (ai AI (bX (aa (bj (aa ab (aa ab ae))) ae)) (aA aL rfl T.bu PySem.boot_len (aa (ag aj (pv 0) ab (λ_ _=>rfl)) ae))))),?_⟩;obtain⟨fa,wa,was,hb,hf,hw,hws⟩:=hbk;refine⟨le2,λp1 hp1=>?_⟩;have s1:=ak hp1 (.tup (pl (0,0)));refine⟨le1,λp2 hp2=>?_⟩;have s2:=ak hp2 (.lst [V.ref p1]);have t2:=s1.trans s2;have ew:(was.map V.ref).length=ds.length:=by rw[B3];exact hws.1
 refine⟨_,rfl,_,_,_,_,rfl,rfl,t2.tup hb,rfl,_,_,rfl,.inl (t2.seq hw),_,_,_,rfl,rfl,ah,(by omega),(by omega),(by rw[ew];exact bi (by simp;omega)),λp3 hp3=>?_⟩;have en:(((was.map V.ref).length:Nat):Int).toNat=ds.length:=by rw[ew];omega
 rw[en,A1,<-List.map_replicate];have s3:=ak hp3 (.lst ((Co ds.length p1).map V.ref));exact q p3 (Co ds.length p1) _ (t2.trans s3) (t2.free hp3) ah (aV.rep _ (SqT.of ((s2.trans s3) _ _ ah)))
def qt(K:PySem.W.Frag):Sp:=λvs H Q _=>∃(za ya:Addr) (zs ys:List (Int×Int)),vs=[.ref za,.ref ya]/\aU K H za zs/\aU K H ya ys/\zs.length=ys.length/\zs.length<=400/\∀k:Nat,k<=zs.length->(∀j,j<k->xAt zs j=xAt ys j)->(k<zs.length->xAt zs k≠xAt ys k)->Q (.int (k:Int)) H
theorem fW:aG ["sizes","newer","k"] ["sizes","newer"] (aw gw):=by walk_at "c"
theorem qu(T:Txt P w K mg a):aS P w K mg base CX0 1 a.gF a.gf ["sizes","newer"] (qt K):=by
 refine T.gB.fn.ok fW (λvs H Q E h=>?_) (λcdv A outer s H vs Q E hr h=>?_)
 .obtain⟨za,ya,zs,ys,rfl,_⟩:=h;rfl
 obtain⟨za,ya,zs,ys,rfl,hz,hy,el,z60,q⟩:=h;have hu:=C2 (eJ hr);refine⟨_,(ac (am (i:=2) fW.nd rfl (Cb rfl) ab)
   (ac (eW Ct (PW.pt (bW (ao d_ (pv 2) (aA aL rfl T.bu PySem.boot_len (aa (pv 0) ae)) (ar _)) (bK (ao (pY hu) (ag aH (pv 0) (pv 2) (λ_ _=>rfl)) (ag aH (pv 1) (pv 2) (λ_ _=>rfl)) (ar _))))) (af (am (i:=2) fW.nd rfl (Cb rfl) (ai aC (pv 2) ab))))
   (af (au (pv 2))))),?_⟩
 obtain⟨azs,hza,hzs⟩:=hz;obtain⟨ays,hya,hys⟩:=hy;have lz:(azs.map V.ref).length=zs.length:=by rw[B3,hzs.1]
 dsimp only[aF];refine bQ (λσ' H'=>H'=H/\σ'=[some (.ref za),some (.ref ya),some (.int 0)]) ?_ (λkey=>key _ _ ⟨rfl,rfl⟩);rintro σ' H' ⟨rfl,rfl⟩;refine bQ (λσ' H2=>H2=H'/\∃k:Nat,σ'=[some (.ref za),some (.ref ya),some (.int (k:Int))]/\k<=zs.length/\(∀j,j<k->xAt zs j=xAt ys j)/\(k<zs.length->xAt zs k≠xAt ys k)) ?_ (λkey=>?_)
 .rintro σ' H2 ⟨rfl,k,rfl,k1,k2,k3⟩;exact⟨_,rfl,q k k1 k2 k3⟩
 refine⟨λn σ H2=>H2=H'/\∃k:Nat,σ=[some (.ref za),some (.ref ya),some (.int (k:Int))]/\k<=zs.length/\(∀j,j<k->xAt zs j=xAt ys j)/\n=zs.length-k,⟨_,rfl,0,rfl,Cv _,λj hj=>absurd hj (Cy _),rfl⟩,?_⟩;rintro n σ H2 ⟨rfl,k,rfl,k1,k2,rfl⟩;refine⟨_,rfl,_,rfl,_,_,rfl,.inl hza,_,_,rfl,rfl,_,rfl,?_⟩;rw[lz];by_cases c:k<zs.length
 .refine b4 (λz=>absurd (decide_eq_true (by omega)) z) (λ_=>?_);obtain⟨zo,ez,hzo⟩:=aU.get (a:=za) hzs c;obtain⟨yo,ey,hyo⟩:=aU.get (a:=ya) hys (by omega:k<ys.length);refine⟨_,rfl,_,rfl,_,_,_,_,rfl,rfl,hza,ez,_,rfl,_,rfl,_,_,_,_,rfl,rfl,hya,ey,_,_,_,_,rfl,rfl,hzo,hyo,rfl,rfl,_,rfl,?_⟩;rw[if_neg (by decide),m8];by_cases e:xAt zs k=xAt ys k
  .rw[decide_eq_true e];refine bM ?_;refine⟨λσ' H'=>∃m',m'<zs.length-k/\H'=H2/\∃k:Nat,σ'=[some (.ref za),some (.ref ya),some (.int (k:Int))]/\k<=zs.length/\(∀j,j<k->xAt zs j=xAt ys j)/\m'=zs.length-k,λ_ _ h=>h,?_⟩;refine⟨_,rfl,_,_,rfl,rfl,?_⟩;refine⟨zs.length-(k+1),by omega,rfl,k+1,rfl,by omega,λj hj=>?_,rfl⟩;by_cases ej:j=k
   .rw[ej];exact e
   .exact k2 j (by omega)
  .rw[decide_eq_false e];refine aT ?_;exact key _ _ ⟨rfl,k,rfl,k1,k2,λ_=>e⟩
 .exact b4 (λ_=>key _ _ ⟨rfl,k,rfl,k1,k2,λz=>absurd z c⟩) (λz=>absurd (of_decide_eq_true z) (by omega))
def uQ(K:PySem.W.Frag):Sp:=λvs H Q _=>∃(fa oa pa:Addr) (w h f m:Int) (bs as:List Addr) (ss:List Say) (xs:List (Int×Int)),vs=[.ref fa,.ref oa,.ref pa]/\SqT K H fa (fm w h f m)/\SqL K H oa (bs.map V.ref)/\cP K H bs ss/\SqL K H pa (as.map V.ref)/\aV K H as xs/\c_ w h f m/\(∀s∈ss,eC xs.length s)/\b_ h xs/\ss.length<=60/\∀H',av H H'->Q (.int (fJ w h (ss.map (ay h f xs)))) H'
theorem nH:aG ["form","foot","places","rows"] ["form","foot","places"] (aw ky):=by walk_at "c"
theorem nI(T:Txt P w K mg a):aS P w K mg base CX0 4 a.kM a.jC ["form","foot","places"] (uQ K):=by
 refine T.gO.fn.ok nH (λvs H Q E h=>?_) (λcdv A outer s H vs Q E hr h=>?_)
 .obtain⟨fa,oa,pa,w,h,f,m,bs,as,ss,xs,rfl,_⟩:=h;rfl
 obtain⟨fa,oa,pa,w,h,f,m,bs,as,ss,xs,rfl,hf,ho,hb,hp,ha,fo,so,po,s60,q⟩:=h;refine⟨_,(ac (am (i:=3) nH.nd rfl (Cb rfl) (aq T.gP (nG T) (hr.mono (by decide)) rfl (aa (pv 0) (aa (pv 1) (aa (pv 2) ae)))))
   (ac (aI (bV (aA (oY rfl) rfl T.kb EC (aa (dJ rfl (dC (caps:=["form"]) (js:=[0]) (cap:=⟨⟨rfl,.inl rfl,rfl,.inl rfl⟩,trivial⟩)) (bL (pv 3)) (λ_ _ _ _=>b7) (λ_ _ _ _=>(cX di (aA cI rfl T.bu PySem.boot_len (aa (pv 0) ae)) (ag (r:=eY K) aj (pv 1) ab (λ_ _=>rfl)) (ar _)))) ae)) (λ_=>rfl)) (af (au (ag aj (pv 0) ab (λ_ _=>rfl)))) aD)
   (af (au (aA (jP rfl) rfl T.iL Eb (aa (aA aL rfl T.bu PySem.boot_len (aa (pv 3) ae)) (aa (ag aj (pv 0) ab (λ_ _=>rfl)) ae))))))),?_⟩
 have sl:∀t∈ss.map (ay h f xs),t.length<=62:=λt ht=>by
  obtain⟨s,hs,rfl⟩:=List.mem_map.mp ht;exact(da fo po (so s hs)).2.1
 obtain⟨fs1,fs2⟩:=lK fo.w2 _ sl;rw[B3]at fs2;refine⟨_,rfl,_,rfl,_,rfl,_,_,_,_,_,_,_,_,_,_,_,rfl,hf,ho,hb,hp,ha,fo,so,po,s60,λr H1 s1 hr h1=>?_⟩;unfold fJ at q;generalize bE w (ss.map (ay h f xs))=rows at h1 fs1 fs2 q;refine⟨_,rfl,_,rfl,⟨_,SqL.of h1⟩,cu (K:=K) (a:=r) (xs:=ax rows) (λi ys H2=>H2=H1/\ys=((rows.take i).map λt=>decide (w<(t.length:Int))).map V.bl) ⟨rfl,rfl⟩ (λi ys H2 _ h2=>by rw[h2.1];exact SqL.of h1) ?_ ?_ ?_⟩
 .rintro i ys H2 hi ⟨_,rfl⟩;rw[B3,B3,CB];exact B7 (show _<1000 by omega) (bi (B4 _))
 .rintro i y ys H2 hi ⟨rfl,rfl⟩;obtain⟨t,rfl,et⟩:=ot hi;have tl:=fs1 t (Cg et);refine cz ?_;refine⟨_,rfl,_,rfl,(by rw[bz];exact d0 (by omega)),_,rfl,_,_,_,_,rfl,rfl,s1.tup hf,rfl,_,_,rfl,rfl,rfl,?_⟩;rw[cg et,Ch,Ch,bz];rfl
 .rintro ys H2 ⟨rfl,rfl⟩ p hp2;have s2:=ak hp2 (.lst (((rows.take (ax rows).length).map λt=>decide (w<(t.length:Int))).map V.bl));refine⟨_,_,rfl,SqL.of ah,_,rfl,?_⟩;have el:(ax rows).length=rows.length:=by unfold ax;rw[B3]
  rw[el,C8]at s2⊢;rw[Fx];have ea:rows.any (id∘λt=>decide (w<(t.length:Int)))=rows.any λt=>decide (w<(t.length:Int)):=rfl;rw[ea];have hf2:=s2.tup (s1.tup hf);have q2:=q _ (s1.trans s2);refine aX (λc=>?_) (λc=>?_)
  .rw[if_pos c]at q2;exact⟨_,rfl,_,_,_,_,rfl,rfl,hf2,rfl,q2⟩
  .rw[if_neg c]at q2;refine⟨_,rfl,_,_,rfl,.inl (s2.seq (SqL.of h1)),_,rfl,_,_,_,_,rfl,rfl,hf2,rfl,_,_,rfl,?_⟩;rw[el];exact q2
def vd(K:PySem.W.Frag):Sp:=λvs H Q _=>∃(ba la:Addr) (j n:Nat) (i:Int) (F:Frm) (ds:List Wd) (xs:List (Int×Int)),vs=[.ref ba,.ref la,.int (j:Int),.int i]/\i+1=(n:Int)/\cC K H ba F.w F.h F.f F.m ds/\aU K H la xs/\aR F ds xs/\n<=ds.length/\j<=n/\∀q H',av H H'->H q=none->H' q=some (.lst (((dG ds j n).map (a9 F xs)).map V.int))->Q (.ref q) H'
theorem ve:aG ["book","low","j","i"] ["book","low","j","i"] (aw lT):=by walk_at "c"
theorem oI(T:Txt P w K mg a):aS P w K mg base CX0 5 a.mf a.k_ ["book","low","j","i"] (vd K):=by
 refine T.iH.fn.ok ve (λvs H Q E h=>?_) (λcdv A outer s H vs Q E hr h=>?_)
 .obtain⟨ba,la,j,n,i,F,ds,xs,rfl,_⟩:=h;rfl
 obtain⟨ba,la,j,n,i,F,ds,xs,rfl,he,hbk,hlw,B,hi,hj,q⟩:=h;refine⟨_,(af (au (dJ rfl (dC (caps:=["book","low"]) (js:=[0,1]) (cap:=⟨⟨rfl,.inl rfl,rfl,.inl rfl⟩,⟨⟨rfl,.inl rfl,rfl,.inl rfl⟩,trivial⟩⟩)) (bL (iT lu (ag aj (pv 0) ab (λ_ _=>rfl)) (fv (pv 2)) (fv (ai aC (pv 3) ab)))) (λ_ _ _ _=>b7) (λ_ _ _ _=>(aq T.gO (nI T) (hr.mono (by decide)) rfl (aa (ag (r:=eY K) aj (pv 1) ab (λ_ _=>rfl)) (aa (ag (r:=eY K) aj (pv 0) ab (λ_ _=>rfl)) (aa (pv 2) ae)))))))),?_⟩;obtain⟨fa,wa,was,hb,hf,hw,hws⟩:=hbk;obtain⟨las,hla,hls⟩:=hlw;refine⟨_,rfl,_,_,_,_,rfl,rfl,hb,rfl,_,rfl,_,rfl,_,rfl,_,_,rfl,rfl,_,rfl,_,_,rfl,hw,λp1 hp1=>?_⟩;have ec:c6 (was.map V.ref) (some (j:Int)) (some (i+1))=((was.drop j).take (n-j)).map V.ref:=by
  have:=qO was j n;rw[i4,he];exact congrArg (List.map V.ref) this
 have s1:=ak hp1 (.lst (c6 (was.map V.ref) (some (j:Int)) (some (i+1))));have h1:(upd H p1 (.lst (c6 (was.map V.ref) (some (j:Int)) (some (i+1))))) p1=some (.lst (((was.drop j).take (n-j)).map V.ref)):=by rw[ah,ec]
 generalize upd H p1 (.lst (c6 (was.map V.ref) (some (j:Int)) (some (i+1))))=H1 at s1 h1;have wsg:dk K H ((was.drop j).take (n-j)) (dG ds j n):=(hws.drop j).take (n-j);have sub:∀d∈dG ds j n,dN xs.length d:=λd hd=>B.len▸B.wd d (DC (Dg hd));have sl:(dG ds j n).length<=400:=by unfold dG;have:=B.n;simp;omega
 generalize (was.drop j).take (n-j)=sas at h1 wsg;generalize dG ds j n=sd at wsg sub q sl;refine⟨_,rfl,⟨_,SqL.of h1⟩,cu (K:=K) (a:=p1) (xs:=sas.map V.ref) (λk ys H2=>av H1 H2/\ys=((sd.take k).map (a9 F xs)).map V.int) ⟨av.refl _,rfl⟩ (λk ys H2 _ h2=>h2.1.seq (SqL.of h1)) ?_ ?_ ?_⟩
 .rintro k ys H2 hk ⟨_,rfl⟩;rw[B3,B3,CB];exact B7 (show _<1000 by omega) (bi (B4 _))
 .rintro k y ys H2 hk ⟨s2,rfl⟩;obtain⟨b,d,rfl,eb,ed⟩:=jS wsg.1 hk;obtain⟨sa,fo,bs,ht,g2,g3,g4⟩:=wsg.2 k b d eb ed;have wk:=sub d (Cg ed);have t:=s1.trans s2;refine cz ?_;refine⟨_,rfl,_,_,_,_,rfl,rfl,t.tup hb,rfl,_,rfl,_,_,_,_,rfl,rfl,t.tup ht,rfl,_,rfl,_,_,_,_,_,_,_,_,_,_,_,rfl,t.tup hf,t.seq g3,g4.same t,t.seq hla,hls.same t,B.fo,wk.f,B.po,(by have:=wk.n;omega),λH3 s3=>⟨s2.trans s3,?_⟩⟩;rw[cg ed,Ch,Ch];rfl
 .rintro ys H2 ⟨s2,rfl⟩ p hp;have e:(sas.map V.ref).length=sd.length:=by rw[B3,wsg.1]
  rw[e,C8]at *;exact q _ _ (s1.trans (s2.trans (ak hp _))) ((s1.trans s2).free hp) ah
def vf(K:PySem.W.Frag):Sp:=λvs H Q _=>∃(a:Addr) (ns:List Int),vs=[.ref a]/\SqL K H a (ns.map V.int)/\Q (.int (L2.together ns)) H
theorem vg:aG ["wides"] ["wides"] (aw lU):=by walk_at "c"
theorem vh(T:Txt P w K mg a):aS P w K mg base CX0 1 a.mr a.ln ["wides"] (vf K):=by
 refine T.me.fn.ok vg (λvs H Q E h=>?_) (λcdv A outer s H vs Q E hr h=>?_)
 .obtain⟨a,ns,rfl,_⟩:=h;rfl
 obtain⟨a,ns,rfl,hn,q⟩:=h;refine⟨_,(af (au (ai bZ (ai aC (aA (oZ rfl) rfl T.kc EB (aa (pv 0) ae)) (aA aL rfl T.bu PySem.boot_len (aa (pv 0) ae))) ab))),?_⟩;refine⟨_,rfl,_,_,rfl,hn,_,rfl,_,_,rfl,.inl hn,_,_,rfl,rfl,_,_,rfl,rfl,?_⟩;unfold L2.together at q;rw[B3];exact q
def vk(K:PySem.W.Frag):Sp:=λvs H Q _=>∃(a:Addr) (x:Int×Int),vs=[.ref a]/\SqT K H a (pl x)/\∀q H',av H H'->SqT K H' q (pl (iO x))->Q (.ref q) H'
theorem vm:aG ["place"] ["place"] (aw lV):=by walk_at "c"
theorem kD(T:Txt P w K mg a):aS P w K mg base CX0 1 a.ml a.lh ["place"] (vk K):=by
 refine T.fZ.fn.ok vm (λvs H Q E h=>?_) (λcdv A outer s H vs Q E hr h=>?_)
 .obtain⟨a,x,rfl,_⟩:=h;rfl
 obtain⟨a,x,rfl,hx,q⟩:=h;refine⟨_,(af (au (bj (aa (ai aC (ag aj (pv 0) ab (λ_ _=>rfl)) ab) (aa ab ae))))),?_⟩;refine⟨_,rfl,_,_,_,_,rfl,rfl,hx,rfl,_,_,rfl,rfl,le2,λp1 hp1=>?_⟩;exact q _ _ (ak hp1 _) (by (repeat first|assumption|exact SqT.of ah|exact SqL.of ah|exact ah|refine av.tup (ak (by assumption) _) ?_|refine av.seq (ak (by assumption) _) ?_|refine av.tup (by assumption) ?_|refine av.seq (by assumption) ?_|refine SqT.lst (by assumption) ?_))
def sr(K:PySem.W.Frag):Sp:=λvs H Q _=>∃(fa a:Addr) (w h f m l:Int) (x:Int×Int),vs=[.ref fa,.ref a,.int l]/\SqT K H fa (fm w h f m)/\SqT K H a (pl x)/\∀q H',av H H'->SqT K H' q (pl (bO f x l))->Q (.ref q) H'
theorem su:aG ["form","place","lead"] ["form","place","lead"] (aw i_):=by walk_at "c"
theorem mM(T:Txt P w K mg a):aS P w K mg base CX0 2 a.jt a.ip ["form","place","lead"] (sr K):=by
 refine T.fY.fn.ok su (λvs H Q E h=>?_) (λcdv A outer s H vs Q E hr h=>?_)
 .obtain⟨fa,a,w,h,f,m,k,x,rfl,_⟩:=h;rfl
 obtain⟨fa,a,w,h,f,m,l,x,rfl,hf,hx,q⟩:=h;refine⟨_,(ac (aI (PW.pt (bW (ao a_ (pv 2) ab (ar _)) (bK (ao a_ (ai aZ (ai aC (ag aj (pv 0) ab (λ_ _=>rfl)) (ag aj (pv 1) ab (λ_ _=>rfl))) ab) ab (ar _))))) (af (au (aq T.fZ (kD T) (hr.mono (by decide)) rfl (aa (pv 1) ae)))) aD)
   (af (au (pv 1)))),?_⟩
 refine⟨_,rfl,rfl,_,rfl,?_⟩;refine b4 (λc=>?_) (λc=>?_)
 .refine⟨_,rfl,q _ _ (av.refl _) ?_⟩;rw[bO,if_neg (λz=>c (bB.mpr z.1))];exact hx
 .refine⟨_,rfl,_,_,_,_,rfl,rfl,hf,rfl,_,rfl,_,_,_,_,rfl,rfl,hx,rfl,_,_,rfl,rfl,_,_,rfl,rfl,(by (first|decide|(show(0:Int)<_;first|decide|omega))),rfl,_,rfl,?_⟩
  refine aX (λc2=>?_) (λc2=>?_)
  .refine⟨_,rfl,_,_,rfl,hx,λq1 H1 s1 h1=>q _ _ s1 ?_⟩;rw[bO,if_pos ⟨bB.mp c,bB.mp c2⟩];exact h1
  .refine⟨_,rfl,q _ _ (av.refl _) ?_⟩;rw[bO,if_neg (λz=>c2 (bB.mpr z.2))];exact hx
def xj(K:PySem.W.Frag):Sp:=λvs H Q _=>∃(fa a:Addr) (w h f m k:Int) (x:Int×Int),vs=[.ref fa,.ref a,.int k]/\SqT K H fa (fm w h f m)/\SqT K H a (pl x)/\∀q H',av H H'->SqT K H' q (pl (lv h x k))->Q (.ref q) H'
theorem qv:aG ["form","place","rows","row"] ["form","place","rows"] (aw nC):=by walk_at "c"
theorem qw(T:Txt P w K mg a):aS P w K mg base CX0 2 a.og a.mG ["form","place","rows"] (xj K):=by
 refine T.j_.fn.ok qv (λvs H Q E h=>?_) (λcdv A outer s H vs Q E hr h=>?_)
 .obtain⟨fa,a,w,h,f,m,k,x,rfl,_⟩:=h;rfl
 obtain⟨fa,a,w,h,f,m,k,x,rfl,hf,hx,q⟩:=h;refine⟨_,(ac (am (i:=3) qv.nd rfl (Cb rfl) (ai aC (ag aj (pv 1) ab (λ_ _=>rfl)) (pv 2)))
   (ac (aI (ao lG (pv 3) (ag aj (pv 0) ab (λ_ _=>rfl)) (ar _)) (af (au (aq T.fZ (kD T) (hr.mono (by decide)) rfl (aa (pv 1) ae)))) aD)
   (af (au (bj (aa (ag aj (pv 1) ab (λ_ _=>rfl)) (aa (pv 3) ae))))))),?_⟩
 refine⟨_,rfl,_,_,_,_,rfl,rfl,hx,rfl,_,rfl,_,_,rfl,rfl,?_⟩;refine⟨_,rfl,_,rfl,_,_,_,_,rfl,rfl,hf,rfl,_,_,rfl,rfl,_,rfl,?_⟩;refine aX (λc=>?_) (λc=>?_)
 .have c1:h<=x.2+k:=of_decide_eq_true c;refine⟨_,rfl,_,_,rfl,hx,λq1 H1 s1 h1=>q _ _ s1 ?_⟩;rw[lv,if_pos c1];exact h1
 .have c1:¬ h<=x.2+k:=λz=>c (decide_eq_true z);refine⟨_,rfl,_,_,_,_,rfl,rfl,hx,rfl,_,rfl,le2,λp1 hp1=>q _ _ (ak hp1 _) ?_⟩;rw[lv,if_neg c1];exact SqT.of ah
def yw(K:PySem.W.Frag):Sp:=λvs H Q _=>∃(fa a:Addr) (w h f m l:Int) (x:Int×Int),vs=[.ref fa,.ref a,.int l]/\SqT K H fa (fm w h f m)/\SqT K H a (pl x)/\∀q H',av H H'->SqT K H' q (pl (bc h f x l))->Q (.ref q) H'
theorem yx:aG ["form","place","lead"] ["form","place","lead"] (aw o8):=by walk_at "c"
theorem rY(T:Txt P w K mg a):aS P w K mg base CX0 3 a.pB a.oi ["form","place","lead"] (yw K):=by
 refine T.l7.fn.ok yx (λvs H Q E h=>?_) (λcdv A outer s H vs Q E hr h=>?_)
 .obtain⟨fa,a,w,h,f,m,k,x,rfl,_⟩:=h;rfl
 obtain⟨fa,a,w,h,f,m,l,x,rfl,hf,hx,q⟩:=h;refine⟨_,(ac (aI (ao a_ (pv 2) ab (ar _)) (af (au (pv 1))) aD)
   (ac (aI (ao a_ (pv 2) ab (ar _)) (af (au (aq T.j_ (qw T) (hr.mono (by decide)) rfl (aa (pv 0) (aa (pv 1) (aa ab ae)))))) aD)
   (ac (aI (ao a_ (pv 2) ab (ar _)) (af (au (aq T.j_ (qw T) (hr.mono (by decide)) rfl (aa (pv 0) (aa (pv 1) (aa ab ae)))))) aD)
   (af (au (aq T.fY (mM T) (hr.mono (by decide)) rfl (aa (pv 0) (aa (aq T.fZ (kD T) (hr.mono (by decide)) rfl (aa (pv 1) ae)) (aa (pv 2) ae))))))))),?_⟩
 refine⟨_,rfl,rfl,_,rfl,?_⟩;refine aX (λc0=>?_) (λc0=>?_)
 .refine⟨_,rfl,q _ _ (av.refl _) ?_⟩;rw[bc,if_pos (bB.mp c0)];exact hx
 have n0:=pZ.mp c0;refine⟨_,rfl,rfl,_,rfl,?_⟩;refine aX (λc1=>?_) (λc1=>?_)
 .refine⟨_,rfl,_,rfl,_,_,_,_,_,_,_,_,rfl,hf,hx,λq1 H1 s1 h1=>q _ _ s1 ?_⟩;rw[bc,if_neg n0,if_pos (bB.mp c1)];exact h1
 have n1:=pZ.mp c1;refine⟨_,rfl,rfl,_,rfl,?_⟩;refine aX (λc2=>?_) (λc2=>?_)
 .refine⟨_,rfl,_,rfl,_,_,_,_,_,_,_,_,rfl,hf,hx,λq1 H1 s1 h1=>q _ _ s1 ?_⟩;rw[bc,if_neg n0,if_neg n1,if_pos (bB.mp c2)];exact h1
 have n2:=pZ.mp c2;refine⟨_,rfl,_,rfl,_,_,rfl,hx,λq1 H1 s1 h1=>?_⟩;refine⟨_,rfl,_,_,_,_,_,_,_,_,rfl,s1.tup hf,h1,λq2 H2 s2 h2=>q _ _ (s1.trans s2) ?_⟩;rw[bc,if_neg n0,if_neg n1,if_neg n2];exact h2
def zA(K:PySem.W.Frag):Sp:=λvs H Q _=>∃(a b:Addr) (x y:Int×Int),vs=[.ref a,.ref b]/\SqT K H a (pl x)/\SqT K H b (pl y)/\∀q,SqT K H q (pl (b0 x y))->Q (.ref q) H
theorem zB:aG ["one","other"] ["one","other"] (aw qW):=by walk_at "c"
theorem zC(T:Txt P w K mg a):aS P w K mg base CX0 1 a.rn a.pH ["one","other"] (zA K):=by
 refine T.rj.fn.ok zB (λvs H Q E h=>?_) (λcdv A outer s H vs Q E hr h=>?_)
 .obtain⟨a,b,x,y,rfl,_⟩:=h;rfl
 obtain⟨a,b,x,y,rfl,hx,hy,q⟩:=h;refine⟨_,(af (au (aA (xY rfl (eJ hr)) rfl T.dZ C1 (aa (pv 0) (aa (pv 1) ae))))),?_⟩;refine⟨_,rfl,_,rfl,_,_,[x.1,x.2],[y.1,y.2],rfl,hx,hy,?_⟩;rw[AW];cases e:az x y with
 |true=>exact q _ (by rw[b0,e];exact hy)
 |false=>exact q _ (by rw[b0,e];exact hx)
def rd(K:PySem.W.Frag):Sp:=λvs H Q _=>∃(ba la:Addr) (i:Nat) (F:Frm) (ds:List Wd) (xs:List (Int×Int)),vs=[.ref ba,.ref la,.int (i:Int)]/\cC K H ba F.w F.h F.f F.m ds/\aU K H la xs/\aR F ds xs/\i<ds.length/\∀q H',av H H'->SqT K H' q (pl (bn F ds xs i))->Q (.ref q) H'
theorem dR:aG ["book","low","i","form","lead","place"] ["book","low","i"] (aw hX):=by walk_at "c"
theorem rf(T:Txt P w K mg a):aS P w K mg base CX0 4 a.im a.gL ["book","low","i"] (rd K):=by
 refine T.ii.fn.ok dR (λvs H Q E h=>?_) (λcdv A outer s H vs Q E hr h=>?_)
 .obtain⟨ba,la,i,F,ds,xs,rfl,_⟩:=h;rfl
 obtain⟨ba,la,i,F,ds,xs,rfl,hbk,hlw,B,hi,q⟩:=h;refine⟨_,(ac (am (i:=3) dR.nd rfl (Cb rfl) (ag aj (pv 0) ab (λ_ _=>rfl)))
   (ac (am (i:=4) dR.nd rfl (Cb rfl) (ag aj (ag aH (ag aj (pv 0) ab (λ_ _=>rfl)) (pv 2) (λ_ _=>rfl)) ab (λ_ _=>rfl)))
   (ac (am (i:=5) dR.nd rfl (Cb rfl) (ag aH (pv 1) (pv 2) (λ_ _=>rfl)))
   (ac (aI (ao di (pv 2) ab (ar _)) (af (am (i:=5) dR.nd rfl (Cb rfl) (aq T.rj (zC T) (hr.mono (by decide)) rfl (aa (pv 5) (aa (aq T.l7 (rY T) (hr.mono (by decide)) rfl (aa (pv 3) (aa (ag aH (pv 1) (ai bZ (pv 2) ab) (λ_ _=>rfl)) (aa (pv 4) ae)))) ae))))) aD)
   (af (au (aq T.fY (mM T) (hr.mono (by decide)) rfl (aa (pv 3) (aa (pv 5) (aa (pv 4) ae)))))))))),?_⟩
 obtain⟨fa,wa,was,hb,hf,hw,hws⟩:=hbk;obtain⟨las,hla,hls⟩:=hlw;obtain⟨wo,eo,sa,fo,bs,ht,h2,h3,h4⟩:=hws.get hi;obtain⟨xo,ex,hx⟩:=aU.get (a:=la) hls (B.len▸hi);refine⟨_,rfl,_,_,_,_,rfl,rfl,hb,rfl,?_⟩;refine⟨_,rfl,_,_,_,_,rfl,rfl,hb,rfl,_,rfl,_,_,_,_,rfl,rfl,hw,eo,_,_,_,_,rfl,rfl,ht,rfl,?_⟩;refine⟨_,rfl,_,rfl,_,_,_,_,rfl,rfl,hla,ex,?_⟩;dsimp only[aF];refine bQ (λσ' H'=>av H H'/\∃pa,σ'=[some (.ref ba),some (.ref la),some (.int (i:Int)),some (.ref fa),some (.int (dAt ds i).lead),some (.ref pa)]/\SqT K H' pa (pl (if 0<i then b0 (xAt xs i) (bc F.h F.f (xAt xs (i-1)) (dAt ds i).lead)else xAt xs i))) ?_ (λkey=>?_)
 .rintro σ' H' ⟨s',pa,rfl,hp⟩;refine⟨_,rfl,_,rfl,_,rfl,_,_,_,_,_,_,_,_,rfl,s'.tup hf,hp,λq1 H1 s1 h1=>q _ _ (s'.trans s1) h1⟩
 .refine⟨_,rfl,_,_,rfl,rfl,_,rfl,?_⟩;refine aX (λc=>?_) (λc=>?_)
  .have c1:0<i:=by
    have:(0:Int)<(i:Int):=of_decide_eq_true c;omega
   obtain⟨yo,ey,hy⟩:=aU.get (a:=la) hls (show i-1<xs.length by rw[<-B.len];omega);have ei:(i:Int)-1=((i-1:Nat):Int):=by omega
   refine⟨_,rfl,_,rfl,_,rfl,_,rfl,_,_,rfl,rfl,_,_,_,_,rfl,rfl,hla,(by rw[ei];exact ey),_,rfl,_,_,_,_,_,_,_,_,rfl,hf,hy,λq1 H1 s1 h1=>?_⟩;refine⟨_,_,_,_,rfl,s1.tup hx,h1,λq2 h2=>?_⟩;exact key _ _ ⟨s1,q2,rfl,by rw[if_pos c1];exact h2⟩
  .have c1:¬ 0<i:=λz=>c (decide_eq_true (by omega));exact key _ _ ⟨av.refl _,xo,rfl,by rw[if_neg c1];exact hx⟩
def uR(K:PySem.W.Frag):Sp:=λvs H Q _=>∃(ba la:Addr) (i j:Nat) (high:Int) (F:Frm) (ds:List Wd) (xs:List (Int×Int)),vs=[.ref ba,.ref la,.int (i:Int),.int (j:Int),.int high]/\cC K H ba F.w F.h F.f F.m ds/\aU K H la xs/\aR F ds xs/\i<ds.length/\j<ds.length/\∀v H',av H H'->PlO K H' v (cq F xs i j high)->Q v H'
theorem nJ:aG ["book","low","i","j","high","page"] ["book","low","i","j","high"] (aw kz):=by walk_at "c"
theorem uS(T:Txt P w K mg a):aS P w K mg base CX0 1 a.kX a.jK ["book","low","i","j","high"] (uR K):=by
 refine T.kI.fn.ok nJ (λvs H Q E h=>?_) (λcdv A outer s H vs Q E hr h=>?_)
 .obtain⟨ba,la,i,j,high,F,ds,xs,rfl,_⟩:=h;rfl
 obtain⟨ba,la,i,j,high,F,ds,xs,rfl,hbk,hlw,B,hi,hj,q⟩:=h;refine⟨_,(ac (am (i:=5) nJ.nd rfl (Cb rfl) (ag aj (ag aH (pv 1) (pv 2) (λ_ _=>rfl)) ab (λ_ _=>rfl)))
   (ac (aI (PW.pt (cH (ao d_ (ag aj (ag aH (pv 1) (pv 3) (λ_ _=>rfl)) ab (λ_ _=>rfl)) (pv 5) (ar _)) (cx (ao fG (ai aC (ai aC (ag aj (ag aH (pv 1) (pv 2) (λ_ _=>rfl)) ab (λ_ _=>rfl)) ab) (pv 4)) (ag aj (ag aj (pv 0) ab (λ_ _=>rfl)) ab (λ_ _=>rfl)) (ar _))))) (af (au cf)) aD)
   (af (au (bj (aa (ai aC (pv 5) ab) (aa ab ae))))))),?_⟩
 obtain⟨fa,wa,was,hb,hf,hw,hws⟩:=hbk;obtain⟨las,hla,hls⟩:=hlw;obtain⟨xo,ex,hx⟩:=aU.get (a:=la) hls (B.len▸hi);obtain⟨yo,ey,hy⟩:=aU.get (a:=la) hls (B.len▸hj);refine⟨_,rfl,_,rfl,_,_,_,_,rfl,rfl,hla,ex,_,_,_,_,rfl,rfl,hx,rfl,?_⟩;refine⟨_,rfl,_,rfl,_,_,_,_,rfl,rfl,hla,ey,_,_,_,_,rfl,rfl,hy,rfl,_,rfl,_,_,rfl,rfl,_,rfl,?_⟩;refine orG (λc=>?_) (λc=>?_)
 .have c1:(xAt xs j).1<(xAt xs i).1:=of_decide_eq_true c;exact q _ _ (av.refl _) (by rw[cq,if_pos (.inl c1)];rfl)
 have c1:¬ (xAt xs j).1<(xAt xs i).1:=λz=>c (decide_eq_true z);refine⟨_,rfl,_,rfl,_,_,_,_,rfl,rfl,hla,ex,_,_,_,_,rfl,rfl,hx,rfl,_,_,rfl,rfl,_,rfl,_,_,rfl,rfl,_,rfl,_,_,_,_,rfl,rfl,hb,rfl,_,_,_,_,rfl,rfl,hf,rfl,_,_,rfl,rfl,_,rfl,?_⟩;refine aX (λc=>?_) (λc=>?_)
 .have c2:(xAt xs i).2+1+high<=F.h:=of_decide_eq_true c;exact q _ _ (av.refl _) (by rw[cq,if_pos (.inr c2)];rfl)
 .have c2:¬ (xAt xs i).2+1+high<=F.h:=λz=>c (decide_eq_true z);refine⟨_,rfl,_,_,rfl,rfl,le2,λp1 hp1=>q _ _ (ak hp1 _) ?_⟩;rw[cq,if_neg (by intro z;rcases z with z|z;exact c1 z;exact c2 z)];exact⟨p1,rfl,SqT.of ah⟩
def uT(K:PySem.W.Frag):Sp:=λvs H Q _=>∃(ba la:Addr) (i:Nat) (F:Frm) (ds:List Wd) (xs:List (Int×Int)),vs=[.ref ba,.ref la,.int (i:Int)]/\cC K H ba F.w F.h F.f F.m ds/\aU K H la xs/\aR F ds xs/\i<ds.length/\∀v H',av H H'->PlO K H' v (bN ds xs i)->Q v H'
theorem jj:aG ["book","low","i","words","j"] ["book","low","i"] (aw kA):=by walk_at "c"
theorem uU(T:Txt P w K mg a):aS P w K mg base CX0 1 a.kY a.jL ["book","low","i"] (uT K):=by
 refine T.kJ.fn.ok jj (λvs H Q E h=>?_) (λcdv A outer s H vs Q E hr h=>?_)
 .obtain⟨ba,la,i,F,ds,xs,rfl,_⟩:=h;rfl
 obtain⟨ba,la,i,F,ds,xs,rfl,hbk,hlw,B,hi,q⟩:=h;refine⟨_,(ac (am (i:=3) jj.nd rfl (Cb rfl) (ag aj (pv 0) ab (λ_ _=>rfl)))
   (ac (am (i:=4) jj.nd rfl (Cb rfl) (ai aC (pv 2) ab))
   (ac (aI (PW.pt (cH (ao a_ (pv 4) (aA aL rfl T.bu PySem.boot_len (aa (pv 3) ae)) (ar _)) (cx (dm (bV (ag aj (ag aH (pv 3) (pv 4) (λ_ _=>rfl)) ab (λ_ _=>rfl)) (λ_=>rfl)))))) (af (au cf)) aD)
   (af (au (bj (aa (ag aj (ag aH (pv 1) (pv 4) (λ_ _=>rfl)) ab (λ_ _=>rfl)) (aa ab ae)))))))),?_⟩
 obtain⟨fa,wa,was,hb,hf,hw,hws⟩:=hbk;obtain⟨las,hla,hls⟩:=hlw;refine⟨_,rfl,_,_,_,_,rfl,rfl,hb,rfl,?_⟩;refine⟨_,rfl,_,_,rfl,rfl,?_⟩;dsimp only[aF];refine⟨_,rfl,_,rfl,_,_,rfl,.inl hw,rfl,_,rfl,?_⟩;have ei:(i:Int)+1=((i+1:Nat):Int):=by omega
 refine orG (λc=>?_) (λc=>?_)
 .have c0:=bB.mp c;have c1:i+1=ds.length:=by
   rw[B3,hws.1]at c0;omega
  exact q _ _ (av.refl _) (by rw[bN,if_pos (.inl c1)];rfl)
 have c1:i+1≠ds.length:=λz=>c (bB.mpr (by rw[B3,hws.1];omega));have hi2:i+1<ds.length:=by omega
 obtain⟨wo,eo,sa,fo,bs,ht,h2,h3,h4⟩:=hws.get hi2;obtain⟨yo,ey,hy⟩:=aU.get (a:=la) hls (B.len▸hi2);refine⟨_,rfl,_,rfl,_,_,_,_,rfl,rfl,hw,(by rw[ei];exact eo),_,_,_,_,rfl,rfl,ht,rfl,_,rfl,?_⟩;cases ek:(dAt ds (i+1)).kept with
 |false =>
  refine bM ?_;exact q _ _ (av.refl _) (by rw[bN,if_pos (.inr ek)];rfl)
 |true =>
  refine aT ?_;refine⟨_,rfl,_,rfl,_,_,_,_,rfl,rfl,hla,(by rw[ei];exact ey),_,_,_,_,rfl,rfl,hy,rfl,le2,λp1 hp1=>q _ _ (ak hp1 _) ?_⟩;rw[bN,if_neg (by intro z;rcases z with z|z;exact c1 z;rw[ek]at z;cases z)];exact⟨p1,rfl,SqT.of ah⟩
def xk(K:PySem.W.Frag):Sp:=λvs H Q _=>∃(fa sa pa:Addr) (w h f m:Int) (s:Say) (as:List Addr) (xs:List (Int×Int)),vs=[.ref fa,.ref sa,.ref pa]/\SqT K H fa (fm w h f m)/\SqT K H sa (lI s)/\SqL K H pa (as.map V.ref)/\aV K H as xs/\c_ w h f m/\eC xs.length s/\b_ h xs/\Q (.int ((ay h f xs s).length:Nat)) H
theorem xn:aG ["form","saying","places"] ["form","saying","places"] (aw nD):=by walk_at "c"
theorem qx(T:Txt P w K mg a):aS P w K mg base CX0 3 a.oh a.mH ["form","saying","places"] (xk K):=by
 refine T.ka.fn.ok xn (λvs H Q E h=>?_) (λcdv A outer s H vs Q E hr h=>?_)
 .obtain⟨fa,sa,pa,w,h,f,m,s,as,xs,rfl,_⟩:=h;rfl
 obtain⟨fa,sa,pa,w,h,f,m,s,as,xs,rfl,hf,hs,hp,ha,fo,so,po,q⟩:=h;refine⟨_,(af (au (aA cI rfl T.bu PySem.boot_len (aa (aq T.nR (rc T) (hr.mono (by decide)) rfl (aa (pv 0) (aa (pv 1) (aa (pv 2) ae)))) ae)))),?_⟩;have sl:=da fo po so;refine⟨_,rfl,_,rfl,_,rfl,_,_,_,_,_,_,_,_,_,_,rfl,hf,hs,hp,ha,fo,so,po,_,rfl,(by rw[bz];exact bi (by omega)),?_⟩;rw[bz];exact q
def sw(K:PySem.W.Frag):Sp:=λvs H Q _=>∃(ba la:Addr) (i:Nat) (F:Frm) (ds:List Wd) (xs:List (Int×Int)),vs=[.ref ba,.ref la,.int (i:Int)]/\cC K H ba F.w F.h F.f F.m ds/\aU K H la xs/\aR F ds xs/\i<ds.length/\∀v H',av H H'->PlO K H' v (b5 F ds xs i)->Q v H'
theorem h_:aG ["book","low","i","form","word"] ["book","low","i"] (aw ja):=by walk_at "c"
theorem sx(T:Txt P w K mg a):aS P w K mg base CX0 5 a.jB a.iz ["book","low","i"] (sw K):=by
 refine T.jq.fn.ok h_ (λvs H Q E h=>?_) (λcdv A outer s H vs Q E hr h=>?_)
 .obtain⟨ba,la,i,F,ds,xs,rfl,_⟩:=h;rfl
 obtain⟨ba,la,i,F,ds,xs,rfl,hbk,hlw,B,hi,q⟩:=h;refine⟨_,(ac (am (i:=3) h_.nd rfl (Cb rfl) (ag aj (pv 0) ab (λ_ _=>rfl)))
   (ac (am (i:=4) h_.nd rfl (Cb rfl) (ag aH (ag aj (pv 0) ab (λ_ _=>rfl)) (pv 2) (λ_ _=>rfl)))
   (ac (aI (PW.pt (bW (ao fG (aq T.ka (qx T) (hr.mono (by decide)) rfl (aa (pv 3) (aa (ag aj (pv 4) ab (λ_ _=>rfl)) (aa (pv 1) ae)))) (ag aj (pv 3) ab (λ_ _=>rfl)) (ar _)) (bK (ao fG (ai aC (aq T.gO (nI T) (hr.mono (by decide)) rfl (aa (pv 3) (aa (ag aj (pv 4) ab (λ_ _=>rfl)) (aa (pv 1) ae)))) ab) (ag aj (pv 3) ab (λ_ _=>rfl)) (ar _))))) (af (au cf)) aD)
   (af (au (bj (aa (ag aj (pv 3) ab (λ_ _=>rfl)) (aa ab ae)))))))),?_⟩
 obtain⟨fa,wa,was,hb,hf,hw,hws⟩:=hbk;obtain⟨las,hla,hls⟩:=hlw;obtain⟨wo,eo,sa,foa,bs,ht,h2,h3,h4⟩:=hws.get hi;have wk:=(B.d hi).2;refine⟨_,rfl,_,_,_,_,rfl,rfl,hb,rfl,?_⟩;refine⟨_,rfl,_,_,_,_,rfl,rfl,hb,rfl,_,rfl,_,_,_,_,rfl,rfl,hw,eo,?_⟩;refine⟨_,rfl,_,rfl,_,_,_,_,rfl,rfl,ht,rfl,_,rfl,_,_,_,_,_,_,_,_,_,_,rfl,hf,h2,hla,hls,B.fo,wk.s,B.po,_,rfl,_,_,_,_,rfl,rfl,hf,rfl,_,_,rfl,rfl,_,rfl,?_⟩;by_cases k1:bF F xs (dAt ds i)<=F.w
 .refine b4 (λc=>absurd (decide_eq_true k1) c) (λ_=>?_);refine⟨_,rfl,_,rfl,_,_,_,_,rfl,rfl,ht,rfl,_,rfl,_,_,_,_,_,_,_,_,_,_,_,rfl,hf,h3,h4,hla,hls,B.fo,wk.f,B.po,(by have:=wk.n;omega),λH1 s1=>?_⟩;refine⟨_,_,rfl,rfl,_,rfl,_,_,_,_,rfl,rfl,s1.tup hf,rfl,_,_,rfl,rfl,_,rfl,?_⟩;refine aX (λc=>?_) (λc=>?_)
  .have k2:a9 F xs (dAt ds i)+1<=F.h:=of_decide_eq_true c;exact q _ _ s1 (by rw[b5,if_pos ⟨k1,k2⟩];rfl)
  .have k2:¬ a9 F xs (dAt ds i)+1<=F.h:=λz=>c (decide_eq_true z);refine⟨_,rfl,_,_,_,_,rfl,rfl,s1.tup hf,rfl,le2,λp1 hp1=>q _ _ (s1.trans (ak hp1 _)) ?_⟩;rw[b5,if_neg (λz=>k2 z.2)];exact⟨p1,rfl,SqT.of ah⟩
 .refine b4 (λ_=>?_) (λc=>absurd (of_decide_eq_true c) k1);refine⟨_,rfl,_,_,_,_,rfl,rfl,hf,rfl,le2,λp1 hp1=>q _ _ (ak hp1 _) ?_⟩;rw[b5,if_neg (λz=>k1 z.1)];exact⟨p1,rfl,SqT.of ah⟩
def uV(K:PySem.W.Frag):Sp:=λvs H Q _=>∃(ba la:Addr) (j:Nat) (wide:Int) (F:Frm) (ds:List Wd) (xs:List (Int×Int)),vs=[.ref ba,.ref la,.int (j:Int),.int wide]/\cC K H ba F.w F.h F.f F.m ds/\aU K H la xs/\aR F ds xs/\j<ds.length/\∀v H',av H H'->PlO K H' v (cE F xs j wide)->Q v H'
theorem nK:aG ["book","low","j","wide","form"] ["book","low","j","wide"] (aw kC):=by walk_at "c"
theorem uW(T:Txt P w K mg a):aS P w K mg base CX0 4 a.kZ a.jM ["book","low","j","wide"] (uV K):=by
 refine T.kL.fn.ok nK (λvs H Q E h=>?_) (λcdv A outer s H vs Q E hr h=>?_)
 .obtain⟨ba,la,j,wide,F,ds,xs,rfl,_⟩:=h;rfl
 obtain⟨ba,la,j,wide,F,ds,xs,rfl,hbk,hlw,B,hj,q⟩:=h;refine⟨_,(ac (am (i:=4) nK.nd rfl (Cb rfl) (ag aj (pv 0) ab (λ_ _=>rfl)))
   (ac (aI (ao fG (pv 3) (ag aj (pv 4) ab (λ_ _=>rfl)) (ar _)) (af (au cf)) aD)
   (af (au (aq T.l7 (rY T) (hr.mono (by decide)) rfl (aa (pv 4) (aa (ag aH (pv 1) (pv 2) (λ_ _=>rfl)) (aa ab ae)))))))),?_⟩
 obtain⟨fa,wa,was,hb,hf,hw,hws⟩:=hbk;obtain⟨las,hla,hls⟩:=hlw;obtain⟨xo,ex,hx⟩:=aU.get (a:=la) hls (B.len▸hj);refine⟨_,rfl,_,_,_,_,rfl,rfl,hb,rfl,?_⟩;refine⟨_,rfl,_,rfl,_,_,_,_,rfl,rfl,hf,rfl,_,_,rfl,rfl,_,rfl,?_⟩;refine aX (λc=>?_) (λc=>?_)
 .have c1:wide<=F.w:=of_decide_eq_true c;exact q _ _ (av.refl _) (by rw[cE,if_pos c1];rfl)
 .have c1:¬ wide<=F.w:=λz=>c (decide_eq_true z);refine⟨_,rfl,_,rfl,_,rfl,_,_,_,_,rfl,rfl,hla,ex,_,_,_,_,_,_,_,_,rfl,hf,hx,λq1 H1 s1 h1=>q _ _ s1 ?_⟩;rw[cE,if_neg c1];exact⟨q1,rfl,h1⟩
def vo(K:PySem.W.Frag):Sp:=λvs H Q _=>∃(ba la:Addr) (j n:Nat) (i:Int) (F:Frm) (ds:List Wd) (xs:List (Int×Int)),vs=[.ref ba,.ref la,.int (j:Int),.int i]/\i+1=(n:Int)/\cC K H ba F.w F.h F.f F.m ds/\aU K H la xs/\aR F ds xs/\n<=ds.length/\j<=n/\∀q H',av H H'->H q=none->H' q=some (.lst (((dG ds j n).map (bF F xs)).map V.int))->Q (.ref q) H'
theorem vp:aG ["book","low","j","i"] ["book","low","j","i"] (aw lW):=by walk_at "c"
theorem oJ(T:Txt P w K mg a):aS P w K mg base CX0 4 a.mt a.lq ["book","low","j","i"] (vo K):=by
 refine T.iK.fn.ok vp (λvs H Q E h=>?_) (λcdv A outer s H vs Q E hr h=>?_)
 .obtain⟨ba,la,j,n,i,F,ds,xs,rfl,_⟩:=h;rfl
 obtain⟨ba,la,j,n,i,F,ds,xs,rfl,he,hbk,hlw,B,hi,hj,q⟩:=h;refine⟨_,(af (au (dJ rfl (dC (caps:=["book","low"]) (js:=[0,1]) (cap:=⟨⟨rfl,.inl rfl,rfl,.inl rfl⟩,⟨⟨rfl,.inl rfl,rfl,.inl rfl⟩,trivial⟩⟩)) (bL (iT lu (ag aj (pv 0) ab (λ_ _=>rfl)) (fv (pv 2)) (fv (ai aC (pv 3) ab)))) (λ_ _ _ _=>b7) (λ_ _ _ _=>(aq T.ka (qx T) (hr.mono (by decide)) rfl (aa (ag (r:=eY K) aj (pv 1) ab (λ_ _=>rfl)) (aa (ag (r:=eY K) aj (pv 0) ab (λ_ _=>rfl)) (aa (pv 2) ae)))))))),?_⟩;obtain⟨fa,wa,was,hb,hf,hw,hws⟩:=hbk;obtain⟨las,hla,hls⟩:=hlw;refine⟨_,rfl,_,_,_,_,rfl,rfl,hb,rfl,_,rfl,_,rfl,_,rfl,_,_,rfl,rfl,_,rfl,_,_,rfl,hw,λp1 hp1=>?_⟩;have ec:c6 (was.map V.ref) (some (j:Int)) (some (i+1))=((was.drop j).take (n-j)).map V.ref:=by
  have:=qO was j n;rw[i4,he];exact congrArg (List.map V.ref) this
 have s1:=ak hp1 (.lst (c6 (was.map V.ref) (some (j:Int)) (some (i+1))));have h1:(upd H p1 (.lst (c6 (was.map V.ref) (some (j:Int)) (some (i+1))))) p1=some (.lst (((was.drop j).take (n-j)).map V.ref)):=by rw[ah,ec]
 generalize upd H p1 (.lst (c6 (was.map V.ref) (some (j:Int)) (some (i+1))))=H1 at s1 h1;have wsg:dk K H ((was.drop j).take (n-j)) (dG ds j n):=(hws.drop j).take (n-j);have sub:∀d∈dG ds j n,dN xs.length d:=λd hd=>B.len▸B.wd d (DC (Dg hd));have sl:(dG ds j n).length<=400:=by unfold dG;have:=B.n;simp;omega
 generalize (was.drop j).take (n-j)=sas at h1 wsg;generalize dG ds j n=sd at wsg sub q sl;refine⟨_,rfl,⟨_,SqL.of h1⟩,cu (K:=K) (a:=p1) (xs:=sas.map V.ref) (λk ys H2=>av H1 H2/\ys=((sd.take k).map (bF F xs)).map V.int) ⟨av.refl _,rfl⟩ (λk ys H2 _ h2=>h2.1.seq (SqL.of h1)) ?_ ?_ ?_⟩
 .rintro k ys H2 hk ⟨_,rfl⟩;rw[B3,B3,CB];exact B7 (show _<1000 by omega) (bi (B4 _))
 .rintro k y ys H2 hk ⟨s2,rfl⟩;obtain⟨b,d,rfl,eb,ed⟩:=jS wsg.1 hk;obtain⟨sa,fo,bs,ht,g2,g3,g4⟩:=wsg.2 k b d eb ed;have wk:=sub d (Cg ed);have t:=s1.trans s2;refine cz ?_;refine⟨_,rfl,_,_,_,_,rfl,rfl,t.tup hb,rfl,_,rfl,_,_,_,_,rfl,rfl,t.tup ht,rfl,_,rfl,_,_,_,_,_,_,_,_,_,_,rfl,t.tup hf,t.tup g2,t.seq hla,hls.same t,B.fo,wk.s,B.po,s2,?_⟩;rw[cg ed,Ch,Ch];rfl
 .rintro ys H2 ⟨s2,rfl⟩ p hp;have e:(sas.map V.ref).length=sd.length:=by rw[B3,wsg.1]
  rw[e,C8]at *;exact q _ _ (s1.trans (s2.trans (ak hp _))) ((s1.trans s2).free hp) ah
def qy(K:PySem.W.Frag):Sp:=λvs H Q _=>∃(ba la:Addr) (k:Str) (i:Nat) (j:Int) (F:Frm) (ds:List Wd) (xs:List (Int×Int)),vs=[.ref ba,.ref la,.str k,.int (i:Int),.int j]/\cC K H ba F.w F.h F.f F.m ds/\aU K H la xs/\aR F ds xs/\i<ds.length/\∀v H',av H H'->PlO K H' v (fL F ds xs k i j)->Q v H'
theorem qz:aG ["book","low","kind","i","j"] ["book","low","kind","i","j"] (aw gx):=by walk_at "c"
theorem qA(T:Txt P w K mg a):aS P w K mg base CX0 6 a.gH a.gh ["book","low","kind","i","j"] (qy K):=by
 refine T.gD.fn.ok qz (λvs H Q E h=>?_) (λcdv A outer s H vs Q E hr h=>?_)
 .obtain⟨ba,la,k,i,j,F,ds,xs,rfl,_⟩:=h;rfl
 obtain⟨ba,la,k,i,j,F,ds,xs,rfl,hbk,hlw,B,hi,q⟩:=h;refine⟨_,(ac (aI (PW.pt (bW (ao a_ (pv 2) bv (ar _)) (bK (ao a_ (pv 4) (ai bZ (pv 3) ab) (ar _))))) (af (au (aq T.ii (rf T) (hr.mono (by decide)) rfl (aa (pv 0) (aa (pv 1) (aa (pv 3) ae)))))) aD)
   (ac (aI (PW.pt (bW (ao a_ (pv 2) bv (ar _)) (bK (oO fG d_ ab (pv 4) (pv 3))))) (af (au (aq T.kL (uW T) (hr.mono (by decide)) rfl (aa (pv 0) (aa (pv 1) (aa (pv 4) (aa (aq T.me (vh T) (hr.mono (by decide)) rfl (aa (aq T.iK (oJ T) (hr.mono (by decide)) rfl (aa (pv 0) (aa (pv 1) (aa (pv 4) (aa (pv 3) ae))))) ae)) ae))))))) aD)
   (ac (aI (PW.pt (bW (ao a_ (pv 2) bv (ar _)) (bK (oO fG fG ab (pv 4) (pv 3))))) (af (au (aq T.kI (uS T) (hr.mono (by decide)) rfl (aa (pv 0) (aa (pv 1) (aa (pv 3) (aa (pv 4) (aa (aA (oZ rfl) rfl T.kc EB (aa (aq T.iH (oI T) (hr.mono (by decide)) rfl (aa (pv 0) (aa (pv 1) (aa (pv 4) (aa (pv 3) ae))))) ae)) ae)))))))) aD)
   (ac (aI (PW.pt (bW (ao a_ (pv 2) bv (ar _)) (bK (ao a_ (pv 4) (ai aC (pv 3) ab) (ar _))))) (af (au (aq T.kJ (uU T) (hr.mono (by decide)) rfl (aa (pv 0) (aa (pv 1) (aa (pv 3) ae)))))) aD)
   (ac (aI (PW.pt (bW (ao a_ (pv 2) bv (ar _)) (bK (ao a_ (pv 4) (pv 3) (ar _))))) (af (au (aq T.jq (sx T) (hr.mono (by decide)) rfl (aa (pv 0) (aa (pv 1) (aa (pv 3) ae)))))) aD)
   (af (au cf))))))),?_⟩
 unfold fL at q;refine⟨_,rfl,rfl,_,rfl,?_⟩;by_cases k1:k=PySem.Str.ofString "behind"/\j=(i:Int)-1
 .rw[if_pos k1]at q;refine b4 (λc=>absurd (eR.mpr k1.1) c) (λ_=>?_);refine⟨_,rfl,_,rfl,_,_,rfl,rfl,rfl,_,rfl,?_⟩;refine aX (λ_=>?_) (λc=>absurd (bB.mpr k1.2) c);exact⟨_,rfl,_,rfl,_,rfl,_,_,_,_,_,_,rfl,hbk,hlw,B,hi,λq1 H1 s1 h1=>q _ _ s1 ⟨q1,rfl,h1⟩⟩
 rw[if_neg k1]at q;refine mY ?_ (λca hb=>?_)
 rotate_left
 .refine⟨_,rfl,_,rfl,_,_,rfl,rfl,rfl,_,rfl,?_⟩;exact aX (λc=>absurd ⟨eR.mp ca,bB.mp c⟩ k1) (λ_=>hb)
 refine⟨_,rfl,rfl,_,rfl,?_⟩;by_cases k2:k=PySem.Str.ofString "wide"/\(0<=j/\j<(i:Int))
 .rw[if_pos k2]at q;refine b4 (λc=>absurd (eR.mpr k2.1) c) (λ_=>?_);refine⟨_,rfl,_,_,rfl,rfl,_,rfl,?_⟩;rw[decide_eq_true k2.2.1];refine bM ?_;refine⟨_,rfl,_,_,rfl,rfl,_,rfl,?_⟩;refine aX (λ_=>?_) (λc=>absurd (decide_eq_true k2.2.2) c);obtain⟨n,rfl⟩:=CP k2.2.1;refine⟨_,rfl,_,rfl,_,rfl,_,rfl,_,rfl,_,rfl,_,rfl,_,_,n,i+1,(i:Int),_,_,_,rfl,(by omega),hbk,hlw,B,(by omega),(by omega),λwa H1 s1 nw h1=>?_⟩;refine⟨_,_,rfl,SqL.of h1,?_⟩;exact⟨_,_,n,_,_,_,_,rfl,hbk.same s1,hlw.same s1,B,by omega,λv H2 s2 h2=>q _ _ (s1.trans s2) h2⟩
 rw[if_neg k2]at q;refine mY ?_ (λca hb=>?_)
 rotate_left
 .refine⟨_,rfl,_,_,rfl,rfl,_,rfl,?_⟩;refine aX (λc1=>?_) (λ_=>⟨_,rfl,aT hb⟩);refine⟨_,rfl,_,_,rfl,rfl,_,rfl,?_⟩;exact aX (λc=>absurd ⟨eR.mp ca,of_decide_eq_true c1,of_decide_eq_true c⟩ k2) (λ_=>hb)
 refine⟨_,rfl,rfl,_,rfl,?_⟩;by_cases k3:k=PySem.Str.ofString "high"/\(0<=j/\j<=(i:Int))
 .rw[if_pos k3]at q;refine b4 (λc=>absurd (eR.mpr k3.1) c) (λ_=>?_);refine⟨_,rfl,_,_,rfl,rfl,_,rfl,?_⟩;rw[decide_eq_true k3.2.1];refine bM ?_;refine⟨_,rfl,_,_,rfl,rfl,_,rfl,?_⟩;refine aX (λ_=>?_) (λc=>absurd (decide_eq_true k3.2.2) c);obtain⟨n,rfl⟩:=CP k3.2.1;refine⟨_,rfl,_,rfl,_,rfl,_,rfl,_,rfl,_,rfl,_,rfl,_,rfl,_,_,n,i+1,(i:Int),_,_,_,rfl,(by omega),hbk,hlw,B,(by omega),(by omega),λwa H1 s1 nw h1=>?_⟩;refine⟨_,_,rfl,SqL.of h1,?_⟩;exact⟨_,_,i,n,_,_,_,_,rfl,hbk.same s1,hlw.same s1,B,hi,by omega,λv H2 s2 h2=>q _ _ (s1.trans s2) h2⟩
 rw[if_neg k3]at q;refine mY ?_ (λca hb=>?_)
 rotate_left
 .refine⟨_,rfl,_,_,rfl,rfl,_,rfl,?_⟩;refine aX (λc1=>?_) (λ_=>⟨_,rfl,aT hb⟩);refine⟨_,rfl,_,_,rfl,rfl,_,rfl,?_⟩;exact aX (λc=>absurd ⟨eR.mp ca,of_decide_eq_true c1,of_decide_eq_true c⟩ k3) (λ_=>hb)
 refine⟨_,rfl,rfl,_,rfl,?_⟩;by_cases k4:k=PySem.Str.ofString "kept"/\j=(i:Int)+1
 .rw[if_pos k4]at q;refine b4 (λc=>absurd (eR.mpr k4.1) c) (λ_=>?_);refine⟨_,rfl,_,rfl,_,_,rfl,rfl,rfl,_,rfl,?_⟩;refine aX (λ_=>?_) (λc=>absurd (bB.mpr k4.2) c);exact⟨_,rfl,_,rfl,_,rfl,_,_,_,_,_,_,rfl,hbk,hlw,B,hi,λv H1 s1 h1=>q _ _ s1 h1⟩
 rw[if_neg k4]at q;refine mY ?_ (λca hb=>?_)
 rotate_left
 .refine⟨_,rfl,_,rfl,_,_,rfl,rfl,rfl,_,rfl,?_⟩;exact aX (λc=>absurd ⟨eR.mp ca,bB.mp c⟩ k4) (λ_=>hb)
 refine⟨_,rfl,rfl,_,rfl,?_⟩;by_cases k5:k=PySem.Str.ofString "never"/\j=(i:Int)
 .rw[if_pos k5]at q;refine b4 (λc=>absurd (eR.mpr k5.1) c) (λ_=>?_);refine⟨_,rfl,_,rfl,rfl,_,rfl,?_⟩;refine aX (λ_=>?_) (λc=>absurd (bB.mpr k5.2) c);exact⟨_,rfl,_,rfl,_,rfl,_,_,_,_,_,_,rfl,hbk,hlw,B,hi,λv H1 s1 h1=>q _ _ s1 h1⟩
 rw[if_neg k5]at q;refine mY (q _ _ (av.refl _) rfl) (λca hb=>?_);refine⟨_,rfl,_,rfl,rfl,_,rfl,?_⟩;exact aX (λc=>absurd ⟨eR.mp ca,bB.mp c⟩ k5) (λ_=>hb)
def zD(K:PySem.W.Frag):Sp:=λvs H Q _=>∃(ba la:Addr) (k:Str) (i:Nat) (j:Int) (F:Frm) (ds:List Wd) (xs:List (Int×Int)),vs=[.ref ba,.ref la,.str k,.int (i:Int),.int j]/\cC K H ba F.w F.h F.f F.m ds/\aU K H la xs/\aR F ds xs/\i<ds.length/\∀v H',av H H'->PlO K H' v (cj F ds xs k i j)->Q v H'
theorem uX:aG ["book","low","kind","i","j","place"] ["book","low","kind","i","j"] (aw qX):=by walk_at "c"
theorem o_(T:Txt P w K mg a):aS P w K mg base CX0 7 a.rp a.pI ["book","low","kind","i","j"] (zD K):=by
 refine T.lD.fn.ok uX (λvs H Q E h=>?_) (λcdv A outer s H vs Q E hr h=>?_)
 .obtain⟨ba,la,k,i,j,F,ds,xs,rfl,_⟩:=h;rfl
 obtain⟨ba,la,k,i,j,F,ds,xs,rfl,hbk,hlw,B,hi,q⟩:=h;have hu:=C2 (eJ hr);refine⟨_,(ac (am (i:=5) uX.nd rfl (Cb rfl) (aq T.gD (qA T) (hr.mono (by decide)) rfl (aa (pv 0) (aa (pv 1) (aa (pv 2) (aa (pv 3) (aa (pv 4) ae)))))))
   (ac (aI (PW.pt (cH (ao xH (pv 5) cf (ar _)) (cx (ao (AR hu) (pv 5) (ag aH (pv 1) (pv 3) (λ_ _=>rfl)) (ar _))))) (af (au cf)) aD)
   (af (au (pv 5))))),?_⟩
 refine⟨_,rfl,_,rfl,_,rfl,_,rfl,_,rfl,_,_,_,_,_,_,_,_,rfl,hbk,hlw,B,hi,λv H1 s1 h1=>?_⟩;unfold cj at q;obtain⟨las,hla,hls⟩:=hlw;obtain⟨xo,ex,hx⟩:=aU.get (a:=la) hls (B.len▸hi);cases e:fL F ds xs k i j with
 |none =>
  rw[e]at h1 q;cases h1;refine⟨_,rfl,rfl,_,rfl,?_⟩;refine bM (bM ?_);exact q _ _ s1 rfl
 |some x =>
  rw[e]at h1 q;obtain⟨xq,rfl,hxq⟩:=h1;refine⟨_,rfl,rfl,_,rfl,?_⟩;refine aT ?_;refine⟨_,rfl,_,rfl,_,rfl,_,_,_,_,rfl,rfl,s1.seq hla,ex,_,_,[x.1,x.2],[(xAt xs i).1,(xAt xs i).2],rfl,rfl,hxq,s1.tup hx,_,rfl,?_⟩;rw[AX];dsimp only at q;cases so:az (xAt xs i) x with
  |true =>
   rw[so]at q;refine aT ?_;exact⟨_,rfl,q _ _ s1 ⟨xq,rfl,hxq⟩⟩
  |false =>
   rw[so]at q;refine bM ?_;exact q _ _ s1 rfl
theorem Bc{n:Nat}(h:n<=2000000):n<Cr:=E1 h (by decide)
def vq(K:PySem.W.Frag):Sp:=λvs H Q _=>∃(H0:Hp) (ba la pa:Addr) (k:Str) (i:Nat) (j:Int) (F:Frm) (ds:List Wd) (xs:List (Int×Int)) (as:List Addr) (ps:List V) (y:Int×Int),vs=[.ref ba,.ref la,.ref pa,.str k,.int (i:Int),.int j]/\cC K H0 ba F.w F.h F.f F.m ds/\av H0 H/\H0 la=none/\H0 pa=none/\la≠pa/\H la=some (.lst (as.map V.ref))/\aV K H as xs/\H pa=some (.lst ps)/\aR F ds xs/\i<ds.length/\ps.length<=2000000/\cj F ds xs k i j=some y/\∀H' as' ps',av H0 H'->H' la=some (.lst (as'.map V.ref))->aV K H' as' (xs.set i y)->H' pa=some (.lst ps')->ps'.length=ps.length+1->Q .non H'
theorem oK:aG ["book","bounds","paper","kind","i","j","place"] ["book","bounds","paper","kind","i","j"] (aw lX):=by walk_at "c"
theorem oM(T:Txt P w K mg a):aS P w K mg base CX0 8 a.mq a.lm ["book","bounds","paper","kind","i","j"] (vq K):=by
 refine T.iJ.fn.ok oK (λvs H Q E h=>?_) (λcdv A outer s H vs Q E hr h=>?_)
 .obtain⟨H0,ba,la,pa,k,i,j,F,ds,xs,as,ps,y,rfl,_⟩:=h;rfl
 obtain⟨H0,ba,la,pa,k,i,j,F,ds,xs,as,ps,y,rfl,hbk,s0,nla,npa,nlp,hla,pxs,hpa,B,hi,pl9,hy,q⟩:=h;refine⟨_,(ac (am (i:=6) oK.nd rfl (Cb rfl) (aq T.lD (o_ T) (hr.mono (by decide)) rfl (aa (pv 0) (aa (pv 1) (aa (pv 3) (aa (pv 4) (aa (pv 5) ae)))))))
   (ac (cr (dt PySem.F.plainAttrs_list PySem.F.slot_list_append PySem.F.type_list_append cU (pv 2) (aa (bj (aa (pv 3) (aa (pv 4) (aa (pv 5) (aa (pv 6) ae))))) ae)))
   (af (fE (pv 6) (xD (pv 1) (pv 4) tH))))),?_⟩
 refine⟨_,rfl,_,rfl,_,rfl,_,rfl,_,rfl,ba,la,k,i,j,F,ds,xs,rfl,hbk.same s0,⟨as,SqL.of hla,pxs⟩,B,hi,λv H1 s1 h1=>?_⟩;rw[hy]at h1;obtain⟨yq,rfl,hyq⟩:=h1;have hpa1:=s1 _ _ hpa;have hla1:=s1 _ _ hla;refine⟨_,rfl,.inl ⟨rfl,_,SqL.of hpa1⟩,_,rfl,_,rfl,_,rfl,_,rfl,le4,λp hp=>?_⟩;have s2:=ak hp (.tup [V.str k,V.int (i:Int),V.int j,V.ref yq]);have hpa2:=s2 _ _ hpa1;refine⟨_,_,_,rfl,rfl,hpa2,Bc pl9,?_⟩;have hla2:(upd (upd H1 p (.tup [V.str k,V.int (i:Int),V.int j,V.ref yq])) pa (.lst (ps++[V.ref p]))) la=some (.lst (as.map V.ref)):=by rw[aK nlp];exact s2 _ _ hla1
 have ixe:ixN (as.map V.ref).length (i:Int)=some i:=by
  unfold ixN;rw[B3,pxs.1,<-B.len,if_pos (by omega),if_pos (by omega)];simp
 refine⟨_,rfl,_,rfl,_,rfl,_,_,_,i,rfl,rfl,hla2,ixe,?_⟩;have es:(as.map V.ref).set i (V.ref yq)=(as.set i yq).map V.ref:=by rw[List.map_set]
 rw[es];refine q _ (as.set i yq) (ps++[V.ref p]) ?_ ah ?_ ?_ (by rw[Ca];rfl)
 .exact((s0.trans (s1.trans s2)).put npa).put nla
 .have p2:=((pxs.same (s1.trans s2)).set i (s2.tup hyq)).lst (zs:=ps++[V.ref p]) hpa2;exact p2.lst hla2
 .rw[aK (CO nlp)];exact ah
def dg(ds:List Wd)(xs:List (Int×Int))(i:Nat):Prop:=∀y,bN ds xs i=some y->az (xAt xs i) y=false
theorem vZ{F:Frm}{ds:List Wd}{xs:List (Int×Int)}{i:Nat}:fL F ds xs kK i ((i:Int)+1)=bN ds xs i:=by
 obtain⟨n1,n2,n3,n4,n5,n6,n7,n8,n9,n10⟩:=kne;rw[gp,if_neg (λz=>n3 z.1.symm),if_neg (λz=>n6 z.1.symm),if_neg (λz=>n8 z.1.symm),if_pos ⟨rfl,rfl⟩]
theorem Ak{F:Frm}{ds:List Wd}{xs:List (Int×Int)}{i:Nat}(h:cj F ds xs kK i ((i:Int)+1)=none):dg ds xs i:=λy e=>by
 cases s:az (xAt xs i) y with
 |false=>rfl
 |true =>
  have:=i6 (k:=kK) (j:=(i:Int)+1) (F:=F) (by rw[vZ];exact e) s;rw[h]at this;cases this
def sA(K:PySem.W.Frag):Sp:=λvs H Q _=>∃(H0:Hp) (ba la pa:Addr) (i:Nat) (F:Frm) (ds:List Wd) (x0 xs zs:List (Int×Int)) (as:List Addr) (ps:List V),vs=[.ref ba,.ref la,.ref pa,.int (i:Int)]/\cC K H0 ba F.w F.h F.f F.m ds/\av H0 H/\H0 la=none/\H0 pa=none/\la≠pa/\H la=some (.lst (as.map V.ref))/\aV K H as xs/\H pa=some (.lst ps)/\bT F ds x0 zs xs ps.length/\(∀k,k<ds.length->(xAt xs k).1<F.m)/\i<ds.length/\(∀H' as' ps',av H0 H'->H' la=some (.lst (as'.map V.ref))->aV K H' as' xs->H' pa=some (.lst ps')->bT F ds x0 zs xs ps'.length->(0<i->dg ds xs (i-1))->Q (.int ((i:Int)+1)) H')/\∀(f:Nat) H' as' ps' xs',f<i->av H0 H'->H' la=some (.lst (as'.map V.ref))->aV K H' as' xs'->H' pa=some (.lst ps')->bT F ds x0 zs xs' ps'.length->(∀k,k<ds.length->(xAt xs' k).1<F.m)->(∀k,k<f->xAt xs' k=xAt xs k)->(xs.map (aW F.h)).sum+1<=(xs'.map (aW F.h)).sum->Q (.int (f:Int)) H'
theorem ia:aG ["book","bounds","paper","i","first"] ["book","bounds","paper","i"] (aw jb):=by walk_at "c"
theorem sC(T:Txt P w K mg a):aS P w K mg base CX0 9 a.jy a.iw ["book","bounds","paper","i"] (sA K):=by
 refine T.jo.fn.ok ia (λvs H Q E h=>?_) (λcdv A outer s H vs Q E hr h=>?_)
 .obtain⟨H0,ba,la,pa,i,F,ds,x0,xs,zs,as,ps,rfl,_⟩:=h;rfl
 obtain⟨H0,ba,la,pa,i,F,ds,x0,xs,zs,as,ps,rfl,hbk,s0,nla,npa,nlp,hla,pxs,hpa,R,all,hi,qi,qf⟩:=h;refine⟨_,(ac (am (i:=4) ia.nd rfl (Cb rfl) (pv 3))
   (ac (eW Ct (PW.pt (bW (ao di (pv 4) ab (ar _)) (bK (ao iM (aq T.lD (o_ T) (hr.mono (by decide)) rfl (aa (pv 0) (aa (pv 1) (aa bv (aa (ai bZ (pv 4) ab) (aa (pv 4) ae)))))) cf (ar _))))) (ac (am (i:=4) ia.nd rfl (Cb rfl) (ai bZ (pv 4) ab))
   (af (cr (aq T.iJ (oM T) (hr.mono (by decide)) rfl (aa (pv 0) (aa (pv 1) (aa (pv 2) (aa bv (aa (pv 4) (aa (ai aC (pv 4) ab) ae)))))))))))
   (ac (aI (ao d_ (pv 4) (pv 3) (ar _)) (af (au (pv 4))) aD)
   (af (au (ai aC (pv 3) ab)))))),?_⟩
 refine⟨_,rfl,?_⟩;dsimp only[aF];refine bQ (λσ H2=>∃n,(∃(f:Nat) (as':List Addr) (ps':List V) (xs':List (Int×Int)),n=f/\f<=i/\σ=[some (.ref ba),some (.ref la),some (.ref pa),some (.int (i:Int)),some (.int (f:Int))]/\av H0 H2/\H2 la=some (.lst (as'.map V.ref))/\aV K H2 as' xs'/\H2 pa=some (.lst ps')/\bT F ds x0 zs xs' ps'.length/\(∀k,k<ds.length->(xAt xs' k).1<F.m)/\(∀k,k<f->xAt xs' k=xAt xs k)/\((f=i/\xs'=xs)\/(f<i/\(xs.map (aW F.h)).sum+1<=(xs'.map (aW F.h)).sum)))/\(n=i->0<i->dg ds xs (i-1))) ?_ (λkey=>?_)
 .rintro σ H2 ⟨n,⟨f,as',ps',xs',rfl,fi,rfl,t2,hla2,px2,hpa2,R2,all2,un,up⟩,hk⟩;refine⟨_,rfl,_,rfl,_,_,rfl,rfl,_,rfl,?_⟩;rcases up with⟨rfl,rfl⟩|⟨lt,up⟩
  .refine aX (λc=>absurd (of_decide_eq_true c) (by omega)) (λ_=>?_);exact⟨_,rfl,_,_,rfl,rfl,qi H2 as' ps' t2 hla2 px2 hpa2 R2 (hk rfl)⟩
  .refine aX (λ_=>?_) (λc=>absurd (decide_eq_true (by omega)) c);exact⟨_,rfl,qf _ H2 as' ps' xs' lt t2 hla2 px2 hpa2 R2 all2 un up⟩
 refine⟨λn σ H2=>∃(f:Nat) (as':List Addr) (ps':List V) (xs':List (Int×Int)),n=f/\f<=i/\σ=[some (.ref ba),some (.ref la),some (.ref pa),some (.int (i:Int)),some (.int (f:Int))]/\av H0 H2/\H2 la=some (.lst (as'.map V.ref))/\aV K H2 as' xs'/\H2 pa=some (.lst ps')/\bT F ds x0 zs xs' ps'.length/\(∀k,k<ds.length->(xAt xs' k).1<F.m)/\(∀k,k<f->xAt xs' k=xAt xs k)/\((f=i/\xs'=xs)\/(f<i/\(xs.map (aW F.h)).sum+1<=(xs'.map (aW F.h)).sum)),⟨i,i,as,ps,xs,rfl,B4 _,rfl,s0,hla,pxs,hpa,R,all,λ_ _=>rfl,.inl ⟨rfl,rfl⟩⟩,?_⟩;rintro f σ H2 ⟨_,as',ps',xs',rfl,fi,rfl,t2,hla2,px2,hpa2,R2,all2,un,up⟩;refine⟨_,rfl,_,_,rfl,rfl,_,rfl,?_⟩;cases f with
 |zero=>exact b4 (λ_=>key _ _ ⟨0,⟨0,as',ps',xs',rfl,fi,rfl,t2,hla2,px2,hpa2,R2,all2,un,up⟩,λe z=>by omega⟩) (λz=>absurd (of_decide_eq_true z) (by omega))
 |succ f =>
  refine b4 (λz=>absurd (decide_eq_true (by omega)) z) (λ_=>?_);have ef:((f+1:Nat):Int)-1=(f:Int):=by omega
  have ef1:((f+1:Nat):Int)=(f:Int)+1:=by omega
  have hf:f<ds.length:=by omega
  refine⟨_,rfl,_,rfl,_,rfl,_,_,rfl,rfl,_,rfl,ba,la,kK,f,(f:Int)+1,F,ds,xs',(by show[V.ref ba,V.ref la,V.str kK,V.int (((f+1:Nat):Int)-1),V.int ((f+1:Nat):Int)]=_;rw[ef,ef1]),hbk.same t2,⟨as',SqL.of hla2,px2⟩,R2.B,hf,λv H3 s3 h3=>?_⟩;cases er:cj F ds xs' kK f ((f:Int)+1)with
  |none =>
   rw[er]at h3;cases h3;refine⟨rfl,_,rfl,?_⟩;refine aT ?_;refine key _ _ ⟨f+1,⟨f+1,as',ps',xs',rfl,fi,rfl,t2.trans s3,s3 _ _ hla2,px2.same s3,s3 _ _ hpa2,R2,all2,un,up⟩,λe z=>?_⟩;rcases up with⟨_,ex⟩|⟨lt,_⟩
   .rw[<-e,D5,<-ex];exact Ak er
   .omega
  |some y =>
   rw[er]at h3;obtain⟨yq,rfl,_⟩:=h3;refine⟨rfl,_,rfl,?_⟩;refine bM ?_;refine⟨λσ H3=>∃n,n<f+1/\∃(f:Nat) (as3:List Addr) (ps3:List V) (xs3:List (Int×Int)),n=f/\f<=i/\σ=[some (.ref ba),some (.ref la),some (.ref pa),some (.int (i:Int)),some (.int (f:Int))]/\av H0 H3/\H3 la=some (.lst (as3.map V.ref))/\aV K H3 as3 xs3/\H3 pa=some (.lst ps3)/\bT F ds x0 zs xs3 ps3.length/\(∀k,k<ds.length->(xAt xs3 k).1<F.m)/\(∀k,k<f->xAt xs3 k=xAt xs k)/\((f=i/\xs3=xs)\/(f<i/\(xs.map (aW F.h)).sum+1<=(xs3.map (aW F.h)).sum)),λ_ _ h=>h,?_⟩;obtain⟨R3,sm⟩:=R2.raise all2 hf er;have hfl:f<xs'.length:=by rw[<-R2.B.len];exact hf
   have yp:y.1<F.m:=by
    have:=(qb er).1;rw[vZ,bN]at this
    split at this
    .cases this
    .rename_i c
     cases this;exact all2 (f+1) (by omega)
   refine⟨_,rfl,_,_,rfl,rfl,?_⟩;dsimp only[aF];rw[ef];refine⟨_,rfl,_,rfl,_,rfl,_,rfl,_,rfl,_,_,rfl,rfl,H0,ba,la,pa,kK,f,(f:Int)+1,F,ds,xs',as',ps',y,rfl,hbk,t2.trans s3,nla,npa,nlp,s3 _ _ hla2,px2.same s3,s3 _ _ hpa2,R2.B,hf,R2.np_le,er,λH4 as4 ps4 t4 hla4 px4 hpa4 pl4=>?_⟩;rw[<-pl4]at R3;refine⟨f,by omega,f,as4,ps4,xs'.set f y,rfl,by omega,rfl,t4,hla4,px4,hpa4,R3,λk hk=>?_,λk hk=>?_,.inr ⟨by omega,?_⟩⟩
   .rw[iR hfl];by_cases c:k=f
    .rw[if_pos c];exact yp
    .rw[if_neg c];exact all2 k hk
   .rw[iR hfl,if_neg (by omega)];exact un k (by omega)
   .rcases up with⟨_,ex⟩|⟨_,up⟩
    .rw[ex]at sm⊢;exact sm
    .omega
def pc(K:PySem.W.Frag):Sp:=λvs H Q _=>∃(ba pa fa wa:Addr) (w h f m:Int) (x:Int×Int),vs=[.ref ba,.ref pa]/\SqT K H ba [.ref fa,.ref wa]/\SqT K H fa (fm w h f m)/\SqT K H pa (pl x)/\Q (.bl (decide (m<=x.1))) H
theorem pd:aG ["book","place"] ["book","place"] (aw fR):=by walk_at "c"
theorem fc(T:Txt P w K mg a):aS P w K mg base CX0 1 a.f9 a.fg ["book","place"] (pc K):=by
 refine T.dA.fn.ok pd (λvs H Q E h=>?_) (λcdv A outer s H vs Q E hr h=>?_)
 .obtain⟨ba,pa,fa,wa,w,h,f,m,x,rfl,_⟩:=h;rfl
 obtain⟨ba,pa,fa,wa,w,h,f,m,x,rfl,hb,hf,hx,q⟩:=h;refine⟨_,(af (au (cX lG (ag aj (pv 1) ab (λ_ _=>rfl)) (ag aj (ag aj (pv 0) ab (λ_ _=>rfl)) ab (λ_ _=>rfl)) (ar _)))),?_⟩;exact⟨_,rfl,_,_,_,_,rfl,rfl,hx,rfl,_,rfl,_,_,_,_,rfl,rfl,hb,rfl,_,_,_,_,rfl,rfl,hf,rfl,_,_,rfl,rfl,q⟩
def ph(K:PySem.W.Frag):Sp:=λvs H Q _=>∃(fa za la:Addr) (F:Frm) (zs xs:List (Int×Int)) (i:Nat),vs=[.ref fa,.ref za,.ref la,.int (i:Int)]/\SqT K H fa (fm F.w F.h F.f F.m)/\aU K H za zs/\aU K H la xs/\i<xs.length/\zs.length=xs.length/\((∀j,j<=i->(∀n,j<=n->n<=i->(xAt xs n).1=(xAt xs i).1)->(xAt xs i).2+1+db zs j i<=F.h)->Q .non H)/\∀j:Nat,j<=i->(xAt xs j).1=(xAt xs i).1->F.h<(xAt xs i).2+1+db zs j i->Q (.int (j:Int)) H
theorem cF:aG ["form","sizes","bounds","i","page","high","j"] ["form","sizes","bounds","i"] (aw fS):=by walk_at "c"
theorem pi(T:Txt P w K mg a):aS P w K mg base CX0 1 a.f_ a.fk ["form","sizes","bounds","i"] (ph K):=by
 refine T.f7.fn.ok cF (λvs H Q E h=>?_) (λcdv A outer s H vs Q E hr h=>?_)
 .obtain⟨fa,za,la,F,zs,xs,i,rfl,_⟩:=h;rfl
 obtain⟨fa,za,la,F,zs,xs,i,rfl,hf,hz,hl,hi,zl,qn,qs⟩:=h;refine⟨_,(ac (am (i:=4) cF.nd rfl (Cb rfl) (ag aj (ag aH (pv 2) (pv 3) (λ_ _=>rfl)) ab (λ_ _=>rfl)))
   (ac (am (i:=5) cF.nd rfl (Cb rfl) (ai aC (ag aj (ag aH (pv 2) (pv 3) (λ_ _=>rfl)) ab (λ_ _=>rfl)) ab))
   (ac (am (i:=6) cF.nd rfl (Cb rfl) (pv 3))
   (ac (eW Ct (PW.pt (bW (ao lG (pv 6) ab (ar _)) (bK (ao a_ (ag aj (ag aH (pv 2) (pv 6) (λ_ _=>rfl)) ab (λ_ _=>rfl)) (pv 4) (ar _))))) (ac (am (i:=5) cF.nd rfl (Cb rfl) (ai aC (pv 5) (ag aj (ag aH (pv 1) (pv 6) (λ_ _=>rfl)) ab (λ_ _=>rfl))))
   (ac (aI (ao di (pv 5) (ag aj (pv 0) ab (λ_ _=>rfl)) (ar _)) (af (au (pv 6))) aD)
   (af (am (i:=6) cF.nd rfl (Cb rfl) (ai bZ (pv 6) ab))))))
   (af (au cf)))))),?_⟩
 obtain⟨azs,hza,hzs⟩:=hz;obtain⟨als,hla,hls⟩:=hl;obtain⟨xo,ex,hxo⟩:=aU.get (a:=la) hls hi;have hiz:i<zs.length:=by omega
 refine⟨_,rfl,_,rfl,_,_,_,_,rfl,rfl,hla,ex,_,_,_,_,rfl,rfl,hxo,rfl,?_⟩;refine⟨_,rfl,_,rfl,_,_,_,_,rfl,rfl,hla,ex,_,_,_,_,rfl,rfl,hxo,rfl,_,_,rfl,rfl,?_⟩;refine⟨_,rfl,?_⟩;dsimp only[aF];refine bQ (λσ' H'=>H'=H/\∀j,j<=i->(∀n,j<=n->n<=i->(xAt xs n).1=(xAt xs i).1)->(xAt xs i).2+1+db zs j i<=F.h) ?_ (λkey=>?_)
 .rintro σ' H' ⟨rfl,hn⟩;exact qn hn
 have es:((i+1:Nat):Int)-1=(i:Int):=by omega
 refine⟨λn σ H2=>H2=H/\∃t:Nat,n=t/\t<=i+1/\σ=[some (.ref fa),some (.ref za),some (.ref la),some (.int (i:Int)),some (.int (xAt xs i).1),some (.int ((xAt xs i).2+1+db zs t i)),some (.int ((t:Int)-1))]/\(∀n,t<=n->n<=i->(xAt xs n).1=(xAt xs i).1)/\∀j',t<=j'->j'<=i->(xAt xs i).2+1+db zs j' i<=F.h,⟨i+1,rfl,i+1,rfl,B4 _,by rw[ud,es,Fw];rfl,λn a b=>by omega,λj' a b=>by omega⟩,?_⟩;rintro t σ H2 ⟨rfl,_,rfl,ti,rfl,te,tw⟩;refine⟨_,rfl,_,_,rfl,rfl,_,rfl,?_⟩;cases t with
 |zero=>exact b4 (λ_=>key [] _ ⟨rfl,λj hj _=>tw j (Cv _) hj⟩) (λz=>absurd (of_decide_eq_true z) (by omega))
 |succ t =>
  have ej:((t+1:Nat):Int)-1=(t:Int):=by omega
  rw[ej];refine b4 (λz=>absurd (decide_eq_true (by omega)) z) (λ_=>?_);obtain⟨yo,ey,hyo⟩:=aU.get (a:=la) hls (show t<xs.length by omega);obtain⟨zo,ez,hzo⟩:=aU.get (a:=za) hzs (show t<zs.length by omega);refine⟨_,rfl,_,rfl,_,_,_,_,rfl,rfl,hla,ey,_,_,_,_,rfl,rfl,hyo,rfl,_,rfl,rfl,_,rfl,?_⟩;by_cases e:(xAt xs t).1=(xAt xs i).1
  .refine aX (λ_=>?_) (λz=>absurd (bB.mpr e) z);refine⟨λσ H2'=>∃n,n<t+1/\H2'=H2/\∃t:Nat,n=t/\t<=i+1/\σ=[some (.ref fa),some (.ref za),some (.ref la),some (.int (i:Int)),some (.int (xAt xs i).1),some (.int ((xAt xs i).2+1+db zs t i)),some (.int ((t:Int)-1))]/\(∀n,t<=n->n<=i->(xAt xs n).1=(xAt xs i).1)/\∀j',t<=j'->j'<=i->(xAt xs i).2+1+db zs j' i<=F.h,λ_ _ h=>h,?_⟩;refine⟨_,rfl,_,rfl,_,rfl,_,_,_,_,rfl,rfl,hza,ez,_,_,_,_,rfl,rfl,hzo,rfl,_,_,rfl,rfl,?_⟩;dsimp only[aF];have eh:(xAt xs i).2+1+db zs (t+1) i+(xAt zs t).2=(xAt xs i).2+1+db zs t i:=by
    rw[gY (show t<=i by omega) hiz];omega
   rw[eh];refine⟨_,rfl,_,rfl,_,_,_,_,rfl,rfl,hf,rfl,_,_,rfl,rfl,_,rfl,?_⟩;refine aX (λc=>?_) (λc=>?_)
   .exact⟨_,rfl,qs t (by omega) e (of_decide_eq_true c)⟩
   .have c:¬ F.h<(xAt xs i).2+1+db zs t i:=λz=>c (decide_eq_true z);refine⟨_,rfl,_,_,rfl,rfl,?_⟩;refine⟨t,by omega,rfl,t,rfl,by omega,rfl,λn a b=>?_,λj' a b=>?_⟩
    .by_cases c2:n=t
     .rw[c2];exact e
     .exact te n (by omega) b
    .by_cases c2:j'=t
     .rw[c2];omega
     .exact tw j' (by omega) b
  .refine aX (λz=>absurd (bB.mp z) e) (λ_=>?_);refine key [] _ ⟨rfl,λj hj hn=>?_⟩;by_cases c:j<=t
   .exact absurd (hn t c (by omega)) e
   .exact tw j (by omega) hj
def pj(K:PySem.W.Frag):Sp:=λvs H Q _=>∃(fa za la:Addr) (F:Frm) (zs xs:List (Int×Int)) (i:Nat),vs=[.ref fa,.ref za,.ref la,.int (i:Int)]/\SqT K H fa (fm F.w F.h F.f F.m)/\aU K H za zs/\aU K H la xs/\i<xs.length/\zs.length=xs.length/\((∀j,j<i->(∀n,j<=n->n<=i->xAt xs n=xAt xs i)->dH zs j i<=F.w)->Q .non H)/\∀j:Nat,j<i->(∀n,j<=n->n<=i->xAt xs n=xAt xs i)->F.w<dH zs j i->Q (.int (j:Int)) H
theorem dh:aG ["form","sizes","bounds","i","wide","j"] ["form","sizes","bounds","i"] (aw fT):=by walk_at "c"
theorem pw(T:Txt P w K mg a):aS P w K mg base CX0 1 a.ga a.fu ["form","sizes","bounds","i"] (pj K):=by
 refine T.f8.fn.ok dh (λvs H Q E h=>?_) (λcdv A outer s H vs Q E hr h=>?_)
 .obtain⟨fa,za,la,F,zs,xs,i,rfl,_⟩:=h;rfl
 obtain⟨fa,za,la,F,zs,xs,i,rfl,hf,hz,hl,hi,zl,qn,qs⟩:=h;have hu:=C2 (eJ hr);refine⟨_,(ac (am (i:=4) dh.nd rfl (Cb rfl) (ag aj (ag aH (pv 1) (pv 3) (λ_ _=>rfl)) ab (λ_ _=>rfl)))
   (ac (am (i:=5) dh.nd rfl (Cb rfl) (ai bZ (pv 3) ab))
   (ac (eW Ct (PW.pt (bW (ao lG (pv 5) ab (ar _)) (bK (ao (pY hu) (ag aH (pv 2) (pv 5) (λ_ _=>rfl)) (ag aH (pv 2) (pv 3) (λ_ _=>rfl)) (ar _))))) (ac (am (i:=4) dh.nd rfl (Cb rfl) (ai aC (ai aC (pv 4) ab) (ag aj (ag aH (pv 1) (pv 5) (λ_ _=>rfl)) ab (λ_ _=>rfl))))
   (ac (aI (ao di (pv 4) (ag aj (pv 0) ab (λ_ _=>rfl)) (ar _)) (af (au (pv 5))) aD)
   (af (am (i:=5) dh.nd rfl (Cb rfl) (ai bZ (pv 5) ab))))))
   (af (au cf))))),?_⟩
 obtain⟨azs,hza,hzs⟩:=hz;obtain⟨als,hla,hls⟩:=hl;obtain⟨zo,ez,hzo⟩:=aU.get (a:=za) hzs (show i<zs.length by omega);obtain⟨xo,ex,hxo⟩:=aU.get (a:=la) hls hi;have hiz:i<zs.length:=by omega
 refine⟨_,rfl,_,rfl,_,_,_,_,rfl,rfl,hza,ez,_,_,_,_,rfl,rfl,hzo,rfl,?_⟩;refine⟨_,rfl,_,_,rfl,rfl,?_⟩;dsimp only[aF];refine bQ (λσ' H'=>H'=H/\∀j,j<i->(∀n,j<=n->n<=i->xAt xs n=xAt xs i)->dH zs j i<=F.w) ?_ (λkey=>?_)
 .rintro σ' H' ⟨rfl,hn⟩;exact qn hn
 refine⟨λn σ H2=>H2=H/\∃t:Nat,n=t/\t<=i/\σ=[some (.ref fa),some (.ref za),some (.ref la),some (.int (i:Int)),some (.int (dH zs t i)),some (.int ((t:Int)-1))]/\(∀n,t<=n->n<=i->xAt xs n=xAt xs i)/\∀j',t<=j'->j'<i->dH zs j' i<=F.w,⟨i,rfl,i,rfl,B4 _,by rw[rQ hiz];rfl,λn a b=>by rw[show n=i by omega],λj' a b=>by omega⟩,?_⟩;rintro t σ H2 ⟨rfl,_,rfl,ti,rfl,te,tw⟩;refine⟨_,rfl,_,_,rfl,rfl,_,rfl,?_⟩;cases t with
 |zero=>exact b4 (λ_=>key [] _ ⟨rfl,λj hj _=>tw j (Cv _) hj⟩) (λz=>absurd (of_decide_eq_true z) (by omega))
 |succ t =>
  have ej:((t+1:Nat):Int)-1=(t:Int):=by omega
  rw[ej];refine b4 (λz=>absurd (decide_eq_true (by omega)) z) (λ_=>?_);obtain⟨yo,ey,hyo⟩:=aU.get (a:=la) hls (show t<xs.length by omega);obtain⟨zo,ez,hzo⟩:=aU.get (a:=za) hzs (show t<zs.length by omega);refine⟨_,rfl,_,rfl,_,_,_,_,rfl,rfl,hla,ey,_,rfl,_,rfl,_,_,_,_,rfl,rfl,hla,ex,_,_,_,_,rfl,rfl,hyo,hxo,rfl,rfl,_,rfl,?_⟩;rw[if_neg (by decide),m8];by_cases e:xAt xs t=xAt xs i
  .rw[decide_eq_true e];refine bM ?_;refine⟨λσ H2'=>∃n,n<t+1/\H2'=H2/\∃t:Nat,n=t/\t<=i/\σ=[some (.ref fa),some (.ref za),some (.ref la),some (.int (i:Int)),some (.int (dH zs t i)),some (.int ((t:Int)-1))]/\(∀n,t<=n->n<=i->xAt xs n=xAt xs i)/\∀j',t<=j'->j'<i->dH zs j' i<=F.w,λ_ _ h=>h,?_⟩;have te':∀n,t<=n->n<=i->xAt xs n=xAt xs i:=λn a b=>by
    by_cases c:n=t
    .rw[c];exact e
    .exact te n (by omega) b
   refine⟨_,rfl,_,_,rfl,rfl,_,rfl,_,rfl,_,_,_,_,rfl,rfl,hza,ez,_,_,_,_,rfl,rfl,hzo,rfl,_,_,rfl,rfl,?_⟩;dsimp only[aF];rw[<-gX (show t<=i by omega) hiz];refine⟨_,rfl,_,rfl,_,_,_,_,rfl,rfl,hf,rfl,_,_,rfl,rfl,_,rfl,?_⟩;refine aX (λc=>?_) (λc=>?_)
   .exact⟨_,rfl,qs t (by omega) te' (of_decide_eq_true c)⟩
   .have c:¬ F.w<dH zs t i:=λz=>c (decide_eq_true z);refine⟨_,rfl,_,_,rfl,rfl,?_⟩;refine⟨t,by omega,rfl,t,rfl,by omega,rfl,te',λj' a b=>?_⟩;by_cases c2:j'=t
    .rw[c2];omega
    .exact tw j' (by omega) b
  .rw[decide_eq_false e];refine aT ?_;refine key [] _ ⟨rfl,λj hj hn=>?_⟩;by_cases c:j<=t
   .exact absurd (hn t c (by omega)) e
   .exact tw j (by omega) hj
def sH(K:PySem.W.Frag):Sp:=λvs H Q _=>∃(ba za la:Addr) (F:Frm) (ds:List Wd) (xs zs:List (Int×Int)) (i:Nat),vs=[.ref ba,.ref za,.ref la,.int (i:Int)]/\cC K H ba F.w F.h F.f F.m ds/\aU K H la xs/\aR F ds xs/\aU K H za zs/\LeZ zs (bg F ds xs)/\i<ds.length/\(∀H',av H H'->(F.m<=(xAt xs i).1\/NoR F ds xs zs i)->Q .non H')/\∀q H' k j y,av H H'->SqT K H' q [.str k,.int j]->(xAt xs i).1<F.m->cj F ds xs k i j=some y->Q (.ref q) H'
theorem eU:aG ["book","sizes","bounds","i","form","j"] ["book","sizes","bounds","i"] (aw jc):=by walk_at "c"
theorem mN(T:Txt P w K mg a):aS P w K mg base CX0 8 a.jA a.iy ["book","sizes","bounds","i"] (sH K):=by
 refine T.f6.fn.ok eU (λvs H Q E h=>?_) (λcdv A outer s H vs Q E hr h=>?_)
 .obtain⟨ba,za,la,F,ds,xs,zs,i,rfl,_⟩:=h;rfl
 obtain⟨ba,za,la,F,ds,xs,zs,i,rfl,hbk,hlw,B,hz,lz,hi,qn,qs⟩:=h;refine⟨_,(ac (am (i:=4) eU.nd rfl (Cb rfl) (ag aj (pv 0) ab (λ_ _=>rfl)))
   (ac (aI (bV (aq T.dA (fc T) (hr.mono (by decide)) rfl (aa (pv 0) (aa (ag aH (pv 2) (pv 3) (λ_ _=>rfl)) ae))) (λ_=>rfl)) (af (au cf)) aD)
   (ac (aI (PW.pt (cH (ao di (ag aj (ag aH (pv 1) (pv 3) (λ_ _=>rfl)) ab (λ_ _=>rfl)) (ag aj (pv 4) ab (λ_ _=>rfl)) (ar _)) (cx (ao di (ai aC (ag aj (ag aH (pv 1) (pv 3) (λ_ _=>rfl)) ab (λ_ _=>rfl)) ab) (ag aj (pv 4) ab (λ_ _=>rfl)) (ar _))))) (af (au (bj (aa bv (aa (pv 3) ae))))) aD)
   (ac (aI (ao iM (aq T.lD (o_ T) (hr.mono (by decide)) rfl (aa (pv 0) (aa (pv 2) (aa bv (aa (pv 3) (aa (ai bZ (pv 3) ab) ae)))))) cf (ar _)) (af (au (bj (aa bv (aa (ai bZ (pv 3) ab) ae))))) aD)
   (ac (am (i:=5) eU.nd rfl (Cb rfl) (aq T.f8 (pw T) (hr.mono (by decide)) rfl (aa (pv 4) (aa (pv 1) (aa (pv 2) (aa (pv 3) ae))))))
   (ac (aI (ao iM (pv 5) cf (ar _)) (af (au (bj (aa bv (aa (pv 5) ae))))) aD)
   (ac (am (i:=5) eU.nd rfl (Cb rfl) (aq T.f7 (pi T) (hr.mono (by decide)) rfl (aa (pv 4) (aa (pv 1) (aa (pv 2) (aa (pv 3) ae))))))
   (ac (aI (ao iM (pv 5) cf (ar _)) (af (au (bj (aa bv (aa (pv 5) ae))))) aD)
   (af (au cf)))))))))),?_⟩
 have hbk0:=hbk;have hlw0:=hlw;have hz0:=hz;obtain⟨fa,wa,was,hb,hf,hw,hws⟩:=hbk;obtain⟨las,hla,hls⟩:=hlw;obtain⟨azs,hza,hzs⟩:=hz;have zl:zs.length=ds.length:=by rw[lz.1,bH]
 have hix:i<xs.length:=by rw[<-B.len];exact hi
 obtain⟨xo,ex,hx⟩:=aU.get (a:=la) hls hix;obtain⟨zo,ez,hzo⟩:=aU.get (a:=za) hzs (show i<zs.length by omega);refine⟨_,rfl,_,_,_,_,rfl,rfl,hb,rfl,?_⟩;refine⟨_,rfl,_,rfl,_,rfl,_,_,_,_,rfl,rfl,hla,ex,ba,xo,fa,wa,F.w,F.h,F.f,F.m,_,rfl,hb,hf,hx,_,rfl,?_⟩;refine aX (λc=>qn H (av.refl _) (.inl (of_decide_eq_true c))) (λc=>?_);have pg:(xAt xs i).1<F.m:=by
  have:¬ F.m<=(xAt xs i).1:=λz=>c (decide_eq_true z);omega
 dsimp only[cm];refine bQ (λσ' H'=>H'=H/\σ'=[some (.ref ba),some (.ref za),some (.ref la),some (.int (i:Int)),some (.ref fa),none]/\(xAt zs i).1<=F.w/\(xAt zs i).2+1<=F.h) ?_ (λkey=>?_)
 rotate_left
 .have hnv:F.w<(xAt zs i).1\/F.h<(xAt zs i).2+1->∀p,H p=none->Q (.ref p) (upd H p (.tup [V.str kN,V.int (i:Int)])):=λh p hp=>by
   obtain⟨y,hy⟩:=u3 lz hi pg h;exact qs p _ kN i y (ak hp _) (SqT.of ah) pg hy
  refine⟨_,rfl,_,rfl,_,_,_,_,rfl,rfl,hza,ez,_,_,_,_,rfl,rfl,hzo,rfl,_,rfl,_,_,_,_,rfl,rfl,hf,rfl,_,_,rfl,rfl,_,rfl,?_⟩;by_cases w1:F.w<(xAt zs i).1
  .refine orG (λ_=>?_) (λz=>absurd (decide_eq_true w1) z);exact⟨_,rfl,le2,λp hp=>hnv (.inl w1) p hp⟩
  .refine orG (λz=>absurd (of_decide_eq_true z) w1) (λ_=>?_);refine⟨_,rfl,_,rfl,_,_,_,_,rfl,rfl,hza,ez,_,_,_,_,rfl,rfl,hzo,rfl,_,_,rfl,rfl,_,rfl,_,_,_,_,rfl,rfl,hf,rfl,_,_,rfl,rfl,_,rfl,?_⟩;refine aX (λz=>?_) (λz=>?_)
   .have w2:F.h<(xAt zs i).2+1:=of_decide_eq_true z;exact⟨_,rfl,le2,λp hp=>hnv (.inr w2) p hp⟩
   .have w2:¬ F.h<(xAt zs i).2+1:=λy=>z (decide_eq_true y);exact key _ _ ⟨rfl,rfl,by omega,by omega⟩
 rintro σ' H' ⟨rfl,rfl,zw,zh⟩;refine⟨_,rfl,_,rfl,_,rfl,_,rfl,_,_,rfl,rfl,ba,la,kB,i,(i:Int)-1,F,ds,xs,rfl,hbk0,hlw0,B,hi,λv H1 s1 h1=>?_⟩;cases eb:cj F ds xs kB i ((i:Int)-1)with
 |some y =>
  rw[eb]at h1;obtain⟨yq,rfl,hyq⟩:=h1;refine⟨rfl,_,rfl,?_⟩;refine bM ?_;refine⟨_,rfl,_,_,rfl,rfl,le2,λp hp=>?_⟩;exact qs p _ kB _ y (s1.trans (ak hp _)) (SqT.of ah) pg eb
 |none =>
  rw[eb]at h1;cases h1;refine⟨rfl,_,rfl,?_⟩;refine aT ?_;dsimp only[cm];have nb:az (xAt xs i) (bn F ds xs i)=false:=by
   cases s:az (xAt xs i) (bn F ds xs i)with
   |false=>rfl
   |true =>
    have:=i6 (k:=kB) (j:=(i:Int)-1) (F:=F) (ds:=ds) (xs:=xs) (i:=i) (y:=bn F ds xs i) (by rw[gp,if_pos ⟨rfl,rfl⟩]) s;rw[eb]at this;cases this
  refine⟨_,rfl,_,rfl,_,rfl,_,rfl,fa,za,la,F,zs,xs,i,rfl,s1.tup hf,hz0.same s1,hlw0.same s1,hix,zl.trans B.len,λnw=>?_,λj hj je jw=>?_⟩
  rotate_left
  .obtain⟨y,hy⟩:=wL B lz hi hj (je j (B4 _) (by omega)) jw;refine⟨_,rfl,rfl,_,rfl,?_⟩;refine bM ?_;refine⟨_,rfl,le2,λp hp=>?_⟩;exact qs p _ kW _ y (s1.trans (ak hp _)) (SqT.of ah) pg hy
  .refine⟨_,rfl,rfl,_,rfl,?_⟩;refine aT ?_;dsimp only[cm];refine⟨_,rfl,_,rfl,_,rfl,_,rfl,fa,za,la,F,zs,xs,i,rfl,s1.tup hf,hz0.same s1,hlw0.same s1,hix,zl.trans B.len,λnh=>?_,λj hj je jh=>?_⟩
   rotate_left
   .obtain⟨y,hy⟩:=wM lz hi hj je jh;refine⟨_,rfl,rfl,_,rfl,?_⟩;refine bM ?_;refine⟨_,rfl,le2,λp hp=>?_⟩;exact qs p _ kH _ y (s1.trans (ak hp _)) (SqT.of ah) pg hy
   .refine⟨_,rfl,rfl,_,rfl,?_⟩;refine aT ?_;exact qn _ s1 (.inr ⟨zw,zh,nb,nw,nh⟩)
def sN(K:PySem.W.Frag):Sp:=λvs H Q _=>∃(H0:Hp) (ba za la pa:Addr) (i:Nat) (F:Frm) (ds:List Wd) (x0 xs zs:List (Int×Int)) (as:List Addr) (ps:List V),vs=[.ref ba,.ref za,.ref la,.ref pa,.int (i:Int)]/\cC K H0 ba F.w F.h F.f F.m ds/\av H0 H/\H0 la=none/\H0 pa=none/\la≠pa/\H la=some (.lst (as.map V.ref))/\aV K H as xs/\H pa=some (.lst ps)/\aU K H0 za zs/\bT F ds x0 zs xs ps.length/\(∀k,k<ds.length->(xAt xs k).1<F.m)/\i<ds.length/\∀H' as' ps' xs',av H0 H'->H' la=some (.lst (as'.map V.ref))->aV K H' as' xs'->H' pa=some (.lst ps')->bT F ds x0 zs xs' ps'.length->(∀k,k≠i->xAt xs' k=xAt xs k)->(xs'=xs\/(xs.map (aW F.h)).sum+1<=(xs'.map (aW F.h)).sum)->(F.m<=(xAt xs' i).1\/NoR F ds xs' zs i)->Q .non H'
theorem ib:aG ["book","sizes","bounds","paper","i","reason"] ["book","sizes","bounds","paper","i"] (aw jd):=by walk_at "c"
theorem sO(T:Txt P w K mg a):aS P w K mg base CX0 9 a.jz a.ix ["book","sizes","bounds","paper","i"] (sN K):=by
 refine T.jp.fn.ok ib (λvs H Q E h=>?_) (λcdv A outer s H vs Q E hr h=>?_)
 .obtain⟨H0,ba,za,la,pa,i,F,ds,x0,xs,zs,as,ps,rfl,_⟩:=h;rfl
 obtain⟨H0,ba,za,la,pa,i,F,ds,x0,xs,zs,as,ps,rfl,hbk,s0,nla,npa,nlp,hla,pxs,hpa,hz,R,all,hi,q⟩:=h;refine⟨_,(ac (am (i:=5) ib.nd rfl (Cb rfl) (aq T.f6 (mN T) (hr.mono (by decide)) rfl (aa (pv 0) (aa (pv 1) (aa (pv 2) (aa (pv 4) ae))))))
   (af (eW Ct (ao iM (pv 5) cf (ar _)) (ac (cr (aq T.iJ (oM T) (hr.mono (by decide)) rfl (aa (pv 0) (aa (pv 2) (aa (pv 3) (aa (ag aj (pv 5) ab (λ_ _=>rfl)) (aa (pv 4) (aa (ag aj (pv 5) ab (λ_ _=>rfl)) ae))))))))
   (af (am (i:=5) ib.nd rfl (Cb rfl) (aq T.f6 (mN T) (hr.mono (by decide)) rfl (aa (pv 0) (aa (pv 1) (aa (pv 2) (aa (pv 4) ae))))))))))),?_⟩
 have hil:i<xs.length:=by rw[<-R.B.len];exact hi
 have eB:∀(v:V) (H1:Hp),av H H1->((v=.non/\(F.m<=(xAt xs i).1\/NoR F ds xs zs i))\/∃(tq:Addr) (k:Str) (j:Int) (y:Int×Int),v=.ref tq/\SqT K H1 tq [.str k,.int j]/\(xAt xs i).1<F.m/\cj F ds xs k i j=some y)->(λn σ H2=>∃(v:V) (as':List Addr) (ps':List V) (xs':List (Int×Int)),σ=[some (.ref ba),some (.ref za),some (.ref la),some (.ref pa),some (.int (i:Int)),some v]/\av H0 H2/\H2 la=some (.lst (as'.map V.ref))/\aV K H2 as' xs'/\H2 pa=some (.lst ps')/\bT F ds x0 zs xs' ps'.length/\(∀k,k≠i->xAt xs' k=xAt xs k)/\(xs'=xs\/(xs.map (aW F.h)).sum+1<=(xs'.map (aW F.h)).sum)/\n=(1512001-(xs'.map (aW F.h)).sum).toNat/\((v=.non/\(F.m<=(xAt xs' i).1\/NoR F ds xs' zs i))\/∃(tq:Addr) (k:Str) (j:Int) (y:Int×Int),v=.ref tq/\SqT K H2 tq [.str k,.int j]/\(xAt xs' i).1<F.m/\cj F ds xs' k i j=some y)) (1512001-(xs.map (aW F.h)).sum).toNat [some (.ref ba),some (.ref za),some (.ref la),some (.ref pa),some (.int (i:Int)),some v] H1:=λv H1 s1 h=>⟨v,as,ps,xs,rfl,s0.trans s1,s1 _ _ hla,pxs.same s1,s1 _ _ hpa,R,λ_ _=>rfl,.inl rfl,rfl,h⟩;refine bQ (λσ H2=>∃n,(λn σ H2=>∃(v:V) (as':List Addr) (ps':List V) (xs':List (Int×Int)),σ=[some (.ref ba),some (.ref za),some (.ref la),some (.ref pa),some (.int (i:Int)),some v]/\av H0 H2/\H2 la=some (.lst (as'.map V.ref))/\aV K H2 as' xs'/\H2 pa=some (.lst ps')/\bT F ds x0 zs xs' ps'.length/\(∀k,k≠i->xAt xs' k=xAt xs k)/\(xs'=xs\/(xs.map (aW F.h)).sum+1<=(xs'.map (aW F.h)).sum)/\n=(1512001-(xs'.map (aW F.h)).sum).toNat/\((v=.non/\(F.m<=(xAt xs' i).1\/NoR F ds xs' zs i))\/∃(tq:Addr) (k:Str) (j:Int) (y:Int×Int),v=.ref tq/\SqT K H2 tq [.str k,.int j]/\(xAt xs' i).1<F.m/\cj F ds xs' k i j=some y)) n σ H2) ?_ (λkey=>?_)
 rotate_left
 .exact⟨_,rfl,_,rfl,_,rfl,_,rfl,ba,za,la,F,ds,xs,zs,i,rfl,hbk.same s0,⟨as,SqL.of hla,pxs⟩,R.B,hz.same s0,R.lz,hi,λH1 s1 hn=>key _ _ ⟨_,eB _ H1 s1 (.inl ⟨rfl,hn⟩)⟩,λtq H1 k j y s1 ht pg hy=>key _ _ ⟨_,eB _ H1 s1 (.inr ⟨tq,k,j,y,rfl,ht,pg,hy⟩)⟩⟩
 rintro σ0 H1 ⟨n0,w0⟩;refine⟨λn σ H2=>∃(v:V) (as':List Addr) (ps':List V) (xs':List (Int×Int)),σ=[some (.ref ba),some (.ref za),some (.ref la),some (.ref pa),some (.int (i:Int)),some v]/\av H0 H2/\H2 la=some (.lst (as'.map V.ref))/\aV K H2 as' xs'/\H2 pa=some (.lst ps')/\bT F ds x0 zs xs' ps'.length/\(∀k,k≠i->xAt xs' k=xAt xs k)/\(xs'=xs\/(xs.map (aW F.h)).sum+1<=(xs'.map (aW F.h)).sum)/\n=(1512001-(xs'.map (aW F.h)).sum).toNat/\((v=.non/\(F.m<=(xAt xs' i).1\/NoR F ds xs' zs i))\/∃(tq:Addr) (k:Str) (j:Int) (y:Int×Int),v=.ref tq/\SqT K H2 tq [.str k,.int j]/\(xAt xs' i).1<F.m/\cj F ds xs' k i j=some y),⟨n0,w0⟩,?_⟩;clear w0;rintro n σ H2 ⟨v,as',ps',xs',rfl,t2,hla2,px2,hpa2,R2,un,up,rfl,hv⟩;refine⟨_,rfl,rfl,_,rfl,?_⟩;rcases hv with⟨rfl,hn⟩|⟨tq,k,j,y,rfl,ht,pg,hy⟩
 .refine aT ?_;exact q H2 as' ps' xs' t2 hla2 px2 hpa2 R2 un up hn
 .refine bM ?_;refine⟨λσ H3=>∃n,n<(1512001-(xs'.map (aW F.h)).sum).toNat/\∃(v:V) (as3:List Addr) (ps3:List V) (xs3:List (Int×Int)),σ=[some (.ref ba),some (.ref za),some (.ref la),some (.ref pa),some (.int (i:Int)),some v]/\av H0 H3/\H3 la=some (.lst (as3.map V.ref))/\aV K H3 as3 xs3/\H3 pa=some (.lst ps3)/\bT F ds x0 zs xs3 ps3.length/\(∀k,k≠i->xAt xs3 k=xAt xs k)/\(xs3=xs\/(xs.map (aW F.h)).sum+1<=(xs3.map (aW F.h)).sum)/\n=(1512001-(xs3.map (aW F.h)).sum).toNat/\((v=.non/\(F.m<=(xAt xs3 i).1\/NoR F ds xs3 zs i))\/∃(tq:Addr) (k:Str) (j:Int) (y:Int×Int),v=.ref tq/\SqT K H3 tq [.str k,.int j]/\(xAt xs3 i).1<F.m/\cj F ds xs3 k i j=some y),λ_ _ h=>h,?_⟩;have all2:∀k,k<ds.length->(xAt xs' k).1<F.m:=λk hk=>by
   by_cases c:k=i
   .rw[c];exact pg
   .rw[un k c];exact all k hk
  obtain⟨R3,sm⟩:=R2.raise all2 hi hy;have sl:=R3.sum_le;refine⟨_,rfl,_,rfl,_,rfl,_,rfl,_,_,_,_,rfl,rfl,ht,rfl,_,rfl,_,rfl,_,_,_,_,rfl,rfl,ht,rfl,H0,ba,la,pa,k,i,j,F,ds,xs',as',ps',y,rfl,hbk,t2,nla,npa,nlp,hla2,px2,hpa2,R2.B,hi,R2.np_le,hy,λH3 as3 ps3 t3 hla3 px3 hpa3 pl3=>?_⟩;rw[<-pl3]at R3;have un3:∀k,k≠i->xAt (xs'.set i y) k=xAt xs k:=λk hk=>by rw[iR (show i<xs'.length by rw[<-R2.B.len];exact hi),if_neg hk];exact un k hk
  have up3:(xs'.set i y)=xs\/(xs.map (aW F.h)).sum+1<=((xs'.set i y).map (aW F.h)).sum:=by
   rcases up with e|e
   .rw[e]at sm⊢;exact .inr sm
   .exact .inr (by omega)
  exact⟨_,rfl,_,rfl,_,rfl,_,rfl,ba,za,la,F,ds,xs'.set i y,zs,i,rfl,hbk.same t3,⟨as3,SqL.of hla3,px3⟩,R3.B,hz.same t3,R3.lz,hi,λH4 s4 hn=>⟨_,by omega,_,as3,ps3,xs'.set i y,rfl,t3.trans s4,s4 _ _ hla3,px3.same s4,s4 _ _ hpa3,R3,un3,up3,rfl,.inl ⟨rfl,hn⟩⟩,λtq k j y2 s4=>λh1 h2 h3 h4=>⟨_,by omega,_,as3,ps3,xs'.set i y,rfl,t3.trans h1,h1 _ _ hla3,px3.same h1,h1 _ _ hpa3,R3,un3,up3,rfl,.inr ⟨tq,j,y2,s4,rfl,h2,h3,h4⟩⟩⟩
theorem dg.congr{ds:List Wd}{xs xs':List (Int×Int)}{k:Nat}(h:dg ds xs k)(e0:xAt xs' k=xAt xs k)(e1:xAt xs' (k+1)=xAt xs (k+1)):dg ds xs' k:=λy e=>by
 unfold bN at e;rw[e1]at e;rw[e0];exact h y e
def sP(K:PySem.W.Frag):Sp:=λvs H Q _=>∃(H0:Hp) (ba za la pa:Addr) (st:Nat) (F:Frm) (ds:List Wd) (x0 xs zs:List (Int×Int)) (as:List Addr) (ps:List V),vs=[.ref ba,.ref za,.ref la,.ref pa,.int (st:Int)]/\cC K H0 ba F.w F.h F.f F.m ds/\av H0 H/\H0 la=none/\H0 pa=none/\la≠pa/\H la=some (.lst (as.map V.ref))/\aV K H as xs/\H pa=some (.lst ps)/\aU K H0 za zs/\bT F ds x0 zs xs ps.length/\(∀k,k<ds.length->(xAt xs k).1<F.m)/\st<=ds.length/\(∀k,k<st->NoR F ds xs zs k)/\(∀k,k+1<st->dg ds xs k)/\(∀H' as' ps' xs',av H0 H'->H' la=some (.lst (as'.map V.ref))->aV K H' as' xs'->H' pa=some (.lst ps')->bT F ds x0 zs xs' ps'.length->(∃k,k<ds.length/\F.m<=(xAt xs' k).1)->Q (.bl false) H')/\∀H' as' ps' xs',av H0 H'->H' la=some (.lst (as'.map V.ref))->aV K H' as' xs'->H' pa=some (.lst ps')->bT F ds x0 zs xs' ps'.length->(∀k,k<ds.length->(xAt xs' k).1<F.m)->(xs'=xs\/(xs.map (aW F.h)).sum+1<=(xs'.map (aW F.h)).sum)->(∀k,k<ds.length->NoR F ds xs' zs k)->(∀k,k+1<ds.length->dg ds xs' k)->Q (.bl true) H'
theorem ic:aG ["book","sizes","bounds","paper","start","i"] ["book","sizes","bounds","paper","start"] (aw jf):=by walk_at "c"
theorem sQ(T:Txt P w K mg a):aS P w K mg base CX0 10 a.jx a.iu ["book","sizes","bounds","paper","start"] (sP K):=by
 refine T.jn.fn.ok ic (λvs H Q E h=>?_) (λcdv A outer s H vs Q E hr h=>?_)
 .obtain⟨H0,ba,za,la,pa,st,F,ds,x0,xs,zs,as,ps,rfl,_⟩:=h;rfl
 obtain⟨H0,ba,za,la,pa,st,F,ds,x0,xs,zs,as,ps,rfl,hbk,s0,nla,npa,nlp,hla,pxs,hpa,hz,R,all,hst,nr,kp,qF,qT⟩:=h;refine⟨_,(ac (am (i:=5) ic.nd rfl (Cb rfl) (pv 4))
   (ac (eW Ct (ao d_ (pv 5) (aA aL rfl T.bu PySem.boot_len (aa (pv 2) ae)) (ar _)) (ac (cr (aq T.jp (sO T) (hr.mono (by decide)) rfl (aa (pv 0) (aa (pv 1) (aa (pv 2) (aa (pv 3) (aa (pv 5) ae)))))))
   (ac (aI (bV (aq T.dA (fc T) (hr.mono (by decide)) rfl (aa (pv 0) (aa (ag aH (pv 2) (pv 5) (λ_ _=>rfl)) ae))) (λ_=>rfl)) (af (au b9)) aD)
   (af (am (i:=5) ic.nd rfl (Cb rfl) (aq T.jo (sC T) (hr.mono (by decide)) rfl (aa (pv 0) (aa (pv 2) (aa (pv 3) (aa (pv 5) ae))))))))))
   (af (au b9)))),?_⟩
 have n60:=R.B.n;have zl:zs.length=ds.length:=by rw[R.lz.1,bH]
 have hbk0:=hbk;obtain⟨fa,wa,was,hb,hf,hw,hws⟩:=hbk;refine⟨_,rfl,?_⟩;dsimp only[aF];refine bQ (λσ H2=>∃n,(∃(i:Nat) (as':List Addr) (ps':List V) (xs':List (Int×Int)),σ=[some (.ref ba),some (.ref za),some (.ref la),some (.ref pa),some (.int (st:Int)),some (.int (i:Int))]/\n=(1512001-(xs'.map (aW F.h)).sum).toNat*1000+(ds.length-i)/\i<=ds.length/\av H0 H2/\H2 la=some (.lst (as'.map V.ref))/\aV K H2 as' xs'/\H2 pa=some (.lst ps')/\bT F ds x0 zs xs' ps'.length/\(∀k,k<ds.length->(xAt xs' k).1<F.m)/\(xs'=xs\/(xs.map (aW F.h)).sum+1<=(xs'.map (aW F.h)).sum)/\(∀k,k<i->NoR F ds xs' zs k)/\(∀k,k+1<i->dg ds xs' k))/\∃i:Nat,σ=[some (.ref ba),some (.ref za),some (.ref la),some (.ref pa),some (.int (st:Int)),some (.int (i:Int))]/\ds.length<=i) ?_ (λkey=>?_)
 .rintro σ H2 ⟨n,⟨i,as',ps',xs',rfl,_,hi,t2,hla2,px2,hpa2,R2,all2,up,nr2,kp2⟩,i',ei,hi'⟩;have:i=i':=by
   have:=congrArg (λl=>l[5]?) ei;simp at this;omega
  subst this;have ei:i=ds.length:=by omega
  subst ei;exact qT H2 as' ps' xs' t2 hla2 px2 hpa2 R2 all2 up nr2 kp2
 refine⟨λn σ H2=>∃(i:Nat) (as':List Addr) (ps':List V) (xs':List (Int×Int)),σ=[some (.ref ba),some (.ref za),some (.ref la),some (.ref pa),some (.int (st:Int)),some (.int (i:Int))]/\n=(1512001-(xs'.map (aW F.h)).sum).toNat*1000+(ds.length-i)/\i<=ds.length/\av H0 H2/\H2 la=some (.lst (as'.map V.ref))/\aV K H2 as' xs'/\H2 pa=some (.lst ps')/\bT F ds x0 zs xs' ps'.length/\(∀k,k<ds.length->(xAt xs' k).1<F.m)/\(xs'=xs\/(xs.map (aW F.h)).sum+1<=(xs'.map (aW F.h)).sum)/\(∀k,k<i->NoR F ds xs' zs k)/\(∀k,k+1<i->dg ds xs' k),⟨_,st,as,ps,xs,rfl,rfl,hst,s0,hla,pxs,hpa,R,all,.inl rfl,nr,kp⟩,?_⟩;rintro n σ H2 ⟨i,as',ps',xs',rfl,rfl,hi,t2,hla2,px2,hpa2,R2,all2,up,nr2,kp2⟩;have el:(as'.map V.ref).length=ds.length:=by rw[B3,px2.1,R2.B.len]
 refine⟨_,rfl,_,rfl,_,_,rfl,.inl (SqL.of hla2),_,_,rfl,rfl,_,rfl,?_⟩;rw[el];refine aX (λc=>?_) (λc=>?_)
 rotate_left
 .have c:¬ (i:Int)<(ds.length:Int):=λz=>c (decide_eq_true z);exact key _ _ ⟨_,⟨i,as',ps',xs',rfl,rfl,hi,t2,hla2,px2,hpa2,R2,all2,up,nr2,kp2⟩,i,rfl,by omega⟩
 have c:(i:Int)<(ds.length:Int):=of_decide_eq_true c;have hid:i<ds.length:=by omega
 refine⟨λσ H3=>∃n,n<(1512001-(xs'.map (aW F.h)).sum).toNat*1000+(ds.length-i)/\∃(i3:Nat) (as3:List Addr) (ps3:List V) (xs3:List (Int×Int)),σ=[some (.ref ba),some (.ref za),some (.ref la),some (.ref pa),some (.int (st:Int)),some (.int (i3:Int))]/\n=(1512001-(xs3.map (aW F.h)).sum).toNat*1000+(ds.length-i3)/\i3<=ds.length/\av H0 H3/\H3 la=some (.lst (as3.map V.ref))/\aV K H3 as3 xs3/\H3 pa=some (.lst ps3)/\bT F ds x0 zs xs3 ps3.length/\(∀k,k<ds.length->(xAt xs3 k).1<F.m)/\(xs3=xs\/(xs.map (aW F.h)).sum+1<=(xs3.map (aW F.h)).sum)/\(∀k,k<i3->NoR F ds xs3 zs k)/\(∀k,k+1<i3->dg ds xs3 k),λ_ _ h=>h,?_⟩;refine⟨_,rfl,_,rfl,_,rfl,_,rfl,_,rfl,H0,ba,za,la,pa,i,F,ds,x0,xs',zs,as',ps',rfl,hbk0,t2,nla,npa,nlp,hla2,px2,hpa2,hz,R2,all2,hid,λH3 as3 ps3 xs3 t3 hla3 px3 hpa3 R3 un3 up3 hn3=>?_⟩;have hil3:i<xs3.length:=by rw[<-R3.B.len];exact hid
 obtain⟨xo,ex,hx⟩:=px3.get hil3;refine⟨_,rfl,_,rfl,_,rfl,_,_,_,_,rfl,rfl,SqL.of hla3,ex,ba,xo,fa,wa,F.w,F.h,F.f,F.m,xAt xs3 i,rfl,t3.tup hb,t3.tup hf,hx,_,rfl,?_⟩;have upS:(xs'.map (aW F.h)).sum<=(xs3.map (aW F.h)).sum:=by
  rcases up3 with e|e
  .rw[e];exact CC _
  .omega
 have up13:xs3=xs\/(xs.map (aW F.h)).sum+1<=(xs3.map (aW F.h)).sum:=by
  rcases up3 with e|e
  .rw[e];exact up
  .rcases up with e2|e2
   .rw[e2]at e;exact .inr e
   .exact .inr (by omega)
 refine aX (λc=>qF H3 as3 ps3 xs3 t3 hla3 px3 hpa3 R3 ⟨i,hid,of_decide_eq_true c⟩) (λc=>?_);have c3:(xAt xs3 i).1<F.m:=by
  have:¬ F.m<=(xAt xs3 i).1:=λz=>c (decide_eq_true z);omega
 dsimp only[cm];have all3:∀k,k<ds.length->(xAt xs3 k).1<F.m:=λk hk=>by
  by_cases c:k=i
  .rw[c];exact c3
  .rw[un3 k c];exact all2 k hk
 have nr3:∀k,k<i->NoR F ds xs3 zs k:=λk hk=>(nr2 k hk).congr (λn hn=>un3 n (by omega)) (λ_ _=>rfl) rfl (by omega);have nri:NoR F ds xs3 zs i:=by
  rcases hn3 with h|h
  .omega
  .exact h
 have kp3:∀k,k+1<i->dg ds xs3 k:=λk hk=>(kp2 k hk).congr (un3 k (by omega)) (un3 (k+1) (by omega));have sl3:=R3.sum_le;refine⟨_,rfl,_,rfl,_,rfl,_,rfl,H0,ba,la,pa,i,F,ds,x0,xs3,zs,as3,ps3,rfl,hbk0,t3,nla,npa,nlp,hla3,px3,hpa3,R3,all3,hid,λH4 as4 ps4 t4 hla4 px4 hpa4 R4 hk4=>?_,λf H4 as4 ps4 xs4 fi t4 hla4 px4 hpa4 R4 all4 un4 up4=>?_⟩
 .refine⟨_,?_,i+1,as4,ps4,xs3,rfl,rfl,hid,t4,hla4,px4,hpa4,R4,all3,up13,λk hk=>?_,λk hk=>?_⟩
  .omega
  .by_cases c:k=i
   .rw[c];exact nri
   .exact nr3 k (by omega)
  .by_cases c:k+1=i
   .have:=hk4 (by omega);rw[show i-1=k by omega]at this;exact this
   .exact kp3 k (by omega)
 .have sl4:=R4.sum_le;refine⟨_,?_,f,as4,ps4,xs4,rfl,rfl,by omega,t4,hla4,px4,hpa4,R4,all4,?_,λk hk=>(nr3 k (by omega)).congr (λn hn=>un4 n (by omega)) (λ_ _=>rfl) rfl (by omega),λk hk=>(kp3 k (by omega)).congr (un4 k (by omega)) (un4 (k+1) hk)⟩
  .omega
  .rcases up13 with e|e
   .rw[e]at up4;exact .inr up4
   .exact .inr (by omega)
def rg(K:PySem.W.Frag):Sp:=λvs H Q _=>∃(ba la:Addr) (F:Frm) (ds:List Wd) (xs:List (Int×Int)),vs=[.ref ba,.ref la]/\cC K H ba F.w F.h F.f F.m ds/\aU K H la xs/\aR F ds xs/\∀q as H',av H H'->H q=none->H' q=some (.lst (as.map V.ref))->aV K H' as (bg F ds xs)->Q (.ref q) H'
theorem lB:aG ["book","bounds","last"] ["book","bounds"] (aw hZ):=by walk_at "c"
theorem lC(T:Txt P w K mg a):aS P w K mg base CX0 6 a.il a.gK ["book","bounds"] (rg K):=by
 refine T.eV.fn.ok lB (λvs H Q E h=>?_) (λcdv A outer s H vs Q E hr h=>?_)
 .obtain⟨ba,la,F,ds,xs,rfl,_⟩:=h;rfl
 obtain⟨ba,la,F,ds,xs,rfl,hbk,hlw,B,q⟩:=h;refine⟨_,(ac (am (i:=2) lB.nd rfl (Cb rfl) (ai bZ (aA aL rfl T.bu PySem.boot_len (aa (pv 1) ae)) ab))
   (af (au (Bz rfl rfl T.eI rfl T.mI (aq T.iK (oJ T) (hr.mono (by decide)) rfl (aa (pv 0) (aa (pv 1) (aa ab (aa (pv 2) ae))))) (aq T.iH (oI T) (hr.mono (by decide)) rfl (aa (pv 0) (aa (pv 1) (aa ab (aa (pv 2) ae))))))))),?_⟩
 have hlw0:=hlw;obtain⟨las,hla,hls⟩:=hlw;have ell:(las.map V.ref).length=ds.length:=by rw[B3,hls.1,B.len]
 refine⟨_,rfl,_,_,rfl,.inl hla,_,_,rfl,rfl,?_⟩;rw[ell];dsimp only[aF];refine⟨_,rfl,_,rfl,_,rfl,ba,la,(0:Nat),ds.length,_,F,ds,xs,rfl,(by omega),hbk,hlw0,B,B4 _,Cv _,λwa H1 s1 n1 h1=>?_⟩;refine⟨_,rfl,_,rfl,_,rfl,ba,la,(0:Nat),ds.length,_,F,ds,xs,rfl,(by omega),hbk.same s1,hlw0.same s1,B,B4 _,Cv _,λha H2 s2 n2 h2=>?_⟩;rw[y7]at h1 h2;refine⟨wa,ha,_,_,rfl,rfl,SqL.of (s2 _ _ h1),SqL.of h2,by simp,λp as H3 s3 np hp al it=>?_⟩;have al:as.length=ds.length:=by rw[al];simp
 refine q p as H3 (s1.trans (s2.trans s3)) ((s1.trans s2).free np) hp ⟨by unfold bg;rw[al,B3],λi a x ea ex=>?_⟩;have hi:i<ds.length:=by rw[<-al];exact(List.getElem?_eq_some_iff.mp ea).1
 have e1:((ds.map (bF F xs)).map V.int)[i]?=some (V.int (bF F xs ds[i])):=by rw[B_,B_,c7 hi];rfl
 have e2:((ds.map (a9 F xs)).map V.int)[i]?=some (V.int (a9 F xs ds[i])):=by rw[B_,B_,c7 hi];rfl
 have:=it i a _ _ ea e1 e2;have ex':x=(bF F xs ds[i],a9 F xs ds[i]):=by
  rw[bg,B_,c7 hi]at ex;exact(Cw ex).symm
 rw[ex'];exact SqT.of this
def er(H:Hp)(la pa:Addr):Hp:=λb=>if b=la\/b=pa then none else H b
theorem Al(H:Hp)(la pa:Addr):av (er H la pa) H:=λb o h=>by
 unfold er at h
 split at h
 .cases h
 .exact h
theorem xp{H:Hp}{la pa b:Addr}(n1:b≠la)(n2:b≠pa):er H la pa b=H b:=by
 unfold er;rw[if_neg (by intro z;rcases z with z|z;exact n1 z;exact n2 z)]
theorem v_{H H2:Hp}{la pa:Addr}(s:av H H2)(n1:H la=none)(n2:H pa=none):av H (er H2 la pa):=λb o h=>by
 rw[xp (bR h n1) (bR h n2)];exact s b o h
theorem Bd{K:PySem.W.Frag}{H:Hp}{la pa a:Addr}{xs ys zs:List V}(h1:H la=some (.lst ys))(h2:H pa=some (.lst zs))(h:SqT K H a xs):SqT K (er H la pa) a xs:=by
 have ne:∀o,H a=some o->(∀l,o≠.lst l)->er H la pa a=some o:=λo e n=>by
  rw[xp (λz=>by rw[z,h1]at e;cases e;exact n _ rfl) (λz=>by rw[z,h2]at e;cases e;exact n _ rfl)];exact e
 rcases h with(h|⟨o,h⟩)|h
 .exact .inl (.inl (ne _ h (λl z=>by cases z)))
 .exact .inl (.inr ⟨o,ne _ h (λl z=>by cases z)⟩)
 .exact .inr h
theorem Be{K:PySem.W.Frag}{H:Hp}{la pa:Addr}{ys zs:List V}{as:List Addr}{xs:List (Int×Int)}(h1:H la=some (.lst ys))(h2:H pa=some (.lst zs))(h:aV K H as xs):aV K (er H la pa) as xs:=⟨h.1,λi a x e e'=>Bd h1 h2 (h.2 i a x e e')⟩
theorem LeZ.refl(a:List (Int×Int)):LeZ a a:=⟨rfl,λk _=>⟨CC _,CC _⟩⟩
theorem zE{m:Int}{xs:List (Int×Int)}(h:(xs.map λx=>decide (m<=x.1)).any id=true):∃k,k<xs.length/\m<=(xAt xs k).1:=by
 rw[Fx,Fm]at h;obtain⟨x,hx,e⟩:=h;obtain⟨k,hk,rfl⟩:=List.mem_iff_getElem.mp hx;refine⟨k,hk,?_⟩;have ex:xAt xs k=xs[k]:=by
  show xs.getD k (0,0)=_;rw[B6,c7 hk];rfl
 rw[ex];exact of_decide_eq_true e
theorem yy{m:Int}{xs:List (Int×Int)}(h:¬ (xs.map λx=>decide (m<=x.1)).any id=true):∀k,k<xs.length->(xAt xs k).1<m:=λk hk=>by
 have:¬ m<=(xAt xs k).1:=λz=>h (by
  rw[Fx,Fm];exact⟨xAt xs k,iS hk,decide_eq_true z⟩)
 omega
theorem xr{h:Int}{xs:List (Int×Int)}(o:b_ h xs)(h0:0<=h):0<=(xs.map (aW h)).sum:=by
 induction xs with
 |nil=>exact CC _
 |cons x r ih =>
  have i1:=ih λy hy=>o y (Ck _ hy);have rx:=(o x Cp).1;have a:=FC rx.p1 h0;have b:=rx.r1;rw[Dh,Di];unfold aW;unfold aW at i1;omega
def yz(K:PySem.W.Frag):Sp:=λvs H Q _=>∃(ba:Addr) (v0:V) (F:Frm) (ds:List Wd) (x0:List (Int×Int)),vs=[.ref ba,v0]/\cC K H ba F.w F.h F.f F.m ds/\aR F ds x0/\((v0=.non/\x0=Co ds.length (0,0))\/∃lo,v0=.ref lo/\aU K H lo x0)/\∀q pp u ps H',av H H'->SqT K H' q [u,.ref pp]->H' pp=some (.lst ps)->((u=.non/\∃(xs:List (Int×Int)) (k:Nat),aR F ds xs/\m9 F ds x0 xs/\k<ds.length/\F.m<=(xAt xs k).1)\/∃(la:Addr) (as:List Addr) (xs:List (Int×Int)),u=.ref la/\H' la=some (.lst (as.map V.ref))/\aV K H' as xs/\aR F ds xs/\fM F ds xs/\jU F.m xs/\m9 F ds x0 xs/\cw x0 xs/\H la=none)->Q (.ref q) H'
theorem dz:aG ["book","low","bounds","paper","sizes","start","newer"] ["book","low"] (aw o9):=by walk_at "c"
theorem yA(T:Txt P w K mg a):aS P w K mg base CX0 11 a.pF a.om ["book","low"] (yz K):=by
 refine T.pA.fn.ok dz (λvs H Q E h=>?_) (λcdv A outer s H vs Q E hr h=>?_)
 .obtain⟨ba,v0,F,ds,x0,rfl,_⟩:=h;rfl
 obtain⟨ba,v0,F,ds,x0,rfl,hbk,B0,hv,q⟩:=h;refine⟨_,(ac (am (i:=2) dz.nd rfl (Cb rfl) (aq T.gy (qq T) (hr.mono (by decide)) rfl (aa (pv 0) ae)))
   (ac (aI (ao iM (pv 1) cf (ar _)) (af (am (i:=2) dz.nd rfl (Cb rfl) (cS mT rfl T.eI Dw (aa (pv 1) ae)))) aD)
   (ac (am (i:=3) dz.nd rfl (Cb rfl) (bX ae))
   (ac (aI (bV (aA (oY rfl) rfl T.kb EC (aa (dJ rfl (dC (caps:=["book"]) (js:=[0]) (cap:=⟨⟨rfl,.inl rfl,rfl,.inl rfl⟩,trivial⟩)) (bL (pv 2)) (λ_ _ _ _=>b7) (λ_ _ _ _=>(aq T.dA (fc T) (hr.mono (by decide)) rfl (aa (pv 1) (aa (pv 0) ae))))) ae)) (λ_=>rfl)) (af (au (bj (aa cf (aa (pv 3) ae))))) aD)
   (ac (am (i:=4) dz.nd rfl (Cb rfl) (aq T.eV (lC T) (hr.mono (by decide)) rfl (aa (pv 0) (aa (pv 2) ae))))
   (ac (am (i:=5) dz.nd rfl (Cb rfl) ab)
   (ac (eW Ct (ao d_ (pv 5) (aA aL rfl T.bu PySem.boot_len (aa (pv 2) ae)) (ar _)) (ac (aI (dm (bV (aq T.jn (sQ T) (hr.mono (by decide)) rfl (aa (pv 0) (aa (pv 4) (aa (pv 2) (aa (pv 3) (aa (pv 5) ae)))))) (λ_=>rfl))) (af (au (bj (aa cf (aa (pv 3) ae))))) aD)
   (ac (am (i:=6) dz.nd rfl (Cb rfl) (aq T.eV (lC T) (hr.mono (by decide)) rfl (aa (pv 0) (aa (pv 2) ae))))
   (ac (am (i:=5) dz.nd rfl (Cb rfl) (aq T.gB (qu T) (hr.mono (by decide)) rfl (aa (pv 4) (aa (pv 6) ae))))
   (af (am (i:=4) dz.nd rfl (Cb rfl) (pv 6)))))))
   (af (au (bj (aa (pv 2) (aa (pv 3) ae)))))))))))),?_⟩
 have n60:=B0.n;have h1':=B0.fo.h1;have hbk0:=hbk;obtain⟨fa,wa,was,hb,hf,hw,hws⟩:=hbk;refine⟨_,rfl,ba,_,_,_,_,ds,rfl,hbk0,by omega,λq1 as1 H1 s1 n1 e1 pa1=>?_⟩;dsimp only[aF];refine bQ (λσ' H'=>av H H'/\∃(la:Addr) (as:List Addr),σ'=[some (.ref ba),some v0,some (.ref la),none,none,none,none]/\H la=none/\H' la=some (.lst (as.map V.ref))/\aV K H' as x0) ?_ (λkey=>?_)
 rotate_left
 .refine⟨_,rfl,rfl,_,rfl,?_⟩;rcases hv with⟨rfl,rfl⟩|⟨lo,rfl,los,hlo,hlos⟩
  .refine aT ?_;exact key _ _ ⟨s1,q1,as1,rfl,n1,e1,pa1⟩
  .refine bM ?_;refine⟨_,rfl,_,_,rfl,.inl (s1.seq hlo),λp hp=>?_⟩;have s2:=ak hp (.lst (los.map V.ref));exact key _ _ ⟨s1.trans s2,p,los,rfl,s1.free hp,ah,hlos.same (s1.trans s2)⟩
 clear e1 pa1 s1 n1;rintro σ' H1 ⟨s1,la,as,rfl,nla,hla,pxs⟩;refine⟨Cv _,λpa hpa=>?_⟩;have s2:=ak hpa (.lst []);have npa:H pa=none:=s1.free hpa;have nlp:la≠pa:=bR hla hpa;have t2:=s1.trans s2;have hla2:=s2 _ _ hla;have px2:=pxs.same s2;have hpa2:(upd H1 pa (.lst [])) pa=some (.lst []):=ah;generalize upd H1 pa (.lst [])=H2 at s2 t2 hla2 px2 hpa2⊢;dsimp only[aF];refine⟨_,rfl,_,rfl,⟨_,SqL.of hla2⟩,cu (K:=K) (a:=la) (xs:=as.map V.ref) (λi ys H3=>H3=H2/\ys=((x0.take i).map λx=>decide (F.m<=x.1)).map V.bl) ⟨rfl,rfl⟩ (λi ys H3 _ h3=>by rw[h3.1];exact SqL.of hla2) ?_ ?_ ?_⟩
 .rintro i ys H3 hi ⟨_,rfl⟩;rw[B3,B3,CB];have:=B0.len;exact B7 (show _<1000 by omega) (bi (B4 _))
 .rintro i y ys H3 hi ⟨rfl,rfl⟩;rw[B_]at hi;cases ea:as[i]? with
  |none=>rw[ea]at hi;cases hi
  |some a =>
   rw[ea]at hi;cases hi;have hil:i<x0.length:=by rw[<-px2.1];exact(List.getElem?_eq_some_iff.mp ea).1
   have exi:x0[i]?=some x0[i]:=c7 hil;refine cz ?_;refine⟨_,rfl,_,rfl,ba,a,fa,wa,F.w,F.h,F.f,F.m,x0[i],rfl,t2.tup hb,t2.tup hf,px2.2 i a x0[i] ea exi,rfl,?_⟩;rw[cg exi,Ch,Ch];rfl
 rintro ys H3 ⟨rfl,rfl⟩ pb hpb;rw[B3,px2.1,C8]at *;have s4:=ak hpb (.lst ((x0.map λx=>decide (F.m<=x.1)).map V.bl));refine⟨_,_,rfl,SqL.of ah,_,rfl,?_⟩;have t4:=t2.trans s4;have hla4:=s4 _ _ hla2;have hpa4:=s4 _ _ hpa2;have px4:=px2.same s4;generalize upd H3 pb (.lst ((x0.map λx=>decide (F.m<=x.1)).map V.bl))=H4 at s4 t4 hla4 hpa4 px4⊢;refine aX (λc=>?_) (λc=>?_)
 .obtain⟨k,hk,hm⟩:=zE c;refine⟨_,rfl,le2,λp hp=>?_⟩;have s5:=ak hp (.tup [V.non,V.ref pa]);exact q p pa .non [] _ (t4.trans s5) (SqT.of ah) (s5 _ _ hpa4) (.inl ⟨rfl,x0,k,B0,λX _ _ h=>h,by rw[B0.len];exact hk,hm⟩)
 have all0:∀k,k<ds.length->(xAt x0 k).1<F.m:=λk hk=>yy c k (by rw[<-B0.len];exact hk);dsimp only[cm];have m1:=B0.fo.m1;have mk:∀xs ps,aR F ds xs->m9 F ds x0 xs->cw x0 xs->(∀k,k<ds.length->(xAt xs k).1<F.m)->(ps:List V).length<=((xs.map (aW F.h)).sum).toNat->0<=(xs.map (aW F.h)).sum->bT F ds x0 (bg F ds xs) xs ps.length:=λxs ps B L l0 a p p0=>⟨B,L,l0,LeZ.refl _,λk hk=>by have:=a k hk;omega,by omega⟩;have sn:∀xs,aR F ds xs->0<=(xs.map (aW F.h)).sum:=λxs B=>xr B.po (by omega);refine⟨_,rfl,_,rfl,ba,la,F,ds,x0,rfl,hbk0.same t4,⟨as,SqL.of hla4,px4⟩,B0,λza zas H5 s5 nz hz pz5=>?_⟩;have t5:=t4.trans s5;have hla5:=s5 _ _ hla4;have hpa5:=s5 _ _ hpa4;have nzl:za≠la:=λz=>by rw[z,hla4]at nz;cases nz
 have nzp:za≠pa:=λz=>by rw[z,hpa4]at nz;cases nz
 dsimp only[aF];refine bQ (λσ' H'=>H'=H5/\σ'=[some (.ref ba),some v0,some (.ref la),some (.ref pa),some (.ref za),some (.int 0),none]) ?_ (λkey=>key _ _ ⟨rfl,rfl⟩);rintro σ' H' ⟨rfl,rfl⟩;refine bQ (λσ H2=>∃n,(∃(st:Nat) (za:Addr) (vn:Option V) (zas as':List Addr) (ps':List V) (xs':List (Int×Int)),σ=[some (.ref ba),some v0,some (.ref la),some (.ref pa),some (.ref za),some (.int (st:Int)),vn]/\n=(1512001-(xs'.map (aW F.h)).sum).toNat*2+(if st<ds.length then 1 else 0)/\av H H2/\H2 la=some (.lst (as'.map V.ref))/\aV K H2 as' xs'/\H2 pa=some (.lst ps')/\H2 za=some (.lst (zas.map V.ref))/\za≠la/\za≠pa/\aV K H2 zas (bg F ds xs')/\bT F ds x0 (bg F ds xs') xs' ps'.length/\(∀k,k<ds.length->(xAt xs' k).1<F.m)/\st<=ds.length/\(∀k,k<st->NoR F ds xs' (bg F ds xs') k)/\(∀k,k+1<st->dg ds xs' k))/\∃(st:Nat) (za:Addr) (vn:Option V),σ=[some (.ref ba),some v0,some (.ref la),some (.ref pa),some (.ref za),some (.int (st:Int)),vn]/\ds.length<=st) ?_ (λkey=>?_)
 .rintro σ H2 ⟨n,⟨st,za,vn,zas,as',ps',xs',rfl,_,u2,gla,gpx,gpa,gza,g1,g2,gz,R,all,hst,nr,kp⟩,st',za',vn',es,hs⟩;have:st=st':=by
   have:=congrArg (λl=>l[5]?) es;simp at this;omega
  subst this;have est:st=ds.length:=by omega
  subst est;refine⟨_,rfl,_,rfl,le2,λp hp=>?_⟩;have s6:=ak hp (.tup [V.ref la,V.ref pa]);have pgs:jU F.m xs':=λx hx=>by
   obtain⟨k,hk,rfl⟩:=List.mem_iff_getElem.mp hx;have:=all k (by rw[R.B.len];exact hk);have ex:xAt xs' k=xs'[k]:=by
    show xs'.getD k (0,0)=_;rw[B6,c7 hk];rfl
   rw[ex]at this;exact this
  refine q p pa (.ref la) ps' _ (u2.trans s6) (SqT.of ah) (s6 _ _ gpa) (.inr ⟨la,as',xs',rfl,s6 _ _ gla,gpx.same s6,R.B,A3 R.B pgs nr (λi y hi e=>?_),pgs,R.low,R.le0,nla⟩);by_cases c:i+1<ds.length
  .exact kp i c y e
  .unfold bN at e;rw[if_pos (by omega)]at e;cases e
 refine⟨λn σ H2=>∃(st:Nat) (za:Addr) (vn:Option V) (zas as':List Addr) (ps':List V) (xs':List (Int×Int)),σ=[some (.ref ba),some v0,some (.ref la),some (.ref pa),some (.ref za),some (.int (st:Int)),vn]/\n=(1512001-(xs'.map (aW F.h)).sum).toNat*2+(if st<ds.length then 1 else 0)/\av H H2/\H2 la=some (.lst (as'.map V.ref))/\aV K H2 as' xs'/\H2 pa=some (.lst ps')/\H2 za=some (.lst (zas.map V.ref))/\za≠la/\za≠pa/\aV K H2 zas (bg F ds xs')/\bT F ds x0 (bg F ds xs') xs' ps'.length/\(∀k,k<ds.length->(xAt xs' k).1<F.m)/\st<=ds.length/\(∀k,k<st->NoR F ds xs' (bg F ds xs') k)/\(∀k,k+1<st->dg ds xs' k),⟨_,0,za,none,zas,as,[],x0,rfl,rfl,t5,hla5,px4.same s5,hpa5,hz,nzl,nzp,pz5,mk x0 [] B0 (λX _ _ h=>h) (cw.refl _) all0 (Cv _) (sn x0 B0),all0,Cv _,λk hk=>absurd hk (Cy _),λk hk=>absurd hk (Cy _)⟩,?_⟩;clear hz nzl nzp pz5 nz;rintro n σ H2 ⟨st,za,vn,zas,as',ps',xs',rfl,rfl,u2,gla,gpx,gpa,gza,g1,g2,gz,R,all,hst,nr,kp⟩;have el:(as'.map V.ref).length=ds.length:=by rw[B3,gpx.1,R.B.len]
 refine⟨_,rfl,_,rfl,_,_,rfl,.inl (SqL.of gla),_,_,rfl,rfl,_,rfl,?_⟩;rw[el];refine aX (λc=>?_) (λc=>?_)
 rotate_left
 .have c:¬ (st:Int)<(ds.length:Int):=λz=>c (decide_eq_true z);exact key _ _ ⟨_,⟨st,za,vn,zas,as',ps',xs',rfl,rfl,u2,gla,gpx,gpa,gza,g1,g2,gz,R,all,hst,nr,kp⟩,st,za,vn,rfl,by omega⟩
 have c:(st:Int)<(ds.length:Int):=of_decide_eq_true c;have c':st<ds.length:=by omega
 rw[if_pos c'];refine⟨λσ H3=>∃n,n<(1512001-(xs'.map (aW F.h)).sum).toNat*2+1/\∃(st3:Nat) (za:Addr) (vn:Option V) (zas as3:List Addr) (ps3:List V) (xs3:List (Int×Int)),σ=[some (.ref ba),some v0,some (.ref la),some (.ref pa),some (.ref za),some (.int (st3:Int)),vn]/\n=(1512001-(xs3.map (aW F.h)).sum).toNat*2+(if st3<ds.length then 1 else 0)/\av H H3/\H3 la=some (.lst (as3.map V.ref))/\aV K H3 as3 xs3/\H3 pa=some (.lst ps3)/\H3 za=some (.lst (zas.map V.ref))/\za≠la/\za≠pa/\aV K H3 zas (bg F ds xs3)/\bT F ds x0 (bg F ds xs3) xs3 ps3.length/\(∀k,k<ds.length->(xAt xs3 k).1<F.m)/\st3<=ds.length/\(∀k,k<st3->NoR F ds xs3 (bg F ds xs3) k)/\(∀k,k+1<st3->dg ds xs3 k),λ_ _ h=>h,?_⟩;have sB:=Al H2 la pa;have hbE:cC K (er H2 la pa) ba F.w F.h F.f F.m ds:=hbk0.same (v_ u2 nla npa);have hzE:aU K (er H2 la pa) za (bg F ds xs'):=⟨zas,SqL.of (by rw[xp g1 g2];exact gza),Be gla gpa gz⟩;have eLa:er H2 la pa la=none:=by unfold er;rw[if_pos (.inl rfl)]
 have ePa:er H2 la pa pa=none:=by unfold er;rw[if_pos (.inr rfl)]
 have uE:∀{H3:Hp},av (er H2 la pa) H3->av H H3:=λh=>(v_ u2 nla npa).trans h;refine⟨_,rfl,_,rfl,_,rfl,_,rfl,_,rfl,er H2 la pa,ba,za,la,pa,st,F,ds,x0,xs',bg F ds xs',as',ps',rfl,hbE,sB,eLa,ePa,nlp,gla,gpx,gpa,hzE,R,all,hst,nr,kp,λH3 as3 ps3 xs3 t3 hla3 px3 hpa3 R3 hk=>?_,λH3 as3 ps3 xs3 t3 hla3 px3 hpa3 R3 all3 up3 nr3 kp3=>?_⟩
 .refine⟨_,rfl,?_⟩;refine bM ?_;refine⟨_,rfl,le2,λp hp=>?_⟩;have s5:=ak hp (.tup [V.non,V.ref pa]);obtain⟨k,hk,hm⟩:=hk;exact q p pa .non ps3 _ ((uE t3).trans s5) (SqT.of ah) (s5 _ _ hpa3) (.inl ⟨rfl,xs3,k,R3.B,R3.low,hk,hm⟩)
 .refine⟨_,rfl,?_⟩;refine aT ?_;dsimp only[cm];refine⟨_,rfl,_,rfl,ba,la,F,ds,xs3,rfl,hbE.same t3,⟨as3,SqL.of hla3,px3⟩,R3.B,λya yas H6 s6 ny hy py=>?_⟩;refine⟨_,rfl,_,rfl,za,ya,bg F ds xs',bg F ds xs3,rfl,(hzE.same t3).same s6,⟨yas,SqL.of hy,py⟩,by rw[bH,bH],by rw[bH];omega,λk k1 k2 k3=>?_⟩;rw[bH]at k1 k3;refine⟨_,rfl,?_⟩;dsimp only[aF];have R6:=mk xs3 ps3 R3.B R3.low R3.le0 all3 (by have:=R3.ps;omega) (sn xs3 R3.B);have sl:=R3.sum_le;refine⟨_,?_,k,ya,some (.ref ya),yas,as3,ps3,xs3,rfl,rfl,(uE t3).trans s6,s6 _ _ hla3,px3.same s6,s6 _ _ hpa3,hy,(λz=>by rw[z,hla3]at ny;cases ny),(λz=>by rw[z,hpa3]at ny;cases ny),py,R6,all3,k1,λj hj=>(nr3 j (by omega)).congr (λ_ _=>rfl) (λn hn=>(k2 n (by omega)).symm) (by rw[bH,bH]) (by rw[bH];omega),λj hj=>kp3 j (by omega)⟩;rcases up3 with e|e
  .have:¬ k<ds.length:=λz=>k3 z (by rw[e]);rw[if_neg this,e];omega
  .split<;>omega
theorem xu{b:Int}{xs:List (Int×Int)}{m:Int}(R:fP b xs)(hm:m∈(0::xs.map λx=>x.1+1))(hle:∀x∈(0::xs.map λx=>x.1+1),x<=m):m=(nPg xs:Int):=by
 unfold nPg;by_cases c:xs=[]
 .rw[if_pos c];subst c;simpa using hm
 .rw[if_neg c];have hl:xs.length-1<xs.length:=by
   have:xs.length≠0:=λz=>c (List.length_eq_zero_iff.mp z);omega
  have p:=(R.row _ hl).p1;have h1:=hle ((xAt xs (xs.length-1)).1+1) (Ck _ (List.mem_map.mpr ⟨_,iS hl,rfl⟩));rcases List.mem_cons.mp hm with h|h
  .omega
  .obtain⟨x,hx,rfl⟩:=List.mem_map.mp h;obtain⟨k,hk,rfl⟩:=List.getElem_of_mem hx;have:=rS R hk;rw[lA (c7 hk)]at this;omega
theorem d2:aG ["script","drawn","layings","number","less","form","book","places","many","pages","k","page"] ["script"] (aw wU):=by walk_at "c"
theorem Bf(T:Txt P w K mg a):aS P w K mg base CX0 12 a.xv a.qB ["script"] (xS K):=by
 refine T.sU.fn.ok d2 (λvs H Q E h=>?_) (λcdv A outer s H vs Q E hr h=>?_)
 .obtain⟨a,ns,rfl,_⟩:=h;rfl
 obtain⟨sa,ns,rfl,hS,h63,q⟩:=h;have hu:=C2 (eJ hr);refine⟨_,(@ac _ _ _ _ _ (fE (aq T.nM (xg T) (hr.mono (by decide)) rfl (aa (pv 0) (aa ab (aa ab ae)))) (dn rfl (a8 (aO (i:=1) d2.nd rfl (Cb rfl)) (a8 (aO (i:=2) d2.nd rfl (Cb rfl)) cK))))
   (@ac _ _ _ _ _ (am (i:=3) d2.nd rfl (Cb rfl) (aq T.dW (eQ T) (hr.mono (by decide)) rfl (aa (ai aC (aq T.d4 (fU T) (hr.mono (by decide)) rfl (aa (pv 0) (aa ab ae))) ab) ae)))
   (@ac _ _ _ _ _ (am (i:=4) d2.nd rfl (Cb rfl) (ai c5 (ai aZ (ai bP (pv 3) ab) ab) (cS rB rfl T.gR DP (aa (cX a_ (ai aZ (pv 3) ab) ab (ar _)) ae))))
   (@ac _ _ _ _ _ (am (i:=5) d2.nd rfl (Ex rfl) (bj (aa (aA (jO rfl) rfl T.dZ C1 (aa ab (aa (ai bZ (ag aj (ag aj (pv 1) ab (λ_ _=>rfl)) ab (λ_ _=>rfl)) (pv 4)) ae))) (aa (ag aj (ag aj (pv 1) ab (λ_ _=>rfl)) ab (λ_ _=>rfl)) (aa (ag aj (ag aj (pv 1) ab (λ_ _=>rfl)) ab (λ_ _=>rfl)) (aa (ag aj (ag aj (pv 1) ab (λ_ _=>rfl)) ab (λ_ _=>rfl)) ae))))))
   (@ac _ _ _ _ _ (am (i:=6) d2.nd rfl (Cb rfl) (bj (aa (pv 5) (aa (ag aj (pv 1) ab (λ_ _=>rfl)) ae))))
   (@ac _ _ _ _ _ (am (i:=7) d2.nd rfl (Cb rfl) (ag aj (x8 (dx:=.non) T.pA rfl (yA T) (hr.mono (by decide)) rfl (aa (pv 6) ae)) ab (λ_ _=>rfl)))
   (@ac _ _ _ _ _ (aI (ao xH (pv 7) cf (ar _)) (af (au (cX di (pv 4) ab (ar _)))) aD)
   (@ac _ _ _ _ _ (aI (dm (bV (aq T.pz (yv T) (hr.mono (by decide)) rfl (aa (pv 7) (aa (aA aL rfl T.bu PySem.boot_len (aa (ag aj (pv 1) ab (λ_ _=>rfl)) ae)) (aa (ag aj (pv 5) ab (λ_ _=>rfl)) ae)))) (λ_=>rfl))) (af (au b9)) aD)
   (@ac _ _ _ _ _ (am (i:=8) d2.nd rfl (Cb rfl) (aA (gZ rfl) rfl T.dZ C1 (aa (ai mV (bX (aa ab ae)) (dJ rfl (dC (caps:=[]) (js:=[]) (cap:=trivial)) (bL (pv 7)) (λ_ _ _ _=>b7) (λ_ _ _ _=>(ai aC (ag (r:=eY K) aj (pv 0) ab (λ_ _=>rfl)) ab)))) ae)))
   (@ac _ _ _ _ _ (am (i:=9) d2.nd rfl (Cb rfl) (aq T.md (vc T) (hr.mono (by decide)) rfl (aa (pv 6) (aa (cS mT rfl T.eI Dw (aa (pv 7) ae)) ae))))
   (@ac _ _ _ _ _ (aI (PW.pt (cH (ao di (pv 8) (ag aj (pv 5) ab (λ_ _=>rfl)) (ar _)) (cx (dm (bV (aq T.jk (sh T) (hr.mono (by decide)) rfl (aa (pv 9) (aa (pv 8) (aa (ag aj (pv 5) ab (λ_ _=>rfl)) ae)))) (λ_=>rfl)))))) (af (au b9)) aD)
   (@ac _ _ _ _ _ (cy Ct rfl (iN rfl T.b8 (pv 9)) (dn rfl (a8 (aO (i:=10) d2.nd rfl (Cb rfl)) (a8 (aO (i:=11) d2.nd rfl (Cb rfl)) cK))) (af (aI (PW.pt (cH (ao fF (ag aj (pv 11) ab (λ_ _=>rfl)) (ai aC (ag aj (pv 5) ab (λ_ _=>rfl)) (pv 10)) (ar _)) (cx (bV (aA (oY rfl) rfl T.kb EC (aa (dJ rfl (dC (caps:=["form"]) (js:=[5]) (cap:=⟨⟨rfl,.inl rfl,rfl,.inl rfl⟩,trivial⟩)) (bL (ag aj (pv 11) ab (λ_ _=>rfl))) (λ_ _ _ _=>b7) (λ_ _ _ _=>(cX di (aA cI rfl T.bu PySem.boot_len (aa (pv 0) ae)) (ag (r:=eY K) aj (pv 1) ab (λ_ _=>rfl)) (ar _)))) ae)) (λ_=>rfl))))) (af (au b9)) aD)))
   (af (au (pU (aq T.gC (qk T) (hr.mono (by decide)) rfl (aa (pv 6) (aa (pv 7) (aa (pv 9) ae)))) (mO (aq T.ig (q_ T) (hr.mono (by decide)) rfl (aa (pv 6) (aa (pv 7) (aa (pv 9) ae)))))))))))))))))))),?_⟩
 refine⟨_,rfl,sa,ns,(24:Nat),(1:Nat),rfl,hS,by decide,.inl rfl,λdq bq ly las F es xss b H1 s1 hdq hbk hly hls xl e40 hx=>?_⟩;refine⟨dq,_,rfl,hdq,rfl,_,_,rfl,_,_,rfl,rfl,?_⟩;dsimp only[aF];obtain⟨fw,fh,ff,fm0⟩:=F;obtain⟨fa,wa,was,hb,hf,hw,hws⟩:=hbk;obtain⟨x1,rfl⟩:∃x1,xss=[x1]:=by
  match xss,xl with
  |[x1],_=>exact⟨x1,rfl⟩
 obtain⟨B1,pg1,R1,tr1⟩:=hx x1 Cp;have fx1:=zb B1 tr1;have fo1:c_ fw fh ff fm0:=B1.fo;have ew:(was.map V.ref).length=es.length:=by rw[B3,hws.1]
 refine⟨_,rfl,sa,ns,1,rfl,s1.seq hS,_,_,rfl,rfl,_,rfl,?_⟩;dsimp only[aF];generalize lZ (ns.getD 1 0+37)=nu;refine⟨_,rfl,_,_,rfl,rfl,⟨by decide,by decide⟩,_,_,rfl,rfl,(by (first|decide|(show(0:Int)<_;first|decide|omega))),_,rfl,_,_,rfl,rfl,(by (first|decide|(show(0:Int)<_;first|decide|omega))),rfl,.inr ⟨_,rfl,_,_,rfl,rfl,.inl ⟨by omega,by omega⟩,?_⟩⟩
 dsimp only[aF];have le0:0<=nu/3%5*(if decide (V.int (nu%3)=V.int 0)=true then 1 else 0):=by split<;>omega
 generalize nu/3%5*(if decide (V.int (nu%3)=V.int 0)=true then 1 else 0)=le at le0⊢;refine⟨_,rfl,_,_,_,_,rfl,rfl,hb,rfl,_,_,_,_,rfl,rfl,hf,rfl,_,rfl,_,_,rfl,rfl,_,_,rfl,_,rfl,_,_,_,_,rfl,rfl,hb,rfl,_,_,_,_,rfl,rfl,hf,rfl,_,rfl,_,_,_,_,rfl,rfl,hb,rfl,_,_,_,_,rfl,rfl,hf,rfl,_,rfl,_,_,_,_,rfl,rfl,hb,rfl,_,_,_,_,rfl,rfl,hf,rfl,le4,λp1 hp1=>?_⟩;dsimp only[aF];have hw1:1<=(if fw-le>1 then fw-le else 1)/\(if fw-le>1 then fw-le else 1)<=fw/\(le=0->(if fw-le>1 then fw-le else 1)=fw):=by
  have:=fo1.w1
  split<;>refine⟨?_,?_,λz=>?_⟩<;>omega
 generalize (if fw-le>1 then fw-le else 1)=w2 at hw1⊢;have t1:=ak hp1 (.tup [V.int w2,V.int fh,V.int ff,V.int fm0]);have k1:upd H1 p1 (.tup [V.int w2,V.int fh,V.int ff,V.int fm0]) p1=some (.tup (fm w2 fh ff fm0)):=ah;generalize upd H1 p1 (.tup [V.int w2,V.int fh,V.int ff,V.int fm0])=H2 at t1 k1⊢;refine⟨_,rfl,_,rfl,_,_,_,_,rfl,rfl,t1.tup hb,rfl,le2,λp2 hp2=>?_⟩;dsimp only[aF];have t2:=t1.trans (ak hp2 (.tup [V.ref p1,V.ref wa]));have k2:upd H2 p2 (.tup [V.ref p1,V.ref wa]) p2=some (.tup [V.ref p1,V.ref wa]):=ah;have k1:=ak hp2 (.tup [V.ref p1,V.ref wa]) _ _ k1;generalize upd H2 p2 (.tup [V.ref p1,V.ref wa])=H3 at t2 k2 k1⊢;have fo:c_ w2 fh ff fm0:={ fo1 with w1:=hw1.1,w2:=Dj hw1.2.1 fo1.w2 };have hbk:cC K H3 p2 w2 fh ff fm0 es:=⟨p1,wa,was,SqT.of k2,SqT.of k1,t2.seq hw,hws.same t2⟩;have B0:aR ⟨w2,fh,ff,fm0⟩ es (Co es.length (0,0)):=Ab fo B1.wd B1.n;refine⟨_,rfl,p2,.non,⟨w2,fh,ff,fm0⟩,es,(Co es.length (0,0)),rfl,hbk,B0,.inl ⟨rfl,rfl⟩,λfq pp u ps H4 s4 hq hpp hu=>?_⟩;refine⟨_,_,_,_,rfl,rfl,hq,rfl,?_⟩;dsimp only[aF];rcases hu with⟨rfl,x2,kk,B2,L2,hk2,hm2⟩|⟨l2,a2,x2,rfl,hl2,pa2,B2,f2,g2,L2,_⟩
 .refine⟨_,rfl,rfl,_,rfl,?_⟩;refine bM ?_;have:0<le:=by
   by_cases c:le=0
   .have e:=hw1.2.2 c;subst e;exact absurd (z6 B2 B1 fx1 (y9 L2) pg1 hk2 hm2) id
   .omega
  refine⟨_,rfl,_,_,rfl,rfl,?_⟩;dsimp only;rw[decide_eq_true this];exact q _
 refine⟨_,rfl,rfl,_,rfl,?_⟩;refine aT ?_;dsimp only[cm];have tr:∀k,k<es.length->eS ⟨w2,fh,ff,fm0⟩ es x2 k:=λk hk=>y_ B2 f2 g2 hk;have al:a2.length=es.length:=by rw[pa2.1,B2.len]
 have x40:x2.length<=40:=by rw[<-B2.len];exact e40
 have wO:∀k,k<x2.length->bI fh (xAt x2 k):=λk hk=>(B2.po.get hk).1;have R:fP fh x2:=⟨wO,λk k0 hk=>by
  have hkd:k<es.length:=by rw[B2.len];exact hk
  have z:az (xAt x2 k) (bc fh ff (xAt x2 (k-1)) (dAt es k).lead)=false:=(tr k hkd).bh k0;have wd:=B2.wd (dAt es k) (by show es.getD k wd0∈es;rw[B6,c7 hkd];exact CV hkd);have y:az (bc fh ff (xAt x2 (k-1)) (dAt es k).lead) (xAt x2 (k-1))=false:=kg (f:=ff) (wO (k-1) (by omega)) wd.l0 wd.l1;generalize bc fh ff (xAt x2 (k-1)) (dAt es k).lead=bb at z y;rw[aJ]at z y⊢;omega⟩
 have t4:=t2.trans s4;refine⟨_,rfl,_,rfl,_,_,_,_,rfl,rfl,t4.tup hb,rfl,_,_,rfl,.inl (t4.seq hw),_,rfl,_,_,_,_,rfl,rfl,s4.tup (SqT.of k1),rfl,l2,a2,x2,fh,(by rw[ew,al];rfl),SqL.of hl2,pa2,(by omega),R,_,rfl,?_⟩;refine aT ?_;dsimp only[cm];have hla:SqL K H4 l2 (a2.map V.ref):=SqL.of hl2;have eas:(a2.map V.ref).length=x2.length:=by rw[B3,pa2.1]
 refine⟨le1,λp3 hp3=>?_⟩;have s5:=ak hp3 (.lst [V.int 0]);have h5:(upd H4 p3 (.lst [V.int 0])) p3=some (.lst [V.int 0]):=ah;generalize upd H4 p3 (.lst [V.int 0])=H5 at s5 h5⊢;refine⟨_,rfl,_,rfl,⟨_,s5.seq hla⟩,cu (K:=K) (a:=l2) (xs:=a2.map V.ref) (λi ys H3=>H3=H5/\ys=((x2.take i).map λx=>x.1+1).map V.int) ⟨rfl,rfl⟩ (λi ys H3 _ g=>by rw[g.1];exact s5.seq hla) ?_ ?_ ?_⟩
 .rintro i ys H3 hi ⟨_,rfl⟩;rw[B3,B3,CB];exact B7 (show _<1000 by omega) (bi (B4 _))
 .rintro i y ys H3 hi ⟨rfl,rfl⟩;have hix:i<x2.length:=by rw[<-eas];exact(List.getElem?_eq_some_iff.mp hi).1
  obtain⟨zo,ez,rfl⟩:∃zo,a2[i]?=some zo/\V.ref zo=y:=by
   rw[B_]at hi;exact Option.map_eq_some_iff.mp hi
  have hz:=pa2.2 i zo x2[i] ez (c7 hix);refine cz ?_;refine⟨_,rfl,_,_,_,_,rfl,rfl,s5.tup hz,rfl,_,_,rfl,rfl,rfl,?_⟩;rw[cg (c7 hix),Ch,Ch];rfl
 rintro ys H5' ⟨rfl,rfl⟩ p4 hp4;rw[eas,C8];have s6:=ak hp4 (.lst ((x2.map λx=>x.1+1).map V.int));have h6:(upd H5' p4 (.lst ((x2.map λx=>x.1+1).map V.int))) p4=some (.lst ((x2.map λx=>x.1+1).map V.int)):=ah;generalize upd H5' p4 (.lst ((x2.map λx=>x.1+1).map V.int))=H6 at s6 h6⊢;refine⟨_,_,[V.int 0],_,rfl,rfl,s6 _ _ h5,h6,bi (by simp;omega),λp5 hp5=>?_⟩;have s7:=ak hp5 (.lst ([V.int 0]++(x2.map λx=>x.1+1).map V.int));have h7:(upd H6 p5 (.lst ([V.int 0]++(x2.map λx=>x.1+1).map V.int))) p5=some (.lst ((0::x2.map λx=>x.1+1).map V.int)):=ah;generalize upd H6 p5 (.lst ([V.int 0]++(x2.map λx=>x.1+1).map V.int))=H7 at s7 h7⊢;refine⟨p5,(0::x2.map λx=>x.1+1),rfl,SqL.of h7,by simp,λm hm hle=>?_⟩;dsimp only[aF];have em:m=(nPg x2:Int):=xu R hm hle;subst em;have t7:=s5.trans (s6.trans s7);have fl:∀p:Int,((aQ ⟨w2,fh,ff,fm0⟩ es x2 p es.length).length:Int)<=fh:=λp=>(rV B2 R tr p).1;have pm:∀k,k<x2.length->(xAt x2 k).1<fm0:=λk hk=>g2 _ (iS hk);have m60:=fo.m2;have p60:∀k,k<x2.length->(xAt x2 k).1<=60:=λk hk=>by have:=pm k hk;omega
 have nm:(nPg x2:Int)<=fm0:=by
  have:=fo.m1;by_cases c:x2=[]
  .unfold nPg;rw[if_pos c];show(0:Int)<=fm0;omega
  .have hl:x2.length-1<x2.length:=by
    have:x2.length≠0:=λz=>c (List.length_eq_zero_iff.mp z);omega
   have:=pm _ hl;have:=(wO _ hl).p1;unfold nPg;rw[if_neg c];omega
 have n60:nPg x2<=61:=by omega
 refine⟨_,rfl,_,rfl,_,_,rfl,.inl (t7.seq hla),λp6 hp6=>?_⟩;have s8:=ak hp6 (.lst (a2.map V.ref));have h8:(upd H7 p6 (.lst (a2.map V.ref))) p6=some (.lst (a2.map V.ref)):=ah;generalize upd H7 p6 (.lst (a2.map V.ref))=H8 at s8 h8⊢;have t8:=t7.trans s8;have u8:=s4.trans t8;refine⟨p2,p6,⟨w2,fh,ff,fm0⟩,es,x2,rfl,hbk.same u8,⟨a2,SqL.of h8,pa2.same t8⟩,B2,e40,fl,p60,λpq H9 s9 hpq=>?_⟩;dsimp only[aF];have u9:=u8.trans s9;refine⟨_,rfl,_,rfl,_,_,_,_,rfl,rfl,u9.tup (SqT.of k1),rfl,_,_,rfl,rfl,_,rfl,?_⟩;rw[decide_eq_false (show ¬ (fm0<(nPg x2:Int)) by omega)];refine aT ?_;refine⟨_,rfl,_,rfl,_,rfl,_,_,_,_,rfl,rfl,u9.tup (SqT.of k1),rfl,pq,⟨w2,fh,ff,fm0⟩,es,x2,nPg x2,rfl,hpq,fo.h1,fo.h2,fl,λH10 s10=>?_⟩;refine⟨_,rfl,?_⟩;refine aT ?_;dsimp only[cm];have u10:=u9.trans s10;have hpq8:=hpq.same s10;have lw:aU K H4 l2 x2:=⟨a2,hla,pa2⟩;obtain⟨ps,rs,pl_,rl,k0,kp⟩:=id hpq8;refine⟨_,rfl,pq,rfl,⟨_,k0⟩,gk (K:=K) (a:=pq) (xs:=ps.map V.ref) (λi σ G=>av H10 G/\∃v w:Option V,σ=[some (.ref sa),some (.ref bq),some (.ref ly),some (.int nu),some (.int le),some (.ref p1),some (.ref p2),some (.ref l2),some (.int (nPg x2:Int)),some (.ref pq),v,w]) ⟨av.refl _,none,none,rfl⟩ (λi σ G _ g=>g.1.seq k0) ?_ ?_⟩
 .rintro i y σ G pe hi ⟨sG,v,w,rfl⟩ hpe;obtain⟨p,ep,rfl⟩:∃p,ps[i]?=some p/\V.ref p=y:=by
   rw[B_]at hi;exact Option.map_eq_some_iff.mp hi
  have hin:i<nPg x2:=by rw[<-pl_];exact(List.getElem?_eq_some_iff.mp ep).1
  obtain⟨g1,gr⟩:=kp i p (rs[i]'(by omega)) ep (c7 (by omega));generalize rs[i]'(by omega)=r at g1 gr;have fli:=fl (i:Int);have h60:=fo.h2;have sE:=sG.trans (ak hpe (.tup [V.int (i:Int),V.ref p]));refine⟨pe,_,rfl,SqT.of ah,rfl,_,_,rfl,_,_,rfl,rfl,?_⟩;generalize upd G pe (.tup [V.int (i:Int),V.ref p])=G1 at sE⊢;have uE:=u10.trans sE;have rlen:(ax (pgR ⟨w2,fh,ff,fm0⟩ es x2 (i:Int))).length<=60:=by
   unfold ax;rw[B3,vT (by show _<=fh.toNat;omega)];show fh.toNat<=60;omega
  refine⟨_,rfl,_,_,_,_,rfl,rfl,sE.tup g1,rfl,_,rfl,_,_,_,_,rfl,rfl,uE.tup (SqT.of k1),rfl,_,rfl,_,_,rfl,rfl,rfl,_,rfl,?_⟩;rw[decide_eq_true rfl];refine aT ?_;refine⟨_,rfl,_,_,_,_,rfl,rfl,sE.tup g1,rfl,r,rfl,⟨_,sE.seq gr⟩,cu (K:=K) (a:=r) (xs:=ax (pgR ⟨w2,fh,ff,fm0⟩ es x2 (i:Int))) (λj ys G2=>G2=G1/\ys=(Co j false).map V.bl) ⟨rfl,rfl⟩ (λj ys G2 _ g=>by rw[g.1];exact sE.seq gr) ?_ ?_ ?_⟩
  .rintro j ys G2 hj ⟨_,rfl⟩;rw[B3,C0];exact B7 (show j<1000 by omega) (bi (B4 _))
  .rintro j y ys G2 hj ⟨rfl,rfl⟩;obtain⟨t,rfl,et⟩:=ot hj;have w4:=fo.w2;have wd:(t.length:Int)<=w2:=Ag B2 R tr (i:Int) t (Cg et);refine cz ?_;refine⟨_,rfl,_,rfl,(by rw[bz];exact d0 (by omega)),_,rfl,_,_,_,_,rfl,rfl,uE.tup (SqT.of k1),rfl,_,_,rfl,rfl,rfl,?_⟩;rw[bz];show _++[V.bl (decide (w2<(t.length:Int)))]=_;rw[decide_eq_false (show ¬ w2<(t.length:Int) by omega),List.replicate_succ',Ch];rfl
  rintro ys G2 ⟨rfl,rfl⟩ p7 hp7;refine⟨p7,_,rfl,SqL.of ah,_,rfl,?_⟩;have non:(Co (ax (pgR ⟨w2,fh,ff,fm0⟩ es x2 (i:Int))).length false).any id=false:=by
   rw[List.any_eq_false];intro x hx;rw[DV hx];decide
  rw[non];refine aT ?_;exact⟨sE.trans (ak hp7 _),_,_,rfl⟩
 .rintro σ G ⟨sG,v,w,rfl⟩;have uG:=u10.trans sG;have vG:=t8.trans (s9.trans (s10.trans sG));have hpG:=hpq8.same sG;have pgs:∀k,k<x2.length->(xAt x2 k).1.toNat<nPg x2:=λk hk=>zp R hk;refine⟨_,rfl,_,rfl,_,rfl,p2,l2,pq,⟨w2,fh,ff,fm0⟩,es,x2,fh,nPg x2,rfl,hbk.same uG,lw.same vG,hpG,B2,e40,R,pgs,λk hk=>(rV B2 R tr _).2 k hk rfl,λG2 sG2=>?_⟩;refine⟨_,rfl,?_⟩;refine bM ?_;exact⟨_,rfl,_,rfl,_,rfl,p2,l2,pq,⟨w2,fh,ff,fm0⟩,es,x2,nPg x2,rfl,hbk.same (uG.trans sG2),lw.same (vG.trans sG2),hpG.same sG2,B2,e40,pgs,λk hk=>vW B2 tr hk,fl,by omega,λG3 _=>q G3⟩
end
abbrev Zn(K:PySem.W.Frag)(n:Str):Prop:=PySem.W.nsIn K Db n=some none
theorem txt_mk{P:CK}{w:CG}{K:PySem.W.Frag}{h:Heap}{mg:Str->Option B5}(X:K.In h)(G:h.Ns Db mg)
  {ad:AdD}(D:TxD K mg ad)
  (oz:Zn K "all")
  (kb:Zn K "any")
  (jN:Zn K "bool")
  (b8:Zn K "enumerate")
  (gR:Zn K "int")
  (bC:Zn K "isinstance")
  (bu:Zn K "len")
  (eI:Zn K "list")
  (dZ:Zn K "max")
  (iL:Zn K "min")
  (cZ:Zn K "range")
  (gj:Zn K "str")
  (kc:Zn K "sum")
  (gM:Zn K "tuple")
  (mI:Zn K "zip") :
  ∃a:Adr,Txt P w K mg a:=by
 refine⟨{ toAdD:=ad },{
  toTxD:=D,
  oz:=PySem.W.mg_none_of X G oz,
  kb:=PySem.W.mg_none_of X G kb,
  jN:=PySem.W.mg_none_of X G jN,
  b8:=PySem.W.mg_none_of X G b8,
  gR:=PySem.W.mg_none_of X G gR,
  bC:=PySem.W.mg_none_of X G bC,
  bu:=PySem.W.mg_none_of X G bu,
  eI:=PySem.W.mg_none_of X G eI,
  dZ:=PySem.W.mg_none_of X G dZ,
  iL:=PySem.W.mg_none_of X G iL,
  cZ:=PySem.W.mg_none_of X G cZ,
  gj:=PySem.W.mg_none_of X G gj,
  kc:=PySem.W.mg_none_of X G kc,
  gM:=PySem.W.mg_none_of X G gM,
  mI:=PySem.W.mg_none_of X G mI }⟩
theorem walk{l:PySem.W.OpenLaw}{q:CK}{loose:List Str}{XP:(Str->Option B5)->Heap->Prop}{YP:CG->Heap->Prop}{d:DefRec}{K:CM->PySem.W.Frag}(hn:l.most=some 63)(hdf:d.params.defaults=[])(hnm:d.name = "law")
  (hY:∀(w:CG) (h:Heap),YP w h->(K w.params).In h)
  (F:∀(w:CG) (mg:Str->Option B5) (h:Heap),(K w.params).In h->h.Ns Db mg->∃a:Adr,Txt l.prog w (K w.params) mg a) :
  PySem.W.WalkO q loose XP YP l.row.toRowW d [] (λf vs=>PySem.call f vs):=
 L2.walk_of (n:=63) (k:=12) (x := "script") (CX:=λ_=>CX0) (sp:=λw=>xS (K w.params)) hn (by decide) hdf ⟨rfl,by decide,by decide⟩ hY (λw mg fa h KX G hmg=>by
  obtain⟨a,T⟩:=F w mg h KX G;have e0:=hmg.symm.trans (hnm▸T.sU.mg);cases e0;refine⟨a.qB,λs u=>.of_eq (T.sU.ba [u] rfl),λbase _ _=>Bf T⟩) (λ_ _ a ns hl _ hS=>⟨a,ns,rfl,hS,hl,λ_=>rfl⟩) λ_ _ _ _ _ z=>z
end K68
namespace K68
open PySem PySem.W L2 Tl PyProof.Rows
theorem us1{us:List B5}(h:us.length=1):∃a0,us=[a0]:=by
 match us,h with
 |[a0],_=>exact⟨a0,rfl⟩
theorem us2{us:List B5}(h:us.length=2):∃a0 a1,us=[a0,a1]:=by
 match us,h with
 |[a0,a1],_=>exact⟨a0,a1,rfl⟩
theorem us3{us:List B5}(h:us.length=3):∃a0 a1 a2,us=[a0,a1,a2]:=by
 match us,h with
 |[a0,a1,a2],_=>exact⟨a0,a1,a2,rfl⟩
theorem us4{us:List B5}(h:us.length=4):∃a0 a1 a2 a3,us=[a0,a1,a2,a3]:=by
 match us,h with
 |[a0,a1,a2,a3],_=>exact⟨a0,a1,a2,a3,rfl⟩
theorem us5{us:List B5}(h:us.length=5):∃a0 a1 a2 a3 a4,us=[a0,a1,a2,a3,a4]:=by
 match us,h with
 |[a0,a1,a2,a3,a4],_=>exact⟨a0,a1,a2,a3,a4,rfl⟩
theorem us6{us:List B5}(h:us.length=6):∃a0 a1 a2 a3 a4 a5,us=[a0,a1,a2,a3,a4,a5]:=by
 match us,h with
 |[a0,a1,a2,a3,a4,a5],_=>exact⟨a0,a1,a2,a3,a4,a5,rfl⟩
noncomputable abbrev fdO(n q:Str)(s:Stmt)(d:B5)(m:String)(k:Nat)(r:Addr):Cf:=fnOf n q (cA s) (cc s) (aw s) d .none .none (.str (EV m) k) none (.ref r) .none
noncomputable abbrev fb0(n q:Str)(s:Stmt)(d:B5)(r:Addr):Cf:=fdO n q s d "law_trueleaf_k68_whole_pages_tell_the_truth" 521 r
noncomputable abbrev fa0(n:Str)(s:Stmt)(r:Addr):Cf:=fb0 n n s .none r
noncomputable abbrev fb1(n q:Str)(s:Stmt)(d:B5)(r:Addr):Cf:=fdO n q s d "trueleaf.signs" 187 r
noncomputable abbrev fa1(n:Str)(s:Stmt)(r:Addr):Cf:=fb1 n n s .none r
noncomputable abbrev fb2(n q:Str)(s:Stmt)(d:B5)(r:Addr):Cf:=fdO n q s d "trueleaf.widths" 241 r
noncomputable abbrev fa2(n:Str)(s:Stmt)(r:Addr):Cf:=fb2 n n s .none r
noncomputable abbrev fb3(n q:Str)(s:Stmt)(d:B5)(r:Addr):Cf:=fdO n q s d "trueleaf.pages" 507 r
noncomputable abbrev fa3(n:Str)(s:Stmt)(r:Addr):Cf:=fb3 n n s .none r
noncomputable abbrev fb4(n q:Str)(s:Stmt)(d:B5)(r:Addr):Cf:=fdO n q s d "trueleaf.bounds" 287 r
noncomputable abbrev fa4(n:Str)(s:Stmt)(r:Addr):Cf:=fb4 n n s .none r
noncomputable abbrev fb5(n q:Str)(s:Stmt)(d:B5)(r:Addr):Cf:=fdO n q s d "trueleaf.settle" 388 r
noncomputable abbrev fa5(n:Str)(s:Stmt)(r:Addr):Cf:=fb5 n n s .none r
noncomputable abbrev fb6(n q:Str)(s:Stmt)(d:B5)(r:Addr):Cf:=fdO n q s d "trueleaf.places" 196 r
noncomputable abbrev fa6(n:Str)(s:Stmt)(r:Addr):Cf:=fb6 n n s .none r
noncomputable def A0:AdD:={ kP:=248,jE:=fa0 "_law_cell_at" ko 247,nV:=262,mw:=fa0 "_law_first" ng 261,kT:=274,jI:=fa0 "_law_said_by" kq 273,kR:=281,jG:=fa0 "_law_high_by" kr 280,nZ:=326,mD:=fa0 "_law_sizes" nj 325,kQ:=331,jF:=fa0 "_law_fitting" ku 330,nW:=255,mz:=fa0 "_law_mixed" nk 254,kS:=302,jH:=fa0 "_law_numbers" kv 301,nY:=267,mC:=fa0 "_law_signs" nq 266,pE:=316,ol:=fa0 "_law_some" o6 315,nX:=321,mB:=fa0 "_law_parts" nt 320,mh:=309,lc:=fa0 "_law_rising" lQ 308,ij:=288,gI:=fa0 "_law_behind_by" hV 287,mj:=295,lg:=fa0 "_law_sooner" lR 294,rk:=338,pG:=fa0 "_law_let" qV 337,oe:=343,mF:=fa0 "_law_words" nv 342,nU:=348,mv:=fa0 "_law_drawn" nA 347,n_:=367,mE:=fa0 "_law_truly" nB 366,ik:=379,gJ:=fa0 "_law_feet_read" hW 378,ju:=360,iq:=fa0 "_law_is_pages" i7 359,jv:=355,ir:=fa0 "_law_is_place" i8 354,pC:=386,oj:=fa0 "_law_laid" o7 385,gG:=374,gg:=fa0 "_law_words_read" gu 373,jr:=21,io:=fa1 "figures_of" i9 20,uY:=63,rz:=fa2 "said" uB 62,kO:=84,jD:=fa2 "foot_rows" kw 83,kU:=241,jJ:=fa3 "page_rows" kx 240,mn:=236,lj:=fa3 "pages_of" lS 235,gE:=96,gc:=fa4 "first_bounds" gv 95,gF:=182,gf:=fa5 "first_unlike" gw 181,kM:=89,jC:=fa2 "foot_high" ky 88,mf:=120,k_:=fa4 "highs_of" lT 119,mr:=77,ln:=fa2 "together" lU 76,ml:=56,lh:=fa6 "next_top" lV 55,jt:=42,ip:=fa6 "first_from" i_ 41,og:=49,mG:=fa6 "rows_on" nC 48,pB:=35,oi:=fa6 "behind" o8 34,rn:=28,pH:=fa6 "later" qW 27,im:=127,gL:=fa4 "told_behind" hX 126,kX:=141,jK:=fa4 "told_high" kz 140,kY:=148,jL:=fa4 "told_kept" kA 147,oh:=70,mH:=fa2 "wide_of" nD 69,jB:=155,iz:=fa4 "told_never" ja 154,kZ:=134,jM:=fa4 "told_wide" kC 133,mt:=115,lq:=fa4 "wides_of" lW 114,gH:=110,gh:=fa4 "told_by_kind" gx 109,rp:=103,pI:=fa4 "reach" qX 102,mq:=203,lm:=fa5 "raise_by" lX 202,jy:=210,iw:=fa5 "raise_kept" jb 209,f9:=168,fg:=fa5 "stands_beyond" fR 167,f_:=231,fk:=fa5 "too_high_from" fS 230,ga:=224,fu:=fa5 "too_wide_from" fT 223,jA:=217,iy:=fa5 "reason_for" jc 216,jz:=196,ix:=fa5 "raise_word" jd 195,jx:=189,iu:=fa5 "raise_from" jf 188,il:=175,gK:=fa5 "sizes_under" hZ 174,pF:=161,om:=fb5 "settle" "settle" o9 (.ref 156) 160,xv:=391,qB:=fa0 "law" wU 390 }
local macro_rules | `(tactic| walk_at "b")=>`(tactic| (intro _ _ _ _ _ _ us hl; first | (obtain ⟨_,hx⟩:=us1 hl; subst hx; rfl) | (obtain ⟨_,⟨_,hx⟩⟩:=us2 hl; subst hx; rfl) | (obtain ⟨_,⟨_,⟨_,hx⟩⟩⟩:=us3 hl; subst hx; rfl) | (obtain ⟨_,⟨_,⟨_,⟨_,hx⟩⟩⟩⟩:=us4 hl; subst hx; rfl) | (obtain ⟨_,⟨_,⟨_,⟨_,⟨_,hx⟩⟩⟩⟩⟩:=us5 hl; subst hx; rfl) | (obtain ⟨_,⟨_,⟨_,⟨_,⟨_,⟨_,hx⟩⟩⟩⟩⟩⟩:=us6 hl; subst hx; rfl)))
local macro_rules | `(tactic| walk_at "d")=>`(tactic| exact yK (oc:=.type "function") (od:=none) (sl:=#[]) (by assumption) (by assumption) (by kernel_rfl) (by kernel_rfl) (by kernel_rfl) (by kernel_rfl) (by walk_at "b"))
local macro_rules | `(tactic| walk_at "m")=>`(tactic| exact metok_mk (oc:=.type "function") (od:=none) (sl:=#[]) (by kernel_rfl) (by kernel_rfl) (by kernel_rfl) (by kernel_rfl) (by kernel_rfl) (by walk_at "b"))
local macro_rules | `(tactic| walk_at "n")=>`(tactic| (show PySem.W.findIn _ _ _=some none; kernel_rfl))
set_option maxHeartbeats 0 in
theorem txd{w:CG}{mg:Str->Option B5}{h:Heap}(X:(kk w.params).In h)(G:h.Ns Db mg):TxD (kk w.params) mg A0 where
 d4:=by walk_at "d"
 nN:=by walk_at "d"
 eT:=by walk_at "d"
 gQ:=by walk_at "d"
 j8:=by walk_at "d"
 kE:=by walk_at "d"
 dW:=by walk_at "d"
 kF:=by walk_at "d"
 nP:=by walk_at "d"
 l9:=by walk_at "d"
 nO:=by walk_at "d"
 iI:=by walk_at "d"
 ie:=by walk_at "d"
 l_:=by walk_at "d"
 rh:=by walk_at "d"
 nQ:=by walk_at "d"
 nM:=by walk_at "d"
 j9:=by walk_at "d"
 ig:=by walk_at "d"
 jk:=by walk_at "d"
 jm:=by walk_at "d"
 pz:=by walk_at "d"
 gC:=by walk_at "d"
 fX:=by walk_at "d"
 nR:=by walk_at "d"
 gP:=by walk_at "d"
 kG:=by walk_at "d"
 md:=by walk_at "d"
 gy:=by walk_at "d"
 gB:=by walk_at "d"
 gO:=by walk_at "d"
 iH:=by walk_at "d"
 me:=by walk_at "d"
 fZ:=by walk_at "d"
 fY:=by walk_at "d"
 j_:=by walk_at "d"
 l7:=by walk_at "d"
 rj:=by walk_at "d"
 ii:=by walk_at "d"
 kI:=by walk_at "d"
 kJ:=by walk_at "d"
 ka:=by walk_at "d"
 jq:=by walk_at "d"
 kL:=by walk_at "d"
 iK:=by walk_at "d"
 gD:=by walk_at "d"
 lD:=by walk_at "d"
 iJ:=by walk_at "d"
 jo:=by walk_at "d"
 dA:=by walk_at "d"
 f7:=by walk_at "d"
 f8:=by walk_at "d"
 f6:=by walk_at "d"
 jp:=by walk_at "d"
 jn:=by walk_at "d"
 eV:=by walk_at "d"
 pA:=x9 (oc:=.type "function") (od:=none) (sl:=#[]) (oc2:=.type "tuple") (od2:=none) (sl2:=#[]) (n2:=0) X G (by kernel_rfl) (by kernel_rfl) (by kernel_rfl) (by kernel_rfl) (by kernel_rfl) (λ_ _ _ _ _ _ us hl=>by obtain⟨_,⟨_,rfl⟩⟩:=us2 hl;exact⟨_,rfl,rfl⟩) (λ_ _ _ _ _ _ us hl=>by obtain⟨_,rfl⟩:=us1 (Nat.succ.inj hl);exact⟨_,rfl,rfl⟩)
 sU:=by walk_at "d"
end K68
local macro_rules | `(tactic| walk_at "z")=>`(tactic| (first | k_is | (delta K68.Zn; k_is)))
open PySem PySem.W PyProof.Rows
set_option maxRecDepth 100000 in
set_option maxHeartbeats 0 in
theorem PySem.Challenge.cw_trueleaf_k68_whole_pages_tell_the_truth_holds : PySem.Challenge.rw_trueleaf_k68_whole_pages_tell_the_truth.Holds := by
 w_on
 refine ⟨K68.wsL,?_⟩;have said:PySem.Challenge.rw_trueleaf_k68_whole_pages_tell_the_truth.row.wellSaid=true:=K68.wsR;refine holds_open (q:=K68.vw) (loose:=K68.ls) (Xt:=K68.xt) (XP:=XL K68.vw []) (Yf:=Hook.obs K68.hk) (Ya:=Hook.val K68.hk) (YP:=InK K68.kk) K68.left
  (Hook.of K68.hk) (Hook.keeps K68.hk) (fun s e=>xl_of s (Bool.and_eq_true_iff.mp e).1) XL.keeps (by rfl) (by rfl) (by rfl)
  (fun s e=>recFacts_of (Bool.and_eq_true_iff.mp e).2) (by rfl) (by assumption) (by decide +kernel) ⟨rfl,rfl,rfl,rfl,rfl,by decide +kernel⟩ ?hw ?hc
 (case hw=>w_witness2)
 k_fill
 refine K68.walk (l:=PySem.Challenge.rw_trueleaf_k68_whole_pages_tell_the_truth) rfl rfl rfl (fun w h Y=>Y) ?F
 case F =>
  intro w mg h KX G;refine' K68.txt_mk (D:=K68.txd KX G) KX G ?oz ?kb ?jN ?b8 ?gR ?bC ?bu ?eI ?dZ ?iL ?cZ ?gj ?kc ?gM ?mI
  (case oz | kb | jN | b8 | gR | bC | bu | eI | dZ | iL | cZ | gj | kc | gM | mI=>walk_at "z")
