import PyProof.Rows.All
import Wide.All
import OpenK.AllK
import Wide.FinOn
import Lean
import PyProof.EqAt
import PyProof.EqKinds
import PyProof.TupleCall
import PyProof.NeKinds
import KE.LcSums
import PyProof.ExcBaseAll.ValueError
import KE.KTryMore
import KE.RegKTryMore
import PyProof.StrLawsRepr
import PyProof.ReprStr
import PyProof.EnumMake
import PyProof.EnumFor
import KE.KEqDict
import PyProof.Rows.Range3
import PyProof.SumWalkG
import PyProof.ZipIter
import KE.KDictOf
import PyProof.IsiH_list
import PyProof.RaisesAny
import PyProof.SumWalkG
import KE.KIsAll
import PyProof.ExcArgsOwn
import PyProof.ExcAttrAll.ValueError
import PyProof.RulesAs
import PyProof.NsDelKeeps
import PyProof.Rows.TupAdd
import KE.KDictList
import PyProof.Rows.SortStr
import PyProof.Rows.SortWalk
import PyProof.DictIter
import PyProof.DictItemsLoops
import PyProof.DictValues
import PyProof.DictWalks
import PySem.Challenge.RW_trueleaf_k63_setting_refused
set_option Elab.async false
set_option linter.all false
set_option maxRecDepth 100000
set_option maxHeartbeats 4000000
open List renaming length_map→GT,length_cons→GU,length_append→GX,getElem?_eq_getElem→GZ,mem_of_getElem?→Ha,mem_cons_of_mem→Hb,map_append→Hc,replicate→Hd,mem_cons_self→He,map_cons→Hj,length_nil→Hk,take_length→Hu,size_toArray→Hv,getElem?_map→HA,length_take→HD,getD_eq_getElem?_getD→HE,append_assoc→HL,mem_append_right→HN,toArray→HP,lookup→HQ,append_nil→HU,not_mem_nil→H_,drop_eq_getElem_cons→Ia,length_replicate→Ib,mem_cons→Ih,take_of_length_le→Ik,length_range→Il,sum_cons→Im,replicate_succ→Io,take_add_one→IB,length_filter_le→IC,mem_append_left→ID,filter_append→IH,map_map→II,flatMap_cons→IK,range→IL,filterMap_cons→IM,drop_length→IS,getElem?_append_right→IV,sum_append→I0,flatten_cons→Jb,filter_cons→Jg,find?_cons→Jk,all_cons→Jl,any_cons→Jm,length_singleton→Jn,getElem?_eq_none→Jo,any_eq_false→Jp,nodup_append→Jr,length_drop→Jt,any_eq_true→Jv,getElem?_append_left→Jw,flatMap_append→Jy,mem_singleton→JH,getElem?_set_self→JL,drop_eq_nil_of_le→JP,getElem?_set_ne→J0,range_succ→Kb,map_congr_left→Kc,mem_map_of_mem→Kd,map_nil→Kg,take_zero→Kr,map_singleton→Ks,foldl_append→Kz,filter→KA,cons_append→KJ,of_mem_zip→KQ,foldl_cons→KS,mem_append→KW,nodup_cons→KY,length→K1,sum_nil→Lo,foldl→LJ,map→LP
open PySem renaming Value→GV,Shared→GY,FuncData→Hm,sizeLine→Hs,wpAny_bind→Hy,Program→HB,mainGlobals→HC,World→HF,model→HG,starEach→HJ,wpAny→HK,Params→HR,Around→HY,DictEntry→Ic,wpAny_pure→Ig,wpAny_mono→Ii,foldedSetIterable→Iv,compareOp→Iw,OsState→Iy,sysModules→IE,backTo→IT,wpAny_Call_Name_kw→IU,wpAny_execs_nil→IY,wpAny_passesOwn→IZ,wpAny_truthy_bool→Ja,relabel→Je,bootBuiltins→Jh,binaryOp→Jz,attributeBase→JA,codeAny→JD,call_meets→JF,tupleKind_room_in1→JG,swapsWith→JI,sliceBounds→JK,wpAny_pyIter_list→JM,wpAny_execs_cons→JT,wpAny_holding→JX,behindInMarks→JY,keywordEach→J1,codeAny_call_builtin→J4,importedModules→J7,letOwnedTupleGo→J8,Result→J9,holding→Ke,codeAny_mono→Kf,assignEach→Kk,typeIs_str→Ko,wpAny_newObj_type→Ku,Builtin→Ky,getMethod→KD,cLine→KG,bindArgs→KH,valueAt→KM,sliceRange→KN,wpAny_loadPart'→KR,codeAny_builtin→KU,backToKw→KZ,NameKind→K0,subscripted→K2,tupleKind→K4,callerA→K5,wpAny_standAt→K7,builtinsNs→Lb,assign→Ld,typeLookup→Le,GenState→Lg,standAt→Lh,getItem→Ll,seqIndex_neg→Lm,PassesOwn→Lp,sizeLine_eq→Lq,seqIndex_of→Lr,atKey→Ls,Keyword→Lu,Model→Lw,wpAny_Name→Lx,pyIter→Lz,wpAny_call→LA,callWith→LB,bindL→LC,bindC→LD,typeIs_int→LH,stored→LK,getAttr?→LO
open Option renaming some→GW,isSome_map→Kt
open Nat renaming le_refl→G_,le_trans→Ho,lt_of_le_of_lt→Hq,ne_of_lt→Hr,lt_of_lt_of_le→Hx,le_of_lt→HM,zero_le→HZ,lt_irrefl→Iq,lt_of_succ_lt→IJ,ne_of_gt→IN,lt_trans→IQ,le_succ→IR,lt_succ_self→Jf,le_of_not_lt→Ju,le_add_right→JV,add_le_add_right→J6,min_eq_left→Ka,zero_add→Ki,toDigits→KO,mod_lt→KP,add_assoc→La,le_of_eq→Li
open PySem.Heap renaming get?_push_of_some→Hg,lt_size→Hl,get?_push_size→HI,SameBut→Ji,size_push→JN,get?_update_other→JO,FlyingW→Kh
open Or renaming inl→Hh
open Bool renaming false_ne_true→Hw,and_eq_true→Iu,not_eq_true→IG,eq_iff_iff→JC,true_and→JZ,or_eq_false_iff→J5,false_and→Kl,and_false→Kp,false_or→K9,and_true→K_
open PySem.PassesOwn renaming never→HS,leaving→Jc
open Option.some renaming inj→HV
open Ne renaming symm→HW
open PyProof.Rows renaming boot_isinstance→HX,envOfC→IF,callWith_type1→IP,boot_max→JQ,kindOf→JU,AllBare→JW,subscriptTail→K8,IntsAre→Lv,isTrue_and→Ly,Subscript_→LF
open PySem.Value renaming ref→Ie,str→IW,type→Js,int→JR,none→JS,builtin→KC,bool→Lc
open Array renaming mk→Ij,length_toList→Jx,append_assoc→Kj
open PySem.Builtin.Str renaming occurrences→Ip
open PySem.Str renaming empty→Ir,ofString→Lf,join→LM
open False renaming elim→Iz
open Int renaming toNat→I_,toNat_natCast→Jq,zero_add→Ln
open PySem.Builtin.List renaming listTooLong→Jd
open PySem.Calls renaming callWith_builtin→Jj,Constant_str→JE,evalArgs_plain→J2,spliced_cons→Kn
open Sum renaming inr→JB,inl→K3
open PySem.Data renaming fields→JJ
open ForInStep renaming yield→J_
open True renaming intro→Km
open PySem.F renaming args_str_split_2→Kq,entry_str_split→Kx,slot_str_split→KI
open PyProof.Rows.LCg renaming lst→Kv
open PySem.NameKind renaming free→KB
open PySem.Obj renaming mapSeq→KL
open LawfulBEq renaming eq_of_beq→K6
open PySem.Around renaming under→Lj
open PySem.Code renaming isFrame→Lk
open PySem.SeqAt renaming EqAt→LG
namespace L2
open PySem
def cG(s:Stmt):Arguments:=match s with
 |.FunctionDef _ a _ _ _ _ _ _ _ _=>a
 |_=>{ posonlyargs:=[],args:=[],vararg:=none,kwonlyargs:=[],kw_defaults:=[],kwarg:=none,defaults:=[] }
def b_(s:Stmt):List Stmt:=match s with
 |.FunctionDef _ _ b _ _ _ _ _ _ _=>b
 |_=>[]
def au(s:Stmt):Scope:=match s with
 |.FunctionDef _ _ _ _ _ _ sc _ _ _=>sc
 |_=>{ kind:=.function,names:=[],isGenerator:=false,isCoroutine:=false }

end L2
namespace K63
open PySem PySem.W L2 PyProof.Rows
noncomputable def top(i:Nat):Stmt:=PySem.Challenge.pw_trueleaf_k63_setting_refused.main.body.getD i (.Pass ⟨0,0,0,0⟩)
noncomputable def bx(i j:Nat):Stmt:=match top i with|.ClassDef _ _ _ b ..=>b.getD j (.Pass ⟨0,0,0,0⟩)|_=>.Pass ⟨0,0,0,0⟩
set_option maxHeartbeats 0 in
theorem wsL:PySem.Challenge.rw_trueleaf_k63_setting_refused.wellSaid=true:=by kernel_rfl
set_option maxHeartbeats 0 in
theorem wsR:PySem.Challenge.rw_trueleaf_k63_setting_refused.row.wellSaid=true:=by kernel_rfl
noncomputable abbrev os(s:String):Str:=Lf s
noncomputable abbrev kh(P:HR)(s:Str):Int:=PyData.keyHash P s
noncomputable abbrev fO(n:String)(i:Nat)(d:GV)(m:String)(k:Nat)(r:Addr):Obj:=⟨.type "function",none,.func (fnOf (os n) (os n) (cG (top i)) (b_ (top i)) (au (top i)) d .none .none (.str (os m) k) none (.ref r) .none),#[]⟩
noncomputable abbrev sv(s:String)(k:Nat):GV:=.str (os s) k
noncomputable abbrev dE(P:HR)(s:String)(k:Nat)(v:GV):Ic:=⟨kh P (os s),.str (os s) k,v⟩
noncomputable abbrev cV(n q:String)(a b c:Nat)(l1 l2 l5:Int)(r0:Addr)(m:Int)(r1:Addr)(v0 v1 v2 v3:GV)(x y:Int)(d:Nat):Obj:=⟨.type "code",none,.fields #[.str (os n) a,.str (os q) b,.str (os "/claim/cut.py") c,.int l1 0,.int l2 0,.int 0 0,.int 0 0,.int l5 0,.ref r0,.bool true,.int m 0,.ref r1,v0,v1,v2,v3,.int x 0,.int y 0,.str (os "/claim/cut.py") d],#[]⟩
noncomputable abbrev fM(n q:String)(s:Stmt)(d:GV)(m:String)(k:Nat)(r:Addr):Obj:=⟨.type "function",none,.func (fnOf (os n) (os q) (cG s) (b_ s) (au s) d .none .none (.str (os m) k) none (.ref r) .none),#[]⟩
noncomputable abbrev gA(n q:String)(s:Stmt):Obj:=⟨.none,none,.func (FuncData.mk (os n) (os q) (cG s) (FuncBody.stmts (b_ s)) (au s) 0 [] .none .none .none .none none .none .none 0),#[]⟩
noncomputable abbrev gB(n q:String)(s:Stmt)(d:GV)(m:String)(k:Nat)(r:Addr):Obj:=⟨.type "function",none,.func (FuncData.mk (os n) (os q) (cG s) (FuncBody.stmts (b_ s)) (au s) 3 [] d .none .none (.str (os m) k) none (.ref r) .none 0),#[]⟩
noncomputable def kk:HR->Frag:=λP=>(nat_lit 2,⟨(.none),none,.dict ([]).toArray 0,#[]⟩)::
 (nat_lit 3,⟨(.type "dict"),none,.dict (HP (dE P "__name__" 165 (sv "law_trueleaf_k63_setting_refused" 818)::dE P "__doc__" 166 (.none)::dE P "__package__" 167 (.none)::dE P "__loader__" 168 (.builtin "__main__.__loader__#opaque")::dE P "__spec__" 169 (.none)::dE P "__annotations__" 170 (.ref 6)::dE P "__builtins__" 171 (.ref 4)::dE P "__file__" 173 (sv "/claim/cut.py" 172)::dE P "__cached__" 174 (.none)::dE P "TrueleafError" 206 (.ref 24)::dE P "BadRow" 222 (.ref 37)::dE P "TooLong" 238 (.ref 49)::dE P "BadCall" 254 (.ref 61)::dE P "Deep" 270 (.ref 73)::dE P "NoShort" 286 (.ref 85)::dE P "BadWord" 302 (.ref 97)::dE P "Twice" 318 (.ref 109)::dE P "NoFoot" 334 (.ref 121)::dE P "NoMark" 350 (.ref 133)::dE P "MOST_WORDS_books" 352 (.int 400 351)::dE P "LONGEST_TEXT" 354 (.int 60 353)::dE P "LETTERS" 358 (sv "abcdefghijklmnopqrstuvwxyz" 357)::dE P "FIGURES" 360 (sv "0123456789" 359)::dE P "LONGEST_NAME" 362 (.int 12 361)::dE P "KINDS" 378 (.ref 136)::dE P "words_in" 384 (.ref 141)::dE P "is_name" 390 (.ref 146)::dE P "figures_of" 397 (.ref 153)::dE P "kind_of" 406 (.ref 160)::dE P "numbers_of" 414 (.ref 165)::dE P "MOST_DEEP" 418 (.int 20 417)::dE P "tree_of" 429 (.ref 173)::dE P "copied" 435 (.ref 178)::dE P "opens_call" 442 (.ref 185)::dE P "with_closed" 452 (.ref 192)::dE P "node_of" 461 (.ref 199)::dE P "looks_like_place" 468 (.ref 206)::dE P "MOST_WORDS_shorts" 472 (.int 400 471)::dE P "MOST_CALLS" 474 (.int 400 473)::dE P "MOST_CALLS_OF_SHORT" 476 (.int 60 475)::dE P "size_of" 486 (.ref 214)::dE P "new_short" 499 (.ref 221)::dE P "put_out" 509 (.ref 228)::dE P "by_name" 515 (.ref 233)::dE P "short_called" 525 (.ref 240)::dE P "size_among" 541 (.ref 247)::dE P "sum_of_rows" 547 (.ref 252)::dE P "words_out" 553 (.ref 257)::dE P "ALONE" 559 (.ref 258)::dE P "HEADS" 563 (.ref 259)::dE P "MOST_FOOT_WORDS" 565 (.int 39 564)::dE P "read_rows" 574 (.ref 266)::dE P "Reader" 662 (.ref 328)::dE P "is_figure" 669 (.ref 339)::dE P "LEAPS" 678 (.ref 340)::dE P "POINTING" 682 (.ref 341)::dE P "set_words" 688 (.ref 346)::dE P "Setter" 817 (.ref 432)::dE P "_law_cell_at" 827 (.ref 443)::dE P "_law_draw" 837 (.ref 450)::dE P "_law_sign_by" 846 (.ref 457)::dE P "_law_is_name" 854 (.ref 464)::dE P "_law_form" 862 (.ref 471)::dE P "_law_name" 868 (.ref 476)::dE P "_law_plain_by" 874 (.ref 481)::dE P "_law_written" 882 (.ref 488)::dE P "_law_word" 896 (.ref 495)::dE P "_law_rows" 909 (.ref 502)::dE P "_law_named" 915 (.ref 507)::dE P "_law_text" 921 (.ref 512)::dE P "_law_titles" 927 (.ref 517)::dE P "_law_stream" 933 (.ref 522)::dE P "_law_heads" 945 (.ref 529)::dE P "_law_padded" 951 (.ref 534)::dE P "_law_refused" 965 (.ref 541)::dE P "_law_refusal" 975 (.ref 548)::dE P "_law_spaced" 988 (.ref 555)::dE P "law" 994 (.ref 560)::[])) 78,#[]⟩) ::
 (nat_lit 15,⟨(.type "tuple"),none,(.seq #[.type "ValueError"]),#[]⟩) ::
 (nat_lit 22,⟨(.type "tuple"),none,(.seq #[]),#[]⟩) ::
 (nat_lit 23,⟨(.type "dict"),none,.dict (HP (dE P "__module__" 196 (sv "trueleaf.errors" 187)::dE P "__firstlineno__" 200 (.int 2 199)::dE P "__static_attributes__" 201 (.ref 22)::dE P "__weakref__" 203 (.ref 25)::dE P "__doc__" 204 (.none)::[])) 3,#[]⟩) ::
 (nat_lit 24,⟨(.type "type"),none,(.cls (PySem.ClassData.mk (os "TrueleafError") [.type "ValueError"] [.ref 24,.type "ValueError",.type "Exception",.type "BaseException",.type "object"] 23 (os "TrueleafError") true [] [.ref 37,.ref 49,.ref 61,.ref 73,.ref 85,.ref 97,.ref 109,.ref 121,.ref 133] false none false)),#[GW (.ref 15),none,GW (sv "TrueleafError" 189),GW (sv "TrueleafError" 197),GW (.builtin "ValueError.__new__"),GW (.bool true)]⟩) ::
 (nat_lit 25,⟨(.type "getset_descriptor"),none,(.fields #[sv "__weakref__" 202,.ref 24,.builtin "ExceptionGroup.__weakref__",.none]),#[]⟩) ::
 (nat_lit 28,⟨(.type "tuple"),none,(.seq #[.ref 24]),#[]⟩) ::
 (nat_lit 35,⟨(.type "tuple"),none,(.seq #[]),#[]⟩) ::
 (nat_lit 36,⟨(.type "dict"),none,.dict (HP (dE P "__module__" 214 (sv "trueleaf.errors" 187)::dE P "__firstlineno__" 218 (.int 4 217)::dE P "__static_attributes__" 219 (.ref 35)::dE P "__doc__" 220 (.none)::[])) 2,#[]⟩) ::
 (nat_lit 37,⟨(.type "type"),none,(.cls (PySem.ClassData.mk (os "BadRow") [.ref 24] [.ref 37,.ref 24,.type "ValueError",.type "Exception",.type "BaseException",.type "object"] 36 (os "BadRow") true [] [] false none false)),#[GW (.ref 28),none,GW (sv "BadRow" 207),GW (sv "BadRow" 215),GW (.builtin "ValueError.__new__"),GW (.bool true)]⟩) ::
 (nat_lit 40,⟨(.type "tuple"),none,(.seq #[.ref 24]),#[]⟩) ::
 (nat_lit 47,⟨(.type "tuple"),none,(.seq #[]),#[]⟩) ::
 (nat_lit 48,⟨(.type "dict"),none,.dict (HP (dE P "__module__" 230 (sv "trueleaf.errors" 187)::dE P "__firstlineno__" 234 (.int 6 233)::dE P "__static_attributes__" 235 (.ref 47)::dE P "__doc__" 236 (.none)::[])) 2,#[]⟩) ::
 (nat_lit 49,⟨(.type "type"),none,(.cls (PySem.ClassData.mk (os "TooLong") [.ref 24] [.ref 49,.ref 24,.type "ValueError",.type "Exception",.type "BaseException",.type "object"] 48 (os "TooLong") true [] [] false none false)),#[GW (.ref 40),none,GW (sv "TooLong" 223),GW (sv "TooLong" 231),GW (.builtin "ValueError.__new__"),GW (.bool true)]⟩) ::
 (nat_lit 52,⟨(.type "tuple"),none,(.seq #[.ref 24]),#[]⟩) ::
 (nat_lit 59,⟨(.type "tuple"),none,(.seq #[]),#[]⟩) ::
 (nat_lit 60,⟨(.type "dict"),none,.dict (HP (dE P "__module__" 246 (sv "trueleaf.errors" 187)::dE P "__firstlineno__" 250 (.int 8 249)::dE P "__static_attributes__" 251 (.ref 59)::dE P "__doc__" 252 (.none)::[])) 2,#[]⟩) ::
 (nat_lit 61,⟨(.type "type"),none,(.cls (PySem.ClassData.mk (os "BadCall") [.ref 24] [.ref 61,.ref 24,.type "ValueError",.type "Exception",.type "BaseException",.type "object"] 60 (os "BadCall") true [] [] false none false)),#[GW (.ref 52),none,GW (sv "BadCall" 239),GW (sv "BadCall" 247),GW (.builtin "ValueError.__new__"),GW (.bool true)]⟩) ::
 (nat_lit 64,⟨(.type "tuple"),none,(.seq #[.ref 24]),#[]⟩) ::
 (nat_lit 71,⟨(.type "tuple"),none,(.seq #[]),#[]⟩) ::
 (nat_lit 72,⟨(.type "dict"),none,.dict (HP (dE P "__module__" 262 (sv "trueleaf.errors" 187)::dE P "__firstlineno__" 266 (.int 10 265)::dE P "__static_attributes__" 267 (.ref 71)::dE P "__doc__" 268 (.none)::[])) 2,#[]⟩) ::
 (nat_lit 73,⟨(.type "type"),none,(.cls (PySem.ClassData.mk (os "Deep") [.ref 24] [.ref 73,.ref 24,.type "ValueError",.type "Exception",.type "BaseException",.type "object"] 72 (os "Deep") true [] [] false none false)),#[GW (.ref 64),none,GW (sv "Deep" 255),GW (sv "Deep" 263),GW (.builtin "ValueError.__new__"),GW (.bool true)]⟩) ::
 (nat_lit 76,⟨(.type "tuple"),none,(.seq #[.ref 24]),#[]⟩) ::
 (nat_lit 83,⟨(.type "tuple"),none,(.seq #[]),#[]⟩) ::
 (nat_lit 84,⟨(.type "dict"),none,.dict (HP (dE P "__module__" 278 (sv "trueleaf.errors" 187)::dE P "__firstlineno__" 282 (.int 12 281)::dE P "__static_attributes__" 283 (.ref 83)::dE P "__doc__" 284 (.none)::[])) 2,#[]⟩) ::
 (nat_lit 85,⟨(.type "type"),none,(.cls (PySem.ClassData.mk (os "NoShort") [.ref 24] [.ref 85,.ref 24,.type "ValueError",.type "Exception",.type "BaseException",.type "object"] 84 (os "NoShort") true [] [] false none false)),#[GW (.ref 76),none,GW (sv "NoShort" 271),GW (sv "NoShort" 279),GW (.builtin "ValueError.__new__"),GW (.bool true)]⟩) ::
 (nat_lit 88,⟨(.type "tuple"),none,(.seq #[.ref 24]),#[]⟩) ::
 (nat_lit 95,⟨(.type "tuple"),none,(.seq #[]),#[]⟩) ::
 (nat_lit 96,⟨(.type "dict"),none,.dict (HP (dE P "__module__" 294 (sv "trueleaf.errors" 187)::dE P "__firstlineno__" 298 (.int 14 297)::dE P "__static_attributes__" 299 (.ref 95)::dE P "__doc__" 300 (.none)::[])) 2,#[]⟩) ::
 (nat_lit 97,⟨(.type "type"),none,(.cls (PySem.ClassData.mk (os "BadWord") [.ref 24] [.ref 97,.ref 24,.type "ValueError",.type "Exception",.type "BaseException",.type "object"] 96 (os "BadWord") true [] [] false none false)),#[GW (.ref 88),none,GW (sv "BadWord" 287),GW (sv "BadWord" 295),GW (.builtin "ValueError.__new__"),GW (.bool true)]⟩) ::
 (nat_lit 100,⟨(.type "tuple"),none,(.seq #[.ref 24]),#[]⟩) ::
 (nat_lit 107,⟨(.type "tuple"),none,(.seq #[]),#[]⟩) ::
 (nat_lit 108,⟨(.type "dict"),none,.dict (HP (dE P "__module__" 310 (sv "trueleaf.errors" 187)::dE P "__firstlineno__" 314 (.int 16 313)::dE P "__static_attributes__" 315 (.ref 107)::dE P "__doc__" 316 (.none)::[])) 2,#[]⟩) ::
 (nat_lit 109,⟨(.type "type"),none,(.cls (PySem.ClassData.mk (os "Twice") [.ref 24] [.ref 109,.ref 24,.type "ValueError",.type "Exception",.type "BaseException",.type "object"] 108 (os "Twice") true [] [] false none false)),#[GW (.ref 100),none,GW (sv "Twice" 303),GW (sv "Twice" 311),GW (.builtin "ValueError.__new__"),GW (.bool true)]⟩) ::
 (nat_lit 112,⟨(.type "tuple"),none,(.seq #[.ref 24]),#[]⟩) ::
 (nat_lit 119,⟨(.type "tuple"),none,(.seq #[]),#[]⟩) ::
 (nat_lit 120,⟨(.type "dict"),none,.dict (HP (dE P "__module__" 326 (sv "trueleaf.errors" 187)::dE P "__firstlineno__" 330 (.int 18 329)::dE P "__static_attributes__" 331 (.ref 119)::dE P "__doc__" 332 (.none)::[])) 2,#[]⟩) ::
 (nat_lit 121,⟨(.type "type"),none,(.cls (PySem.ClassData.mk (os "NoFoot") [.ref 24] [.ref 121,.ref 24,.type "ValueError",.type "Exception",.type "BaseException",.type "object"] 120 (os "NoFoot") true [] [] false none false)),#[GW (.ref 112),none,GW (sv "NoFoot" 319),GW (sv "NoFoot" 327),GW (.builtin "ValueError.__new__"),GW (.bool true)]⟩) ::
 (nat_lit 124,⟨(.type "tuple"),none,(.seq #[.ref 24]),#[]⟩) ::
 (nat_lit 131,⟨(.type "tuple"),none,(.seq #[]),#[]⟩) ::
 (nat_lit 132,⟨(.type "dict"),none,.dict (HP (dE P "__module__" 342 (sv "trueleaf.errors" 187)::dE P "__firstlineno__" 346 (.int 20 345)::dE P "__static_attributes__" 347 (.ref 131)::dE P "__doc__" 348 (.none)::[])) 2,#[]⟩) ::
 (nat_lit 133,⟨(.type "type"),none,(.cls (PySem.ClassData.mk (os "NoMark") [.ref 24] [.ref 133,.ref 24,.type "ValueError",.type "Exception",.type "BaseException",.type "object"] 132 (os "NoMark") true [] [] false none false)),#[GW (.ref 124),none,GW (sv "NoMark" 335),GW (sv "NoMark" 343),GW (.builtin "ValueError.__new__"),GW (.bool true)]⟩) ::
 (nat_lit 136,⟨(.type "dict"),none,.dict (HP (dE P "#" 363 (sv "mark" 364)::dE P "@" 365 (sv "number" 366)::dE P "&" 367 (sv "page" 368)::dE P "^" 369 (sv "row" 370)::dE P "~" 371 (sv "foot" 372)::[])) 5,#[]⟩) ::
 (nat_lit 140,cV "words_in" "words_in" 379 380 381 29 1 3 137 181 138 .none .none .none (.ref 139) 382 29 383) ::
 (nat_lit 141,fO "words_in" 18 (.none) "trueleaf.signs" 355 140) ::
 (nat_lit 145,cV "is_name" "is_name" 385 386 387 31 1 3 142 181 143 .none .none .none (.ref 144) 388 31 389) ::
 (nat_lit 146,fO "is_name" 19 (.none) "trueleaf.signs" 355 145) ::
 (nat_lit 152,cV "figures_of" "figures_of" 391 392 393 35 1 3 147 181 148 .none (.ref 149) (.ref 150) (.ref 151) 395 35 396) ::
 (nat_lit 153,fO "figures_of" 20 (.none) "trueleaf.signs" 355 152) ::
 (nat_lit 159,cV "kind_of" "kind_of" 398 399 400 37 1 3 154 181 155 .none (.ref 156) (.ref 157) (.ref 158) 404 37 405) ::
 (nat_lit 160,fO "kind_of" 21 (.none) "trueleaf.signs" 355 159) ::
 (nat_lit 164,cV "numbers_of" "numbers_of" 409 410 411 46 1 3 161 181 162 .none .none .none (.ref 163) 412 46 413) ::
 (nat_lit 165,fO "numbers_of" 23 (.none) "trueleaf.heads" 407 164) ::
 (nat_lit 166,⟨(.type "tuple"),none,(.seq #[.none]),#[]⟩) ::
 (nat_lit 172,cV "tree_of" "tree_of" 419 420 421 55 2 3 167 181 168 .none (.ref 169) (.ref 170) (.ref 171) 427 55 428) ::
 (nat_lit 173,fO "tree_of" 26 (.ref 166) "trueleaf.trees" 415 172) ::
 (nat_lit 177,cV "copied" "copied" 430 431 432 74 1 3 174 181 175 .none .none .none (.ref 176) 433 74 434) ::
 (nat_lit 178,fO "copied" 27 (.none) "trueleaf.trees" 415 177) ::
 (nat_lit 184,cV "opens_call" "opens_call" 436 437 438 82 1 3 179 181 180 .none (.ref 181) (.ref 182) (.ref 183) 440 82 441) ::
 (nat_lit 185,fO "opens_call" 28 (.none) "trueleaf.trees" 415 184) ::
 (nat_lit 191,cV "with_closed" "with_closed" 443 444 445 84 2 3 186 181 187 .none (.ref 188) (.ref 189) (.ref 190) 450 84 451) ::
 (nat_lit 192,fO "with_closed" 29 (.none) "trueleaf.trees" 415 191) ::
 (nat_lit 198,cV "node_of" "node_of" 453 454 455 91 2 3 193 181 194 .none (.ref 195) (.ref 196) (.ref 197) 459 91 460) ::
 (nat_lit 199,fO "node_of" 30 (.none) "trueleaf.trees" 415 198) ::
 (nat_lit 205,cV "looks_like_place" "looks_like_place" 462 463 464 98 1 3 200 181 201 .none (.ref 202) (.ref 203) (.ref 204) 466 98 467) ::
 (nat_lit 206,fO "looks_like_place" 31 (.none) "trueleaf.trees" 415 205) ::
 (nat_lit 207,⟨(.type "tuple"),none,(.seq #[.int 0 477]),#[]⟩) ::
 (nat_lit 213,cV "size_of" "size_of" 478 479 480 104 3 3 208 181 209 .none (.ref 210) (.ref 211) (.ref 212) 484 104 485) ::
 (nat_lit 214,fO "size_of" 36 (.ref 207) "trueleaf.shorts" 469 213) ::
 (nat_lit 220,cV "new_short" "new_short" 487 488 489 106 4 3 215 181 216 .none (.ref 217) (.ref 218) (.ref 219) 497 106 498) ::
 (nat_lit 221,fO "new_short" 37 (.none) "trueleaf.shorts" 469 220) ::
 (nat_lit 227,cV "put_out" "put_out" 500 501 502 115 2 3 222 181 223 .none (.ref 224) (.ref 225) (.ref 226) 507 115 508) ::
 (nat_lit 228,fO "put_out" 38 (.none) "trueleaf.shorts" 469 227) ::
 (nat_lit 232,cV "by_name" "by_name" 510 511 512 121 1 3 229 181 230 .none .none .none (.ref 231) 513 121 514) ::
 (nat_lit 233,fO "by_name" 39 (.none) "trueleaf.shorts" 469 232) ::
 (nat_lit 239,cV "short_called" "short_called" 516 517 518 123 2 3 234 181 235 .none (.ref 236) (.ref 237) (.ref 238) 523 123 524) ::
 (nat_lit 240,fO "short_called" 40 (.none) "trueleaf.shorts" 469 239) ::
 (nat_lit 246,cV "size_among" "size_among" 526 527 528 131 3 3 241 181 242 .none (.ref 243) (.ref 244) (.ref 245) 539 131 540) ::
 (nat_lit 247,fO "size_among" 41 (.none) "trueleaf.shorts" 469 246) ::
 (nat_lit 251,cV "sum_of_rows" "sum_of_rows" 542 543 544 148 3 3 248 181 249 .none .none .none (.ref 250) 545 148 546) ::
 (nat_lit 252,fO "sum_of_rows" 42 (.none) "trueleaf.shorts" 469 251) ::
 (nat_lit 256,cV "words_out" "words_out" 548 549 550 150 3 3 253 181 254 .none .none .none (.ref 255) 551 150 552) ::
 (nat_lit 257,fO "words_out" 43 (.none) "trueleaf.shorts" 469 256) ::
 (nat_lit 258,⟨(.type "tuple"),none,(.seq #[sv ".page" 556,sv ".odd" 557,sv ".list" 558]),#[]⟩) ::
 (nat_lit 259,⟨(.type "tuple"),none,(.seq #[sv "=" 560,sv "==" 561,sv "===" 562]),#[]⟩) ::
 (nat_lit 265,cV "read_rows" "read_rows" 566 567 568 165 1 3 260 181 261 .none (.ref 262) (.ref 263) (.ref 264) 572 165 573) ::
 (nat_lit 266,fO "read_rows" 48 (.none) "trueleaf.reading" 554 265) ::
 (nat_lit 279,cV "__init__" "Reader.__init__" 587 588 589 172 1 3 274 181 275 .none (.ref 276) (.ref 277) (.ref 278) 591 172 592) ::
 (nat_lit 280,fM "__init__" "Reader.__init__" (bx 49 0) (.none) "trueleaf.reading" 554 279) ::
 (nat_lit 286,cV "read_row" "Reader.read_row" 594 595 596 178 2 3 281 181 282 .none (.ref 283) (.ref 284) (.ref 285) 600 178 601) ::
 (nat_lit 287,fM "read_row" "Reader.read_row" (bx 49 1) (.none) "trueleaf.reading" 554 286) ::
 (nat_lit 291,cV "read_let" "Reader.read_let" 603 604 605 196 2 3 288 181 289 .none .none .none (.ref 290) 606 196 607) ::
 (nat_lit 292,fM "read_let" "Reader.read_let" (bx 49 2) (.none) "trueleaf.reading" 554 291) ::
 (nat_lit 298,cV "read_foot" "Reader.read_foot" 609 610 611 205 2 3 293 181 294 .none (.ref 295) (.ref 296) (.ref 297) 616 205 617) ::
 (nat_lit 299,fM "read_foot" "Reader.read_foot" (bx 49 3) (.none) "trueleaf.reading" 554 298) ::
 (nat_lit 305,cV "read_alone" "Reader.read_alone" 619 620 621 216 2 3 300 181 301 .none (.ref 302) (.ref 303) (.ref 304) 625 216 626) ::
 (nat_lit 306,fM "read_alone" "Reader.read_alone" (bx 49 4) (.none) "trueleaf.reading" 554 305) ::
 (nat_lit 312,cV "read_words" "Reader.read_words" 628 629 630 222 2 3 307 181 308 .none (.ref 309) (.ref 310) (.ref 311) 634 222 635) ::
 (nat_lit 313,fM "read_words" "Reader.read_words" (bx 49 5) (.none) "trueleaf.reading" 554 312) ::
 (nat_lit 319,cV "add_thing" "Reader.add_thing" 637 638 639 230 2 3 314 181 315 .none (.ref 316) (.ref 317) (.ref 318) 642 230 643) ::
 (nat_lit 320,fM "add_thing" "Reader.add_thing" (bx 49 6) (.none) "trueleaf.reading" 554 319) ::
 (nat_lit 324,cV "words_out" "Reader.words_out" 645 646 647 234 3 3 321 181 322 .none .none .none (.ref 323) 648 234 649) ::
 (nat_lit 325,fM "words_out" "Reader.words_out" (bx 49 7) (.none) "trueleaf.reading" 554 324) ::
 (nat_lit 326,⟨(.type "tuple"),none,(.seq #[sv "feet" 651,sv "going_on" 652,sv "shorts" 653,sv "things" 654]),#[]⟩) ::
 (nat_lit 327,⟨(.type "dict"),none,.dict (HP (dE P "__module__" 582 (sv "trueleaf.reading" 554)::dE P "__firstlineno__" 586 (.int 170 585)::dE P "__init__" 593 (.ref 280)::dE P "read_row" 602 (.ref 287)::dE P "read_let" 608 (.ref 292)::dE P "read_foot" 618 (.ref 299)::dE P "read_alone" 627 (.ref 306)::dE P "read_words" 636 (.ref 313)::dE P "add_thing" 644 (.ref 320)::dE P "words_out" 650 (.ref 325)::dE P "__static_attributes__" 655 (.ref 326)::dE P "__dict__" 657 (.ref 329)::dE P "__weakref__" 659 (.ref 330)::dE P "__doc__" 660 (.none)::[])) 4,#[]⟩) ::
 (nat_lit 328,⟨(.type "type"),none,(.cls (PySem.ClassData.mk (os "Reader") [.type "object"] [.ref 328,.type "object"] 327 (os "Reader") true [] [] false none false)),#[none,none,GW (sv "Reader" 575),GW (sv "Reader" 583),GW (.builtin "object.__new__"),GW (.bool true)]⟩) ::
 (nat_lit 329,⟨(.type "getset_descriptor"),none,(.fields #[sv "__dict__" 656,.ref 328,.builtin "function.__dict__",.builtin "function.__dict__#set"]),#[]⟩) ::
 (nat_lit 330,⟨(.type "getset_descriptor"),none,(.fields #[sv "__weakref__" 658,.ref 328,.builtin "ExceptionGroup.__weakref__",.none]),#[]⟩) ::
 (nat_lit 338,cV "is_figure" "is_figure" 663 664 665 242 1 3 333 181 334 .none (.ref 335) (.ref 336) (.ref 337) 667 242 668) ::
 (nat_lit 339,fO "is_figure" 50 (.none) "trueleaf.reading" 554 338) ::
 (nat_lit 340,⟨(.type "dict"),none,.dict (HP (dE P "page" 672 (.int 3 673)::dE P "odd" 674 (.int 4 675)::[])) 2,#[]⟩) ::
 (nat_lit 341,⟨(.type "tuple"),none,(.seq #[sv "number" 679,sv "page" 680,sv "row" 681]),#[]⟩) ::
 (nat_lit 345,cV "set_words" "set_words" 683 684 685 247 2 3 342 181 343 .none .none .none (.ref 344) 686 247 687) ::
 (nat_lit 346,fO "set_words" 54 (.none) "trueleaf.setting" 670 345) ::
 (nat_lit 357,cV "__init__" "Setter.__init__" 701 702 703 257 3 3 354 181 355 .none .none .none (.ref 356) 704 257 705) ::
 (nat_lit 358,fM "__init__" "Setter.__init__" (bx 55 0) (.none) "trueleaf.setting" 670 357) ::
 (nat_lit 364,cV "set_thing" "Setter.set_thing" 707 708 709 268 2 3 359 181 360 .none (.ref 361) (.ref 362) (.ref 363) 713 268 714) ::
 (nat_lit 365,fM "set_thing" "Setter.set_thing" (bx 55 1) (.none) "trueleaf.setting" 670 364) ::
 (nat_lit 371,cV "set_head" "Setter.set_head" 716 717 718 281 2 3 366 181 367 .none (.ref 368) (.ref 369) (.ref 370) 722 281 723) ::
 (nat_lit 372,fM "set_head" "Setter.set_head" (bx 55 2) (.none) "trueleaf.setting" 670 371) ::
 (nat_lit 376,cV "set_list" "Setter.set_list" 725 726 727 286 1 3 373 181 374 .none .none .none (.ref 375) 728 286 729) ::
 (nat_lit 377,fM "set_list" "Setter.set_list" (bx 55 3) (.none) "trueleaf.setting" 670 376) ::
 (nat_lit 383,cV "set_run" "Setter.set_run" 731 732 733 293 4 3 378 181 379 .none (.ref 380) (.ref 381) (.ref 382) 739 293 740) ::
 (nat_lit 384,fM "set_run" "Setter.set_run" (bx 55 4) (.none) "trueleaf.setting" 670 383) ::
 (nat_lit 390,cV "set_mark" "Setter.set_mark" 742 743 744 302 2 3 385 181 386 .none (.ref 387) (.ref 388) (.ref 389) 747 302 748) ::
 (nat_lit 391,fM "set_mark" "Setter.set_mark" (bx 55 5) (.none) "trueleaf.setting" 670 390) ::
 (nat_lit 397,cV "set_word" "Setter.set_word" 750 751 752 307 3 3 392 181 393 .none (.ref 394) (.ref 395) (.ref 396) 757 307 758) ::
 (nat_lit 398,fM "set_word" "Setter.set_word" (bx 55 6) (.none) "trueleaf.setting" 670 397) ::
 (nat_lit 404,cV "next_foot" "Setter.next_foot" 760 761 762 319 2 3 399 181 400 .none (.ref 401) (.ref 402) (.ref 403) 765 319 766) ::
 (nat_lit 405,fM "next_foot" "Setter.next_foot" (bx 55 7) (.none) "trueleaf.setting" 670 404) ::
 (nat_lit 409,cV "check_marks" "Setter.check_marks" 768 769 770 325 1 3 406 181 407 .none .none .none (.ref 408) 771 325 772) ::
 (nat_lit 410,fM "check_marks" "Setter.check_marks" (bx 55 8) (.none) "trueleaf.setting" 670 409) ::
 (nat_lit 414,cV "words_told" "Setter.words_told" 774 775 776 336 1 3 411 181 412 .none .none .none (.ref 413) 777 336 778) ::
 (nat_lit 415,fM "words_told" "Setter.words_told" (bx 55 9) (.none) "trueleaf.setting" 670 414) ::
 (nat_lit 421,cV "saying_of" "Setter.saying_of" 780 781 782 342 2 3 416 181 417 .none (.ref 418) (.ref 419) (.ref 420) 787 342 788) ::
 (nat_lit 422,fM "saying_of" "Setter.saying_of" (bx 55 10) (.none) "trueleaf.setting" 670 421) ::
 (nat_lit 428,cV "number_at" "Setter.number_at" 790 791 792 353 2 3 423 181 424 .none (.ref 425) (.ref 426) (.ref 427) 798 353 799) ::
 (nat_lit 429,fM "number_at" "Setter.number_at" (bx 55 11) (.none) "trueleaf.setting" 670 428) ::
 (nat_lit 430,⟨(.type "tuple"),none,(.seq #[sv "behind_head" 801,sv "feet" 802,sv "feet_set" 803,sv "heads" 804,sv "leap" 805,sv "marks" 806,sv "numbers" 807,sv "titles" 808,sv "words" 809]),#[]⟩) ::
 (nat_lit 431,⟨(.type "dict"),none,.dict (HP (dE P "__module__" 696 (sv "trueleaf.setting" 670)::dE P "__firstlineno__" 700 (.int 255 699)::dE P "__init__" 706 (.ref 358)::dE P "set_thing" 715 (.ref 365)::dE P "set_head" 724 (.ref 372)::dE P "set_list" 730 (.ref 377)::dE P "set_run" 741 (.ref 384)::dE P "set_mark" 749 (.ref 391)::dE P "set_word" 759 (.ref 398)::dE P "next_foot" 767 (.ref 405)::dE P "check_marks" 773 (.ref 410)::dE P "words_told" 779 (.ref 415)::dE P "saying_of" 789 (.ref 422)::dE P "number_at" 800 (.ref 429)::dE P "__static_attributes__" 810 (.ref 430)::dE P "__dict__" 812 (.ref 433)::dE P "__weakref__" 814 (.ref 434)::dE P "__doc__" 815 (.none)::[])) 4,#[]⟩) ::
 (nat_lit 432,⟨(.type "type"),none,(.cls (PySem.ClassData.mk (os "Setter") [.type "object"] [.ref 432,.type "object"] 431 (os "Setter") true [] [] false none false)),#[none,none,GW (sv "Setter" 689),GW (sv "Setter" 697),GW (.builtin "object.__new__"),GW (.bool true)]⟩) ::
 (nat_lit 433,⟨(.type "getset_descriptor"),none,(.fields #[sv "__dict__" 811,.ref 432,.builtin "function.__dict__",.builtin "function.__dict__#set"]),#[]⟩) ::
 (nat_lit 434,⟨(.type "getset_descriptor"),none,(.fields #[sv "__weakref__" 813,.ref 432,.builtin "ExceptionGroup.__weakref__",.none]),#[]⟩) ::
 (nat_lit 442,cV "_law_cell_at" "_law_cell_at" 820 821 822 360 2 3 437 181 438 .none (.ref 439) (.ref 440) (.ref 441) 825 360 826) ::
 (nat_lit 443,fO "_law_cell_at" 57 (.none) "law_trueleaf_k63_setting_refused" 818 442) ::
 (nat_lit 449,cV "_law_draw" "_law_draw" 828 829 830 364 3 3 444 181 445 .none (.ref 446) (.ref 447) (.ref 448) 835 364 836) ::
 (nat_lit 450,fO "_law_draw" 58 (.none) "law_trueleaf_k63_setting_refused" 818 449) ::
 (nat_lit 456,cV "_law_sign_by" "_law_sign_by" 838 839 840 367 2 3 451 181 452 .none (.ref 453) (.ref 454) (.ref 455) 844 367 845) ::
 (nat_lit 457,fO "_law_sign_by" 59 (.none) "law_trueleaf_k63_setting_refused" 818 456) ::
 (nat_lit 463,cV "_law_is_name" "_law_is_name" 847 848 849 370 1 3 458 181 459 .none (.ref 460) (.ref 461) (.ref 462) 852 370 853) ::
 (nat_lit 464,fO "_law_is_name" 60 (.none) "law_trueleaf_k63_setting_refused" 818 463) ::
 (nat_lit 470,cV "_law_form" "_law_form" 855 856 857 377 1 3 465 181 466 .none (.ref 467) (.ref 468) (.ref 469) 860 377 861) ::
 (nat_lit 471,fO "_law_form" 61 (.none) "law_trueleaf_k63_setting_refused" 818 470) ::
 (nat_lit 475,cV "_law_name" "_law_name" 863 864 865 380 2 3 472 181 473 .none .none .none (.ref 474) 866 380 867) ::
 (nat_lit 476,fO "_law_name" 62 (.none) "law_trueleaf_k63_setting_refused" 818 475) ::
 (nat_lit 480,cV "_law_plain_by" "_law_plain_by" 869 870 871 386 1 3 477 181 478 .none .none .none (.ref 479) 872 386 873) ::
 (nat_lit 481,fO "_law_plain_by" 63 (.none) "law_trueleaf_k63_setting_refused" 818 480) ::
 (nat_lit 487,cV "_law_written" "_law_written" 875 876 877 391 2 3 482 181 483 .none (.ref 484) (.ref 485) (.ref 486) 880 391 881) ::
 (nat_lit 488,fO "_law_written" 64 (.none) "law_trueleaf_k63_setting_refused" 818 487) ::
 (nat_lit 494,cV "_law_word" "_law_word" 883 884 885 397 6 3 489 181 490 .none (.ref 491) (.ref 492) (.ref 493) 894 397 895) ::
 (nat_lit 495,fO "_law_word" 65 (.none) "law_trueleaf_k63_setting_refused" 818 494) ::
 (nat_lit 501,cV "_law_rows" "_law_rows" 897 898 899 413 3 3 496 181 497 .none (.ref 498) (.ref 499) (.ref 500) 907 413 908) ::
 (nat_lit 502,fO "_law_rows" 66 (.none) "law_trueleaf_k63_setting_refused" 818 501) ::
 (nat_lit 506,cV "_law_named" "_law_named" 910 911 912 429 2 3 503 181 504 .none .none .none (.ref 505) 913 429 914) ::
 (nat_lit 507,fO "_law_named" 67 (.none) "law_trueleaf_k63_setting_refused" 818 506) ::
 (nat_lit 511,cV "_law_text" "_law_text" 916 917 918 448 3 3 508 181 509 .none .none .none (.ref 510) 919 448 920) ::
 (nat_lit 512,fO "_law_text" 68 (.none) "law_trueleaf_k63_setting_refused" 818 511) ::
 (nat_lit 516,cV "_law_titles" "_law_titles" 922 923 924 455 1 3 513 181 514 .none .none .none (.ref 515) 925 455 926) ::
 (nat_lit 517,fO "_law_titles" 69 (.none) "law_trueleaf_k63_setting_refused" 818 516) ::
 (nat_lit 521,cV "_law_stream" "_law_stream" 928 929 930 466 2 3 518 181 519 .none .none .none (.ref 520) 931 466 932) ::
 (nat_lit 522,fO "_law_stream" 70 (.none) "law_trueleaf_k63_setting_refused" 818 521) ::
 (nat_lit 533,cV "_law_padded" "_law_padded" 946 947 948 491 2 3 530 181 531 .none .none .none (.ref 532) 949 491 950) ::
 (nat_lit 534,fO "_law_padded" 72 (.none) "law_trueleaf_k63_setting_refused" 818 533) ::
 (nat_lit 540,cV "_law_refused" "_law_refused" 952 953 954 504 2 3 535 181 536 .none (.ref 537) (.ref 538) (.ref 539) 963 504 964) ::
 (nat_lit 541,fO "_law_refused" 73 (.none) "law_trueleaf_k63_setting_refused" 818 540) ::
 (nat_lit 547,cV "_law_refusal" "_law_refusal" 966 967 968 529 2 3 542 181 543 .none (.ref 544) (.ref 545) (.ref 546) 973 529 974) ::
 (nat_lit 548,fO "_law_refusal" 74 (.none) "law_trueleaf_k63_setting_refused" 818 547) ::
 (nat_lit 554,cV "_law_spaced" "_law_spaced" 976 977 978 538 2 3 549 181 550 .none (.ref 551) (.ref 552) (.ref 553) 986 538 987) ::
 (nat_lit 555,fO "_law_spaced" 75 (.none) "law_trueleaf_k63_setting_refused" 818 554) ::
 (nat_lit 559,cV "law" "law" 989 990 991 547 1 3 556 181 557 .none .none .none (.ref 558) 992 547 993) ::
 (nat_lit 560,fO "law" 76 (.none) "law_trueleaf_k63_setting_refused" 818 559)::[]
noncomputable def vw:HB:={ PySem.Challenge.pw_trueleaf_k63_setting_refused with main:={ PySem.Challenge.pw_trueleaf_k63_setting_refused.main with body:=top 1::top 2::top 3::top 4::top 5::top 6::top 7::top 8::top 9::top 10::top 11::top 12::top 14::top 15::top 16::top 17::top 18::top 19::top 20::top 21::top 23::top 25::top 27::top 28::top 29::top 30::top 31::top 33::top 34::top 35::top 37::top 38::top 39::top 40::top 41::top 42::top 43::top 45::top 46::top 47::top 48::top 49::top 50::top 52::top 53::top 54::top 55::top 57::top 58::top 59::top 60::top 61::top 62::top 63::top 64::top 65::top 66::top 67::top 68::top 69::top 70::top 71::top 72::top 73::top 74::top 75::top 76::[] } }
noncomputable abbrev ls:List Str:=[os "KINDS",os "tree_of",os "size_of",os "LEAPS"]
noncomputable abbrev hk:Hook:=kHook kk (nat_lit 2::nat_lit 3::nat_lit 15::nat_lit 22::nat_lit 23::nat_lit 24::nat_lit 25::nat_lit 28::nat_lit 35::nat_lit 36::nat_lit 37::nat_lit 40::nat_lit 47::nat_lit 48::nat_lit 49::nat_lit 52::nat_lit 59::nat_lit 60::nat_lit 61::nat_lit 64::nat_lit 71::nat_lit 72::nat_lit 73::nat_lit 76::nat_lit 83::nat_lit 84::nat_lit 85::nat_lit 88::nat_lit 95::nat_lit 96::nat_lit 97::nat_lit 100::nat_lit 107::nat_lit 108::nat_lit 109::nat_lit 112::nat_lit 119::nat_lit 120::nat_lit 121::nat_lit 124::nat_lit 131::nat_lit 132::nat_lit 133::nat_lit 136::nat_lit 140::nat_lit 141::nat_lit 145::nat_lit 146::nat_lit 152::nat_lit 153::nat_lit 159::nat_lit 160::nat_lit 164::nat_lit 165::nat_lit 166::nat_lit 172::nat_lit 173::nat_lit 177::nat_lit 178::nat_lit 184::nat_lit 185::nat_lit 191::nat_lit 192::nat_lit 198::nat_lit 199::nat_lit 205::nat_lit 206::nat_lit 207::nat_lit 213::nat_lit 214::nat_lit 220::nat_lit 221::nat_lit 227::nat_lit 228::nat_lit 232::nat_lit 233::nat_lit 239::nat_lit 240::nat_lit 246::nat_lit 247::nat_lit 251::nat_lit 252::nat_lit 256::nat_lit 257::nat_lit 258::nat_lit 259::nat_lit 265::nat_lit 266::nat_lit 279::nat_lit 280::nat_lit 286::nat_lit 287::nat_lit 291::nat_lit 292::nat_lit 298::nat_lit 299::nat_lit 305::nat_lit 306::nat_lit 312::nat_lit 313::nat_lit 319::nat_lit 320::nat_lit 324::nat_lit 325::nat_lit 326::nat_lit 327::nat_lit 328::nat_lit 329::nat_lit 330::nat_lit 338::nat_lit 339::nat_lit 340::nat_lit 341::nat_lit 345::nat_lit 346::nat_lit 357::nat_lit 358::nat_lit 364::nat_lit 365::nat_lit 371::nat_lit 372::nat_lit 376::nat_lit 377::nat_lit 383::nat_lit 384::nat_lit 390::nat_lit 391::nat_lit 397::nat_lit 398::nat_lit 404::nat_lit 405::nat_lit 409::nat_lit 410::nat_lit 414::nat_lit 415::nat_lit 421::nat_lit 422::nat_lit 428::nat_lit 429::nat_lit 430::nat_lit 431::nat_lit 432::nat_lit 433::nat_lit 434::nat_lit 442::nat_lit 443::nat_lit 449::nat_lit 450::nat_lit 456::nat_lit 457::nat_lit 463::nat_lit 464::nat_lit 470::nat_lit 471::nat_lit 475::nat_lit 476::nat_lit 480::nat_lit 481::nat_lit 487::nat_lit 488::nat_lit 494::nat_lit 495::nat_lit 501::nat_lit 502::nat_lit 506::nat_lit 507::nat_lit 511::nat_lit 512::nat_lit 516::nat_lit 517::nat_lit 521::nat_lit 522::nat_lit 533::nat_lit 534::nat_lit 540::nat_lit 541::nat_lit 547::nat_lit 548::nat_lit 554::nat_lit 555::nat_lit 559::nat_lit 560::[]) (λ_=>by kernel_rfl)
noncomputable abbrev rr:RowW:=OpenRow.toRowW (OpenLaw.row PySem.Challenge.rw_trueleaf_k63_setting_refused)
noncomputable abbrev xt:GY->Bool:=λs=>xlAt vw [] s&&recOk (RowW.records rr) s
noncomputable def Ep:List (Addr×Obj)->Nat->Obj
 |[],_=>⟨.none,none,.fields #[],#[]⟩
 |x::_,0=>x.2
 |_::t,n+1=>Ep t n
noncomputable abbrev aq(P:HR)(i:Nat):Obj:=Ep (kk P) i
noncomputable def Fy(P:HR)(t:List Ic):List Ic:=dE P "__name__" 165 (sv "trueleaf.errors" 187)::dE P "__doc__" 166 (.none)::dE P "__package__" 167 (.none)::dE P "__loader__" 168 (.builtin "__main__.__loader__#opaque")::dE P "__spec__" 169 (.none)::dE P "__annotations__" 170 (.ref 6)::dE P "__builtins__" 171 (.ref 4)::dE P "__file__" 173 (sv "/claim/cut.py" 172)::t
noncomputable def Fz(P:HR)(t:List Ic):List Ic:=dE P "__cached__" 174 (.none)::dE P "TrueleafError" 206 (.ref 24)::dE P "BadRow" 222 (.ref 37)::dE P "TooLong" 238 (.ref 49)::dE P "BadCall" 254 (.ref 61)::dE P "Deep" 270 (.ref 73)::dE P "NoShort" 286 (.ref 85)::t
noncomputable def Er(P:HR):Obj:=⟨(.type "dict"),none,.dict (HP (Fy P (Fz P []))) 15,#[]⟩
noncomputable def FA(P:HR)(t:List Ic):List Ic:=dE P "__name__" 165 (sv "trueleaf.trees" 415)::dE P "__doc__" 166 (.none)::dE P "__package__" 167 (.none)::dE P "__loader__" 168 (.builtin "__main__.__loader__#opaque")::dE P "__spec__" 169 (.none)::dE P "__annotations__" 170 (.ref 6)::dE P "__builtins__" 171 (.ref 4)::dE P "__file__" 173 (sv "/claim/cut.py" 172)::t
noncomputable def Dc(P:HR)(t:List Ic):List Ic:=dE P "__cached__" 174 (.none)::dE P "TrueleafError" 206 (.ref 24)::dE P "BadRow" 222 (.ref 37)::dE P "TooLong" 238 (.ref 49)::dE P "BadCall" 254 (.ref 61)::dE P "Deep" 270 (.ref 73)::dE P "NoShort" 286 (.ref 85)::dE P "BadWord" 302 (.ref 97)::t
noncomputable def Dd(P:HR)(t:List Ic):List Ic:=dE P "Twice" 318 (.ref 109)::dE P "NoFoot" 334 (.ref 121)::dE P "NoMark" 350 (.ref 133)::dE P "MOST_WORDS_books" 352 (.int 400 351)::dE P "LONGEST_TEXT" 354 (.int 60 353)::dE P "LETTERS" 358 (sv "abcdefghijklmnopqrstuvwxyz" 357)::dE P "FIGURES" 360 (sv "0123456789" 359)::dE P "LONGEST_NAME" 362 (.int 12 361)::t
noncomputable def Dg(P:HR)(t:List Ic):List Ic:=dE P "KINDS" 378 (.ref 136)::dE P "words_in" 384 (.ref 141)::dE P "is_name" 390 (.ref 146)::dE P "figures_of" 397 (.ref 153)::dE P "kind_of" 406 (.ref 160)::dE P "numbers_of" 414 (.ref 165)::dE P "MOST_DEEP" 418 (.int 20 417)::dE P "tree_of" 429 (.ref 173)::t
noncomputable def Es(P:HR):Obj:=⟨(.type "dict"),none,.dict (HP (FA P (Dc P (Dd P (Dg P []))))) 32,#[]⟩
noncomputable def FB(P:HR)(t:List Ic):List Ic:=dE P "__name__" 165 (sv "trueleaf.setting" 670)::dE P "__doc__" 166 (.none)::dE P "__package__" 167 (.none)::dE P "__loader__" 168 (.builtin "__main__.__loader__#opaque")::dE P "__spec__" 169 (.none)::dE P "__annotations__" 170 (.ref 6)::dE P "__builtins__" 171 (.ref 4)::dE P "__file__" 173 (sv "/claim/cut.py" 172)::t
noncomputable def FC(P:HR)(t:List Ic):List Ic:=dE P "copied" 435 (.ref 178)::dE P "opens_call" 442 (.ref 185)::dE P "with_closed" 452 (.ref 192)::dE P "node_of" 461 (.ref 199)::dE P "looks_like_place" 468 (.ref 206)::dE P "MOST_WORDS_shorts" 472 (.int 400 471)::dE P "MOST_CALLS" 474 (.int 400 473)::dE P "MOST_CALLS_OF_SHORT" 476 (.int 60 475)::t
noncomputable def FD(P:HR)(t:List Ic):List Ic:=dE P "size_of" 486 (.ref 214)::dE P "new_short" 499 (.ref 221)::dE P "put_out" 509 (.ref 228)::dE P "by_name" 515 (.ref 233)::dE P "short_called" 525 (.ref 240)::dE P "size_among" 541 (.ref 247)::dE P "sum_of_rows" 547 (.ref 252)::dE P "words_out" 553 (.ref 257)::t
noncomputable def FE(P:HR)(t:List Ic):List Ic:=dE P "ALONE" 559 (.ref 258)::dE P "HEADS" 563 (.ref 259)::dE P "MOST_FOOT_WORDS" 565 (.int 39 564)::dE P "read_rows" 574 (.ref 266)::dE P "Reader" 662 (.ref 328)::dE P "is_figure" 669 (.ref 339)::dE P "LEAPS" 678 (.ref 340)::dE P "POINTING" 682 (.ref 341)::t
noncomputable def Et(P:HR)(t:List Ic):List Ic:=dE P "set_words" 688 (.ref 346)::dE P "Setter" 817 (.ref 432)::t
noncomputable def Eu(P:HR):Obj:=⟨(.type "dict"),none,.dict (HP (FB P (Dc P (Dd P (Dg P (FC P (FD P (FE P (Et P []))))))))) 58,#[]⟩
noncomputable def zc(P:HR):Obj:=⟨(.none),none,(.fields #[]),#[]⟩
noncomputable def Dy(P:HR):Obj:=⟨(.none),none,(.fields #[.int 2 0,.int 0 0,.ref 20,.int 4 0,.int 0 0,.ref 33,.int 6 0,.int 0 0,.ref 45,.int 8 0,.int 0 0,.ref 57,.int 10 0,.int 0 0,.ref 69,.int 12 0,.int 0 0,.ref 81]),#[]⟩
noncomputable def Dz(P:HR):Obj:=⟨(.none),none,(.fields #[.int 2 0,.int 0 0,.ref 20,.int 4 0,.int 0 0,.ref 33,.int 6 0,.int 0 0,.ref 45,.int 8 0,.int 0 0,.ref 57,.int 10 0,.int 0 0,.ref 69,.int 12 0,.int 0 0,.ref 81,.int 14 0,.int 0 0,.ref 93,.int 16 0,.int 0 0,.ref 105,.int 18 0,.int 0 0,.ref 117,.int 20 0,.int 0 0,.ref 129,.int 29 0,.int 0 0,.ref 140,.int 31 0,.int 0 0,.ref 145,.int 35 0,.int 0 0,.ref 152,.int 37 0,.int 0 0,.ref 159,.int 46 0,.int 0 0,.ref 164,.int 55 0,.int 0 0,.ref 172]),#[]⟩
noncomputable def DA(P:HR):Obj:=⟨(.none),none,(.fields #[.int 2 0,.int 0 0,.ref 20,.int 4 0,.int 0 0,.ref 33,.int 6 0,.int 0 0,.ref 45,.int 8 0,.int 0 0,.ref 57,.int 10 0,.int 0 0,.ref 69,.int 12 0,.int 0 0,.ref 81,.int 14 0,.int 0 0,.ref 93,.int 16 0,.int 0 0,.ref 105,.int 18 0,.int 0 0,.ref 117,.int 20 0,.int 0 0,.ref 129,.int 29 0,.int 0 0,.ref 140,.int 31 0,.int 0 0,.ref 145,.int 35 0,.int 0 0,.ref 152,.int 37 0,.int 0 0,.ref 159,.int 46 0,.int 0 0,.ref 164,.int 55 0,.int 0 0,.ref 172,.int 74 0,.int 0 0,.ref 177,.int 82 0,.int 0 0,.ref 184,.int 84 0,.int 0 0,.ref 191,.int 91 0,.int 0 0,.ref 198,.int 98 0,.int 0 0,.ref 205,.int 104 0,.int 0 0,.ref 213,.int 106 0,.int 0 0,.ref 220,.int 115 0,.int 0 0,.ref 227,.int 121 0,.int 0 0,.ref 232,.int 123 0,.int 0 0,.ref 239,.int 131 0,.int 0 0,.ref 246,.int 148 0,.int 0 0,.ref 251,.int 150 0,.int 0 0,.ref 256,.int 165 0,.int 0 0,.ref 265,.int 170 0,.int 0 0,.ref 272,.int 242 0,.int 0 0,.ref 338,.int 247 0,.int 0 0,.ref 345,.int 255 0,.int 0 0,.ref 352]),#[]⟩
noncomputable def zd(P:HR):Obj:=⟨(.none),none,(.fields #[.int 2 0,.int 0 0,.ref 20,.int 4 0,.int 0 0,.ref 33,.int 6 0,.int 0 0,.ref 45,.int 8 0,.int 0 0,.ref 57,.int 10 0,.int 0 0,.ref 69,.int 12 0,.int 0 0,.ref 81,.int 14 0,.int 0 0,.ref 93,.int 16 0,.int 0 0,.ref 105,.int 18 0,.int 0 0,.ref 117,.int 20 0,.int 0 0,.ref 129,.int 29 0,.int 0 0,.ref 140,.int 31 0,.int 0 0,.ref 145,.int 35 0,.int 0 0,.ref 152,.int 37 0,.int 0 0,.ref 159,.int 46 0,.int 0 0,.ref 164,.int 55 0,.int 0 0,.ref 172,.int 74 0,.int 0 0,.ref 177,.int 82 0,.int 0 0,.ref 184,.int 84 0,.int 0 0,.ref 191,.int 91 0,.int 0 0,.ref 198,.int 98 0,.int 0 0,.ref 205,.int 104 0,.int 0 0,.ref 213,.int 106 0,.int 0 0,.ref 220,.int 115 0,.int 0 0,.ref 227,.int 121 0,.int 0 0,.ref 232,.int 123 0,.int 0 0,.ref 239,.int 131 0,.int 0 0,.ref 246,.int 148 0,.int 0 0,.ref 251,.int 150 0,.int 0 0,.ref 256,.int 165 0,.int 0 0,.ref 265,.int 170 0,.int 0 0,.ref 272,.int 242 0,.int 0 0,.ref 338,.int 247 0,.int 0 0,.ref 345,.int 255 0,.int 0 0,.ref 352,.int 360 0,.int 0 0,.ref 442,.int 364 0,.int 0 0,.ref 449,.int 367 0,.int 0 0,.ref 456,.int 370 0,.int 0 0,.ref 463,.int 377 0,.int 0 0,.ref 470,.int 380 0,.int 0 0,.ref 475,.int 386 0,.int 0 0,.ref 480,.int 391 0,.int 0 0,.ref 487,.int 397 0,.int 0 0,.ref 494,.int 413 0,.int 0 0,.ref 501,.int 429 0,.int 0 0,.ref 506,.int 448 0,.int 0 0,.ref 511,.int 455 0,.int 0 0,.ref 516,.int 466 0,.int 0 0,.ref 521,.int 482 0,.int 0 0,.ref 528,.int 491 0,.int 0 0,.ref 533,.int 504 0,.int 0 0,.ref 540,.int 529 0,.int 0 0,.ref 547,.int 538 0,.int 0 0,.ref 554,.int 547 0,.int 0 0,.ref 559]),#[]⟩
noncomputable def DB(P:HR):Obj:=⟨(.type "type"),none,(.cls (PySem.ClassData.mk (os "TrueleafError") [.type "ValueError"] [.ref 24,.type "ValueError",.type "Exception",.type "BaseException",.type "object"] 23 (os "TrueleafError") true [] [.ref 37,.ref 49,.ref 61,.ref 73,.ref 85] false none false)),#[GW (.ref 15),none,GW (sv "TrueleafError" 189),GW (sv "TrueleafError" 197),GW (.builtin "ValueError.__new__"),GW (.bool true)]⟩
noncomputable abbrev aw:Obj:=⟨(.type "tuple"),none,(.seq #[]),#[]⟩
noncomputable abbrev jb:Obj:=⟨(.type "builtin_function_or_method"),none,(.fields #[.builtin "type.__prepare__",.type "type"]),#[]⟩
noncomputable abbrev aT:Obj:=⟨(.none),none,(.fields #[]),#[]⟩
noncomputable def pE(P:HR)(x3:Obj)(x12:Obj)(t:List Obj):List Obj:=boot_o_0 P::boot_o_1 P::boot_o_2 P::x3::boot_o_4 P::boot_o_5 P::boot_o_6 P::boot_o_7 P::boot_o_8 P::boot_o_9 P::boot_o_10 P::aw::x12::⟨(.type "code"),none,(.fields #[sv "<module>" 182,sv "<module>" 183,sv "/claim/cut.py" 184,.int 1 0,.int 0 0,.int 0 0,.int 0 0,.int 0 0,.ref 11,.bool false,.int 181 0,.ref 12,.none,.none,.none,.none,.int 185 0,.int 1 0,sv "/claim/cut.py" 186]),#[]⟩::⟨(.type "frame"),none,(.plain),#[GW (.ref 13),GW (.ref 3),GW (.ref 3),none,GW (sv "__main__" 164),none,GW (.ref 0)]⟩::t
noncomputable def uH(P:HR)(x24:Obj)(t:List Obj):List Obj:=aq P 2::jb::⟨(.type "dict"),none,.dict (HP (dE P "__module__" 196 (sv "trueleaf.errors" 187)::dE P "__qualname__" 198 (sv "TrueleafError" 197)::dE P "__firstlineno__" 200 (.int 2 199)::dE P "__static_attributes__" 201 (.ref 22)::[])) 4,#[]⟩::aw::aT::⟨(.type "code"),none,(.fields #[sv "TrueleafError" 191,sv "TrueleafError" 192,sv "/claim/cut.py" 193,.int 2 0,.int 0 0,.int 0 0,.int 0 0,.int 0 0,.ref 18,.bool false,.int 181 0,.ref 19,.none,.none,.none,.none,.int 194 0,.int 2 0,sv "/claim/cut.py" 195]),#[]⟩::⟨(.type "frame"),none,(.plain),#[GW (.ref 20),GW (.ref 3),GW (.ref 17),none,GW (sv "trueleaf.errors" 187),none,GW (.ref 0)]⟩::aq P 3::aq P 4::x24::aq P 6::⟨(.type "super"),none,(.fields #[.ref 24,.ref 24,.ref 24]),#[]⟩::⟨(.type "builtin_function_or_method"),none,(.fields #[.builtin "object.__init_subclass__",.ref 24]),#[]⟩::aq P 7::jb::⟨(.type "dict"),none,.dict (HP (dE P "__module__" 214 (sv "trueleaf.errors" 187)::dE P "__qualname__" 216 (sv "BadRow" 215)::dE P "__firstlineno__" 218 (.int 4 217)::dE P "__static_attributes__" 219 (.ref 35)::[])) 4,#[]⟩::t
noncomputable def uI(P:HR)(t:List Obj):List Obj:=aw::aT::⟨(.type "code"),none,(.fields #[sv "BadRow" 209,sv "BadRow" 210,sv "/claim/cut.py" 211,.int 4 0,.int 0 0,.int 0 0,.int 0 0,.int 0 0,.ref 31,.bool false,.int 181 0,.ref 32,.none,.none,.none,.none,.int 212 0,.int 4 0,sv "/claim/cut.py" 213]),#[]⟩::⟨(.type "frame"),none,(.plain),#[GW (.ref 33),GW (.ref 3),GW (.ref 30),none,GW (sv "trueleaf.errors" 187),none,GW (.ref 0)]⟩::aq P 8::aq P 9::aq P 10::⟨(.type "super"),none,(.fields #[.ref 37,.ref 37,.ref 37]),#[]⟩::⟨(.type "builtin_function_or_method"),none,(.fields #[.builtin "object.__init_subclass__",.ref 37]),#[]⟩::aq P 11::jb::⟨(.type "dict"),none,.dict (HP (dE P "__module__" 230 (sv "trueleaf.errors" 187)::dE P "__qualname__" 232 (sv "TooLong" 231)::dE P "__firstlineno__" 234 (.int 6 233)::dE P "__static_attributes__" 235 (.ref 47)::[])) 4,#[]⟩::aw::aT::⟨(.type "code"),none,(.fields #[sv "TooLong" 225,sv "TooLong" 226,sv "/claim/cut.py" 227,.int 6 0,.int 0 0,.int 0 0,.int 0 0,.int 0 0,.ref 43,.bool false,.int 181 0,.ref 44,.none,.none,.none,.none,.int 228 0,.int 6 0,sv "/claim/cut.py" 229]),#[]⟩::⟨(.type "frame"),none,(.plain),#[GW (.ref 45),GW (.ref 3),GW (.ref 42),none,GW (sv "trueleaf.errors" 187),none,GW (.ref 0)]⟩::t
noncomputable def uJ(P:HR)(t:List Obj):List Obj:=aq P 12::aq P 13::aq P 14::⟨(.type "super"),none,(.fields #[.ref 49,.ref 49,.ref 49]),#[]⟩::⟨(.type "builtin_function_or_method"),none,(.fields #[.builtin "object.__init_subclass__",.ref 49]),#[]⟩::aq P 15::jb::⟨(.type "dict"),none,.dict (HP (dE P "__module__" 246 (sv "trueleaf.errors" 187)::dE P "__qualname__" 248 (sv "BadCall" 247)::dE P "__firstlineno__" 250 (.int 8 249)::dE P "__static_attributes__" 251 (.ref 59)::[])) 4,#[]⟩::aw::aT::⟨(.type "code"),none,(.fields #[sv "BadCall" 241,sv "BadCall" 242,sv "/claim/cut.py" 243,.int 8 0,.int 0 0,.int 0 0,.int 0 0,.int 0 0,.ref 55,.bool false,.int 181 0,.ref 56,.none,.none,.none,.none,.int 244 0,.int 8 0,sv "/claim/cut.py" 245]),#[]⟩::⟨(.type "frame"),none,(.plain),#[GW (.ref 57),GW (.ref 3),GW (.ref 54),none,GW (sv "trueleaf.errors" 187),none,GW (.ref 0)]⟩::aq P 16::aq P 17::aq P 18::⟨(.type "super"),none,(.fields #[.ref 61,.ref 61,.ref 61]),#[]⟩::t
noncomputable def uK(P:HR)(t:List Obj):List Obj:=⟨(.type "builtin_function_or_method"),none,(.fields #[.builtin "object.__init_subclass__",.ref 61]),#[]⟩::aq P 19::jb::⟨(.type "dict"),none,.dict (HP (dE P "__module__" 262 (sv "trueleaf.errors" 187)::dE P "__qualname__" 264 (sv "Deep" 263)::dE P "__firstlineno__" 266 (.int 10 265)::dE P "__static_attributes__" 267 (.ref 71)::[])) 4,#[]⟩::aw::aT::⟨(.type "code"),none,(.fields #[sv "Deep" 257,sv "Deep" 258,sv "/claim/cut.py" 259,.int 10 0,.int 0 0,.int 0 0,.int 0 0,.int 0 0,.ref 67,.bool false,.int 181 0,.ref 68,.none,.none,.none,.none,.int 260 0,.int 10 0,sv "/claim/cut.py" 261]),#[]⟩::⟨(.type "frame"),none,(.plain),#[GW (.ref 69),GW (.ref 3),GW (.ref 66),none,GW (sv "trueleaf.errors" 187),none,GW (.ref 0)]⟩::aq P 20::aq P 21::aq P 22::⟨(.type "super"),none,(.fields #[.ref 73,.ref 73,.ref 73]),#[]⟩::⟨(.type "builtin_function_or_method"),none,(.fields #[.builtin "object.__init_subclass__",.ref 73]),#[]⟩::aq P 23::jb::⟨(.type "dict"),none,.dict (HP (dE P "__module__" 278 (sv "trueleaf.errors" 187)::dE P "__qualname__" 280 (sv "NoShort" 279)::dE P "__firstlineno__" 282 (.int 12 281)::dE P "__static_attributes__" 283 (.ref 83)::[])) 4,#[]⟩::t
noncomputable def uL(P:HR)(t:List Obj):List Obj:=aw::aT::⟨(.type "code"),none,(.fields #[sv "NoShort" 273,sv "NoShort" 274,sv "/claim/cut.py" 275,.int 12 0,.int 0 0,.int 0 0,.int 0 0,.int 0 0,.ref 79,.bool false,.int 181 0,.ref 80,.none,.none,.none,.none,.int 276 0,.int 12 0,sv "/claim/cut.py" 277]),#[]⟩::⟨(.type "frame"),none,(.plain),#[GW (.ref 81),GW (.ref 3),GW (.ref 78),none,GW (sv "trueleaf.errors" 187),none,GW (.ref 0)]⟩::aq P 24::aq P 25::aq P 26::⟨(.type "super"),none,(.fields #[.ref 85,.ref 85,.ref 85]),#[]⟩::⟨(.type "builtin_function_or_method"),none,(.fields #[.builtin "object.__init_subclass__",.ref 85]),#[]⟩::t
noncomputable def wR(P:HR)(t:List Obj):List Obj:=aq P 27::jb::⟨(.type "dict"),none,.dict (HP (dE P "__module__" 294 (sv "trueleaf.errors" 187)::dE P "__qualname__" 296 (sv "BadWord" 295)::dE P "__firstlineno__" 298 (.int 14 297)::dE P "__static_attributes__" 299 (.ref 95)::[])) 4,#[]⟩::aw::aT::⟨(.type "code"),none,(.fields #[sv "BadWord" 289,sv "BadWord" 290,sv "/claim/cut.py" 291,.int 14 0,.int 0 0,.int 0 0,.int 0 0,.int 0 0,.ref 91,.bool false,.int 181 0,.ref 92,.none,.none,.none,.none,.int 292 0,.int 14 0,sv "/claim/cut.py" 293]),#[]⟩::⟨(.type "frame"),none,(.plain),#[GW (.ref 93),GW (.ref 3),GW (.ref 90),none,GW (sv "trueleaf.errors" 187),none,GW (.ref 0)]⟩::aq P 28::aq P 29::aq P 30::⟨(.type "super"),none,(.fields #[.ref 97,.ref 97,.ref 97]),#[]⟩::⟨(.type "builtin_function_or_method"),none,(.fields #[.builtin "object.__init_subclass__",.ref 97]),#[]⟩::aq P 31::jb::⟨(.type "dict"),none,.dict (HP (dE P "__module__" 310 (sv "trueleaf.errors" 187)::dE P "__qualname__" 312 (sv "Twice" 311)::dE P "__firstlineno__" 314 (.int 16 313)::dE P "__static_attributes__" 315 (.ref 107)::[])) 4,#[]⟩::aw::t
noncomputable def wS(P:HR)(t:List Obj):List Obj:=aT::⟨(.type "code"),none,(.fields #[sv "Twice" 305,sv "Twice" 306,sv "/claim/cut.py" 307,.int 16 0,.int 0 0,.int 0 0,.int 0 0,.int 0 0,.ref 103,.bool false,.int 181 0,.ref 104,.none,.none,.none,.none,.int 308 0,.int 16 0,sv "/claim/cut.py" 309]),#[]⟩::⟨(.type "frame"),none,(.plain),#[GW (.ref 105),GW (.ref 3),GW (.ref 102),none,GW (sv "trueleaf.errors" 187),none,GW (.ref 0)]⟩::aq P 32::aq P 33::aq P 34::⟨(.type "super"),none,(.fields #[.ref 109,.ref 109,.ref 109]),#[]⟩::⟨(.type "builtin_function_or_method"),none,(.fields #[.builtin "object.__init_subclass__",.ref 109]),#[]⟩::aq P 35::jb::⟨(.type "dict"),none,.dict (HP (dE P "__module__" 326 (sv "trueleaf.errors" 187)::dE P "__qualname__" 328 (sv "NoFoot" 327)::dE P "__firstlineno__" 330 (.int 18 329)::dE P "__static_attributes__" 331 (.ref 119)::[])) 4,#[]⟩::aw::aT::⟨(.type "code"),none,(.fields #[sv "NoFoot" 321,sv "NoFoot" 322,sv "/claim/cut.py" 323,.int 18 0,.int 0 0,.int 0 0,.int 0 0,.int 0 0,.ref 115,.bool false,.int 181 0,.ref 116,.none,.none,.none,.none,.int 324 0,.int 18 0,sv "/claim/cut.py" 325]),#[]⟩::⟨(.type "frame"),none,(.plain),#[GW (.ref 117),GW (.ref 3),GW (.ref 114),none,GW (sv "trueleaf.errors" 187),none,GW (.ref 0)]⟩::aq P 36::t
noncomputable def wT(P:HR)(t:List Obj):List Obj:=aq P 37::aq P 38::⟨(.type "super"),none,(.fields #[.ref 121,.ref 121,.ref 121]),#[]⟩::⟨(.type "builtin_function_or_method"),none,(.fields #[.builtin "object.__init_subclass__",.ref 121]),#[]⟩::aq P 39::jb::⟨(.type "dict"),none,.dict (HP (dE P "__module__" 342 (sv "trueleaf.errors" 187)::dE P "__qualname__" 344 (sv "NoMark" 343)::dE P "__firstlineno__" 346 (.int 20 345)::dE P "__static_attributes__" 347 (.ref 131)::[])) 4,#[]⟩::aw::aT::⟨(.type "code"),none,(.fields #[sv "NoMark" 337,sv "NoMark" 338,sv "/claim/cut.py" 339,.int 20 0,.int 0 0,.int 0 0,.int 0 0,.int 0 0,.ref 127,.bool false,.int 181 0,.ref 128,.none,.none,.none,.none,.int 340 0,.int 20 0,sv "/claim/cut.py" 341]),#[]⟩::⟨(.type "frame"),none,(.plain),#[GW (.ref 129),GW (.ref 3),GW (.ref 126),none,GW (sv "trueleaf.errors" 187),none,GW (.ref 0)]⟩::aq P 40::aq P 41::aq P 42::⟨(.type "super"),none,(.fields #[.ref 133,.ref 133,.ref 133]),#[]⟩::⟨(.type "builtin_function_or_method"),none,(.fields #[.builtin "object.__init_subclass__",.ref 133]),#[]⟩::t
noncomputable def wU(P:HR)(t:List Obj):List Obj:=aq P 43::aw::aT::gA "words_in" "words_in" (top 18)::aq P 44::aq P 45::aw::aT::gA "is_name" "is_name" (top 19)::aq P 46::aq P 47::aw::aT::⟨(.type "tuple"),none,(.seq #[sv "number" 394]),#[]⟩::aw::gA "figures_of" "figures_of" (top 20)::t
noncomputable def uM(P:HR)(t:List Obj):List Obj:=aq P 48::aq P 49::aw::aT::⟨(.type "tuple"),none,(.seq #[sv "word" 401,sv "first" 402,sv "rest" 403]),#[]⟩::aw::gA "kind_of" "kind_of" (top 21)::aq P 50::aq P 51::aw::aT::gA "numbers_of" "numbers_of" (top 23)::aq P 52::aq P 53::aq P 54::aw::t
noncomputable def uN(P:HR)(t:List Obj):List Obj:=aT::⟨(.type "tuple"),none,(.seq #[sv "words" 422,sv "count" 423,sv "nodes" 424,sv "pending" 425,sv "word" 426]),#[]⟩::aw::gA "tree_of" "tree_of" (top 26)::aq P 55::aq P 56::t
noncomputable def xh(P:HR)(t:List Obj):List Obj:=aw::aT::gA "copied" "copied" (top 27)::aq P 57::aq P 58::aw::aT::⟨(.type "tuple"),none,(.seq #[sv "word" 439]),#[]⟩::aw::gA "opens_call" "opens_call" (top 28)::aq P 59::aq P 60::aw::aT::⟨(.type "tuple"),none,(.seq #[sv "call" 446,sv "last" 447,sv "arguments" 448,sv "nodes" 449]),#[]⟩::aw::t
noncomputable def xi(P:HR)(t:List Obj):List Obj:=gA "with_closed" "with_closed" (top 29)::aq P 61::aq P 62::aw::aT::⟨(.type "tuple"),none,(.seq #[sv "word" 456,sv "count" 457,sv "k" 458]),#[]⟩::aw::gA "node_of" "node_of" (top 30)::aq P 63::aq P 64::aw::aT::⟨(.type "tuple"),none,(.seq #[sv "word" 465]),#[]⟩::aw::gA "looks_like_place" "looks_like_place" (top 31)::aq P 65::t
noncomputable def xj(P:HR)(t:List Obj):List Obj:=aq P 66::aq P 67::aw::aT::⟨(.type "tuple"),none,(.seq #[sv "shorts" 481,sv "nodes" 482,sv "count" 483]),#[]⟩::aw::gA "size_of" "size_of" (top 36)::aq P 68::aq P 69::aw::aT::⟨(.type "tuple"),none,(.seq #[sv "shorts" 490,sv "name" 491,sv "count" 492,sv "nodes" 493,sv "size" 494,sv "row" 495,sv "calls" 496]),#[]⟩::aw::gA "new_short" "new_short" (top 37)::aq P 70::aq P 71::t
noncomputable def xk(P:HR)(t:List Obj):List Obj:=aw::aT::⟨(.type "tuple"),none,(.seq #[sv "shorts" 503,sv "nodes" 504,sv "named" 505,sv "size" 506]),#[]⟩::aw::gA "put_out" "put_out" (top 38)::aq P 72::aq P 73::aw::aT::gA "by_name" "by_name" (top 39)::aq P 74::aq P 75::aw::aT::⟨(.type "tuple"),none,(.seq #[sv "named" 519,sv "call" 520,sv "name" 521,sv "short" 522]),#[]⟩::aw::t
noncomputable def xl(P:HR)(t:List Obj):List Obj:=gA "short_called" "short_called" (top 40)::aq P 76::aq P 77::aw::aT::⟨(.type "tuple"),none,(.seq #[sv "named" 529,sv "nodes" 530,sv "count" 531,sv "row" 532,sv "calls" 533,sv "node" 534,sv "short" 535,sv "k" 536,sv "argument" 537,sv "size" 538]),#[]⟩::aw::gA "size_among" "size_among" (top 41)::aq P 78::aq P 79::aw::aT::gA "sum_of_rows" "sum_of_rows" (top 42)::aq P 80::aq P 81::aw::t
noncomputable def xm(P:HR)(t:List Obj):List Obj:=aT::gA "words_out" "words_out" (top 43)::aq P 82::aq P 83::aq P 84::aq P 85::aw::aT::⟨(.type "tuple"),none,(.seq #[sv "rows" 569,sv "reader" 570,sv "row" 571]),#[]⟩::aw::gA "read_rows" "read_rows" (top 48)::aq P 86::aq P 87::aw::jb::⟨(.type "dict"),none,.dict (HP (dE P "__module__" 582 (sv "trueleaf.reading" 554)::dE P "__qualname__" 584 (sv "Reader" 583)::dE P "__firstlineno__" 586 (.int 170 585)::dE P "__init__" 593 (.ref 280)::dE P "read_row" 602 (.ref 287)::dE P "read_let" 608 (.ref 292)::dE P "read_foot" 618 (.ref 299)::dE P "read_alone" 627 (.ref 306)::dE P "read_words" 636 (.ref 313)::dE P "add_thing" 644 (.ref 320)::dE P "words_out" 650 (.ref 325)::dE P "__static_attributes__" 655 (.ref 326)::[])) 12,#[]⟩::t
noncomputable def xn(P:HR)(t:List Obj):List Obj:=aw::⟨(.none),none,(.fields #[.int 172 0,.int 4 0,.ref 279,.int 178 0,.int 4 0,.ref 286,.int 196 0,.int 4 0,.ref 291,.int 205 0,.int 4 0,.ref 298,.int 216 0,.int 4 0,.ref 305,.int 222 0,.int 4 0,.ref 312,.int 230 0,.int 4 0,.ref 319,.int 234 0,.int 4 0,.ref 324]),#[]⟩::⟨(.type "code"),none,(.fields #[sv "Reader" 577,sv "Reader" 578,sv "/claim/cut.py" 579,.int 170 0,.int 0 0,.int 0 0,.int 0 0,.int 0 0,.ref 270,.bool false,.int 181 0,.ref 271,.none,.none,.none,.none,.int 580 0,.int 170 0,sv "/claim/cut.py" 581]),#[]⟩::⟨(.type "frame"),none,(.plain),#[GW (.ref 272),GW (.ref 3),GW (.ref 269),none,GW (sv "trueleaf.reading" 554),none,GW (.ref 0)]⟩::aw::aT::⟨(.type "tuple"),none,(.seq #[sv "self" 590]),#[]⟩::aw::gA "__init__" "Reader.__init__" (bx 49 0)::aq P 88::aq P 89::aw::aT::⟨(.type "tuple"),none,(.seq #[sv "self" 597,sv "words" 598,sv "first" 599]),#[]⟩::aw::gA "read_row" "Reader.read_row" (bx 49 1)::t
noncomputable def xo(P:HR)(t:List Obj):List Obj:=aq P 90::aq P 91::aw::aT::gA "read_let" "Reader.read_let" (bx 49 2)::aq P 92::aq P 93::aw::aT::⟨(.type "tuple"),none,(.seq #[sv "self" 612,sv "words" 613,sv "name" 614,sv "text" 615]),#[]⟩::aw::gA "read_foot" "Reader.read_foot" (bx 49 3)::aq P 94::aq P 95::aw::aT::t
noncomputable def xp(P:HR)(t:List Obj):List Obj:=⟨(.type "tuple"),none,(.seq #[sv "self" 622,sv "words" 623,sv "first" 624]),#[]⟩::aw::gA "read_alone" "Reader.read_alone" (bx 49 4)::aq P 96::aq P 97::aw::aT::⟨(.type "tuple"),none,(.seq #[sv "self" 631,sv "words" 632,sv "read" 633]),#[]⟩::aw::gA "read_words" "Reader.read_words" (bx 49 5)::aq P 98::aq P 99::aw::aT::⟨(.type "tuple"),none,(.seq #[sv "self" 640,sv "thing" 641]),#[]⟩::aw::t
noncomputable def xq(P:HR)(t:List Obj):List Obj:=gA "add_thing" "Reader.add_thing" (bx 49 6)::aq P 100::aq P 101::aw::aT::gA "words_out" "Reader.words_out" (bx 49 7)::aq P 102::aq P 103::aq P 104::aq P 105::aq P 106::aq P 107::aq P 108::⟨(.type "super"),none,(.fields #[.ref 328,.ref 328,.ref 328]),#[]⟩::⟨(.type "builtin_function_or_method"),none,(.fields #[.builtin "object.__init_subclass__",.ref 328]),#[]⟩::aw::t
noncomputable def xr(P:HR)(t:List Obj):List Obj:=aT::⟨(.type "tuple"),none,(.seq #[sv "word" 666]),#[]⟩::aw::gA "is_figure" "is_figure" (top 50)::aq P 109::aq P 110::aq P 111::aq P 112::aw::aT::gA "set_words" "set_words" (top 54)::aq P 113::aq P 114::aw::jb::⟨(.type "dict"),none,.dict (HP (dE P "__module__" 696 (sv "trueleaf.setting" 670)::dE P "__qualname__" 698 (sv "Setter" 697)::dE P "__firstlineno__" 700 (.int 255 699)::dE P "__init__" 706 (.ref 358)::dE P "set_thing" 715 (.ref 365)::dE P "set_head" 724 (.ref 372)::dE P "set_list" 730 (.ref 377)::dE P "set_run" 741 (.ref 384)::dE P "set_mark" 749 (.ref 391)::dE P "set_word" 759 (.ref 398)::dE P "next_foot" 767 (.ref 405)::dE P "check_marks" 773 (.ref 410)::dE P "words_told" 779 (.ref 415)::dE P "saying_of" 789 (.ref 422)::dE P "number_at" 800 (.ref 429)::dE P "__static_attributes__" 810 (.ref 430)::[])) 16,#[]⟩::t
noncomputable def xu(P:HR)(t:List Obj):List Obj:=aw::⟨(.none),none,(.fields #[.int 257 0,.int 4 0,.ref 357,.int 268 0,.int 4 0,.ref 364,.int 281 0,.int 4 0,.ref 371,.int 286 0,.int 4 0,.ref 376,.int 293 0,.int 4 0,.ref 383,.int 302 0,.int 4 0,.ref 390,.int 307 0,.int 4 0,.ref 397,.int 319 0,.int 4 0,.ref 404,.int 325 0,.int 4 0,.ref 409,.int 336 0,.int 4 0,.ref 414,.int 342 0,.int 4 0,.ref 421,.int 353 0,.int 4 0,.ref 428]),#[]⟩::⟨(.type "code"),none,(.fields #[sv "Setter" 691,sv "Setter" 692,sv "/claim/cut.py" 693,.int 255 0,.int 0 0,.int 0 0,.int 0 0,.int 0 0,.ref 350,.bool false,.int 181 0,.ref 351,.none,.none,.none,.none,.int 694 0,.int 255 0,sv "/claim/cut.py" 695]),#[]⟩::⟨(.type "frame"),none,(.plain),#[GW (.ref 352),GW (.ref 3),GW (.ref 349),none,GW (sv "trueleaf.setting" 670),none,GW (.ref 0)]⟩::aw::aT::gA "__init__" "Setter.__init__" (bx 55 0)::aq P 115::aq P 116::aw::aT::⟨(.type "tuple"),none,(.seq #[sv "self" 710,sv "thing" 711,sv "kind" 712]),#[]⟩::aw::gA "set_thing" "Setter.set_thing" (bx 55 1)::aq P 117::aq P 118::t
noncomputable def xv(P:HR)(t:List Obj):List Obj:=aw::aT::⟨(.type "tuple"),none,(.seq #[sv "self" 719,sv "k" 720,sv "number" 721]),#[]⟩::aw::gA "set_head" "Setter.set_head" (bx 55 2)::aq P 119::aq P 120::aw::aT::gA "set_list" "Setter.set_list" (bx 55 3)::aq P 121::aq P 122::aw::aT::⟨(.type "tuple"),none,(.seq #[sv "self" 734,sv "lead" 735,sv "words" 736,sv "by_head" 737,sv "word" 738]),#[]⟩::aw::t
noncomputable def xw(P:HR)(t:List Obj):List Obj:=gA "set_run" "Setter.set_run" (bx 55 4)::aq P 123::aq P 124::aw::aT::⟨(.type "tuple"),none,(.seq #[sv "self" 745,sv "name" 746]),#[]⟩::aw::gA "set_mark" "Setter.set_mark" (bx 55 5)::aq P 125::aq P 126::aw::aT::⟨(.type "tuple"),none,(.seq #[sv "self" 753,sv "lead" 754,sv "word" 755,sv "foot" 756]),#[]⟩::aw::gA "set_word" "Setter.set_word" (bx 55 6)::aq P 127::t
noncomputable def xx(P:HR)(t:List Obj):List Obj:=aq P 128::aw::aT::⟨(.type "tuple"),none,(.seq #[sv "self" 763,sv "name" 764]),#[]⟩::aw::gA "next_foot" "Setter.next_foot" (bx 55 7)::aq P 129::aq P 130::aw::aT::gA "check_marks" "Setter.check_marks" (bx 55 8)::aq P 131::aq P 132::aw::aT::gA "words_told" "Setter.words_told" (bx 55 9)::t
noncomputable def xy(P:HR)(t:List Obj):List Obj:=aq P 133::aq P 134::aw::aT::⟨(.type "tuple"),none,(.seq #[sv "self" 783,sv "word" 784,sv "kind" 785,sv "rest" 786]),#[]⟩::aw::gA "saying_of" "Setter.saying_of" (bx 55 10)::aq P 135::aq P 136::aw::aT::⟨(.type "tuple"),none,(.seq #[sv "self" 793,sv "k" 794,sv "number" 795,sv "text" 796,sv "at" 797]),#[]⟩::aw::gA "number_at" "Setter.number_at" (bx 55 11)::aq P 137::aq P 138::t
noncomputable def xz(P:HR)(t:List Obj):List Obj:=aq P 139::aq P 140::aq P 141::aq P 142::aq P 143::⟨(.type "super"),none,(.fields #[.ref 432,.ref 432,.ref 432]),#[]⟩::⟨(.type "builtin_function_or_method"),none,(.fields #[.builtin "object.__init_subclass__",.ref 432]),#[]⟩::t
noncomputable def AB(P:HR)(t:List Obj):List Obj:=aw::aT::⟨(.type "tuple"),none,(.seq #[sv "script" 823,sv "k" 824]),#[]⟩::aw::gA "_law_cell_at" "_law_cell_at" (top 57)::aq P 144::aq P 145::aw::aT::⟨(.type "tuple"),none,(.seq #[sv "cell" 831,sv "k" 832,sv "many" 833,sv "number" 834]),#[]⟩::aw::gA "_law_draw" "_law_draw" (top 58)::aq P 146::aq P 147::aw::aT::t
noncomputable def AC(P:HR)(t:List Obj):List Obj:=⟨(.type "tuple"),none,(.seq #[sv "cell" 841,sv "k" 842,sv "some" 843]),#[]⟩::aw::gA "_law_sign_by" "_law_sign_by" (top 59)::aq P 148::aq P 149::aw::aT::⟨(.type "tuple"),none,(.seq #[sv "word" 850,sv "sign" 851]),#[]⟩::aw::gA "_law_is_name" "_law_is_name" (top 60)::aq P 150::aq P 151::aw::aT::⟨(.type "tuple"),none,(.seq #[sv "cell" 858,sv "wide" 859]),#[]⟩::aw::t
noncomputable def AD(P:HR)(t:List Obj):List Obj:=gA "_law_form" "_law_form" (top 61)::aq P 152::aq P 153::aw::aT::gA "_law_name" "_law_name" (top 62)::aq P 154::aq P 155::aw::aT::gA "_law_plain_by" "_law_plain_by" (top 63)::aq P 156::aq P 157::aw::aT::⟨(.type "tuple"),none,(.seq #[sv "kind" 878,sv "rest" 879]),#[]⟩::t
noncomputable def AE(P:HR)(t:List Obj):List Obj:=aw::gA "_law_written" "_law_written" (top 64)::aq P 158::aq P 159::aw::aT::⟨(.type "tuple"),none,(.seq #[sv "first" 886,sv "kind" 887,sv "cell" 888,sv "at" 889,sv "marks" 890,sv "feet" 891,sv "odd" 892,sv "faults" 893]),#[]⟩::aw::gA "_law_word" "_law_word" (top 65)::aq P 160::aq P 161::aw::aT::⟨(.type "tuple"),none,(.seq #[sv "script" 900,sv "ways" 901,sv "kinds" 902,sv "rows" 903,sv "cell" 904,sv "way" 905,sv "kind" 906]),#[]⟩::aw::gA "_law_rows" "_law_rows" (top 66)::t
noncomputable def AF(P:HR)(t:List Obj):List Obj:=aq P 162::aq P 163::aw::aT::gA "_law_named" "_law_named" (top 67)::aq P 164::aq P 165::aw::aT::gA "_law_text" "_law_text" (top 68)::aq P 166::aq P 167::aw::aT::gA "_law_titles" "_law_titles" (top 69)::aq P 168::t
noncomputable def AG(P:HR)(t:List Obj):List Obj:=aq P 169::aw::aT::gA "_law_stream" "_law_stream" (top 70)::aq P 170::aq P 171::aw::aT::⟨(.type "tuple"),none,(.seq #[sv "stream" 937,sv "titles" 938,sv "heads" 939,sv "at" 940,sv "kind" 941,sv "rest" 942]),#[]⟩::aw::gA "_law_heads" "_law_heads" (top 71)::cV "_law_heads" "_law_heads" 934 935 936 482 2 3 523 181 524 .none (.ref 525) (.ref 526) (.ref 527) 943 482 944::gB "_law_heads" "_law_heads" (top 71) (.none) "law_trueleaf_k63_setting_refused" 818 528::aw::aT::gA "_law_padded" "_law_padded" (top 72)::t
noncomputable def AH(P:HR)(t:List Obj):List Obj:=aq P 172::aq P 173::aw::aT::⟨(.type "tuple"),none,(.seq #[sv "stream" 955,sv "feet" 956,sv "seen" 957,sv "at" 958,sv "waiting" 959,sv "kind" 960,sv "rest" 961,sv "name" 962]),#[]⟩::aw::gA "_law_refused" "_law_refused" (top 73)::aq P 174::aq P 175::aw::aT::⟨(.type "tuple"),none,(.seq #[sv "rows" 969,sv "form" 970,sv "which" 971,sv "e" 972]),#[]⟩::aw::gA "_law_refusal" "_law_refusal" (top 74)::aq P 176::aq P 177::t
noncomputable def AI(P:HR)(t:List Obj):List Obj:=aw::aT::⟨(.type "tuple"),none,(.seq #[sv "rows" 979,sv "first" 980,sv "spaced" 981,sv "k" 982,sv "row" 983,sv "ahead" 984,sv "end" 985]),#[]⟩::aw::gA "_law_spaced" "_law_spaced" (top 75)::aq P 178::aq P 179::aw::aT::gA "law" "law" (top 76)::aq P 180::aq P 181::t
noncomputable def zzhA(P:HR):Heap:=⟨⟨(pE P (boot_o_3 P) (zc P) [])⟩,{}⟩
noncomputable def zzhB(P:HR):Heap:=⟨⟨(pE P (boot_o_3 P) (zc P) [])⟩,{}⟩
noncomputable def zzh1(P:HR):Heap:=⟨⟨(pE P (Er P) (Dy P) (uH P (DB P) (uI P (uJ P (uK P (uL P []))))))⟩,{}⟩
noncomputable def zzh2(P:HR):Heap:=⟨⟨(pE P (Es P) (Dz P) (uH P (aq P 5) (uI P (uJ P (uK P (uL P (wR P (wS P (wT P (wU P (uM P (uN P []))))))))))))⟩,{}⟩
noncomputable def zzh3(P:HR):Heap:=⟨⟨(pE P (Eu P) (DA P) (uH P (aq P 5) (uI P (uJ P (uK P (uL P (wR P (wS P (wT P (wU P (uM P (uN P (xh P (xi P (xj P (xk P (xl P (xm P (xn P (xo P (xp P (xq P (xr P (xu P (xv P (xw P (xx P (xy P (xz P [])))))))))))))))))))))))))))))⟩,{}⟩
noncomputable def zzh4(P:HR):Heap:=⟨⟨(pE P (aq P 1) (zd P) (uH P (aq P 5) (uI P (uJ P (uK P (uL P (wR P (wS P (wT P (wU P (uM P (uN P (xh P (xi P (xj P (xk P (xl P (xm P (xn P (xo P (xp P (xq P (xr P (xu P (xv P (xw P (xx P (xy P (xz P (AB P (AC P (AD P (AE P (AF P (AG P (AH P (AI P [])))))))))))))))))))))))))))))))))))))⟩,{}⟩
noncomputable def zzhF(P:HR):Heap:=⟨⟨(pE P (aq P 1) (zd P) (uH P (aq P 5) (uI P (uJ P (uK P (uL P (wR P (wS P (wT P (wU P (uM P (uN P (xh P (xi P (xj P (xk P (xl P (xm P (xn P (xo P (xp P (xq P (xr P (xu P (xv P (xw P (xx P (xy P (xz P (AB P (AC P (AD P (AE P (AF P (AG P (AH P (AI P [])))))))))))))))))))))))))))))))))))))⟩,{}⟩
noncomputable abbrev zzbE:List Stmt:=behindTheImports PySem.Challenge.pw_trueleaf_k63_setting_refused
noncomputable abbrev zzev:Env:={ scope:=PySem.Challenge.pw_trueleaf_k63_setting_refused.main.scope,locals:=mainNs,globals:=mainNs,cells:=[],code:=.ref 13,frame:=some 14 }
noncomputable abbrev zzcE:Code:=.body zzbE zzev
noncomputable abbrev zzbF:List Frame:=[topFrame (PySem.Pos.mk 0 0 0 0)]
set_option maxHeartbeats 0 in
theorem zzpreL(w:HF)(os:Iy):topGo PySem.treeTable PySem.Challenge.pw_trueleaf_k63_setting_refused w 11 (some (.ref 6)) 12 ⟨boot_heap w.params,Ij [],boot_drawn,boot_toks,os⟩ (topStub PySem.Challenge.pw_trueleaf_k63_setting_refused)=some (⟨zzhA w.params,Ij [],⟨0,0,0,0⟩,187,os⟩,⟨denote PySem.treeTable zzcE,zzcE,PySem.Pos.mk 0 0 0 0,zzbF⟩):=by kernel_rfl
set_option maxHeartbeats 0 in
theorem zzblkL(w:HF)(os:Iy):segRun PySem.treeTable PySem.Challenge.pw_trueleaf_k63_setting_refused w 11 (some (.ref 6)) 1 1 ⟨zzhA w.params,Ij [],⟨0,0,0,0⟩,187,os⟩ (blockOf zzbE zzev zzcE (PySem.Pos.mk 0 0 0 0) zzbF)=some (.next,⟨zzhB w.params,Ij [],⟨0,0,0,0⟩,187,os⟩,zzcE,PySem.Pos.mk 0 0 0 0):=by kernel_rfl
set_option maxHeartbeats 0 in
theorem zzseg0(w:HF)(os:Iy):segRun PySem.treeTable PySem.Challenge.pw_trueleaf_k63_setting_refused w 11 (some (.ref 6)) 1 1261 ⟨zzhB w.params,Ij [],⟨0,0,0,0⟩,187,os⟩ (piecesOf ((zzbE.drop 0).take 7) zzev zzcE (PySem.Pos.mk 0 0 0 0) zzbF)=some (.next,⟨zzh1 w.params,Ij [],⟨0,0,0,0⟩,287,os⟩,zzcE,PySem.Pos.mk 12 0 13 8):=by kernel_rfl
def zzsegP1(w:HF):Prop:=∀os:Iy,segRun PySem.treeTable PySem.Challenge.pw_trueleaf_k63_setting_refused w 11 (some (.ref 6)) 1 1191 ⟨zzh1 w.params,Ij [],⟨0,0,0,0⟩,287,os⟩ (piecesOf ((zzbE.drop 7).take 20) zzev zzcE (PySem.Pos.mk 12 0 13 8) zzbF)=some (.next,⟨zzh2 w.params,Ij [],⟨0,0,0,0⟩,430,os⟩,zzcE,PySem.Pos.mk 55 0 73 16)
set_option maxHeartbeats 0 in
theorem zzsegF1(w:HF):zzsegP1 (w.withFollow "special-get-raises" false):=λos=>by kernel_rfl
set_option maxHeartbeats 0 in
theorem zzsegT1(w:HF):zzsegP1 (w.withFollow "special-get-raises" true):=λos=>by kernel_rfl
theorem zzseg1(w:HF)(os:Iy):segRun PySem.treeTable PySem.Challenge.pw_trueleaf_k63_setting_refused w 11 (some (.ref 6)) 1 1191 ⟨zzh1 w.params,Ij [],⟨0,0,0,0⟩,287,os⟩ (piecesOf ((zzbE.drop 7).take 20) zzev zzcE (PySem.Pos.mk 12 0 13 8) zzbF)=some (.next,⟨zzh2 w.params,Ij [],⟨0,0,0,0⟩,430,os⟩,zzcE,PySem.Pos.mk 55 0 73 16):=byRow2 "special-get-raises" (P:=zzsegP1) zzsegF1 zzsegT1 w os
def zzsegP2(w:HF):Prop:=∀os:Iy,segRun PySem.treeTable PySem.Challenge.pw_trueleaf_k63_setting_refused w 11 (some (.ref 6)) 1 1647 ⟨zzh2 w.params,Ij [],⟨0,0,0,0⟩,430,os⟩ (piecesOf ((zzbE.drop 27).take 29) zzev zzcE (PySem.Pos.mk 55 0 73 16) zzbF)=some (.next,⟨zzh3 w.params,Ij [],⟨0,0,0,0⟩,818,os⟩,zzcE,PySem.Pos.mk 255 0 358 21)
set_option maxHeartbeats 0 in
theorem zzsegF2(w:HF):zzsegP2 (w.withFollow "special-get-raises" false):=λos=>by kernel_rfl
set_option maxHeartbeats 0 in
theorem zzsegT2(w:HF):zzsegP2 (w.withFollow "special-get-raises" true):=λos=>by kernel_rfl
theorem zzseg2(w:HF)(os:Iy):segRun PySem.treeTable PySem.Challenge.pw_trueleaf_k63_setting_refused w 11 (some (.ref 6)) 1 1647 ⟨zzh2 w.params,Ij [],⟨0,0,0,0⟩,430,os⟩ (piecesOf ((zzbE.drop 27).take 29) zzev zzcE (PySem.Pos.mk 55 0 73 16) zzbF)=some (.next,⟨zzh3 w.params,Ij [],⟨0,0,0,0⟩,818,os⟩,zzcE,PySem.Pos.mk 255 0 358 21):=byRow2 "special-get-raises" (P:=zzsegP2) zzsegF2 zzsegT2 w os
set_option maxHeartbeats 0 in
theorem zzseg3(w:HF)(os:Iy):segRun PySem.treeTable PySem.Challenge.pw_trueleaf_k63_setting_refused w 11 (some (.ref 6)) 1 609 ⟨zzh3 w.params,Ij [],⟨0,0,0,0⟩,818,os⟩ (piecesOf ((zzbE.drop 56).take 21) zzev zzcE (PySem.Pos.mk 255 0 358 21) zzbF)=some (.next,⟨zzh4 w.params,Ij [],⟨0,0,0,0⟩,995,os⟩,zzcE,PySem.Pos.mk 547 0 564 108):=by kernel_rfl
set_option maxHeartbeats 0 in
theorem zzfinL(w:HF)(os:Iy):topRun PySem.treeTable PySem.Challenge.pw_trueleaf_k63_setting_refused w 11 (some (.ref 6)) 2 ⟨zzh4 w.params,Ij [],⟨0,0,0,0⟩,995,os⟩ ⟨doneF .next,zzcE,PySem.Pos.mk 547 0 564 108,zzbF⟩=some ⟨zzhF w.params,Ij [],⟨0,0,0,0⟩,995,os⟩:=by kernel_rfl
set_option maxHeartbeats 0 in
theorem zzbodyE:zzbE=(((zzbE.drop 0).take 7)++(((zzbE.drop 7).take 20)++(((zzbE.drop 27).take 29)++(((zzbE.drop 56).take 21)++[])))):=by kernel_rfl
theorem zzrunL(w:HF)(os:Iy):topRun PySem.treeTable PySem.Challenge.pw_trueleaf_k63_setting_refused w 11 (some (.ref 6)) (12+(1+(1261+(1191+(1647+(609+2)))))) ⟨boot_heap w.params,Ij [],boot_drawn,boot_toks,os⟩ (topStub PySem.Challenge.pw_trueleaf_k63_setting_refused)=some ⟨zzhF w.params,Ij [],⟨0,0,0,0⟩,995,os⟩:=by
 have k0:topRun PySem.treeTable PySem.Challenge.pw_trueleaf_k63_setting_refused w 11 (some (.ref 6)) (1261+(1191+(1647+(609+2)))) ⟨zzhB w.params,Ij [],⟨0,0,0,0⟩,187,os⟩ (restOf (((zzbE.drop 0).take 7)++(((zzbE.drop 7).take 20)++(((zzbE.drop 27).take 29)++(((zzbE.drop 56).take 21)++[])))) zzev zzcE (PySem.Pos.mk 0 0 0 0) zzbF)=some ⟨zzhF w.params,Ij [],⟨0,0,0,0⟩,995,os⟩:=piece_app (zzseg0 w os) (piece_app (zzseg1 w os) (piece_app (zzseg2 w os) (piece_app (zzseg3 w os) (piece_nil (env:=zzev) (q:=PySem.Pos.mk 0 0 0 0) (zzfinL w os)))));have k1:topRun PySem.treeTable PySem.Challenge.pw_trueleaf_k63_setting_refused w 11 (some (.ref 6)) (1261+(1191+(1647+(609+2)))) ⟨zzhB w.params,Ij [],⟨0,0,0,0⟩,187,os⟩ (restOf zzbE zzev zzcE (PySem.Pos.mk 0 0 0 0) zzbF)=some ⟨zzhF w.params,Ij [],⟨0,0,0,0⟩,995,os⟩:=(congrArg (λb=>topRun PySem.treeTable PySem.Challenge.pw_trueleaf_k63_setting_refused w 11 (some (.ref 6)) (1261+(1191+(1647+(609+2)))) ⟨zzhB w.params,Ij [],⟨0,0,0,0⟩,187,os⟩ (restOf b zzev zzcE (PySem.Pos.mk 0 0 0 0) zzbF)) zzbodyE).trans k0;exact go_top (zzpreL w os) (piece_block (zzblkL w os) k1)
set_option maxHeartbeats 0 in
theorem zzopE:opening PySem.Challenge.pw_trueleaf_k63_setting_refused=plainProg PySem.Challenge.pw_trueleaf_k63_setting_refused.main.scope.names:=by kernel_rfl
set_option maxHeartbeats 0 in
theorem FG(w:HF):((boot_heap w.params).isNs HC&&(Ij []:Array Lg).size==0,(boot_heap w.params).objs.size,(boot_heap w.params).nsMap HC "__annotations__")=(true,11,some (.ref 6)):=by kernel_rfl
set_option maxHeartbeats 0 in
theorem zzlkA(w:HF)(os:Iy):staticsOk (J7 PySem.Challenge.pw_trueleaf_k63_setting_refused.main.body) (boot_heap w.params) (zzhF w.params)=true:=by kernel_rfl
set_option maxHeartbeats 0 in
theorem zzlkB(w:HF)(os:Iy):namesBound PySem.Challenge.pw_trueleaf_k63_setting_refused (zzhF w.params)=true:=by kernel_rfl
set_option maxHeartbeats 0 in
theorem zzlkC(w:HF)(os:Iy):gensDone (⟨zzhF w.params,Ij [],⟨0,0,0,0⟩,995,os⟩)=true:=by kernel_rfl
set_option maxHeartbeats 0 in
theorem zzlkD(w:HF)(os:Iy):laidKept (boot_heap w.params) (zzhF w.params)=true:=by kernel_rfl
noncomputable abbrev zzzF(w:HF)(os:Iy):GY:=⟨zzhF w.params,Ij [],⟨0,0,0,0⟩,995,os⟩
set_option maxHeartbeats 0 in
theorem zzlc0(w:HF)(os:Iy):seen ((recsOf vw).map (·.name)) (ownsOf vw) [] { zzzF w os with gens:=#[] }=expectedOf vw:=by kernel_rfl
set_option maxHeartbeats 0 in
theorem zzlc1(w:HF)(os:Iy):(zzzF w os).heap.bltView=bltViewBooted:=by kernel_rfl
set_option maxHeartbeats 0 in
theorem zzlc2(w:HF)(os:Iy):((zzzF w os).heap.keysOk (looseW vw ls) ((recsOf vw).map (·.name)) ((litsOf vw).map (·.1)) ((clssOf vw (looseW vw ls)).map (·.name))&&(zzzF w os).heap.accountedOkI (J7 PySem.Challenge.pw_trueleaf_k63_setting_refused.main.body)&&(zzzF w os).heap.isNs HC&&(zzzF w os).heap.isNs Lb&&tablesOk vw (zzzF w os).heap&&xt (zzzF w os)&&(if true=true then(zzzF w os).gens.size==0 else !leftWithCleanup (zzzF w os).gens))=true:=by kernel_rfl
set_option maxHeartbeats 0 in
theorem zzlc3(w:HF)(os:Iy):tabsOk vw (zzzF w os)=true:=by kernel_rfl
set_option maxHeartbeats 0 in
theorem zzlc4(w:HF)(os:Iy):pinSeenD vw (drecsOf vw) (zzzF w os)=pinGoodD (drecsOf vw):=by kernel_rfl
set_option maxHeartbeats 0 in
theorem zzlc5(w:HF)(os:Iy):plainSeenE vw (looseW vw ls) (zzzF w os)=plainGoodE vw (looseW vw ls):=by kernel_rfl
set_option maxHeartbeats 0 in
theorem zzlc6(w:HF)(os:Iy):plainSeenD vw ls (zzzF w os)=plainGoodD vw ls:=by kernel_rfl
set_option maxHeartbeats 0 in
theorem zzlc7(w:HF)(os:Iy):wideSeen vw (zzzF w os)=wideGood vw:=by kernel_rfl
set_option maxHeartbeats 0 in
theorem zzlc8(w:HF)(os:Iy):clsSeenW vw ls (zzzF w os)=clsGoodW vw ls:=by kernel_rfl
theorem zzmk9{A B C D E F G H I:Type}{a a':A}{b b':B}{c c':C}{d d':D}{e e':E}{f f':F}{g g':G}{h h':H}{i i':I}(zzh0:a=a')(zzh1:b=b')(zzh2:c=c')(zzh3:d=d')(zzh4:e=e')(zzh5:f=f')(zzh6:g=g')(zzh7:h=h')(zzh8:i=i'):(a,b,c,d,e,f,g,h,i)=(a',b',c',d',e',f',g',h',i'):=by
 subst zzh0 zzh1 zzh2 zzh3 zzh4 zzh5 zzh6 zzh7 zzh8;rfl
theorem zzlkO(w:HF)(os:Iy):openSeen vw ls (J7 PySem.Challenge.pw_trueleaf_k63_setting_refused.main.body) xt true (zzzF w os)=openGood vw ls:=zzmk9 (zzlc0 w os) (zzlc1 w os) (zzlc2 w os) (zzlc3 w os) (zzlc4 w os) (zzlc5 w os) (zzlc6 w os) (zzlc7 w os) (zzlc8 w os)
set_option maxHeartbeats 0 in
theorem FH(w:HF)(os:Iy):Hook.obs hk (⟨zzhF w.params,Ij [],⟨0,0,0,0⟩,995,os⟩)=Hook.val hk w:=by kernel_rfl
theorem zzlkP(w:HF)(os:Iy):(staticsOk (J7 PySem.Challenge.pw_trueleaf_k63_setting_refused.main.body) (boot_heap w.params) (zzhF w.params)&&namesBound PySem.Challenge.pw_trueleaf_k63_setting_refused (zzhF w.params)&&gensDone (⟨zzhF w.params,Ij [],⟨0,0,0,0⟩,995,os⟩)&&laidKept (boot_heap w.params) (zzhF w.params))=true:=by rw[zzlkA w os,zzlkB w os,zzlkC w os,zzlkD w os];rfl
theorem left:LeftO PySem.Challenge.pw_trueleaf_k63_setting_refused vw ls xt (Hook.obs hk) (Hook.val hk) 9534:=
 LeftO.of_pieces (boot_open zzopE (by decide) (λs=>rfl)) FG zzrunL (by decide) λw=>funext λos=>Prod.ext (zzlkP w os) (Prod.ext (zzlkO w os) (FH w os))

end K63
set_option maxHeartbeats 4000000
namespace L2
open PySem PySem.Spec PyProof.Rows

abbrev Key:=Sum Int Str
def m_:Key->GV->Bool
 |.inl k,v=>Value.isInt k v
 |.inr x,v=>Value.isStrOf x v
def Ev(w:HF):Key->Int
 |.inl k=>hashInt k
 |.inr x=>hashStr w x
theorem dm:∀{k:Key} {v:GV},m_ k v=true->(∃i t,k=K3 i/\v=JR i t)\/(∃x t,k=JB x/\v=IW x t)
 |.inl i,v,h=>by
  obtain⟨t,e⟩:=Value.isInt_shape (k:=i) (v:=v) h;exact .inl ⟨i,t,rfl,e⟩
 |.inr x,v,h=>by
  obtain⟨t,e⟩:=Value.isStrOf_shape (x:=x) (v:=v) h;exact .inr ⟨x,t,rfl,e⟩
theorem AJ(i:Int)(t:Tok):m_ (.inl i) (.int i t)=true:=by simp[m_,Value.isInt]
theorem AK(x:Str)(t:Tok):m_ (.inr x) (.str x t)=true:=by simp[m_,Value.isStrOf]
theorem Ew(a b:Int):decide ((K3 a:Key)=K3 b)=(a==b):=by
 by_cases e:a=b
 .subst e;simp
 .have h:¬ (K3 a:Key)=K3 b:=λq=>e (Sum.inl.inj q);rw[decide_eq_false h];exact(beq_eq_false_iff_ne.mpr e).symm
theorem Ex(a b:Str):decide ((JB a:Key)=JB b)=decide (a=b):=by
 by_cases e:a=b
 .subst e;simp
 .have h:¬ (JB a:Key)=JB b:=λq=>e (Sum.inr.inj q);rw[decide_eq_false h,decide_eq_false e]
theorem Ey(a:Int)(b:Str):decide ((K3 a:Key)=JB b)=false:=decide_eq_false (λq=>nomatch q)
theorem Ez(a:Str)(b:Int):decide ((JB a:Key)=K3 b)=false:=decide_eq_false (λq=>nomatch q)

def bA(prog:HB)(w:HF):PySem.KeyKind prog w Key where
 is:=m_
 hash:=Ev w
 inj:=λv a b ha hb=>by
  rcases dm ha with⟨i,t,rfl,rfl⟩|⟨x,t,rfl,rfl⟩
  .rcases dm hb with⟨j,u,rfl,e⟩|⟨y,u,rfl,e⟩
   .injection e with e1 _;rw[e1]
   .exact nomatch e
  .rcases dm hb with⟨j,u,rfl,e⟩|⟨y,u,rfl,e⟩
   .exact nomatch e
   .injection e with e1 _;rw[e1]
 byValue:=λk v h=>by
  rcases dm h with⟨i,t,rfl,rfl⟩|⟨x,t,rfl,rfl⟩<;>rfl
 pyHash:=λhv h=>by
  rcases dm hv with⟨i,t,rfl,rfl⟩|⟨x,t,rfl,rfl⟩
  .exact wpAny_pyHash_int h
  .exact wpAny_pyHash_str h
 eqBool:=λhu hv h=>by
  rcases dm hu with⟨i,t,rfl,rfl⟩|⟨x,t,rfl,rfl⟩
  .rcases dm hv with⟨j,u,rfl,rfl⟩|⟨y,u,rfl,rfl⟩
   .rw[Ew]at h;exact wpAny_eqBool_int h
   .rw[Ey]at h;exact SeqAt.EqAt.int_str i t y u _ _ _ _ h
  .rcases dm hv with⟨j,u,rfl,rfl⟩|⟨y,u,rfl,rfl⟩
   .rw[Ez]at h;exact SeqAt.EqAt.str_int x t j u _ _ _ _ h
   .rw[Ex]at h;exact wpAny_eqBool_str h
 «strs»:=λk x t v h=>by
  rcases dm h with⟨i,u,rfl,e⟩|⟨y,u,rfl,e⟩
  .exact nomatch e
  .injection e with e1 _;subst e1;cases v<;>rfl

theorem yT(prog:HB)(w:HF)(i:Int)(t:Tok):(bA prog w).is (.inl i) (.int i t)=true:=AJ i t
theorem yU(prog:HB)(w:HF)(x:Str)(t:Tok):(bA prog w).is (.inr x) (.str x t)=true:=AK x t

inductive V where
 |non|bl (b:Bool)|int (i:Int)|str (x:Str)|byt (b:Array UInt8)|flt (b:UInt64)|ref (a:Addr)|ty (n:String)
 deriving DecidableEq

def bo:V->GV->Prop
 |.non,u=>u=JS
 |.bl b,u=>u=Lc b
 |.int i,u=>∃t,u=JR i t
 |.str x,u=>∃t,u=IW x t
 |.byt b,u=>∃t,u=Value.bytes b t
 |.flt b,u=>∃t,u=Value.float b t
 |.ref a,u=>u=Ie a
 |.ty n,u=>u=Js n

abbrev bg:List V->List GV->Prop:=Paired bo
theorem bg.length{xs:List V}{us:List GV}(r:bg xs us):xs.length=us.length:=Paired.length r
theorem bg.get:∀{xs:List V} {us:List GV} {i:Nat} {x:V},bg xs us->xs[i]?=some x->∃u,us[i]?=some u/\bo x u
 |_,_,_,_,.nil,e=>by simp at e
 |_,_,0,_,.cons r _,e=>by simp at e;subst e;exact⟨_,rfl,r⟩
 |_,_,i+1,x,.cons _ t,e=>by
  obtain⟨u,h1,h2⟩:=bg.get (i:=i) (x:=x) t (by simpa using e);exact⟨u,by simpa using h1,h2⟩
theorem bg.set{x:V}{u:GV}(r:bo x u):∀{xs:List V} {us:List GV} (i:Nat),bg xs us->bg (xs.set i x) (us.set i u)
 |_,_,_,.nil=>.nil
 |_,_,0,.cons _ t=>.cons r t
 |_,_,i+1,.cons q t=>.cons q (bg.set r i t)
theorem bg.append:∀{xs ys:List V} {us ws:List GV},bg xs us->bg ys ws->bg (xs++ys) (us++ws)
 |_,_,_,_,.nil,s=>s
 |_,_,_,_,.cons r t,s=>.cons r (bg.append t s)
theorem bg.take:∀{xs:List V} {us:List GV} (n:Nat),bg xs us->bg (xs.take n) (us.take n)
 |_,_,0,_=>.nil
 |_,_,_+1,.nil=>.nil
 |_,_,n+1,.cons r t=>.cons r (bg.take n t)
theorem bg.drop:∀{xs:List V} {us:List GV} (n:Nat),bg xs us->bg (xs.drop n) (us.drop n)
 |_,_,0,r=>r
 |_,_,_+1,.nil=>.nil
 |_,_,n+1,.cons _ t=>bg.drop n t
def g9:Option V->Option GV->Prop
 |some v,some u=>bo v u
 |none,none=>True
 |_,_=>False
def KV{κ:Type}:List (κ×V)->List (κ×GV)->Prop:=Paired λ(p:κ×V) (q:κ×GV)=>p.1=q.1/\bo p.2 q.2

def kV:Key->V
 |.inl i=>.int i
 |.inr x=>.str x

inductive HO where
  |lst (xs:List V)
  |tup (xs:List V)
  |dK (kvs:List (Key×V))|dT (kvs:List (List Key×V))
  |set (S:Int->Bool) (n:Nat)
  |ins (C dx:Addr) (fs:List (Str×V))
  |own (x:Addr)
  |xd (fs:List (Str×V))
  |met (f x:Addr)
  |rng (lo hi:Int)
  |frz (o:Obj) (u:HO)
  |tbl (ps:Array GV)
  |ext (φ:Heap->Prop)

abbrev Hp:=Addr->Option HO
def upd(H:Hp)(a:Addr)(o:HO):Hp:=λb=>if b=a then some o else H b
theorem ac{H:Hp}{a:Addr}{o:HO}:upd H a o a=some o:=by unfold upd;rw[if_pos rfl]
theorem aj{H:Hp}{a b:Addr}{o:HO}(h:b≠a):upd H a o b=H b:=by unfold upd;rw[if_neg h]
theorem FI{H:Hp}{a b:Addr}{o u:HO}(h:H a=some o)(h':H b=some u)(d:o≠u):a≠b:=by
 intro e;subst e;rw[h]at h';exact d (HV h')
theorem cB{H:Hp}{a b:Addr}{o:HO}(h:H a=some o)(h':H b=none):a≠b:=by
 intro e;subst e;rw[h]at h';cases h'

section
variable (P:HB)(w:HF)
def cu(H:Hp)(h:Heap)(a:Addr):HO->Prop
 |.lst xs=>xs.length<=Hs/\∃(its:List GV) (n:Nat),bg xs its/\h.get? a=some { cls:=.type "list",data:=.seq its.toArray n }
 |.tup xs=>xs.length<=Hs/\∃its:List GV,bg xs its/\IsTup h a its.toArray
 |.dK kvs=>kvs.length<=Hs/\(a==IE)=false/\∃vs,KV kvs vs/\h.DictOf (bA P w) a vs
 |.dT kvs=>kvs.length<=Hs/\(a==IE)=false/\∃xs:List (List Key×Addr×GV),
   Paired (λ(p:List Key×V) (q:List Key×Addr×GV)=>p.1=q.1/\H q.2.1=some (.tup (p.1.map kV))/\bo p.2 q.2.2) kvs xs/\
   ∃o es ep,h.get? a=some o/\o.ExactDict/\o.data=.dict es ep/\es.toList=xs.map (entryOfKey (K4 (bA P w)))/\(xs.map (·.1)).Nodup
 |.set S n=>h.SetOf (intKind P w) a S n
 |.ins C dx fs=>H dx=some (.own a)/\fs.length<=1000/\dx≠a/\h.get? a=some (PySem.W.instObj C dx)/\
   ∃mA,h.Ns1 dx mA/\(∀f,g9 (fs.lookup f) (mA f))/\PySem.Within mA (fs.map (·.1))
 |.own _=>∃o,h.get? a=some o
 |.xd fs=>∃mA,h.Ns1 a mA/\∀f,g9 (fs.lookup f) (mA f)
 |.rng lo hi=>∃t u v,h.get? a=some { cls:=.type "range",data:=.fields #[.int lo t,.int hi u,.int 1 v] }
 |.frz o u=>h.get? a=some o/\cu H h a u
 |.tbl ps=>h.get? a=some { cls:=.none,data:=.fields ps }
 |.met f x=>h.get? a=some (PySem.W.methodObj (.ref f) (.ref x))
 |.ext φ=>φ h/\(∃o,h.get? a=some o)/\∀h1 h2:Heap,φ h1->(∀o,h1.get? a=some o->h2.get? a=some o)->φ h2
def HOk(H:Hp)(h:Heap):Prop:=∀a o,H a=some o->cu P w H h a o
end

section
variable {P:HB}{w:HF}{H H':Hp}{h h':Heap}{a:Addr}{o:HO}
theorem cu.lt(x:cu P w H h a o):a<h.objs.size:=by
 cases o with
 |lst xs=>obtain⟨_,_,_,_,e⟩:=x;exact Hl e
 |tup xs=>obtain⟨_,_,_,p⟩:=x;exact p.lt
 |dK kvs=>obtain⟨_,_,_,_,o,_,_,e,_⟩:=x;exact Hl e
 |dT kvs=>obtain⟨_,_,_,_,o,_,_,e,_⟩:=x;exact Hl e
 |set S n=>obtain⟨o,_,_,_,e,_⟩:=x;exact Hl e
 |ins C dx fs=>obtain⟨_,_,_,e,_⟩:=x;exact Hl e
 |own y=>obtain⟨_,e⟩:=x;exact Hl e
 |xd fs=>obtain⟨_,⟨_,_,_,e,_⟩,_⟩:=x;exact Hl e
 |rng lo hi=>obtain⟨_,_,_,e⟩:=x;exact Hl e
 |frz ob u=>obtain⟨e,_⟩:=x;exact Hl e
 |tbl ps=>exact Hl (show h.get? a=some _ from x)
 |met f y=>exact Hl (show h.get? a=some _ from x)
 |ext φ=>obtain⟨_,⟨_,e⟩,_⟩:=x;exact Hl e
theorem Paired.mapP{α β:Type}{F G:α->β->Prop}:∀{l₁:List α} {l₂:List β},Paired F l₁ l₂->(∀a b,F a b->G a b)->Paired G l₁ l₂
 |_,_,.nil,_=>.nil
 |_,_,.cons r t,f=>.cons (f _ _ r) (Paired.mapP t f)
theorem cu.stay(x:cu P w H h a o)(k:∀b u,(b=a\/H b=some (.own a))->h.get? b=some u->h'.get? b=some u)
  (ho:∀b,H b=some (.own a)->H' b=some (.own a))(ht:∀b xs,H b=some (.tup xs)->H' b=some (.tup xs)):cu P w H' h' a o:=by
 induction o with
 |lst xs=>obtain⟨z,its,n,r,e⟩:=x;exact⟨z,its,n,r,k _ _ (.inl rfl) e⟩
 |tup xs=>obtain⟨z,its,r,ob,e,c⟩:=x;exact⟨z,its,r,ob,k _ _ (.inl rfl) e,c⟩
 |dK kvs=>obtain⟨z,y,vs,r,ob,es,ep,e,c⟩:=x;exact⟨z,y,vs,r,ob,es,ep,k _ _ (.inl rfl) e,c⟩
 |dT kvs =>
  obtain⟨z,y,xs,r,ob,es,ep,e,c⟩:=x;exact⟨z,y,xs,Paired.mapP r λp q z=>⟨z.1,ht _ _ z.2.1,z.2.2⟩,ob,es,ep,k _ _ (.inl rfl) e,c⟩
 |set S n=>obtain⟨ob,es,ep,t,e,c⟩:=x;exact⟨ob,es,ep,t,k _ _ (.inl rfl) e,c⟩
 |ins C dx fs =>
  obtain⟨d,z,ne,e,mA,⟨od,es,ep,e2,c⟩,r⟩:=x;exact⟨ho _ d,z,ne,k _ _ (.inl rfl) e,mA,⟨od,es,ep,k _ _ (.inr d) e2,c⟩,r⟩
 |own y=>obtain⟨ob,e⟩:=x;exact⟨ob,k _ _ (.inl rfl) e⟩
 |xd fs=>obtain⟨mA,⟨od,es,ep,e,c⟩,r⟩:=x;exact⟨mA,⟨od,es,ep,k _ _ (.inl rfl) e,c⟩,r⟩
 |rng lo hi=>obtain⟨t,u,v,e⟩:=x;exact⟨t,u,v,k _ _ (.inl rfl) e⟩
 |frz ob u ih=>obtain⟨e,q⟩:=x;exact⟨k _ _ (.inl rfl) e,ih q⟩
 |tbl ps =>
  have e:h.get? a=some { cls:=.none,data:=.fields ps }:=x;show h'.get? a=some { cls:=.none,data:=.fields ps };exact k a _ (.inl rfl) e
 |met f y =>
  have e:h.get? a=some (PySem.W.methodObj (.ref f) (.ref y)):=x;show h'.get? a=some (PySem.W.methodObj (.ref f) (.ref y));exact k a _ (.inl rfl) e
 |ext φ=>obtain⟨p,⟨o,e⟩,st⟩:=x;exact⟨st _ _ p λo q=>k _ _ (.inl rfl) q,⟨o,k _ _ (.inl rfl) e⟩,st⟩
theorem HOk.lt(x:HOk P w H h)(e:H a=some o):a<h.objs.size:=(x a o e).lt
theorem HOk.fresh(x:HOk P w H h)(e:h.objs.size<=a):H a=none:=by
 cases q:H a with
 |none=>rfl
 |some u=>exact absurd (Hx (x.lt q) e) (Iq _)
theorem HOk.kept(x:HOk P w H h)(k:∀b u,h.get? b=some u->h'.get? b=some u):HOk P w H h':=λa o e =>
 (x a o e).stay (λb u _ q=>k b u q) (λ_ q=>q) λ_ _ q=>q
theorem HOk.laid(x:HOk P w H h)(k:∀b u,h.get? b=some u->h'.get? b=some u)(hp:h.objs.size<=a)(new:cu P w (upd H a o) h' a o):HOk P w (upd H a o) h':=λb u e=>by
 have hn:=x.fresh hp;by_cases hb:b=a
 .subst hb;rw[ac]at e;cases e;exact new
 .rw[aj hb]at e;exact(x b u e).stay (λc v _ q=>k c v q) (λc q=>by rw[aj (cB q hn)];exact q) λc xs q=>by rw[aj (cB q hn)];exact q
end

def Rd(H:Hp)(a:Addr)(u:HO):Prop:=H a=some u\/∃o,H a=some (.frz o u)
theorem Rd.ok{P:HB}{w:HF}{H:Hp}{h:Heap}{a:Addr}{u:HO}(r:Rd H a u)(x:HOk P w H h):cu P w H h a u:=by
 rcases r with r|⟨o,r⟩
 .exact x a u r
 .obtain⟨_,q⟩:=x a _ r;exact q
def Mut:Option HO->Prop
 |some (.lst _)=>True
 |some (.dK _)=>True
 |some (.dT _)=>True
 |some (.set _ _)=>True
 |some (.ins _ _ _)=>True
 |some (.ext _)=>True
 |_=>False
section
variable {P:HB}{w:HF}{H:Hp}{h h':Heap}{x e:Addr}{o':HO}
theorem HOk.write(ok:HOk P w H h)(mu:Mut (H x))(he:e=x\/H e=some (.own x))(k:∀b u,b≠e->h.get? b=some u->h'.get? b=some u)(heo:∃u,h'.get? e=some u)
  (new:cu P w (upd H x o') h' x o'):HOk P w (upd H x o') h':=λb u q=>by
 have nown:∀c y,H c=some (.own y)->c≠x:=λc y r z=>by subst z;rw[r]at mu;exact mu
 have ntup:∀c xs,H c=some (.tup xs)->c≠x:=λc xs r z=>by subst z;rw[r]at mu;exact mu
 by_cases hb:b=x
 .subst hb;rw[ac]at q;cases q;exact new
 .rw[aj hb]at q;by_cases hbe:b=e
  .have q':H b=some (.own x):=by
    rcases he with z|z
    .exact absurd (hbe.trans z) hb
    .rw[hbe];exact z
   rw[q]at q';cases q';obtain⟨v,hv⟩:=heo;exact⟨v,by rw[hbe];exact hv⟩
  .refine(ok b u q).stay (λc v hc r=>k c v ?_ r) (λc r=>by rw[aj (nown c b r)];exact r) λc xs r=>by rw[aj (ntup c xs r)];exact r
   rcases hc with rfl|hc
   .exact hbe
   .rintro rfl;rcases he with z|z
    .exact nown c b hc z
    .rw[hc]at z;cases z;exact hb rfl
end

structure Un(fs ex:List Addr)(H H':Hp)(h h':Heap):Prop where
 keep:∀b o,h.get? b=some o->H b=none->b∉fs->b∉ex->h'.get? b=some o
 slot:∀b o,h.get? b=some o->H b=none->b∈fs->b∉ex->∃sl,h'.get? b=some { o with slots:=sl }
 free:∀b o,h.get? b=some o->H b=none->b∉ex->H' b=none
 there:∀b o,h.get? b=some o->b∉ex->∃o',h'.get? b=some o'
 tups:∀b xs,H b=some (.tup xs)->H' b=some (.tup xs)
 frzs:∀b o u,H b=some (.frz o u)->H' b=some (.frz o u)
 tbls:∀b ps,H b=some (.tbl ps)->∃more,H' b=some (.tbl (ps++more))
section
variable {fs fs' ex ex':List Addr}{H H1 H2:Hp}{h h1 h2 h':Heap}{a x e:Addr}{o:HO}
theorem Un.any(u:Un fs ex H H1 h h1){b:Addr}{ob:Obj}(q:h.get? b=some ob)(n:H b=none)(hx:b∉ex):∃sl,h1.get? b=some { ob with slots:=sl }:=by
 by_cases hb:b∈fs
 .exact u.slot b ob q n hb hx
 .exact⟨ob.slots,u.keep b ob q n hb hx⟩
theorem Un.trans(a:Un fs ex H H1 h h1)(b:Un fs ex H1 H2 h1 h2):Un fs ex H H2 h h2 where
 keep:=λc ob q n hc hx=>b.keep c ob (a.keep c ob q n hc hx) (a.free c ob q n hx) hc hx
 slot:=λc ob q n hc hx=>by
  obtain⟨sl,e1⟩:=a.slot c ob q n hc hx;obtain⟨sl',e2⟩:=b.slot c _ e1 (a.free c ob q n hx) hc hx;exact⟨sl',e2⟩
 free:=λc ob q n hx=>by
  obtain⟨o',e1⟩:=a.there c ob q hx;exact b.free c o' e1 (a.free c ob q n hx) hx
 there:=λc ob q hx=>by
  obtain⟨o',e1⟩:=a.there c ob q hx;exact b.there c o' e1 hx
 tups:=λc xs q=>b.tups c xs (a.tups c xs q)
 frzs:=λc ob xs q=>b.frzs c ob xs (a.frzs c ob xs q)
 tbls:=λc ps q=>by
  obtain⟨m1,e1⟩:=a.tbls c ps q;obtain⟨m2,e2⟩:=b.tbls c _ e1;exact⟨m1++m2,by rw[e2,Kj]⟩
theorem Un.kept(k:∀b u,h.get? b=some u->h'.get? b=some u):Un fs ex H H h h':=
 ⟨λb ob q _ _ _=>k b ob q,λb ob q _ _ _=>⟨ob.slots,k b ob q⟩,λ_ _ _ n _=>n,λb ob q _=>⟨ob,k b ob q⟩,λ_ _ q=>q,λ_ _ _ q=>q,λ_ ps q=>⟨#[],by rw[q];simp⟩⟩
theorem Un.refl:Un fs ex H H h h:=Un.kept λ_ _ q=>q
theorem Un.laid(k:∀b u,h.get? b=some u->h'.get? b=some u)(hp:h.objs.size<=a)(hn:H a=none):Un fs ex H (upd H a o) h h' where
 keep:=λb u q _ _ _=>k b u q
 slot:=λb u q _ _ _=>⟨u.slots,k b u q⟩
 free:=λb u q n _=>by rw[aj (Hr (Hx (Hl q) hp))];exact n
 there:=λb u q _=>⟨u,k b u q⟩
 tups:=λb xs q=>by rw[aj (cB q hn)];exact q
 frzs:=λb u xs q=>by rw[aj (cB q hn)];exact q
 tbls:=λb ps q=>⟨#[],by rw[aj (cB q hn),q];simp⟩
theorem Un.write(mu:Mut (H x))(he:e=x\/H e=some (.own x))(k:∀b u,b≠e->h.get? b=some u->h'.get? b=some u)(heo:∃u,h'.get? e=some u):Un fs ex H (upd H x o) h h':=by
 have hx:∀b,H b=none->b≠x:=λb n z=>by subst z;rw[n]at mu;exact mu
 have hb:∀b,H b=none->b≠e:=λb n z=>by
  subst z;rcases he with r|r
  .exact hx b n r
  .rw[n]at r;cases r
 have hm:∀b u,H b=some u->¬ Mut (some u)->b≠x:=λb u q nm z=>by subst z;rw[q]at mu;exact nm mu
 refine⟨λb u q n _ _=>k b u (hb b n) q,λb u q n _ _=>⟨u.slots,k b u (hb b n) q⟩,λb u q n _=>by rw[aj (hx b n)];exact n,λb u q _=>?_,
  λb xs q=>by rw[aj (hm b _ q λz=>z)];exact q,λb u xs q=>by rw[aj (hm b _ q λz=>z)];exact q,λb ps q=>⟨#[],by rw[aj (hm b _ q λz=>z),q];simp⟩⟩
 by_cases hbe:b=e
 .subst hbe;exact heo
 .exact⟨u,k b u hbe q⟩
end

def trk(h:Heap)(H:Hp):List Addr:=(IL h.objs.size).filter λa=>(H a).isSome
def pF(h:Heap)(H:Hp):Heap:=PySem.W.hideAll h (trk h H)
theorem AL(h:Heap)(H:Hp):(pF h H).objs.size=h.objs.size:=PySem.W.hideAll_size _ _
theorem B9{h:Heap}{H:Hp}{b:Addr}{o:Obj}(e:h.get? b=some o)(n:H b=none):(pF h H).get? b=some o:=
 PySem.W.hideAll_get _ e λhm=>by
  have q:(H b).isSome=true:=(List.mem_filter.mp hm).2;rw[n]at q;simp at q
theorem DC{h:Heap}{H:Hp}{b:Addr}{o:Obj}(e:(pF h H).get? b=some o):h.get? b=some o/\H b=none:=by
 have e':h.get? b=some o:=PySem.W.of_hideAll (trk h H) e;refine⟨e',?_⟩;cases q:H b with
 |none=>rfl
 |some x =>
  have hm:b∈trk h H:=List.mem_filter.mpr ⟨List.mem_range.mpr (Hl e'),by simp[q]⟩;have z:(pF h H).get? b=none:=PySem.W.hideAll_none (trk h H) hm;rw[z]at e;cases e


structure Mod(K:PySem.W.Frag)(mg:Str->Option GV)(base:Heap):Prop where
 kin:K.In base
 glob:base.Ns HC mg
 blt:∃mb,base.Ns Lb mb/\∀x:Str,x≠"__name__"->mb x=Jh x
 nolimit:base.NoLimit

structure Cx where
 prog:HB
 w:HF
 K:PySem.W.Frag
 mg:Str->Option GV
 base:Heap
 A:HY
 N:List Str
 s₀:GY
 H₀:Hp
 env:Env
 outer:List Env
 stack:List Env
 ex:List Addr
 fn:Str->Bool
 calm:Bool
 pn:List (Addr×Obj)
 xe:GV->GY->Prop
def frs(l:List Env):List Addr:=l.filterMap (·.frame)
abbrev Cx.fs(X:Cx):List Addr:=frs X.outer

def Vis(sc:Scope)(x:Str):Prop:=sc.names.lookup x=some .local\/sc.names.lookup x=some .cell\/sc.names.lookup x=some .free
def Loc(sc:Scope)(x:Str):Prop:=sc.names.lookup x=some .local\/sc.names.lookup x=some .cell
def Gh(env:Env)(h:Heap)(m:Str->Option GV)(x:Str)(u:GV):Prop:=
 (env.kindOf x=some .local/\m x=some u)\/((env.kindOf x=some .cell\/env.kindOf x=some .free)/\∃c,env.cells.lookup x=some c/\h.IsCell c (some u))

structure Cx.Ok(X:Cx):Prop where
 mod:Mod X.K X.mg X.base
 kind:X.env.scope.kind=.function
 glob:X.env.globals=HC
 blt:X.env.builtins=Lb
 above:X.s₀.heap.objs.size<=X.env.locals
 inj:∀x y c,X.env.cells.lookup x=some c->X.env.cells.lookup y=some c->x=y
 has:∀x,(X.env.kindOf x=some .cell\/X.env.kindOf x=some .free)->∃c,X.env.cells.lookup x=some c
 cab:∀x c,X.fn x=true->X.env.cells.lookup x=some c->X.s₀.heap.objs.size<=c
 hd:X.calm=true->X.A.handled=none
 frames:X.A.frames=some X.stack
 stk:X.stack=X.outer\/(X.stack=X.env::X.outer/\X.env.frame=some X.env.locals)
 exf:∀b∈X.ex,b≠X.env.locals/\∀x c,X.env.cells.lookup x=some c->c≠b
 bs:∀b o,X.base.get? b=some o->X.s₀.heap.get? b=some o/\X.H₀ b=none
 bsz:X.base.objs.size<=X.s₀.heap.objs.size
 noex:∀b o,X.base.get? b=some o->b∉X.ex
 exfs:∀b∈X.ex,b∉X.fs
 funs:X.s₀.heap.FunFrames X.base X.outer
 frf:∀b∈X.fs,X.H₀ b=none

structure Inv(X:Cx)(pins:List (Addr×Obj))(σ:List (Option V))(H:Hp)(s:GY):Prop where
 ok:X.Ok
 os:s.os=X.s₀.os
 bare:JW s.gens
 base:Un X.fs X.ex X.H₀ H X.s₀.heap s.heap
 loc:∃m,s.heap.Ns X.env.locals m/\∀(i:Nat) (x:Str) (v:V),X.N[i]?=some x->σ[i]?=some (some v)->Vis X.env.scope x->∃u,bo v u/\Gh X.env s.heap m x u
 cell:∀x c,X.env.cells.lookup x=some c->∃v,s.heap.IsCell c v
 free:H X.env.locals=none
 freeC:∀x c,X.env.cells.lookup x=some c->H c=none
 pin:∀p∈X.pn++pins,s.heap.get? p.1=some p.2/\H p.1=none/\p.1≠X.env.locals/\p.1∉X.fs/\∀v,p.2.data≠.cell v
 hok:HOk X.prog X.w H s.heap
 len:σ.length=X.N.length

section
variable {X:Cx}{pins:List (Addr×Obj)}{σ:List (Option V)}{H H':Hp}{s:GY}{h':Heap}

theorem Cx.Ok.nofr(ok:X.Ok){b:Addr}{o:Obj}(e:X.base.get? b=some o):b∉X.fs:=λhb=>by
 have:=(ok.funs.mem hb).1;rw[e]at this;cases this
theorem Inv.bs(I:Inv X pins σ H s):∀b o,X.base.get? b=some o->s.heap.get? b=some o/\H b=none:=λb o e =>
 ⟨I.base.keep b o (I.ok.bs b o e).1 (I.ok.bs b o e).2 (I.ok.nofr e) (I.ok.noex b o e),I.base.free b o (I.ok.bs b o e).1 (I.ok.bs b o e).2 (I.ok.noex b o e)⟩
theorem Inv.bk(I:Inv X pins σ H s):∀b o,X.base.get? b=some o->s.heap.get? b=some o:=λb o e=>(I.bs b o e).1
theorem Inv.mod(I:Inv X pins σ H s):Mod X.K X.mg X.base:=I.ok.mod
theorem Inv.kIn(I:Inv X pins σ H s):X.K.In s.heap:=I.ok.mod.kin.keeps I.bk
theorem Inv.lt(I:Inv X pins σ H s):X.env.locals<s.heap.objs.size:=let⟨_,hn,_⟩:=I.loc;hn.lt
theorem Inv.sz(I:Inv X pins σ H s):X.s₀.heap.objs.size<=s.heap.objs.size:=Ho I.ok.above (HM I.lt)
theorem Inv.nofs(I:Inv X pins σ H s){a:Addr}(h:s.heap.objs.size<=a):a∉X.fs:=λhb=>by
 obtain⟨_,o,ho,_⟩:=I.ok.funs.mem hb;exact absurd (Hx (Hl ho) (Ho I.sz h)) (Iq _)
theorem Inv.cne(I:Inv X pins σ H s):∀x c,X.env.cells.lookup x=some c->c≠X.env.locals:=λx c e z=>by
 obtain⟨v,o,ho,hd⟩:=I.cell x c e;obtain⟨m,⟨o',es,ep,ho',hd',_⟩,_⟩:=I.loc;rw[z,ho']at ho;cases ho;rw[hd']at hd;cases hd
theorem Inv.funs(I:Inv X pins σ H s):s.heap.FunFrames X.base X.outer:=by
 have all:∀(l:List Env),(∀b∈frs l,b∈X.fs)->X.s₀.heap.FunFrames X.base l->s.heap.FunFrames X.base l:=by
  intro l;induction l with
  |nil=>intro _ _;trivial
  |cons env r ih =>
   intro hs hl;obtain⟨hk,⟨L,o,hf,hn,ho,hd⟩,hr⟩:=hl;have hL:L∈X.fs:=hs L (by unfold frs;rw[IM,hf];exact He);obtain⟨sl,e⟩:=I.base.slot L o ho (I.ok.frf L hL) hL λz=>I.ok.exfs L z hL;exact⟨hk,⟨L,_,hf,hn,e,hd⟩,ih (λb hb=>hs b (by unfold frs;rw[IM,hf];exact Hb _ hb)) hr⟩
 exact all X.outer (λ_ hb=>hb) I.ok.funs

theorem Inv.stack(I:Inv X pins σ H s):s.heap.FunFrames X.base X.stack:=by
 rcases I.ok.stk with e|⟨e,hf⟩
 .rw[e];exact I.funs
 .rw[e];obtain⟨m,hn,_⟩:=I.loc;refine .cons (by rw[I.ok.kind];decide) hf hn ?_ I.funs;exact Heap.get?_none_of_le (Ho I.ok.bsz I.ok.above)
theorem Inv.stkSub(I:Inv X pins σ H s):∀b∈frs X.stack,b∈X.env.locals::X.fs:=λb hb=>by
 rcases I.ok.stk with e|⟨e,hf⟩
 .rw[e]at hb;exact Hb _ hb
 .rw[e]at hb;unfold frs at hb;rw[IM,hf]at hb;exact hb
theorem Inv.stkFree(I:Inv X pins σ H s):∀b∈frs X.stack,H b=none:=λb hb=>by
 rcases List.mem_cons.mp (I.stkSub b hb)with e|hb
 .rw[e];exact I.free
 .obtain⟨_,o,ho,_⟩:=I.ok.funs.mem hb;exact I.base.free b o ho (I.ok.frf b hb) λz=>I.ok.exfs b z hb

theorem Inv.step{g':Array Lg}{t':Nat}{d':Drawn}{ch:List Addr}(I:Inv X pins σ H s)
  (hch:∀b∈ch,(b∈X.ex\/X.s₀.heap.objs.size<=b)/\b≠X.env.locals/\(∀x c,X.env.cells.lookup x=some c->c≠b)/\∀p∈X.pn++pins,p.1≠b)
  (keep:∀b o,b≠X.env.locals->b∉X.fs->b∉ch->s.heap.get? b=some o->H b=none->h'.get? b=some o)
  (slot:∀b o,b≠X.env.locals->b∈X.fs->b∉ch->s.heap.get? b=some o->H b=none->∃sl,h'.get? b=some { o with slots:=sl })(free:∀b o,b∉ch->s.heap.get? b=some o->H b=none->H' b=none)
  (there:∀b o,b∉ch->s.heap.get? b=some o->∃o',h'.get? b=some o')
  (tups:∀b xs,H b=some (.tup xs)->H' b=some (.tup xs))(frzs:∀b o u,H b=some (.frz o u)->H' b=some (.frz o u))(tbls:∀b ps,H b=some (.tbl ps)->∃more,H' b=some (.tbl (ps++more)))
  (ns:∀m,s.heap.Ns X.env.locals m->h'.Ns X.env.locals m)(hok:HOk X.prog X.w H' h')(hg:JW g') :
  Inv X pins σ H' { s with heap:=h',gens:=g',drawn:=d',toks:=t' }:=by
 have neL:∀b o,X.s₀.heap.get? b=some o->b≠X.env.locals:=λb o e=>Hr (Hx (Hl e) I.ok.above);have neC:∀b o,X.s₀.heap.get? b=some o->b∉X.ex->b∉ch:=λb o e hx hb=>by
  rcases(hch b hb).1 with z|z
  .exact hx z
  .exact absurd (Hx (Hl e) z) (Iq _)
 have cellK:∀x c,X.env.cells.lookup x=some c->∀v,s.heap.IsCell c v->h'.IsCell c v:=λx c e v ⟨o,ho,hd⟩=>by
  have nch:c∉ch:=λz=>(hch c z).2.2.1 x c e rfl;by_cases hc:c∈X.fs
  .obtain⟨sl,q⟩:=slot c o (I.cne x c e) hc nch ho (I.freeC x c e);exact⟨_,q,hd⟩
  .exact⟨o,keep c o (I.cne x c e) hc nch ho (I.freeC x c e),hd⟩
 refine⟨I.ok,I.os,hg,⟨λb o e n hb hx=>?_,λb o e n hb hx=>?_,λb o e n hx=>?_,λb o e hx=>?_,λb xs e=>tups b xs (I.base.tups b xs e),λb o xs e=>frzs b o xs (I.base.frzs b o xs e),λb ps e=>?_⟩,?_,λx c e=>?_,?_,λx c e=>?_,λp hp=>?_,hok,I.len⟩
 .exact keep b o (neL b o e) hb (neC b o e hx) (I.base.keep b o e n hb hx) (I.base.free b o e n hx)
 .obtain⟨sl,e1⟩:=I.base.slot b o e n hb hx;obtain⟨sl',e2⟩:=slot b _ (neL b o e) hb (neC b o e hx) e1 (I.base.free b o e n hx);exact⟨sl',e2⟩
 .obtain⟨o',e1⟩:=I.base.there b o e hx;exact free b o' (neC b o e hx) e1 (I.base.free b o e n hx)
 .obtain⟨o',e1⟩:=I.base.there b o e hx;exact there b o' (neC b o e hx) e1
 .obtain⟨m1,e1⟩:=I.base.tbls b ps e;obtain⟨m2,e2⟩:=tbls b _ e1;exact⟨m1++m2,by rw[e2,Kj]⟩
 .obtain⟨m,hn,hl⟩:=I.loc;refine⟨m,ns m hn,λi x v e1 e2 e3=>?_⟩;obtain⟨u,r,l⟩:=hl i x v e1 e2 e3;refine⟨u,r,?_⟩;rcases l with l|⟨k,c,e,z⟩
  .exact .inl l
  .exact .inr ⟨k,c,e,cellK x c e _ z⟩
 .obtain⟨v,z⟩:=I.cell x c e;exact⟨v,cellK x c e v z⟩
 .obtain⟨m,⟨o,_,_,ho,_⟩,_⟩:=I.loc;exact free _ o (λz=>(hch _ z).2.1 rfl) ho I.free
 .obtain⟨v,o,ho,hd⟩:=I.cell x c e;exact free c o (λz=>(hch c z).2.2.1 x c e rfl) ho (I.freeC x c e)
 .obtain⟨e,n,ne,nf,d⟩:=I.pin p hp;have nch:p.1∉ch:=λz=>(hch p.1 z).2.2.2 p hp rfl;exact⟨keep p.1 p.2 ne nf nch e n,free p.1 p.2 nch e n,ne,nf,d⟩
theorem Inv.un{t':Nat}(I:Inv X pins σ H s)(u:Un X.fs [] H H' s.heap h')(hok:HOk X.prog X.w H' h'):Inv X pins σ H' { s with heap:=h',toks:=t' }:=by
 obtain⟨m,⟨o,es,ep,ho,r⟩,_⟩:=id I.loc;obtain⟨sl,hL⟩:=u.any ho I.free (by simp);exact I.step (g':=s.gens) (d':=s.drawn) (ch:=[]) (λ_ z=>nomatch z) (λb o _ hb _ e n=>u.keep b o e n hb (by simp)) (λb o _ hb _ e n=>u.slot b o e n hb (by simp)) (λb o _ e n=>u.free b o e n (by simp)) (λb o _ e=>u.there b o e (by simp)) u.tups u.frzs u.tbls (λm' hm=>by
  obtain⟨o',es',ep',ho',r'⟩:=hm;rw[ho]at ho';cases ho';exact⟨_,es',ep',hL,r'⟩) hok I.bare
theorem Inv.call{g':Array Lg}{t':Nat}{d':Drawn}{ch:List Addr}(I:Inv X pins σ H s)(u:Un (frs X.stack) ch H H' s.heap h')(hok:HOk X.prog X.w H' h')(hg:JW g')
  (hch:∀b∈ch,(b∈X.ex\/X.s₀.heap.objs.size<=b)/\b≠X.env.locals/\(∀x c,X.env.cells.lookup x=some c->c≠b)/\∀p∈X.pn++pins,p.1≠b) :
  Inv X pins σ H' { s with heap:=h',gens:=g',drawn:=d',toks:=t' }:=by
 obtain⟨m,⟨o,es,ep,ho,r⟩,_⟩:=id I.loc;obtain⟨sl,hL⟩:=u.any ho I.free λz=>(hch _ z).2.1 rfl;exact I.step (ch:=ch) hch (λb o hL hb hc e n=>u.keep b o e n (λz=>(List.mem_cons.mp (I.stkSub b z)).elim hL hb) hc) (λb o _ _ hc e n=>u.any e n hc) (λb o hc e n=>u.free b o e n hc) (λb o hc e=>u.there b o e hc) u.tups u.frzs u.tbls (λm' hm=>by
  obtain⟨o',es',ep',ho',r'⟩:=hm;rw[ho]at ho';cases ho';exact⟨_,es',ep',hL,r'⟩) hok hg
theorem Inv.turned{t':Nat}{it:Addr}(I:Inv X pins σ H s)(k:∀b o,b≠it->s.heap.get? b=some o->h'.get? b=some o)(hn:H it=none)(hL:it≠X.env.locals)
  (h1:it∈X.ex\/X.s₀.heap.objs.size<=it)(h2:∀x c,X.env.cells.lookup x=some c->c≠it)(h3:∀p∈X.pn++pins,p.1≠it):Inv X pins σ H { s with heap:=h',toks:=t' }:=by
 have nit:∀b u,H b=some u->b≠it:=λb u e z=>by rw[z,hn]at e;cases e
 refine I.step (g':=s.gens) (d':=s.drawn) (ch:=[it]) (λb hb=>?_) (λb o _ _ hc e _=>k b o (λz=>hc (by simp[z])) e) (λb o _ _ hc e _=>⟨o.slots,k b o (λz=>hc (by simp[z])) e⟩) (λ_ _ _ _ n=>n)
  (λb o hc e=>⟨o,k b o (λz=>hc (by simp[z])) e⟩) (λ_ _ e=>e) (λ_ _ _ e=>e) (λb ps e=>⟨#[],by rw[e];simp⟩) (λm hm=>?_) (λb u e=>?_) I.bare
 .have e:b=it:=by simpa using hb
  subst e;exact⟨h1,hL,h2,h3⟩
 .obtain⟨o,es,ep,ho,r⟩:=hm;exact⟨o,es,ep,k _ o (HW hL) ho,r⟩
 .refine(I.hok b u e).stay (λc v hc q=>k c v ?_ q) (λ_ q=>q) λ_ _ q=>q;rcases hc with z|z
  .rw[z];exact nit b u e
  .exact nit c _ z
theorem Inv.tok(I:Inv X pins σ H s)(t:Nat):Inv X pins σ H { s with toks:=t }:=I.un (h':=s.heap) (t':=t) Un.refl I.hok
theorem Inv.kept{t':Nat}(I:Inv X pins σ H s)(k:∀b u,s.heap.get? b=some u->h'.get? b=some u):Inv X pins σ H { s with heap:=h',toks:=t' }:=I.un (Un.kept k) (I.hok.kept k)
theorem Inv.laid{a:Addr}{o:HO}{t':Nat}(I:Inv X pins σ H s)(k:∀b u,s.heap.get? b=some u->h'.get? b=some u)(hp:s.heap.objs.size<=a)(new:cu X.prog X.w (upd H a o) h' a o) :
  Inv X pins σ (upd H a o) { s with heap:=h',toks:=t' }:=I.un (Un.laid k hp (I.hok.fresh hp)) (I.hok.laid k hp new)
theorem Inv.write{x e:Addr}{o:HO}{t':Nat}(I:Inv X pins σ H s)(mu:Mut (H x))(he:e=x\/H e=some (.own x))(k:∀b u,b≠e->s.heap.get? b=some u->h'.get? b=some u)(heo:∃u,h'.get? e=some u)
  (new:cu X.prog X.w (upd H x o) h' x o):Inv X pins σ (upd H x o) { s with heap:=h',toks:=t' }:=I.un (Un.write mu he k heo) (I.hok.write mu he k heo new)
theorem Inv.pins_of{pins':List (Addr×Obj)}(I:Inv X pins σ H s)(h:∀p∈pins',s.heap.get? p.1=some p.2/\H p.1=none/\p.1≠X.env.locals/\p.1∉X.fs/\∀v,p.2.data≠.cell v):Inv X pins' σ H s:=
 ⟨I.ok,I.os,I.bare,I.base,I.loc,I.cell,I.free,I.freeC,λp hp=>(List.mem_append.mp hp).elim (λz=>I.pin p (ID _ z)) (h p),I.hok,I.len⟩

theorem tS{N:List Str}(hN:N.Nodup){i j:Nat}{x:Str}(a:N[i]?=some x)(b:N[j]?=some x):i=j:=by
 obtain⟨h1,e1⟩:=List.getElem?_eq_some_iff.mp a;obtain⟨h2,e2⟩:=List.getElem?_eq_some_iff.mp b;exact(List.getElem_inj hN).mp (e1.trans e2.symm)

theorem vP{M:Lw}{A:HY}{E:GV->GY->Prop}{i:Nat}{x:Str}{v:V}{u:GV}{Q:Unit->GY->Prop}(I:Inv X pins σ H s)(hN:X.N.Nodup)(hi:X.N[i]?=some x)(hx:Loc X.env.scope x)(r:bo v u)
  (h:∀s',Inv X pins (σ.set i (some v)) H s'->(∃a,Ji a s.heap s'.heap/\(a=X.env.locals\/X.env.cells.lookup x=some a))->Q () s')(hf:X.fn x=true\/X.env.scope.names.lookup x=some .local:=by first|exact .inl rfl|exact .inr rfl|assumption):HK M A (storeName X.env x u) Q E s:=by
 obtain⟨m,hn,hl⟩:=id I.loc;have hcls:(X.env.scope.kind==.class||(X.env.scope.kind==.module&&X.env.locals != X.env.globals))=false:=by rw[I.ok.kind];rfl
 have hiσ:i<σ.length:=by rw[I.len];exact(List.getElem?_eq_some_iff.mp hi).1
 have cne:=I.cne;have tracked:∀{a:Addr} {h':Heap},(∃o,s.heap.get? a=some o/\H a=none)->Ji a s.heap h'->HOk X.prog X.w H h':=λ{a h'} ha hs b ob e=>by
  obtain⟨_,_,hfree⟩:=ha;refine(I.hok b ob e).stay (λc w' hc q=>(hs.2 c ?_).trans q) (λ_ q=>q) λ_ _ q=>q;rintro rfl;rcases hc with rfl|hc
  .rw[hfree]at e;cases e
  .rw[hfree]at hc;cases hc
 rcases hx with hk|hk
 .refine wpAny_storeName_local hk hn (λh' hn' hs=>?_) hcls;obtain⟨oL,_,_,hoL,_⟩:=id hn;refine h _ ⟨I.ok,I.os,I.bare,⟨λb o e n hb hx=>?_,λb o e n hb hx=>?_,I.base.free,λb o e hx=>?_,I.base.tups,I.base.frzs,I.base.tbls⟩,⟨_,hn',λj y v' e1 e2 e3=>?_⟩,λy c e=>?_,I.free,I.freeC,λp hp=>?_,tracked ⟨oL,hoL,I.free⟩ hs,by simpa using I.len⟩ ⟨_,hs,.inl rfl⟩
  .exact(hs.2 b (Hr (Hx (Hl e) I.ok.above))).trans (I.base.keep b o e n hb hx)
  .obtain⟨sl,e1⟩:=I.base.slot b o e n hb hx;exact⟨sl,(hs.2 b (Hr (Hx (Hl e) I.ok.above))).trans e1⟩
  .obtain⟨o',e1⟩:=I.base.there b o e hx;exact⟨o',(hs.2 b (Hr (Hx (Hl e) I.ok.above))).trans e1⟩
  .by_cases hj:j=i
   .subst hj;rw[hi]at e1;cases e1;rw[JL hiσ]at e2;cases e2;exact⟨u,r,.inl ⟨hk,by simp⟩⟩
   .rw[J0 (HW hj)]at e2;obtain⟨u',r',q⟩:=hl j y v' e1 e2 e3;refine⟨u',r',?_⟩;rcases q with⟨k,e⟩|⟨k,c,e,z⟩
    .refine .inl ⟨k,?_⟩;have:y≠x:=λe=>hj (tS hN e1 (e▸hi));simp[this,e]
    .exact .inr ⟨k,c,e,z.sameBut hs (cne y c e)⟩
  .obtain⟨w',z⟩:=I.cell y c e;exact⟨w',z.sameBut hs (cne y c e)⟩
  .obtain⟨e,n,ne,nf,d⟩:=I.pin p hp;exact⟨(hs.2 p.1 ne).trans e,n,ne,nf,d⟩
 .have hfn:X.fn x=true:=by
   rcases hf with z|z
   .exact z
   .rw[z]at hk;cases hk
  obtain⟨c,hc⟩:=I.ok.has x (.inl hk);obtain⟨w',z⟩:=I.cell x c hc;refine wpAny_storeName_cell I.ok.kind hk hc z (λh' hc' hs=>?_);obtain⟨oc,hoc,hocd⟩:=id z;refine h { s with heap:=h' } ⟨I.ok,I.os,I.bare,⟨λb o e n hb hx=>?_,λb o e n hb hx=>?_,I.base.free,λb o e hx=>?_,I.base.tups,I.base.frzs,I.base.tbls⟩,⟨m,hn.sameBut hs (HW (cne x c hc)),λj y v' e1 e2 e3=>?_⟩,λy c' e=>?_,I.free,I.freeC,λp hp=>?_,tracked ⟨oc,hoc,I.freeC x c hc⟩ hs,by simpa using I.len⟩ ⟨c,hs,.inr hc⟩
  .exact(hs.2 b (Hr (Hx (Hl e) (I.ok.cab x c hfn hc)))).trans (I.base.keep b o e n hb hx)
  .obtain⟨sl,e1⟩:=I.base.slot b o e n hb hx;exact⟨sl,(hs.2 b (Hr (Hx (Hl e) (I.ok.cab x c hfn hc)))).trans e1⟩
  .obtain⟨o',e1⟩:=I.base.there b o e hx;exact⟨o',(hs.2 b (Hr (Hx (Hl e) (I.ok.cab x c hfn hc)))).trans e1⟩
  .by_cases hj:j=i
   .subst hj;rw[hi]at e1;cases e1;rw[JL hiσ]at e2;cases e2;exact⟨u,r,.inr ⟨.inl hk,c,hc,hc'⟩⟩
   .rw[J0 (HW hj)]at e2;obtain⟨u',r',q⟩:=hl j y v' e1 e2 e3;refine⟨u',r',?_⟩;rcases q with q|⟨k,c',e,z'⟩
    .exact .inl q
    .refine .inr ⟨k,c',e,z'.sameBut hs ?_⟩;rintro rfl;exact hj (tS hN e1 (I.ok.inj _ _ _ e hc▸hi))
  .by_cases hcc:c'=c
   .subst hcc;exact⟨_,hc'⟩
   .obtain⟨w2,z2⟩:=I.cell y c' e;exact⟨w2,z2.sameBut hs hcc⟩
  .obtain⟨e,n,ne,nf,d⟩:=I.pin p hp;refine⟨(hs.2 p.1 ?_).trans e,n,ne,nf,d⟩;intro q;rw[q,hoc]at e;have q':oc=p.2:=HV e;exact d w' (by rw[<-q'];exact hocd)
theorem pG{M:Lw}{A:HY}{E:GV->GY->Prop}{i:Nat}{x:Str}{v:V}{u:GV}{Q:Unit->GY->Prop}(I:Inv X pins σ H s)(hN:X.N.Nodup)(hi:X.N[i]?=some x)(hx:Loc X.env.scope x)(r:bo v u)
  (h:∀s',Inv X pins (σ.set i (some v)) H s'->Q () s')(hf:X.fn x=true\/X.env.scope.names.lookup x=some .local:=by first|exact .inl rfl|exact .inr rfl|assumption):HK M A (storeName X.env x u) Q E s:=
 vP I hN hi hx r (λs' I' _=>h s' I') hf
theorem Inv.call'{s':GY}{ch:List Addr}(I:Inv X pins σ H s)(ho:s'.os=s.os)(u:Un (frs X.stack) ch H H' s.heap s'.heap)(hok:HOk X.prog X.w H' s'.heap)(hg:JW s'.gens)
  (hch:∀b∈ch,(b∈X.ex\/X.s₀.heap.objs.size<=b)/\b≠X.env.locals/\(∀x c,X.env.cells.lookup x=some c->c≠b)/\∀p∈X.pn++pins,p.1≠b):Inv X pins σ H' s':=by
 obtain⟨h',g',d',t',o'⟩:=s';have e:o'=s.os:=ho;subst e;exact I.call (g':=g') (t':=t') (d':=d') u hok hg hch
end

abbrev XK:=GV->Option Addr->Hp->Prop
abbrev St:=List (Option V)
abbrev VK:=V->Hp->Prop
abbrev TE:=St->Hp->VK->Prop
abbrev TT:=St->Hp->(Bool->Hp->Prop)->Prop
abbrev TA:=St->Hp->(List V->Hp->Prop)->Prop
structure dZ where
 nx:St->Hp->Prop
 rt:VK
 bk:St->Hp->Prop:=λ_ _=>False
 ct:St->Hp->Prop:=λ_ _=>False
abbrev TS:=dZ->St->Hp->Prop

def EP(X:Cx)(pins:List (Addr×Obj))(σ:St)(Q:VK)(u:GV)(s':GY):Prop:=∃v H',Inv X pins σ H' s'/\bo v u/\Q v H'
def TP(X:Cx)(pins:List (Addr×Obj))(σ:St)(Q:Bool->Hp->Prop)(b:Bool)(s':GY):Prop:=∃H',Inv X pins σ H' s'/\Q b H'
def AP(X:Cx)(pins:List (Addr×Obj))(σ:St)(Q:List V->Hp->Prop)(us:List GV)(s':GY):Prop:=∃vs H',Inv X pins σ H' s'/\bg vs us/\Q vs H'
def SP(X:Cx)(pins:List (Addr×Obj))(D:dZ)(f:Flow)(s':GY):Prop:=
 match f with
 |.next=>∃σ' H',Inv X pins σ' H' s'/\D.nx σ' H'
 |.brk=>∃σ' H',Inv X pins σ' H' s'/\D.bk σ' H'
 |.cont=>∃σ' H',Inv X pins σ' H' s'/\D.ct σ' H'
 |.ret u=>∃v σ' H',Inv X pins σ' H' s'/\bo v u/\D.rt v H'

def PE(X:Cx)(e:Expr)(t:TE):Prop:=
 ∀(pins:List (Addr×Obj)) (s:GY) (σ:St) (H:Hp) (Q:VK),Inv X pins σ H s->t σ H Q->HK (HG X.prog X.w) X.A (eval e X.env) (EP X pins σ Q) X.xe s
def PT(X:Cx)(e:Expr)(t:TT):Prop:=
 ∀(pins:List (Addr×Obj)) (s:GY) (σ:St) (H:Hp) (Q:Bool->Hp->Prop),Inv X pins σ H s->t σ H Q->HK (HG X.prog X.w) X.A (isTrue e X.env (eval e X.env)) (TP X pins σ Q) X.xe s
def PW(X:Cx)(e:Expr)(t:TT):Prop:=
 ∀(whole:Sem GV) (pins:List (Addr×Obj)) (s:GY) (σ:St) (H:Hp) (Q:Bool->Hp->Prop),Inv X pins σ H s->t σ H Q->HK (HG X.prog X.w) X.A (isTrue e X.env whole) (TP X pins σ Q) X.xe s
theorem PW.pt{X:Cx}{e:Expr}{t:TT}(h:PW X e t):PT X e t:=h _
def PA(X:Cx)(es:List Expr)(t:TA):Prop:=
 ∀(pos:Pos) (pins:List (Addr×Obj)) (s:GY) (σ:St) (H:Hp) (Q:List V->Hp->Prop),Inv X pins σ H s->t σ H Q->HK (HG X.prog X.w) X.A (spliced (IT pos (HJ es X.env))) (AP X pins σ Q) X.xe s
def PS(X:Cx)(st:Stmt)(t:TS):Prop:=
 ∀(pins:List (Addr×Obj)) (s:GY) (σ:St) (H:Hp) (D:dZ),Inv X pins σ H s->t D σ H->HK (HG X.prog X.w) X.A (exec st X.env) (SP X pins D) X.xe s
def PSs(X:Cx)(st:List Stmt)(t:TS):Prop:=
 ∀(pins:List (Addr×Obj)) (s:GY) (σ:St) (H:Hp) (D:dZ),Inv X pins σ H s->t D σ H->HK (HG X.prog X.w) X.A (execs st X.env) (SP X pins D) X.xe s
theorem thn{α:Type}{t:Sem α}{Q Q':α->GY->Prop}{M:Lw}{A:HY}{E:GV->GY->Prop}{s:GY}(h:HK M A t Q E s)(hQ:∀a s,Q a s->Q' a s):HK M A t Q' E s:=Ii h hQ λ_ _ x=>x
section
variable {X:Cx}

def B_(i:Nat):TE:=λσ H Q=>∃v,σ[i]?=some (some v)/\Q v H
def tC(v:V):TE:=λ_ H Q=>Q v H
theorem EA{i:Nat}{x:Str}{pos:Pos}(hN:X.N[i]?=some x)(hv:Vis X.env.scope x)(hd:(x==("__debug__" : Str))=false:=by decide)(hcd:(x==("__classdict__" : Str))=false:=by decide):PE X (.Name x pos) (B_ i):=by
 intro pins s σ H Q I h;obtain⟨v,e,h⟩:=h;obtain⟨m,hn,hl⟩:=I.loc;obtain⟨u,r,l⟩:=hl i x v hN e hv;have fin:EP X pins σ Q u s:=⟨v,H,I,r,h⟩;rcases l with⟨hk,hm⟩|⟨hk,c,hc,hcell⟩
 .exact Lx (wpAny_loadName_local I.ok.kind hk hn hm fin) hd
 .rcases hk with hk|hk
  .exact Lx (wpAny_loadName_cell I.ok.kind hk hc hcell fin) hd
  .exact Lx (wpAny_loadName_free I.ok.kind hk hc hcell fin hcd) hd
theorem ah{i j pos}:PE X (.Constant (.int i) j pos) (tC (.int i)):=λ_ _ _ H _ I h=>wpAny_Constant_int ⟨.int i,H,I.tok _,⟨_,rfl⟩,h⟩
theorem d9{b j pos}:PE X (.Constant (.bool b) j pos) (tC (.bl b)):=λ_ _ _ H _ I h=>Constant_bool ⟨.bl b,H,I,rfl,h⟩
theorem EB{j pos}:PE X (.Constant .none j pos) (tC .non):=λ_ _ _ H _ I h=>Constant_none ⟨.non,H,I,rfl,h⟩
theorem am{x j pos}:PE X (.Constant (.str x) j pos) (tC (.str x)):=λ_ _ _ H _ I h=>JE ⟨.str x,H,I.tok _,⟨_,rfl⟩,h⟩

def Gl(X:Cx)(x:Str):Prop:=X.env.kindOf x=some .globalImplicit
theorem jT{E:GV->GY->Prop}{pins:List (Addr×Obj)}{s:GY}{σ:St}{H:Hp}{x:Str}{u:GV}{pos:Pos}{Q:GV->GY->Prop}(I:Inv X pins σ H s)(hg:Gl X x)(hm:X.mg x=some u)(h:Q u s)
  (hd:(x==("__debug__" : Str))=false:=by decide):HK (HG X.prog X.w) X.A (eval (.Name x pos) X.env) Q E s:=
 Calls.Name_function_global I.ok.kind hg (Calls.loadGlobal_global (by rw[I.ok.glob];exact I.mod.glob.keeps I.bk) hm h) hd
theorem oQ{E:GV->GY->Prop}{pins:List (Addr×Obj)}{s:GY}{σ:St}{H:Hp}{x:Str}{u:GV}{pos:Pos}{Q:GV->GY->Prop}(I:Inv X pins σ H s)(hg:Gl X x)(hm:X.mg x=none)(hv:Jh x=some u)(h:Q u s)
  (hn:x≠"__name__":=by decide)(hd:(x==("__debug__" : Str))=false:=by decide):HK (HG X.prog X.w) X.A (eval (.Name x pos) X.env) Q E s:=by
 obtain⟨mb,h1,h2⟩:=I.mod.blt;exact Calls.Name_function_global I.ok.kind hg (Calls.loadGlobal_builtin (by rw[I.ok.glob];exact I.mod.glob.keeps I.bk) hm (by rw[I.ok.blt];exact h1.keeps I.bk) ((h2 x hn).trans hv) h) hd
theorem bW{x:Str}{v:V}{u:GV}{pos:Pos}(hg:Gl X x)(hm:X.mg x=some u)(r:bo v u)(hd:(x==("__debug__" : Str))=false:=by decide):PE X (.Name x pos) (tC v):=
 λ_ _ _ H _ I h=>jT I hg hm ⟨v,H,I,r,h⟩ hd
theorem DE{x:Str}{v:V}{u:GV}{pos:Pos}(hg:Gl X x)(hm:X.mg x=none)(hv:Jh x=some u)(r:bo v u)(hn:x≠"__name__":=by decide)(hd:(x==("__debug__" : Str))=false:=by decide):PE X (.Name x pos) (tC v):=
 λ_ _ _ H _ I h=>oQ I hg hm hv ⟨v,H,I,r,h⟩ hn hd

variable {a b:Expr}{ta tb:TE}{pos:Pos}
def tB(t:TE):TT:=λσ H Q=>t σ H λx H1=>∃c,x=.bl c/\Q c H1
theorem lQ{e:Expr}{t:TE}(h:PE X e t)(he:∀whole,isTrue e X.env whole=(do let v<-whole;Lh e.pos;Ke [v] (truthy v)):=by intro _;rfl):PT X e (tB t):=by
 intro pins s σ H Q I hw;refine isTrue_plain (thn (h pins s σ H _ I hw) λv s1 ⟨x,H1,I1,r1,q1⟩=>?_) (he _);obtain⟨d,rfl,q⟩:=q1;cases r1;exact Ja ⟨H1,I1,q⟩

variable {tA tB':TT}{bp:List Expr}
def EC(t u:TT):TT:=λσ H Q=>t σ H λc H1=>if c=true then u σ H1 Q else Q false H1
def tOr(t u:TT):TT:=λσ H Q=>t σ H λc H1=>if c=true then Q true H1 else u σ H1 Q
def Gi(t:TT):TT:=λσ H Q=>t σ H λc H1=>Q (!c) H1
theorem cH(ha:PT X a tA):PW X (.BoolOp .And [a] pos) tA:=by
 intro wh pins s σ H Q I h;refine Ly (thn (ha pins s σ H Q I h) λc s1 e=>?_);cases c with
 |true=>exact isTrue_and_nil e
 |false=>exact e
theorem jx(ha:PT X a tA):PW X (.BoolOp .Or [a] pos) tA:=by
 intro wh pins s σ H Q I h;refine isTrue_or (thn (ha pins s σ H Q I h) λc s1 e=>?_);cases c with
 |false=>exact isTrue_or_nil e
 |true=>exact e
theorem cY(ha:PT X a tA)(hb:PW X (.BoolOp .And (b::bp) pos) tB'):PW X (.BoolOp .And (a::b::bp) pos) (EC tA tB'):=by
 intro wh pins s σ H Q I h;refine Ly (thn (ha pins s σ H _ I h) λc s1 ⟨H1,I1,q1⟩=>?_);cases c with
 |true=>exact hb wh pins s1 σ H1 Q I1 q1
 |false=>exact⟨H1,I1,q1⟩
theorem jy(ha:PT X a tA)(hb:PW X (.BoolOp .Or (b::bp) pos) tB'):PW X (.BoolOp .Or (a::b::bp) pos) (tOr tA tB'):=by
 intro wh pins s σ H Q I h;refine isTrue_or (thn (ha pins s σ H _ I h) λc s1 ⟨H1,I1,q1⟩=>?_);cases c with
 |true=>exact⟨H1,I1,q1⟩
 |false=>exact hb wh pins s1 σ H1 Q I1 q1
theorem ED(ha:PT X a tA):PT X (.UnaryOp .Not a pos) (Gi tA):=by
 intro pins s σ H Q I h;exact isTrue_not (ha pins s σ H (λc H1=>Q (!c) H1) I h)
def FJ(ta tb:TE):TE:=λσ H Q=>ta σ H λx H1=>∃c,x=.bl c/\if c=true then tb σ H1 Q else Q (.bl false) H1
def Gj(ta tb:TE):TE:=λσ H Q=>ta σ H λx H1=>∃c,x=.bl c/\if c=true then Q (.bl true) H1 else tb σ H1 Q
theorem oR{op}{t:TE}(h:PE X a t):PE X (.BoolOp op [a] pos) t:=λpins s σ H Q I hw=>BoolOp_one (h pins s σ H Q I hw)
theorem xA(ha:PE X a ta)(hb:PE X (.BoolOp .And (b::bp) pos) tb):PE X (.BoolOp .And (a::b::bp) pos) (FJ ta tb):=by
 intro pins s σ H Q I h;refine BoolOp_and (thn (ha pins s σ H _ I h) λv s1 ⟨x,H1,I1,r1,q1⟩=>?_);obtain⟨c,rfl,q1⟩:=q1;cases r1;refine Ja ?_;cases c with
 |true=>exact hb pins s1 σ H1 Q I1 q1
 |false=>exact⟨.bl false,H1,I1,rfl,q1⟩
theorem wV(ha:PE X a ta)(hb:PE X (.BoolOp .Or (b::bp) pos) tb):PE X (.BoolOp .Or (a::b::bp) pos) (Gj ta tb):=by
 intro pins s σ H Q I h;refine BoolOp_or (thn (ha pins s σ H _ I h) λv s1 ⟨x,H1,I1,r1,q1⟩=>?_);obtain⟨c,rfl,q1⟩:=q1;cases r1;refine Ja ?_;cases c with
 |false=>exact hb pins s1 σ H1 Q I1 q1
 |true=>exact⟨.bl true,H1,I1,rfl,q1⟩
end

def SqL(K:PySem.W.Frag)(H:Hp)(a:Addr)(xs:List V):Prop:=
 Rd H a (.lst xs)\/
  ∃(o:Obj) (its:Array GV) (n:Nat),K.lookup a=some o/\o.cls=.type "list"/\o.dict=none/\o.data=.seq its n/\its.size<=Hs/\bg xs its.toList
def SqT(K:PySem.W.Frag)(H:Hp)(a:Addr)(xs:List V):Prop:=
 Rd H a (.tup xs)\/
  ∃(o:Obj) (its:Array GV) (n:Nat),K.lookup a=some o/\o.cls=.type "tuple"/\o.data=.seq its n/\its.size<=Hs/\bg xs its.toList
def Gk:GV->Option V
 |.none=>some .non
 |.bool b=>some (.bl b)
 |.int i _=>some (.int i)
 |.str x _=>some (.str x)
 |.bytes b _=>some (.byt b)
 |.float b _=>some (.flt b)
 |.ref a=>some (.ref a)
 |.type n=>some (.ty n)
 |_=>none
theorem bo.abs{x:V}{u:GV}(r:bo x u):Gk u=some x:=by
 cases x with
 |non=>cases r;rfl
 |bl _=>cases r;rfl
 |int _=>obtain⟨t,rfl⟩:=r;rfl
 |str _=>obtain⟨t,rfl⟩:=r;rfl
 |byt _=>obtain⟨t,rfl⟩:=r;rfl
 |flt _=>obtain⟨t,rfl⟩:=r;rfl
 |ref _=>cases r;rfl
 |ty _=>cases r;rfl
theorem bo.inj{x y:V}{u:GV}(r:bo x u)(q:bo y u):x=y:=HV (r.abs.symm.trans q.abs)
theorem bg.inj:∀{xs ys:List V} {us:List GV},bg xs us->bg ys us->xs=ys
 |_,_,_,.nil,.nil=>rfl
 |_,_,_,.cons r t,.cons r' t'=>by rw[r.inj r',bg.inj t t']
section
variable {X:Cx}{pins:List (Addr×Obj)}{σ:St}{H:Hp}{s:GY}{a:Addr}{xs ys:List V}
theorem SqL.of{K:PySem.W.Frag}(h:H a=some (.lst xs)):SqL K H a xs:=.inl (.inl h)
theorem SqT.of{K:PySem.W.Frag}(h:H a=some (.tup xs)):SqT K H a xs:=.inl (.inl h)
theorem Inv.list(I:Inv X pins σ H s)(h:SqL X.K H a xs):∃its:List GV,bg xs its/\PlainL s.heap a its.toArray/\xs.length<=Hs:=by
 rcases h with h|⟨o,its,n,hk,hc,hd,hs,hz,r⟩
 .obtain⟨z,its,n,r,e⟩:=h.ok I.hok;exact⟨its,r,⟨_,n,e,rfl,rfl,rfl⟩,z⟩
 .refine⟨its.toList,r,⟨o,n,I.kIn a o hk,hc,hd,by simpa using hs⟩,?_⟩;have e:=r.length;simp only[Jx]at e;omega
theorem Inv.tuple(I:Inv X pins σ H s)(h:SqT X.K H a xs):∃its:List GV,bg xs its/\IsTup s.heap a its.toArray/\xs.length<=Hs:=by
 rcases h with h|⟨o,its,n,hk,hc,hs,hz,r⟩
 .obtain⟨z,its,r,p⟩:=h.ok I.hok;exact⟨its,r,p,z⟩
 .refine⟨its.toList,r,⟨o,I.kIn a o hk,hc,n,by simpa using hs⟩,?_⟩;have e:=r.length;simp only[Jx]at e;omega
theorem Inv.list_inj(I:Inv X pins σ H s)(h:SqL X.K H a xs)(h':SqL X.K H a ys):xs=ys:=by
 obtain⟨its,r,⟨o,n,e,_,_,d⟩,_⟩:=I.list h;obtain⟨its',r',⟨o',n',e',_,_,d'⟩,_⟩:=I.list h';rw[e]at e';cases e';rw[d]at d';injection d' with d1 _;have:its=its':=by simpa using congrArg Array.toList d1
 subst this;exact r.inj r'
end

abbrev Cx.wish(X:Cx)(E:GV->GY->Prop):Cx:={ X with xe:=E }
abbrev Cx.nox(X:Cx):Cx:=X.wish λ_ _=>False
theorem Cx.Ok.wish{X:Cx}(ok:X.Ok)(E:GV->GY->Prop):(X.wish E).Ok:=
 ⟨ok.mod,ok.kind,ok.glob,ok.blt,ok.above,ok.inj,ok.has,ok.cab,ok.hd,ok.frames,ok.stk,ok.exf,ok.bs,ok.bsz,ok.noex,ok.exfs,ok.funs,ok.frf⟩
theorem Cx.Ok.unwish{X:Cx}{E:GV->GY->Prop}(ok:(X.wish E).Ok):X.Ok:=
 ⟨ok.mod,ok.kind,ok.glob,ok.blt,ok.above,ok.inj,ok.has,ok.cab,ok.hd,ok.frames,ok.stk,ok.exf,ok.bs,ok.bsz,ok.noex,ok.exfs,ok.funs,ok.frf⟩
section
variable {X:Cx}{pins:List (Addr×Obj)}{σ:St}{H:Hp}{s:GY}{E:GV->GY->Prop}
theorem Inv.wish(I:Inv X pins σ H s)(E:GV->GY->Prop):Inv (X.wish E) pins σ H s:=⟨I.ok.wish E,I.os,I.bare,I.base,I.loc,I.cell,I.free,I.freeC,I.pin,I.hok,I.len⟩
theorem Inv.unwish(I:Inv (X.wish E) pins σ H s):Inv X pins σ H s:=⟨I.ok.unwish,I.os,I.bare,I.base,I.loc,I.cell,I.free,I.freeC,I.pin,I.hok,I.len⟩
theorem SP.unwish{D:dZ}{f:Flow}{s':GY}(h:SP (X.wish E) pins D f s'):SP X pins D f s':=by
 cases f with
 |next=>obtain⟨σ',H',I,q⟩:=h;exact⟨σ',H',I.unwish,q⟩
 |brk=>obtain⟨σ',H',I,q⟩:=h;exact⟨σ',H',I.unwish,q⟩
 |cont=>obtain⟨σ',H',I,q⟩:=h;exact⟨σ',H',I.unwish,q⟩
 |ret u=>obtain⟨v,σ',H',I,r,q⟩:=h;exact⟨v,σ',H',I.unwish,r,q⟩
theorem PSs.nox{st:List Stmt}{t:TS}(h:PSs X.nox st t):PSs X st t:=λpins s σ H D I hw =>
 Ii (h pins s σ H D (I.wish _) hw) (λ_ _ q=>q.unwish) λ_ _ z=>Iz z
end

section
variable {X:Cx}{st:Stmt}{bp:List Stmt}{t u:TS}{e:Expr}{te:TE}{pos:Pos}
def dq:TS:=λD σ H=>D.nx σ H
def EE(t u:TS):TS:=λD σ H=>t { D with nx:=u D } σ H
theorem aM:PSs X [] dq:=λ_ _ σ H _ I h=>IY ⟨σ,H,I,h⟩
theorem ag(h1:PS X st t)(h2:PSs X bp u):PSs X (st::bp) (EE t u):=by
 intro pins s σ H D I h;refine JT (thn (h1 pins s σ H { D with nx:=u D } I h) λf s1 q=>?_);cases f with
 |next =>
  obtain⟨σ',H',I',q⟩:=q;exact h2 pins s1 σ' H' D I' q
 |ret v=>exact q
 |brk=>exact q
 |cont=>exact q
theorem ai(h1:PS X st t):PSs X [st] t:=by
 intro pins s σ H D I h;refine JT (thn (h1 pins s σ H D I h) λf s1 q=>?_);cases f with
 |next=>exact IY q
 |ret v=>exact q
 |brk=>exact q
 |cont=>exact q
theorem Inv.quiet{pins:List (Addr×Obj)}{σ:St}{H:Hp}{s:GY}(I:Inv X pins σ H s):interactive X.env=false:=by simp[interactive,I.ok.kind]
def FK(te:TE):TS:=λD σ H=>te σ H λ_ H1=>D.nx σ H1
theorem bn(he:PE X e te)(hs:JI e none pos.line X.env=pure false:=by rfl):PS X (.Expr e pos) (FK te):=by
 intro pins s σ H D I h;exact wpAny_Expr_any (thn (he pins s σ H _ I h) λv s1 ⟨x,H1,I1,r1,q1⟩=>⟨σ,H1,I1,q1⟩) I.quiet hs
def Gm(te:TE):TS:=λD σ H=>te σ H D.rt
theorem aP(he:PE X e te):PS X (.Return (some e) pos) (Gm te):=by
 intro pins s σ H D I h;exact wpAny_Return_some (thn (he pins s σ H _ I h) λv s1 ⟨x,H1,I1,r1,q1⟩=>⟨x,σ,H1,I1,r1,q1⟩)
def FL:TS:=λD _ H=>D.rt .non H
theorem DF:PS X (.Return none pos) FL:=λ_ _ σ H _ I h=>wpAny_Return_none ⟨.non,σ,H,I,rfl,h⟩
def EF(c:TT)(t u:TS):TS:=λD σ H=>c σ H λb H1=>if b=true then t D σ H1 else u D σ H1
theorem aR{c:Expr}{a b:List Stmt}{tc:TT}(hc:PT X c tc)(ha:PSs X a t)(hb:PSs X b u):PS X (.If c a b pos) (EF tc t u):=by
 intro pins s σ H D I h;refine wpAny_If (thn (hc pins s σ H _ I h) λd s1 ⟨H1,I1,q1⟩=>?_);cases d with
 |true=>exact ha pins s1 σ H1 D I1 q1
 |false=>exact hb pins s1 σ H1 D I1 q1
def AM:TS:=λ_ _ _=>False
theorem fV:PS X st AM:=λ_ _ _ _ _ _ h=>h.elim
theorem g_{sts:List Stmt}:PSs X sts AM:=λ_ _ _ _ _ _ h=>h.elim
end

abbrev TG:=V->St->Hp->(St->Hp->Prop)->Prop
abbrev TGs:=List V->St->Hp->(St->Hp->Prop)->Prop
def PG(X:Cx)(target:Expr)(t:TG):Prop:=
 ∀(pins:List (Addr×Obj)) (s:GY) (σ:St) (H:Hp) (v:V) (u:GV) (Q:St->Hp->Prop),Inv X pins σ H s->bo v u->t v σ H Q->
  HK (HG X.prog X.w) X.A (Ld target X.env u) (λ_ s'=>∃σ' H',Inv X pins σ' H' s'/\Q σ' H') X.xe s
def PGs(X:Cx)(ts:List Expr)(t:TGs):Prop:=
 ∀(pins:List (Addr×Obj)) (s:GY) (σ:St) (H:Hp) (vs:List V) (us:List GV) (Q:St->Hp->Prop),Inv X pins σ H s->bg vs us->t vs σ H Q->
  HK (HG X.prog X.w) X.A (assignInOrder ((Kk ts X.env).map (·.2)) us) (λ_ s'=>∃σ' H',Inv X pins σ' H' s'/\Q σ' H') X.xe s
abbrev Ca:=V->V->V->Hp->(Hp->Prop)->Prop
def EG(X:Cx)(t:Ca):Prop:=
 ∀(pins:List (Addr×Obj)) (s:GY) (σ:St) (H:Hp) (o i v:V) (ov iv u:GV) (Q:Hp->Prop),Inv X pins σ H s->bo o ov->bo i iv->bo v u->t o i v H Q->
  HK (HG X.prog X.w) X.A (setItem ov iv u) (λ_ s'=>∃H',Inv X pins σ H' s'/\Q H') X.xe s
section
variable {X:Cx}{pos:Pos}
def bB(i:Nat):TG:=λv σ H Q=>Q (σ.set i (some v)) H
theorem aO{i:Nat}{x:Str}(hN:X.N.Nodup)(hi:X.N[i]?=some x)(hx:Loc X.env.scope x)(hf:X.fn x=true\/X.env.scope.names.lookup x=some .local:=by first|exact .inl rfl|exact .inr rfl|assumption):PG X (.Name x pos) (bB i):=by
 intro pins s σ H v u Q I r h;exact wpAny_assign_Name (pG I hN hi hx r (λs' I'=>⟨_,H,I',h⟩) hf)
def Cb:TGs:=λvs σ H Q=>vs=[]/\Q σ H
def sO(t:TG)(u:TGs):TGs:=λvs σ H Q=>∃v r,vs=v::r/\t v σ H λσ' H'=>u r σ' H' Q
theorem c_:PGs X [] Cb:=by
 intro pins s σ H vs us Q I r h;obtain⟨e,h⟩:=h;subst e;cases r;exact assignInOrder_nil ⟨σ,H,I,h⟩
theorem a9{e:Expr}{es:List Expr}{t:TG}{u:TGs}(h1:PG X e t)(h2:PGs X es u)
  (hs:(Kk (e::es) X.env).map (·.2)=Ld e X.env::(Kk es X.env).map (·.2):=by rfl):PGs X (e::es) (sO t u):=by
 intro pins s σ H vs us Q I r h;obtain⟨v,vr,e1,h⟩:=h;subst e1;cases r with
 |cons r rr =>
  rw[hs];refine assignInOrder_cons (thn (h1 pins s σ H _ _ _ I r h) λ_ s1 ⟨σ1,H1,I1,q1⟩=>?_);exact h2 pins s1 σ1 H1 _ _ Q I1 rr q1
def Cc(K:PySem.W.Frag)(n:Nat)(t:TGs):TG:=λv σ H Q=>∃a xs,v=.ref a/\SqT K H a xs/\xs.length=n/\t xs σ H Q
theorem dP{es:List Expr}{k:Nat}{t:TGs}{n:Nat}(hc:X.calm=true)(h:PGs X es t)
  (hn:(Kk es X.env).length=n:=by rfl)(hst:(Kk es X.env).findIdx? (·.1)=none:=by rfl):PG X (.Tuple es k pos) (Cc X.K n t):=by
 intro pins s σ H v u Q I r hw;obtain⟨a,xs,e1,hq,hl,hw⟩:=hw;subst e1;cases r;obtain⟨its,rv,ht,hz⟩:=I.tuple hq;refine assign_Tuple_tuple (I.ok.hd hc) ht (by simp[hn,<-hl,rv.length]) hst λh' hx=>?_;have I1:Inv X pins σ H { s with heap:=h' }:=I.kept (t':=s.toks) λb o e=>hx b o (Hr (Hl e)) e;exact h pins _ σ H xs _ Q I1 (by simpa using rv) hw
def Gn(to ti:TE)(t:Ca):TG:=λv σ H Q=>to σ H λo H1=>ti σ H1 λi H2=>t o i v H2 λH3=>Q σ H3
theorem xB{o i:Expr}{to ti:TE}{t:Ca}(ho:PE X o to)(hi:PE X i ti)(hs:EG X t)
  (ha:∀ v,Ld (.Subscript o i pos) X.env v=(do
   let ov<-Ke [v] (eval o X.env)
   let iv<-Ke [v,ov] (eval i X.env)
   Lh pos
   Ke [v,ov,iv] (setItem ov iv v)
   release [v,ov,iv] []):=by intro _;rfl):PG X (.Subscript o i pos) (Gn to ti t):=by
 intro pins s σ H v u Q I r h;rw[ha];refine Hy (JX (thn (ho pins s σ H _ I h) λov s1 ⟨x,H1,I1,r1,q1⟩=>?_));refine Hy (JX (thn (hi pins s1 σ H1 _ I1 q1) λiv s2 ⟨y,H2,I2,r2,q2⟩=>?_));refine Hy (K7 (Hy (JX (thn (hs pins s2 σ H2 x y v ov iv u _ I2 r1 r2 r q2) λ_ s3 ⟨H3,I3,q3⟩=>?_))));exact wpAny_release ⟨σ,H3,I3,q3⟩
def tT(te:TE)(g:TG):TS:=λD σ H=>te σ H λx H1=>g x σ H1 D.nx
theorem xC{tg e:Expr}{te:TE}{g:TG}(he:PE X e te)(hg:PG X tg g)(hs:swapsWithSole [tg] e pos.line X.env=pure false:=by rfl)(hw:swappedStores [tg] e X.env=pure none:=by rfl)
  (h1:(Kk [tg] X.env).map (·.2)=[Ld tg X.env]:=by rfl):PS X (.Assign [tg] e pos) (tT te g):=by
 intro pins s σ H D I h;refine wpAny_Assign_stores (thn (he pins s σ H _ I h) λv s1 ⟨x,H1,I1,r1,q1⟩=>?_) hs hw;rw[h1];exact thn (hg pins s1 σ H1 x v _ I1 r1 q1) λ_ s2 q=>q
theorem ay{i:Nat}{x:Str}{e:Expr}{te:TE}{pos':Pos}(hN:X.N.Nodup)(hi:X.N[i]?=some x)(hx:Loc X.env.scope x)(he:PE X e te)(hs:JI e (some (.Name x pos')) pos.line X.env=pure false:=by rfl)(hf:X.fn x=true\/X.env.scope.names.lookup x=some .local:=by first|exact .inl rfl|exact .inr rfl|assumption) :
  PS X (.Assign [.Name x pos'] e pos) (tT te (bB i)):=by
 intro pins s σ H D I h;refine wpAny_Assign_Name (thn (he pins s σ H _ I h) λv s1 ⟨y,H1,I1,r1,q1⟩=>?_) hs;exact pG I1 hN hi hx r1 (λs2 I2=>⟨_,H1,I2,q1⟩) hf
end

section
variable {X:Cx}{pos:Pos}
def EH(c:TT)(tb:TS):TS:=λD σ H=>∃W:Nat->St->Hp->Prop,(∃m,W m σ H)/\∀m σ H,W m σ H->
 c σ H λb H1=>if b=true then ∃N:St->Hp->Prop,(∀σ' H',N σ' H'->∃m',m'<m/\W m' σ' H')/\tb { D with nx:=N,ct:=N,bk:=D.nx } σ H1 else D.nx σ H1
theorem Cd{c:Expr}{body:List Stmt}{tc:TT}{tb:TS}(hp:Lp (HG X.prog X.w) X.A X.env X.xe)(hc:PT X c tc)(hb:PSs X body tb):PS X (.While c body [] pos) (EH tc tb):=by
 intro pins s σ H D I h;obtain⟨W,⟨m0,w0⟩,turn⟩:=h;refine wpAny_While (codeAny_whileLoop (λn s'=>∃σ' H',Inv X pins σ' H' s'/\W n σ' H') ?_ m0 ⟨σ,H,I,w0⟩);rintro n s1 ⟨σ1,H1,I1,w1⟩;refine IZ hp (thn (hc pins s1 σ1 H1 _ I1 (turn n σ1 H1 w1)) λb s2 ⟨H2,I2,q2⟩=>?_);cases b with
 |true =>
  obtain⟨N,hN,q2⟩:=q2;rw[if_pos rfl];refine IZ hp (thn (hb pins s2 σ1 H2 _ I2 q2) λf s3 q3=>?_);cases f with
  |next =>
   obtain⟨σ3,H3,I3,n3⟩:=q3;obtain⟨m',hm,w3⟩:=hN σ3 H3 n3;exact⟨m',hm,σ3,H3,I3,w3⟩
  |cont =>
   obtain⟨σ3,H3,I3,n3⟩:=q3;obtain⟨m',hm,w3⟩:=hN σ3 H3 n3;exact⟨m',hm,σ3,H3,I3,w3⟩
  |brk=>exact q3
  |ret v=>exact q3
 |false =>
  rw[if_neg Hw];exact IY ⟨σ1,H2,I2,q2⟩
end

structure It where
 go:Nat->Hp->Prop
 yld:Nat->Hp->V->Hp->Prop
 stop:Nat->Hp->Prop
def qW(X:Cx)(pins:List (Addr×Obj))(H:Hp)(b:Addr):Prop:=
 H b=none/\b≠X.env.locals/\b∉X.fs/\(b∈X.ex\/X.s₀.heap.objs.size<=b)/\(∀x c,X.env.cells.lookup x=some c->c≠b)/\∀p∈X.pn++pins,p.1≠b
theorem Inv.fpOk{X:Cx}{pins:List (Addr×Obj)}{σ:St}{H H':Hp}{s:GY}{b:Addr}(I:Inv X pins σ H s)(hb:s.heap.objs.size<=b)(hn:H' b=none):qW X pins H' b:=by
 refine⟨hn,IN (Hx I.lt hb),I.nofs hb,.inr (Ho I.sz hb),λx c e z=>?_,λp hp z=>?_⟩
 .obtain⟨v,q⟩:=I.cell x c e;exact absurd (Hx q.lt (by rw[z];exact hb)) (Iq _)
 .exact absurd (Hx (Hl (I.pin p hp).1) (by rw[z];exact hb)) (Iq _)
structure pH(P:HB)(w:HF)(K:PySem.W.Frag)(tg:Expr)(J:It)(fp:List Addr)(it:Addr)(tn:Nat->Heap->Prop):Prop where
 mem:it∈fp
 obj:∀i h,tn i h->∀b∈fp,∃o,h.get? b=some o/\∀v,o.data≠.cell v
 keep:∀i h h',tn i h->(∀b∈fp,∀o,h.get? b=some o->h'.get? b=some o)->tn i h'
 item:∀(X:Cx),X.prog=P->X.w=w->X.K=K->X.calm=true->∀(i:Nat) (pins:List (Addr×Obj)) (s:GY) (σ:St) (H:Hp) (E:GV->GY->Prop),Inv X pins σ H s->(∀b∈fp,qW X pins H b)->tn i s.heap->J.go i H->
  HK (HG P w) X.A (pyNext (.ref it)) (λr s1=>∃u,r=some u/\
   HK (HG P w) X.A (J8 tg (.ref it) u) (λ_ s2=>∃x H',Inv X pins σ H' s2/\bo x u/\J.yld i H x H'/\tn (i+1) s2.heap/\∀b∈fp,H' b=none) E s1) E s
 done:∀(X:Cx),X.prog=P->X.w=w->X.K=K->X.calm=true->∀(i:Nat) (pins:List (Addr×Obj)) (s:GY) (σ:St) (H:Hp) (E:GV->GY->Prop),Inv X pins σ H s->(∀b∈fp,qW X pins H b)->tn i s.heap->J.stop i H->
  HK (HG P w) X.A (pyNext (.ref it)) (λr s1=>r=none/\Inv X pins σ H s1) E s
 self:∀(A:HY) (i:Nat) (s:GY) (Q:GV->GY->Prop) (E:GV->GY->Prop),tn i s.heap->Q (.ref it) s->HK (HG P w) A (Lz (.ref it)) Q E s
abbrev TI:=St->Hp->(It->Hp->Prop)->Prop
def PIE(X:Cx)(pins:List (Addr×Obj))(σ:St)(tg:Expr)(R:It->Hp->Prop)(itv:GV)(s2:GY):Prop:=
 ∃(it:Addr) (fp:List Addr) (tn:Nat->Heap->Prop) (J:It) (H':Hp),itv=.ref it/\Inv X pins σ H' s2/\pH X.prog X.w X.K tg J fp it tn/\tn 0 s2.heap/\(∀b∈fp,qW X pins H' b)/\R J H'
def PI(X:Cx)(tg iter:Expr)(wi:TI):Prop:=
 ∀(pins:List (Addr×Obj)) (s:GY) (σ:St) (H:Hp) (R:It->Hp->Prop),Inv X pins σ H s->wi σ H R->
  HK (HG X.prog X.w) X.A (eval iter X.env) (λv s1=>HK (HG X.prog X.w) X.A (Lz v) (PIE X pins σ tg R) X.xe s1) X.xe s

theorem uO{M:Lw}{A:HY}{E:GV->GY->Prop}{s:GY}{tg:Expr}{it:Addr}{u:GV}{o:Obj}{n:String}{vs:Array GV}{Q:Unit->GY->Prop}(ho:s.heap.get? it=some o)(hc:o.cls=.type n)(hd:o.data=.fields vs)
  (hn:["enumerate","zip","dict_itemiterator","dict_reverseitemiterator","odict_iterator","itertools.zip_longest","itertools.pairwise"].contains n=false)(hQ:Q () s):HK M A (J8 tg (.ref it) u) Q E s:=by
 unfold J8;cases tg<;>first
  |exact Ig hQ
  |(cases u<;>first
    |exact Ig hQ
    | (refine Hy (wpAny_load ho ?_)
       rw[hc,hd];show HK M A (if(["enumerate","zip","dict_itemiterator","dict_reverseitemiterator","odict_iterator","itertools.zip_longest","itertools.pairwise"].contains n&&vs[0]?==some (rawInt _))=true then _ else _) Q E s;rw[if_neg (by intro h;rw[hn,Kl]at h;cases h)];exact Ig hQ))

def Itl(K:PySem.W.Frag)(a:Addr):It:=
 ⟨λi H=>∃xs x,SqL K H a xs/\xs[i]?=some x,λi H x H'=>H'=H/\∀xs,SqL K H a xs->xs[i]?=some x,λi H=>∃xs,SqL K H a xs/\xs.length<=i⟩
def Itr(lo:Int)(n:Nat):It:=⟨λi _=>i<n,λi H x H'=>H'=H/\x=.int (lo+i),λi _=>n<=i⟩
theorem AN{P:HB}{w:HF}{K:PySem.W.Frag}{tg:Expr}(a it:Addr):pH P w K tg (Itl K a) [it] it (λi h=>h.IsListIter it a i) where
 mem:=by simp
 obj:=λi h st b hb=>by
  have e:b=it:=by simpa using hb
  subst e;obtain⟨o,e,c,d⟩:=st;exact⟨o,e,λv z=>by rw[d]at z;cases z⟩
 keep:=λi h h' st k=>st.at λo e=>k it (by simp) o e
 item:=by
  intro X hP hw hK hc i pins s σ H E I hf st hg;subst hP hw hK;obtain⟨xs,x,hq,hx⟩:=hg;obtain⟨its,rv,p,hz⟩:=I.list hq;obtain⟨u,hu,ru⟩:=rv.get hx;obtain⟨f0,f1,f2,f3,f4,f5⟩:=hf it (by simp);refine wpAny_pyNext_list_item st p.isList (x:=u) (by simpa using hu) λh' st' sb=>?_;have I1:Inv X pins σ H { s with heap:=h' }:=I.turned (t':=s.toks) (λb o hb e=>(sb.2 b hb).trans e) f0 f1 f3 f4 f5;obtain⟨o,e,c,d⟩:=id st';exact⟨u,rfl,uO (s:={ s with heap:=h' }) e c d (by decide) ⟨x,H,I1,ru,⟨rfl,λys hy=>by rw[I.list_inj hy hq];exact hx⟩,st',λb hb=>(hf b hb).1⟩⟩
 done:=by
  intro X hP hw hK hc i pins s σ H E I hf st hg;subst hP hw hK;obtain⟨xs,hq,hx⟩:=hg;obtain⟨its,rv,p,hz⟩:=I.list hq;obtain⟨f0,f1,f2,f3,f4,f5⟩:=hf it (by simp);have hl:=rv.length;exact wpAny_pyNext_list_end (I.ok.hd hc) st p.isList (by simp;omega) λh' eb=>⟨rfl,I.turned (t':=s.toks) (λb o hb e=>eb b o hb e) f0 f1 f3 f4 f5⟩
 self:=λ_ _ _ _ _ st h=>wpAny_pyIter_listiter st h
theorem zK{P:HB}{w:HF}{K:PySem.W.Frag}{tg:Expr}(it:Addr)(lo:Int)(n:Nat):pH P w K tg (Itr lo n) [it] it (λi h=>IsRangeIter h it (lo+(i:Nat)*1) ((n:Int)-(i:Nat)) 1) where
 mem:=by simp
 obj:=λi h st b hb=>by
  have e:b=it:=by simpa using hb
  subst e;exact⟨_,st,λv z=>by
   have z':JJ _=Data.cell v:=z;cases z'⟩
 keep:=λi h h' st k=>k it (by simp) _ st
 item:=by
  intro X hP hw hK hc i pins s σ H E I hf st hg;subst hP hw hK;obtain⟨f0,f1,f2,f3,f4,f5⟩:=hf it (by simp);have W:=Walks.range (prog:=X.prog) (w:=X.w) (I.ok.hd hc) it lo 1 n;refine W.item i s _ _ hg st λv h' tk hv st' kk=>?_;obtain⟨t,rfl⟩:=hv;have I1:Inv X pins σ H { s with heap:=h',toks:=tk }:=I.turned (λb o hb e=>kk b o (by simpa using hb) e) f0 f1 f3 f4 f5;refine⟨_,rfl,uO (s:={ s with heap:=h',toks:=tk }) (n := "range_iterator") st' rfl rfl (by decide) ⟨.int (lo+i),H,I1,⟨t,?_⟩,⟨rfl,rfl⟩,st',λb hb=>(hf b hb).1⟩⟩;rw[Int.mul_one]
 done:=by
  intro X hP hw hK hc i pins s σ H E I hf st hg;subst hP hw hK;obtain⟨f0,f1,f2,f3,f4,f5⟩:=hf it (by simp);exact wpAny_pyNext_range_end (I.ok.hd hc) st (by have:n<=i:=hg;omega) λh' eb=>⟨rfl,I.turned (t':=s.toks) (λb o hb e=>eb b o hb e) f0 f1 f3 f4 f5⟩
 self:=λ_ _ _ _ _ st h=>wpAny_pyIter_rangeiter st h
section
variable {X:Cx}{tg:Expr}
def Dh(K:PySem.W.Frag)(tl:TE):TI:=λσ H R=>tl σ H λx H1=>∃a,x=.ref a/\(∃xs,SqL K H1 a xs)/\R (Itl K a) H1
theorem bq{l:Expr}{tl:TE}(hl:PE X l tl):PI X tg l (Dh X.K tl):=by
 intro pins s σ H R I h;refine thn (hl pins s σ H _ I h) λv s1 ⟨x,H1,I1,r1,q1⟩=>?_;obtain⟨a,e,⟨xs,hq⟩,q⟩:=q1;subst e;cases r1;obtain⟨its,rv,p,hz⟩:=I1.list hq;refine JM p.isList ?_;refine⟨s1.heap.objs.size,[s1.heap.objs.size],_,_,H1,rfl,I1.kept (t':=s1.toks) λb o e=>Hg _ e,AN a _,⟨_,HI _ rfl,rfl,rfl⟩,λb hb=>?_,q⟩;have e:b=s1.heap.objs.size:=by simpa using hb
 subst e;exact I1.fpOk (G_ _) (I1.hok.fresh (G_ _))
theorem xD{pins:List (Addr×Obj)}{σ:St}{H:Hp}{s:GY}{R:It->Hp->Prop}{E:GV->GY->Prop}{lo hi:Int}{t u v:Tok}{tk:Nat}(I:Inv X pins σ H s)(h1:-(2^62)<=lo)(h2:lo<2^62)(h3:-(2^62)<=hi)(h4:hi<2^62)
  (q:R (Itr lo (hi-lo).toNat) H):HK (HG X.prog X.w) X.A (Lz (.ref s.heap.objs.size)) (PIE X pins σ tg R) E { s with heap:=s.heap.push { cls:=.type "range",data:=.fields #[.int lo t,.int hi u,.int 1 v] },toks:=tk }:=by
 refine wpAny_pyIter_range (IsRange.new ..) (small_one h1 h2 h3 h4) ?_;have I1:Inv X pins σ H { s with heap:=s.heap.push { cls:=.type "range",data:=.fields #[.int lo t,.int hi u,.int 1 v] },toks:=tk }:=I.kept λb o e=>Hg _ e;refine⟨(s.heap.push { cls:=.type "range",data:=.fields #[.int lo t,.int hi u,.int 1 v] }).objs.size,[(s.heap.push { cls:=.type "range",data:=.fields #[.int lo t,.int hi u,.int 1 v] }).objs.size],_,_,H,rfl,
  I1.kept (t':=tk) λb o e=>Hg _ e,zK _ lo (hi-lo).toNat,?_,λb hb=>?_,q⟩
 .have e1:lo+((0:Nat):Int)*1=lo:=by simp
  have e2:(((hi-lo).toNat:Nat):Int)-((0:Nat):Int)=Builtin.Range.rangeSize lo hi 1:=by rw[rangeSize_one];split<;>omega
  show IsRangeIter _ _ (lo+((0:Nat):Int)*1) ((((hi-lo).toNat:Nat):Int)-((0:Nat):Int)) 1;rw[e1,e2];exact HI _ rfl
 .have e:b=(s.heap.push { cls:=.type "range",data:=.fields #[.int lo t,.int hi u,.int 1 v] }).objs.size:=by simpa using hb
  subst e;exact I1.fpOk (G_ _) (I1.hok.fresh (G_ _))
def FM(ta:TA):TI:=λσ H R=>ta σ H λvs H1=>∃j:Int,vs=[.int j]/\-(2^62)<=j/\j<2^62/\R (Itr 0 j.toNat) H1
def FN(ta:TA):TI:=λσ H R=>ta σ H λvs H1=>∃i j:Int,vs=[.int i,.int j]/\(-(2^62)<=i/\i<2^62/\-(2^62)<=j/\j<2^62)/\R (Itr i (j-i).toNat) H1
theorem qX{a:Expr}{ta:TA}{p pos:Pos}(hg:Gl X "range")(hm:X.mg "range" = none)(ha:PA X [a] ta)(hs:HJ [a] X.env=[(false,eval a X.env)]:=by rfl):PI X tg (.Call (.Name "range" p) [a] [] pos) (FM ta):=by
 intro pins s σ H R I h;refine Call_ (oQ I hg hm boot_range (IP (thn (ha pos pins s σ H _ I h) λus s1 ⟨vs,H1,I1,r1,q1⟩=>?_) hs rfl));obtain⟨j,e,q1,q2,q⟩:=q1;subst e;cases r1 with
 |cons r rr =>
  cases rr;obtain⟨t,rfl⟩:=r;exact call_range_1 (xD I1 (by omega) (by omega) q1 q2 (by simpa using q))
theorem vQ{a b:Expr}{ta:TA}{p pos:Pos}(hg:Gl X "range")(hm:X.mg "range" = none)(ha:PA X [a,b] ta)(hs:HJ [a,b] X.env=[(false,eval a X.env),(false,eval b X.env)]:=by rfl)(hs2:HJ [b] X.env=[(false,eval b X.env)]:=by rfl) :
  PI X tg (.Call (.Name "range" p) [a,b] [] pos) (FN ta):=by
 intro pins s σ H R I h;refine Call_ (oQ I hg hm boot_range (IP (thn (ha pos pins s σ H _ I h) λus s1 ⟨vs,H1,I1,r1,q1⟩=>?_) (by rw[hs,hs2]) (by rw[hs2];rfl)));obtain⟨i,j,e,⟨q1,q2,q3,q4⟩,q⟩:=q1;subst e;cases r1 with
 |cons r rr =>
  cases rr with
  |cons r' rr =>
   cases rr;obtain⟨t,rfl⟩:=r;obtain⟨t',rfl⟩:=r';exact call_range_2 (xD I1 q1 q2 q3 q4 q)

def Ce(wi:TI)(g:TG)(tb:TS):TS:=λD σ H=>wi σ H λJ H1=>∃W:Nat->Nat->St->Hp->Prop,(∃m,W 0 m σ H1)/\∀i m σ H,W i m σ H->
 (J.stop i H/\D.nx σ H)\/(J.go i H/\∃N:St->Hp->Prop,(∀σ' H',N σ' H'->∃m',m'<m/\W (i+1) m' σ' H')/\∀x H',J.yld i H x H'->g x σ H' λσ2 H2=>tb { D with nx:=N,ct:=N,bk:=D.nx } σ2 H2)
def qY(fp:List Addr)(h:Heap):List (Addr×Obj):=fp.filterMap λb=>(h.get? b).map λo=>(b,o)
theorem lE{fp:List Addr}{h:Heap}{b:Addr}{o:Obj}(hb:b∈fp)(e:h.get? b=some o):(b,o)∈qY fp h:=List.mem_filterMap.mpr ⟨b,hb,by rw[e];rfl⟩
theorem AO{fp:List Addr}{h:Heap}{p:Addr×Obj}(hp:p∈qY fp h):p.1∈fp/\h.get? p.1=some p.2:=by
 obtain⟨b,hb,e⟩:=List.mem_filterMap.mp hp;cases q:h.get? b with
 |none=>rw[q]at e;cases e
 |some o =>
  rw[q]at e;have e':(b,o)=p:=HV e;subst e';exact⟨hb,q⟩
theorem Inv.pinned{pins:List (Addr×Obj)}{σ:St}{H:Hp}{s:GY}{fp:List Addr}(I:Inv X pins σ H s)(hf:∀b∈fp,qW X pins H b)(ho:∀b∈fp,∃o,s.heap.get? b=some o/\∀v,o.data≠.cell v):Inv X (pins++qY fp s.heap) σ H s:=
 I.pins_of λp hp=>(List.mem_append.mp hp).elim (λz=>I.pin p (HN _ z)) λz=>by
  obtain⟨hb,e⟩:=AO z;obtain⟨f0,f1,f2,_⟩:=hf p.1 hb;obtain⟨o,e',d⟩:=ho p.1 hb;rw[e]at e';cases e';exact⟨e,f0,f1,f2,d⟩
theorem Inv.unpinned{pins pl:List (Addr×Obj)}{σ:St}{H:Hp}{s:GY}(I:Inv X (pins++pl) σ H s):Inv X pins σ H s:=I.pins_of λp hp=>I.pin p (HN _ (ID _ hp))
theorem cg{iter:Expr}{body:List Stmt}{wi:TI}{g:TG}{tb:TS}{pos:Pos}(hp:Lp (HG X.prog X.w) X.A X.env X.xe)(hc:X.calm=true)(hi:PI X tg iter wi)(hg:PG X tg g)(hb:PSs X body tb)
  (hs:∀x,Iv iter X.env x=pure x:=by intro _;rfl):PS X (.For tg iter body [] pos) (Ce wi g tb):=by
 intro pins s σ H D I h;refine wpAny_For (thn (hi pins s σ H _ I h) λv s1 h1=>thn h1 λitv s2 h2=>?_) hs;obtain⟨it,fp,tn,J,H2,e,I2,T,st2,f2,W,⟨m0,w0⟩,turn⟩:=h2;subst e
 -- what stays true of the iterator's objects through the loop
 have stat:∀{H':Hp},(∀b∈fp,H' b=none)->∀b∈fp,qW X pins H' b:=λhn b hb=>⟨hn b hb,(f2 b hb).2⟩;refine codeAny_forLoop_any (λn s'=>∃i σ' H',Inv X pins σ' H' s'/\tn i s'.heap/\(∀b∈fp,H' b=none)/\W i n σ' H') ?_ m0 ⟨0,σ,H2,I2,st2,λb hb=>(f2 b hb).1,w0⟩;rintro n s3 ⟨i,σ3,H3,I3,st3,fr3,w3⟩;rcases turn i n σ3 H3 w3 with⟨stop,qn⟩|⟨go,N,hN,step⟩
 .refine IZ hp (thn (T.done X rfl rfl rfl hc i pins s3 σ3 H3 X.xe I3 (stat fr3) st3 stop) λr s4 ⟨hr,I4⟩=>?_);subst hr;exact IY ⟨σ3,H3,I4,qn⟩
 .refine IZ hp (thn (T.item X rfl rfl rfl hc i pins s3 σ3 H3 X.xe I3 (stat fr3) st3 go) λr s4 ⟨u,hr,h4⟩=>?_);subst hr;refine IZ hp (thn h4 λ_ s5 ⟨x,H5,I5,r5,y5,st5,fr5⟩=>?_);have I5':=I5.pinned (stat fr5) (T.obj _ _ st5);refine IZ hp (thn (hg _ s5 σ3 H5 x u _ I5' r5 (step x H5 y5)) λ_ s6 ⟨σ6,H6,I6,q6⟩=>?_);refine IZ hp (thn (hb _ s6 σ6 H6 _ I6 q6) λf s7 q7=>?_);have again:∀{σ7:St} {H7:Hp},Inv X (pins++qY fp s5.heap) σ7 H7 s7->N σ7 H7->∃m,m<n/\∃i σ' H',Inv X pins σ' H' s7/\tn i s7.heap/\(∀b∈fp,H' b=none)/\W i m σ' H':=λ{σ7 H7} I7 n7=>by
   obtain⟨m',hm,w7⟩:=hN σ7 H7 n7;refine⟨m',hm,i+1,σ7,H7,I7.unpinned,T.keep _ _ _ st5 λb hb o e=>(I7.pin (b,o) (HN _ (HN _ (lE hb e)))).1,λb hb=>?_,w7⟩;obtain⟨o,e,d⟩:=T.obj _ _ st5 b hb;exact(I7.pin (b,o) (HN _ (HN _ (lE hb e)))).2.1
  cases f with
  |next=>obtain⟨σ7,H7,I7,n7⟩:=q7;exact again I7 n7
  |cont=>obtain⟨σ7,H7,I7,n7⟩:=q7;exact again I7 n7
  |brk=>obtain⟨σ7,H7,I7,q7⟩:=q7;exact⟨σ7,H7,I7.unpinned,q7⟩
  |ret v=>obtain⟨x7,σ7,H7,I7,r7,q7⟩:=q7;exact⟨x7,σ7,H7,I7.unpinned,r7,q7⟩
end

theorem cm{K:PySem.W.Frag}{a:Addr}{xs:List V}{g:TG}{tb:TS}{D:dZ}{σ:St}{H:Hp}(Pv:Nat->St->Hp->Prop)(h0:Pv 0 σ H)(hl:∀i σ H,i<=xs.length->Pv i σ H->SqL K H a xs)
  (hs:∀i x σ H,xs[i]?=some x->Pv i σ H->g x σ H λσ2 H2=>tb { D with nx:=Pv (i+1),ct:=Pv (i+1),bk:=D.nx } σ2 H2)(hd:∀σ H,Pv xs.length σ H->D.nx σ H) :
  ∃W:Nat->Nat->St->Hp->Prop,(∃m,W 0 m σ H)/\∀i m σ H,W i m σ H->
   ((Itl K a).stop i H/\D.nx σ H)\/((Itl K a).go i H/\∃N:St->Hp->Prop,(∀σ' H',N σ' H'->∃m',m'<m/\W (i+1) m' σ' H')/\∀x H',(Itl K a).yld i H x H'->g x σ H' λσ2 H2=>tb { D with nx:=N,ct:=N,bk:=D.nx } σ2 H2):=by
 refine⟨λi m σ H=>m=xs.length-i/\i<=xs.length/\Pv i σ H,⟨xs.length,by simp,HZ _,h0⟩,?_⟩;rintro i m σ H ⟨rfl,hi,p⟩;have q:=hl i σ H hi p;by_cases hlt:i<xs.length
 .refine .inr ⟨⟨xs,xs[i],q,by simp[hlt]⟩,Pv (i+1),λσ' H' p'=>⟨xs.length-(i+1),by omega,rfl,hlt,p'⟩,λx H' y=>?_⟩;obtain⟨e,y⟩:=y;subst e;exact hs i x σ _ (y xs q) p
 .have e:i=xs.length:=by omega
  subst e;exact .inl ⟨⟨xs,q,G_ _⟩,hd σ H p⟩
theorem ng{lo:Int}{n:Nat}{g:TG}{tb:TS}{D:dZ}{σ:St}{H:Hp}(Pv:Nat->St->Hp->Prop)(h0:Pv 0 σ H)
  (hs:∀i σ H,i<n->Pv i σ H->g (.int (lo+i)) σ H λσ2 H2=>tb { D with nx:=Pv (i+1),ct:=Pv (i+1),bk:=D.nx } σ2 H2)(hd:∀σ H,Pv n σ H->D.nx σ H) :
  ∃W:Nat->Nat->St->Hp->Prop,(∃m,W 0 m σ H)/\∀i m σ H,W i m σ H->
   ((Itr lo n).stop i H/\D.nx σ H)\/((Itr lo n).go i H/\∃N:St->Hp->Prop,(∀σ' H',N σ' H'->∃m',m'<m/\W (i+1) m' σ' H')/\∀x H',(Itr lo n).yld i H x H'->g x σ H' λσ2 H2=>tb { D with nx:=N,ct:=N,bk:=D.nx } σ2 H2):=by
 refine⟨λi m σ H=>m=n-i/\i<=n/\Pv i σ H,⟨n,by simp,HZ _,h0⟩,?_⟩;rintro i m σ H ⟨rfl,hi,p⟩;by_cases hlt:i<n
 .refine .inr ⟨hlt,Pv (i+1),λσ' H' p'=>⟨n-(i+1),by omega,rfl,hlt,p'⟩,λx H' y=>?_⟩;obtain⟨e,y⟩:=y;subst e y;exact hs i σ _ hlt p
 .have e:i=n:=by omega
  subst e;exact .inl ⟨G_ _,hd σ H p⟩

abbrev R2:=V->V->Hp->VK->Prop
def OpR(X:Cx)(f:GV->GV->Sem GV)(r:R2):Prop:=
 ∀(pins:List (Addr×Obj)) (s:GY) (σ:St) (H:Hp) (x y:V) (v u:GV) (Q:VK),Inv X pins σ H s->bo x v->bo y u->r x y H Q->
  HK (HG X.prog X.w) X.A (f v u) (EP X pins σ Q) X.xe s
def UnR(X:Cx)(f:GV->Sem GV)(r:V->Hp->VK->Prop):Prop:=
 ∀(pins:List (Addr×Obj)) (s:GY) (σ:St) (H:Hp) (x:V) (v:GV) (Q:VK),Inv X pins σ H s->bo x v->r x H Q->
  HK (HG X.prog X.w) X.A (f v) (EP X pins σ Q) X.xe s
def iI(X:Cx)(f:GV)(r:List V->Hp->VK->Prop):Prop:=
 ∀(pins:List (Addr×Obj)) (s:GY) (σ:St) (H:Hp) (xs:List V) (us:List GV) (Q:VK),Inv X pins σ H s->bg xs us->r xs H Q->
  HK (HG X.prog X.w) X.A (call f us) (EP X pins σ Q) X.xe s
def tOp(r:R2)(ta tb:TE):TE:=λσ H Q=>ta σ H λx H1=>tb σ H1 λy H2=>r x y H2 Q
def tUn(r:V->Hp->VK->Prop)(ta:TE):TE:=λσ H Q=>ta σ H λx H1=>r x H1 Q
def rI(C:Int->Int->Prop)(g:Int->Int->V):R2:=λx y H Q=>∃i j,x=.int i/\y=.int j/\C i j/\Q (g i j) H
def rI0(g:Int->Int->V):R2:=λx y H Q=>∃i j,x=.int i/\y=.int j/\Q (g i j) H
def rU(g:Int->V):V->Hp->VK->Prop:=λx H Q=>∃i,x=.int i/\Q (g i) H

section
variable {X:Cx}{a b c:Expr}{ta tb tc:TE}{pos:Pos}

theorem Cf(ha:PE X a ta)(hb:PE X b tb){pins:List (Addr×Obj)}{s:GY}{σ:St}{H:Hp}{R:V->V->Hp->Prop}(I:Inv X pins σ H s)
  (h:ta σ H λx H1=>tb σ H1 λy H2=>R x y H2){Q:GV->GY->Prop}{f:GV->GV->Sem GV}
  (hf:∀v u s2 x y H2,Inv X pins σ H2 s2->bo x v->bo y u->R x y H2->HK (HG X.prog X.w) X.A (f v u) Q X.xe s2) :
  HK (HG X.prog X.w) X.A (eval a X.env) (λv s₁=>HK (HG X.prog X.w) X.A (eval b X.env) (λu s₂=>HK (HG X.prog X.w) X.A (f v u) Q X.xe s₂) X.xe s₁) X.xe s:=by
 refine thn (ha pins s σ H _ I h) λv s1 ⟨x,H1,I1,r1,q1⟩=>?_;refine thn (hb pins s1 σ H1 _ I1 q1) λu s2 ⟨y,H2,I2,r2,q2⟩=>?_;exact hf v u s2 x y H2 I2 r1 r2 q2

theorem aK{op:Operator}{r:R2}(ho:OpR X (Jz op) r)(ha:PE X a ta)(hb:PE X b tb):PE X (.BinOp a op b pos) (tOp r ta tb):=by
 intro pins s σ H Q I h;exact wpAny_BinOp (Cf ha hb I h λv u s2 x y H2 I2 rx ry q=>ho pins s2 σ H2 x y v u Q I2 rx ry q)
theorem sP{op:UnaryOp}{r:V->Hp->VK->Prop}(ho:UnR X (unaryOp op) r)(ha:PE X a ta):PE X (.UnaryOp op a pos) (tUn r ta):=by
 intro pins s σ H Q I h;exact UnaryOp_ (thn (ha pins s σ H _ I h) λv s1 ⟨x,H1,I1,r1,q1⟩=>ho pins s1 σ H1 x v Q I1 r1 q1)
theorem opI{f:GV->GV->Sem GV}{C:Int->Int->Prop}{g:Int->Int->Int}
  (rule:∀(i j:Int) (t u:Tok) (s:GY) (Q:GV->GY->Prop) (E:GV->GY->Prop),C i j->Q (.int (g i j) s.toks) { s with toks:=s.toks+1 }->HK (HG X.prog X.w) X.A (f (.int i t) (.int j u)) Q E s) :
  OpR X f (rI C λi j=>.int (g i j)):=by
 intro pins s σ H x y v u Q I rx ry h;obtain⟨i,j,rfl,rfl,hc,q⟩:=h;obtain⟨t,rfl⟩:=rx;obtain⟨t',rfl⟩:=ry;exact rule i j t t' s _ _ hc ⟨.int (g i j),H,I.tok _,⟨_,rfl⟩,q⟩
theorem EI{f:GV->GV->Sem GV}{g:Int->Int->Int}
  (rule:∀(i j:Int) (t u:Tok) (s:GY) (Q:GV->GY->Prop) (E:GV->GY->Prop),Q (.int (g i j) s.toks) { s with toks:=s.toks+1 }->HK (HG X.prog X.w) X.A (f (.int i t) (.int j u)) Q E s) :
  OpR X f (rI0 λi j=>.int (g i j)):=by
 intro pins s σ H x y v u Q I rx ry h;obtain⟨i,j,rfl,rfl,q⟩:=h;obtain⟨t,rfl⟩:=rx;obtain⟨t',rfl⟩:=ry;exact rule i j t t' s _ _ ⟨.int (g i j),H,I.tok _,⟨_,rfl⟩,q⟩
theorem Cg{f:GV->GV->Sem GV}{g:Int->Int->Bool}
  (rule:∀(i j:Int) (t u:Tok) (s:GY) (Q:GV->GY->Prop) (E:GV->GY->Prop),Q (.bool (g i j)) s->HK (HG X.prog X.w) X.A (f (.int i t) (.int j u)) Q E s) :
  OpR X f (rI0 λi j=>.bl (g i j)):=by
 intro pins s σ H x y v u Q I rx ry h;obtain⟨i,j,rfl,rfl,q⟩:=h;obtain⟨t,rfl⟩:=rx;obtain⟨t',rfl⟩:=ry;exact rule i j t t' s _ _ ⟨.bl (g i j),H,I,rfl,q⟩

def Go(i j:Int):Prop:=0<j/\j<1073741824
def Gp(i j:Int):Prop:=0<=j/\j<=1000000/\i.natAbs<2^64
def Ch(i j:Int):Prop:=(-(2^64)<i/\i<2^64)\/(-(2^64)<j/\j<2^64)
theorem Ch.ok{i j:Int}(h:Ch i j):IntMulOk i j:=by
 rcases h with⟨h1,h2⟩|⟨h1,h2⟩
 .exact .of_left (intBits_le_64 h1 h2)
 .exact .of_right (intBits_le_64 h1 h2)
theorem bZ:OpR X (Jz .Add) (rI0 λi j=>.int (i+j)):=EI λ_ _ _ _ _ _ _ q=>add_int q
theorem ki:OpR X (Jz .Sub) (rI0 λi j=>.int (i-j)):=EI λ_ _ _ _ _ _ _ q=>sub_int q
theorem uP:OpR X (Jz .Mult) (rI Ch λi j=>.int (i*j)):=opI λ_ _ _ _ _ _ _ hc q=>mul_int q hc.ok
theorem sQ:OpR X (Jz .FloorDiv) (rI Go λi j=>.int (i/j)):=opI λi j _ _ _ _ _ hc q=>by
 have h1:(0:Int)<j:=hc.1;have h2:j<1073741824:=hc.2;exact floordiv_int (by omega) (by rw[Int.fdiv_eq_ediv_of_nonneg i (by omega)];exact q) (.inl (PyProof.noPylong_small (by omega)))
theorem kj:OpR X (Jz .Mod) (rI (λ_ j=>0<j) λi j=>.int (i%j)):=opI λi j _ _ _ _ _ hc q=>by
 have h1:(0:Int)<j:=hc;exact mod_int' (by omega) (by rw[Int.fmod_eq_emod_of_nonneg i (by omega)];exact q)
theorem EJ:OpR X (Jz .Pow) (rI Gp λi j=>.int (i^j.toNat)):=opI λ_ _ _ _ _ _ _ hc q=>pow_int_small hc.1 hc.2.1 hc.2.2 q
theorem unI{f:GV->Sem GV}{g:Int->Int}
  (rule:∀(i:Int) (t:Tok) (s:GY) (Q:GV->GY->Prop) (E:GV->GY->Prop),Q (.int (g i) s.toks) { s with toks:=s.toks+1 }->HK (HG X.prog X.w) X.A (f (.int i t)) Q E s) :
  UnR X f (rU λi=>.int (g i)):=by
 intro pins s σ H x v Q I rx h;obtain⟨i,rfl,q⟩:=h;obtain⟨t,rfl⟩:=rx;exact rule i t s _ _ ⟨.int (g i),H,I.tok _,⟨_,rfl⟩,q⟩
theorem oS:UnR X (unaryOp .USub) (rU λi=>.int (-i)):=unI λ_ _ _ _ _ q=>neg_int q
end

def EK:V->V->Bool
 |.non,.non=>true|.non,.int _=>true|.int _,.non=>true|.non,.bl _=>true|.bl _,.non=>true|.non,.str _=>true|.str _,.non=>true
 |.int _,.int _=>true|.bl _,.bl _=>true|.str _,.str _=>true|.byt _,.byt _=>true
 |.int _,.str _=>true|.str _,.int _=>true|.bl _,.str _=>true|.str _,.bl _=>true
 |_,_=>false
def rEq:R2:=λx y H Q=>EK x y=true/\Q (.bl (decide (x=y))) H
def rNe:R2:=λx y H Q=>EK x y=true/\Q (.bl (!decide (x=y))) H

theorem ze{i j:Int}:decide (V.int i=V.int j)=(i==j):=by
 rw[JC];simp
theorem AQ{i j:Bool}:decide (V.bl i=V.bl j)=(i==j):=by
 rw[JC];simp
theorem zf{i j:Str}:decide (V.str i=V.str j)=(i==j):=by
 rw[JC];simp
theorem zg{i j:Array UInt8}:decide (V.byt i=V.byt j)=(i.toList==j.toList):=by
 rw[JC];cases i;cases j;simp

section
variable {X:Cx}{a b c:Expr}{ta tb tc:TE}{pos:Pos}
theorem bL{pins:List (Addr×Obj)}{σ:St}{H:Hp}{s:GY}{Q:VK}{k k':Bool}(I:Inv X pins σ H s)(q:Q (.bl k) H)(e:k=k'):EP X pins σ Q (.bool k') s:=by
 subst e;exact⟨.bl k,H,I,rfl,q⟩
theorem a_:OpR X (Iw .Eq) rEq:=by
 intro pins s σ H x y v u Q I rx ry h;obtain⟨hs,q⟩:=h;cases x with
 |non =>
  cases rx;cases y with
  |non=>cases ry;exact PySem.EqNone.eq_none_none (bL I q (by simp))
  |bl j=>cases ry;exact PySem.EqNone.eq_none_bool (bL I q (by simp))
  |int j=>obtain⟨t',rfl⟩:=ry;exact PySem.EqNone.eq_none_int (bL I q (by simp))
  |str j=>obtain⟨t',rfl⟩:=ry;exact PySem.EqNone.eq_none_str (bL I q (by simp))
  |_=>exact absurd (show false=true from hs) Hw
 |bl i =>
  cases rx;cases y with
  |non=>cases ry;exact PySem.EqNone.eq_bool_none (bL I q (by simp))
  |bl j=>cases ry;exact eq_bool (bL I q AQ)
  |str j=>obtain⟨t',rfl⟩:=ry;exact PySem.EqMixed.eq_bool_str (bL I q (by simp))
  |_=>exact absurd (show false=true from hs) Hw
 |int i =>
  obtain⟨t,rfl⟩:=rx;cases y with
  |non=>cases ry;exact PySem.EqNone.eq_int_none (bL I q (by simp))
  |int j=>obtain⟨t',rfl⟩:=ry;exact eq_int (bL I q ze)
  |str j=>obtain⟨t',rfl⟩:=ry;exact PySem.EqMixed.eq_int_str (bL I q (by simp))
  |_=>exact absurd (show false=true from hs) Hw
 |str i =>
  obtain⟨t,rfl⟩:=rx;cases y with
  |non=>cases ry;exact PySem.EqNone.eq_str_none (bL I q (by simp))
  |bl j=>cases ry;exact PySem.EqMixed.eq_str_bool (bL I q (by simp))
  |int j=>obtain⟨t',rfl⟩:=ry;exact PySem.EqMixed.eq_str_int (bL I q (by simp))
  |str j=>obtain⟨t',rfl⟩:=ry;exact eq_str (bL I q zf)
  |_=>exact absurd (show false=true from hs) Hw
 |byt i =>
  obtain⟨t,rfl⟩:=rx;cases y with
  |byt j=>obtain⟨t',rfl⟩:=ry;exact PySem.W.eq_bytes (bL I q zg)
  |_=>exact absurd (show false=true from hs) Hw
 |_=>cases y<;>exact absurd (show false=true from hs) Hw
theorem jz:OpR X (Iw .NotEq) rNe:=by
 intro pins s σ H x y v u Q I rx ry h;obtain⟨hs,q⟩:=h;cases x with
 |non =>
  cases rx;cases y with
  |non=>cases ry;exact PySem.EqNone.ne_none_none (bL I q (by simp))
  |bl j=>cases ry;exact PySem.EqNone.ne_none_bool (bL I q (by simp))
  |int j=>obtain⟨t',rfl⟩:=ry;exact PySem.EqNone.ne_none_int (bL I q (by simp))
  |str j=>obtain⟨t',rfl⟩:=ry;exact PySem.EqNone.ne_none_str (bL I q (by simp))
  |_=>exact absurd (show false=true from hs) Hw
 |bl i =>
  cases rx;cases y with
  |non=>cases ry;exact PySem.EqNone.ne_bool_none (bL I q (by simp))
  |bl j=>cases ry;exact ne_bool (bL I q (congrArg not AQ))
  |str j=>obtain⟨t',rfl⟩:=ry;exact PySem.EqMixed.ne_bool_str (bL I q (by simp))
  |_=>exact absurd (show false=true from hs) Hw
 |int i =>
  obtain⟨t,rfl⟩:=rx;cases y with
  |non=>cases ry;exact PySem.EqNone.ne_int_none (bL I q (by simp))
  |int j=>obtain⟨t',rfl⟩:=ry;exact ne_int (bL I q (congrArg not ze))
  |str j=>obtain⟨t',rfl⟩:=ry;exact PySem.EqMixed.ne_int_str (bL I q (by simp))
  |_=>exact absurd (show false=true from hs) Hw
 |str i =>
  obtain⟨t,rfl⟩:=rx;cases y with
  |non=>cases ry;exact PySem.EqNone.ne_str_none (bL I q (by simp))
  |bl j=>cases ry;exact PySem.EqMixed.ne_str_bool (bL I q (by simp))
  |int j=>obtain⟨t',rfl⟩:=ry;exact PySem.EqMixed.ne_str_int (bL I q (by simp))
  |str j=>obtain⟨t',rfl⟩:=ry;exact ne_str (bL I q (congrArg not zf))
  |_=>exact absurd (show false=true from hs) Hw
 |byt i =>
  obtain⟨t,rfl⟩:=rx;cases y with
  |byt j=>obtain⟨t',rfl⟩:=ry;exact PySem.W.ne_bytes (bL I q (congrArg not zg))
  |_=>exact absurd (show false=true from hs) Hw
 |_=>cases y<;>exact absurd (show false=true from hs) Hw

theorem wW:OpR X (Iw .Lt) (rI0 λi j=>.bl (decide (i<j))):=Cg λ_ _ _ _ _ _ _ q=>lt_int q
theorem Di:OpR X (Iw .LtE) (rI0 λi j=>.bl (decide (i<=j))):=Cg λ_ _ _ _ _ _ _ q=>le_int q
theorem j_:OpR X (Iw .Gt) (rI0 λi j=>.bl (decide (j<i))):=Cg λ_ _ _ _ _ _ _ q=>gt_int q
theorem ku:OpR X (Iw .In) (λx y H Q=>∃i j,x=.str i/\y=.str j/\Q (.bl (!(Ip j i 0 j.length 1).isEmpty)) H):=by
 intro pins s σ H x y v u Q I rx ry h;obtain⟨i,j,rfl,rfl,q⟩:=h;obtain⟨t,rfl⟩:=rx;obtain⟨t',rfl⟩:=ry;exact in_str (bL I q rfl)

theorem EL:OpR X (Iw .Is) (λx y H Q=>y=.non/\Q (.bl (decide (x=.non))) H):=by
 intro pins s σ H x y v u Q I rx ry h;obtain⟨rfl,q⟩:=h;cases ry;refine is_none_gen (bL I q ?_);cases x<;>first
  |(cases rx;rfl)
  |(obtain⟨t,rfl⟩:=rx;rfl)
theorem qZ:OpR X (Iw .NotIn) (λx y H Q=>∃i j,x=.str i/\y=.str j/\Q (.bl (!(!(Ip j i 0 j.length 1).isEmpty))) H):=by
 intro pins s σ H x y v u Q I rx ry h;obtain⟨i,j,rfl,rfl,q⟩:=h;obtain⟨t,rfl⟩:=rx;obtain⟨t',rfl⟩:=ry;exact notIn_str (bL I q rfl)
theorem nomark(b:Expr){op:CmpOp}(h:op≠.In:=by decide)(h2:op≠.NotIn:=by decide):JY op b=false:=by
 have e1:(op==CmpOp.In)=false:=by cases op<;>first|rfl|exact absurd rfl h
 have e2:(op==CmpOp.NotIn)=false:=by cases op<;>first|rfl|exact absurd rfl h2
 cases b<;>simp[JY,e1,e2]
theorem eC{op:CmpOp}{r:R2}(ho:OpR X (Iw op) r)(ha:PE X a ta)(hb:PE X b tb)(hm:JY op b=false):PE X (.Compare a [op] [b] pos) (tOp r ta tb):=by
 intro pins s σ H Q I h;exact wpAny_Compare1 (Cf ha hb I h λv u s2 x y H2 I2 rx ry q=>ho pins s2 σ H2 x y v u Q I2 rx ry q) hm
def Dj(t:TE):TT:=λσ H Q=>t σ H λx H'=>∃k,x=.bl k/\Q k H'
theorem ao{op:CmpOp}{r:R2}(ho:OpR X (Iw op) r)(ha:PE X a ta)(hb:PE X b tb)(hm:JY op b=false):PT X (.Compare a [op] [b] pos) (Dj (tOp r ta tb)):=by
 intro pins s σ H Q I h;refine wpAny_isTrue_Compare1 (thn (ha pins s σ H _ I h) λv s1 ⟨x,H1,I1,r1,q1⟩=>thn (hb pins s1 σ H1 _ I1 q1) λu s2 ⟨y,H2,I2,r2,q2⟩ =>
  thn (ho pins s2 σ H2 x y v u _ I2 r1 r2 q2) λc s3 ⟨z,H3,I3,r3,k,e,q3⟩=>?_) hm
 subst e;cases r3;exact Ja ⟨H3,I3,q3⟩
theorem lR:(Hs:Nat)<2^63:=by rw[Lq];decide
theorem dM:OpR X (Jz .Add) (λx y H Q=>∃i j,x=.str i/\y=.str j/\i.length+j.length<=Hs/\Q (.str (i++j)) H):=by
 intro pins s σ H x y v u Q I rx ry h;obtain⟨i,j,rfl,rfl,hz,q⟩:=h;obtain⟨t,rfl⟩:=rx;obtain⟨t',rfl⟩:=ry;exact add_str (λt' tk=>⟨.str (i++j),H,I.tok _,⟨_,rfl⟩,q⟩) hz
theorem jc{x:V}{us:List GV}(r:bg [x] us):∃u,us=[u]/\bo x u:=by
 cases r with
 |cons r1 r2=>cases r2;exact⟨_,rfl,r1⟩
theorem zL{x y:V}{us:List GV}(r:bg [x,y] us):∃u w',us=[u,w']/\bo x u/\bo y w':=by
 cases r with
 |cons r1 r2 =>
  cases r2 with
  |cons r3 r4=>cases r4;exact⟨_,_,rfl,r1,r3⟩
theorem q0(hc:X.calm=true):iI X (.builtin "max") (λxs H Q=>∃i j,xs=[.int i,.int j]/\Q (.int (if j>i then j else i)) H):=by
 intro pins s σ H xs us Q I r h;obtain⟨i,j,rfl,q⟩:=h;obtain⟨u,w',rfl,⟨t,rfl⟩,⟨t',rfl⟩⟩:=zL r;refine max_two_ints (I.ok.hd hc) λh' tk k=>⟨_,H,I.kept k,?_,q⟩;by_cases hj:j>i
 .rw[if_pos hj,if_pos hj];exact⟨_,rfl⟩
 .rw[if_neg hj,if_neg hj];exact⟨_,rfl⟩
theorem AR(hc:X.calm=true):iI X (.builtin "min") (λxs H Q=>∃i j,xs=[.int i,.int j]/\Q (.int (if j<i then j else i)) H):=by
 intro pins s σ H xs us Q I r h;obtain⟨i,j,rfl,q⟩:=h;obtain⟨u,w',rfl,⟨t,rfl⟩,⟨t',rfl⟩⟩:=zL r;refine min_two_ints (I.ok.hd hc) λh' tk k=>⟨_,H,I.kept k,?_,q⟩;by_cases hj:j<i
 .rw[if_pos hj,if_pos hj];exact⟨_,rfl⟩
 .rw[if_neg hj,if_neg hj];exact⟨_,rfl⟩
theorem AS:iI X (.type "int") (λxs H Q=>(∃i,xs=[.int i]/\Q (.int i) H)\/∃k,xs=[.bl k]/\Q (.int (if k then 1 else 0)) H):=by
 intro pins s σ H xs us Q I r h;rcases h with⟨i,rfl,q⟩|⟨k,rfl,q⟩
 .obtain⟨u,rfl,t,rfl⟩:=jc r;exact call_int_int ⟨.int i,H,I,⟨_,rfl⟩,q⟩
 .obtain⟨u,rfl,r1⟩:=jc r;cases r1;exact call_int_bool ⟨.int (if k then 1 else 0),H,I.tok _,⟨_,rfl⟩,q⟩
theorem q8:iI X (.type "str") (λxs H Q=>∃i,xs=[.int i]/\i.natAbs.log2<1920/\Q (.str (toString i)) H):=by
 intro pins s σ H xs us Q I r h;obtain⟨i,rfl,hz,q⟩:=h;obtain⟨u,rfl,t,rfl⟩:=jc r;exact PySem.P.str_of_int hz ⟨.str _,H,I.tok _,⟨_,rfl⟩,q⟩
def Gq(K:PySem.W.Frag)(x:V)(H:Hp)(n:Nat):Prop:=
 match x with
 |.str y=>y.length<=Hs/\n=y.length
 |.byt y=>y.size<=Hs/\n=y.size
 |.ref p=>(∃xs,SqL K H p xs/\n=xs.length)\/∃xs,SqT K H p xs/\n=xs.length
 |_=>False
theorem Ci:iI X (.builtin "len") (λxs H Q=>∃x n,xs=[x]/\Gq X.K x H n/\Q (.int n) H):=by
 intro pins s σ H xs us Q I r h;obtain⟨x,n,rfl,e,q⟩:=h;obtain⟨u,rfl,rx⟩:=jc r;have hl:=lR;have hs:Hs=16777216:=Lq;cases x with
 |str y =>
  obtain⟨t,rfl⟩:=rx;obtain⟨hy,e'⟩:y.length<=Hs/\n=y.length:=e;subst e';exact len_str (by omega) ⟨.int _,H,I.tok _,⟨_,rfl⟩,q⟩
 |byt y =>
  obtain⟨t,rfl⟩:=rx;obtain⟨hy,e'⟩:y.size<=Hs/\n=y.size:=e;subst e';exact PySem.W.len_bytes (by omega) ⟨.int _,H,I.tok _,⟨_,rfl⟩,q⟩
 |ref p =>
  cases rx;have e':(∃xs,SqL X.K H p xs/\n=xs.length)\/∃xs,SqT X.K H p xs/\n=xs.length:=e;rcases e' with⟨xs,hx,e'⟩|⟨xs,hx,e'⟩
  .subst e';obtain⟨its,r',pl,hz⟩:=I.list hx;have hlen:=r'.length;exact Calls.call_len_list pl.isList (by simp only[Hv];omega) ⟨.int xs.length,H,I.tok _,⟨_,by simp only[Hv];rw[hlen]⟩,q⟩
  .subst e';obtain⟨its,r',pl,hz⟩:=I.tuple hx;have hlen:=r'.length;exact len_tuple pl (by simp only[Hv];omega) ⟨.int xs.length,H,I.tok _,⟨_,by simp only[Hv];rw[hlen]⟩,q⟩
 |_=>exact(show False from e).elim
end

structure tU(h:Heap)(x dx C:Addr)(mA:Str->Option GV):Prop where
 obj:h.get? x=some (PySem.W.instObj C dx)
 ns:h.Ns1 dx mA
 ne:dx≠x

theorem AT{h:Heap}{dx:Addr}{mA:Str->Option GV}(n:h.Ns1 dx mA):∃od,h.get? dx=some od/\∀name,PySem.W.lookIn name od=some (mA name):=by
 obtain⟨o,es,ep,ho,hd,hk,_,hm⟩:=n;refine⟨o,ho,λname=>?_⟩;have e:=hm name;unfold nsFind findBy at e;rw[<-Array.find?_toList]at e;unfold PySem.W.lookIn;rw[hd];dsimp only
 split
 .rename_i y q
  rw[q]at e;exact congrArg some e
 .rename_i q
  rw[q]at e;have a:es.toList.any (·.refKey)=false:=by
   rw[Jp];intro y hy;obtain⟨z,t,hkey⟩:=hk y (Array.mem_toList_iff.mp hy);simp[DictEntry.refKey,hkey]
  have a':¬ es.toList.any (·.refKey)=true:=by rw[a];exact Hw
  rw[if_neg a'];exact congrArg some e

theorem tU.look{h:Heap}{x dx C:Addr}{mA:Str->Option GV}(I:tU h x dx C mA):∃od,PySem.W.InstAt h x (PySem.W.instObj C dx) C (some od)/\∀name,PySem.W.lookIn name od=some (mA name):=
 let⟨od,ho,hl⟩:=AT I.ns
 ⟨od,⟨I.obj,rfl,rfl,ho⟩,hl⟩

section
variable {prog:HB}{w:HF}{A:HY}{E:GV->GY->Prop}{s:GY}{K:PySem.W.Frag}{x dx C f:Addr}{mA:Str->Option GV}{name:Str}{v:GV}

theorem DG{expr:Bool}{Q:GV->GY->Prop}(X:K.In s.heap)(I:tU s.heap x dx C mA)(hg:PySem.W.plainGet K C name=true)(hh:PySem.W.hasDictIn K C=true)
  (ha:PySem.W.findIn K (.ref C) name=some none)(hv:mA name=some v)(hv':PySem.W.handedIn v=true)(h:Q v { s with toks:=s.toks+1 }) :
  HK (HG prog w) A (getAttr (.ref x) name expr) Q E s:=by
 obtain⟨od,J,hl⟩:=I.look;exact PySem.W.get_value X J (PySem.W.plainGet_of hg).1 (PySem.W.findObj_own hh ha rfl (by rw[hl,hv])) hv' h

theorem Cj{pl:Sem Bool}{Q:GV×List GV->GY->Prop}(X:K.In s.heap)(I:tU s.heap x dx C mA)(hg:PySem.W.plainGet K C name=true)
  (hf:PySem.W.findIn K (.ref C) name=some (some (.ref f)))(ht:PySem.W.isFn K (.ref f)=true)(hv:mA name=none)(h:Q (.ref f,[.ref x]) s) :
  HK (HG prog w) A (KD (.ref x) name pl) Q E s:=by
 obtain⟨od,J,hl⟩:=I.look;exact PySem.W.method_fn X J (PySem.W.plainGet_of hg).1 (PySem.W.plainGet_of hg).2 hf (beq_iff_eq.mp ht) (by show(PySem.W.lookIn name od).map (·.isSome)=some false;rw[hl,hv];rfl) h

theorem DI{ns:List Str}{Q:Unit->GY->Prop}(X:K.In s.heap)(I:tU s.heap x dx C mA)
  (hs:PySem.W.findIn K (.ref C) "__setattr__" = some (some (.builtin "object.__setattr__")))(hp:PySem.W.plainOver K C=true)(ht:PySem.W.takerIn K C name=some none)(hh:PySem.W.hasDictIn K C=true)
  (hw:PySem.Within mA ns)(hsz:ns.length<=Hs)
  (h:∀h',tU h' x dx C (λy=>if y=name then some v else mA y)->Ji dx s.heap h'->Q () { s with heap:=h',toks:=s.toks+2 }) :
  HK (HG prog w) A (setAttr (.ref x) name v) Q E s:=by
 obtain⟨od,J,hl⟩:=I.look;refine PySem.W.set_plain X J hs (PySem.W.osa_open (s:={ s with toks:=s.toks+1 }) (r:=none) X J hp ht λb=>?_);obtain⟨cd,hc,hd'⟩:=PySem.W.any_some hh;have hx:s.heap.get? x=some ⟨.ref C,some dx,.plain,#[]⟩:=I.obj;refine Hy (Ig (Hy (Hy (wpAny_loadPart hx (Hy (PySem.W.Looks.here (s:={ s with toks:=s.toks+1 }) (PySem.W.looks_clsIn X hc) ?_))))));rw[hd'];refine Ig (a:=some dx) (Hy (Ig (Hy ?_)));refine wpAny_nsSet1 (s:={ s with toks:=s.toks+1 }) I.ns λh' hn2 hs2=>?_;obtain⟨oD,esD,epD,hoD,hdD,hcD⟩:=hn2.count (PySem.Within.cons name v hw);refine Hy (wpAny_lookBehind hoD (by rw[hdD];exact pastItsLine_dict (Ho hcD (by rw[GU];omega))) ?_);exact Ig (h _ ⟨(hs2.2 _ (HW I.ne)).trans I.obj,hn2,I.ne⟩ hs2)

theorem Ck{R:J9->GY->Prop}{vs:List GV}{kw:List (Str×GV)}(X:K.In s.heap)(hm:PySem.W.makesIn K C=true)
  (hi:PySem.W.findIn K (.ref C) "__init__" = some (some (.ref f)))(hf:PySem.W.typeIn K (.ref f)=some (.type "function"))
  (h:JD (HG prog w) (A.under (.builtin "type.__call__" ⟨.ref C :: vs,kw⟩)) (.call (.ref f) ⟨.ref (s.heap.objs.size+1) :: vs,kw⟩) (PySem.W.InitBack (s.heap.objs.size+1) R)
   { s with heap:=(s.heap.push PySem.W.emptyDict).push (PySem.W.instObj C s.heap.objs.size) }) :
  JD (HG prog w) A (.call (.ref C) ⟨vs,kw⟩) R s:=by
 obtain⟨hh,g,d,t,os⟩:=s;exact PySem.W.make_core (PySem.W.makes_of X hm) (PySem.W.looks_findIn X hi) (λself=>PySem.W.bind_fn X self hf) (.inl rfl) h
end

def bR(f:Str)(v:V):List (Str×V)->List (Str×V)
 |[]=>[(f,v)]
 |(g,x)::r=>if g=f then(g,v)::r else(g,x)::bR f v r
theorem tI(f g:Str)(v:V):∀fs:List (Str×V),(bR f v fs).lookup g=if g=f then some v else fs.lookup g
 |[]=>by
  show HQ g [(f,v)]=_;by_cases h:g=f
  .have hb:(g==f)=true:=beq_iff_eq.mpr h;simp only[HQ,hb,if_pos h]
  .have hb:(g==f)=false:=beq_eq_false_iff_ne.mpr h;simp only[HQ,hb,if_neg h]
 |(k,x)::r=>by
  have ih:=tI f g v r;rw[show bR f v ((k,x)::r)=(if k=f then(k,v)::r else(k,x)::bR f v r)from rfl];by_cases hk:k=f
  .rw[if_pos hk];by_cases h:g=k
   .have hb:(g==k)=true:=beq_iff_eq.mpr h;simp only[HQ,hb,if_pos (h.trans hk)]
   .have hb:(g==k)=false:=beq_eq_false_iff_ne.mpr h;simp only[HQ,hb,if_neg (λe:g=f=>h (e.trans hk.symm))]
  .rw[if_neg hk];by_cases h:g=k
   .have hb:(g==k)=true:=beq_iff_eq.mpr h;simp only[HQ,hb,if_neg (λe:g=f=>hk (h.symm.trans e))]
   .have hb:(g==k)=false:=beq_eq_false_iff_ne.mpr h;simp only[HQ,hb];exact ih
theorem q_(f:Str)(v:V):∀fs:List (Str×V),f∈(bR f v fs).map (·.1)/\∀g,g∈fs.map (·.1)->g∈(bR f v fs).map (·.1)
 |[]=>⟨by simp[bR],λg h=>by simp at h⟩
 |(k,x)::r=>by
  obtain⟨i1,i2⟩:=q_ f v r;rw[show bR f v ((k,x)::r)=(if k=f then(k,v)::r else(k,x)::bR f v r)from rfl];by_cases hk:k=f
  .rw[if_pos hk];subst hk;exact⟨by simp,λg h=>by simpa using h⟩
  .rw[if_neg hk];refine⟨?_,λg h=>?_⟩
   .rw[Hj];exact Hb _ i1
   .rw[Hj]at h⊢;rcases List.mem_cons.mp h with e|e
    .exact List.mem_cons.mpr (.inl e)
    .exact Hb _ (i2 g e)
theorem tJ(f:Str)(v:V):∀fs:List (Str×V),(bR f v fs).length<=fs.length+1
 |[]=>by simp[bR]
 |(k,x)::r=>by
  have ih:=tJ f v r;rw[show bR f v ((k,x)::r)=(if k=f then(k,v)::r else(k,x)::bR f v r)from rfl];by_cases hk:k=f
  .rw[if_pos hk,GU,GU];omega
  .rw[if_neg hk,GU,GU];omega

theorem g9.some_of{v:V}{o:Option GV}(r:g9 (some v) o):∃u,o=some u/\bo v u:=by
 cases o with
 |none=>exact(show False from r).elim
 |some u=>exact⟨u,rfl,r⟩
theorem g9.none_of{o:Option GV}(r:g9 none o):o=none:=by
 cases o with
 |none=>rfl
 |some u=>exact(show False from r).elim
theorem AU{v:V}{u:GV}(r:bo v u):PySem.W.handedIn u=true:=by
 cases v with
 |non=>cases (show u=JS from r);rfl
 |bl b=>cases (show u=Lc b from r);rfl
 |int i=>obtain⟨t,e⟩:=(show ∃t,u=JR i t from r);cases e;rfl
 |str x=>obtain⟨t,e⟩:=(show ∃t,u=IW x t from r);cases e;rfl
 |byt b=>obtain⟨t,e⟩:=(show ∃t,u=Value.bytes b t from r);cases e;rfl
 |flt b=>obtain⟨t,e⟩:=(show ∃t,u=Value.float b t from r);cases e;rfl
 |ref a=>cases (show u=Ie a from r);rfl
 |ty n=>cases (show u=Js n from r);rfl

section
variable {P:HB}{w:HF}{H H':Hp}{h h':Heap}{a C dx:Addr}{fs fs':List (Str×V)}
theorem vk(hok:HOk P w H h)(e:H a=some (.ins C dx fs)):∃mA,tU h a dx C mA/\(∀f,g9 (fs.lookup f) (mA f))/\PySem.Within mA (fs.map (·.1))/\fs.length<=1000/\H dx=some (.own a):=by
 obtain⟨d,z,ne,ob,mA,n,r,q⟩:=(show cu P w H h a (.ins C dx fs)from hok a _ e);exact⟨mA,⟨ob,n,ne⟩,r,q,z,d⟩
end

structure Cls(K:PySem.W.Frag)(C:Addr):Prop where
 pg:PySem.W.plainGet K C Ir=true
 hd:PySem.W.hasDictIn K C=true
 po:PySem.W.plainOver K C=true
 sa:PySem.W.findIn K (.ref C) "__setattr__" = some (some (.builtin "object.__setattr__"))
theorem Cls.get{K:PySem.W.Frag}{C:Addr}(c:Cls K C)(f:Str):PySem.W.plainGet K C f=true:=c.pg
def dr(K:PySem.W.Frag)(C:Addr)(f:Str):Prop:=PySem.W.findIn K (.ref C) f=some none
theorem dr.taker{K:PySem.W.Frag}{C:Addr}{f:Str}(n:dr K C f):PySem.W.takerIn K C f=some none:=by
 unfold PySem.W.takerIn;rw[show PySem.W.findIn K (.ref C) f=some none from n];rfl
structure zM(K:PySem.W.Frag)(C:Addr)(m:Str)(f:Addr):Prop where
 at_:PySem.W.findIn K (.ref C) m=some (some (.ref f))
 fn:PySem.W.isFn K (.ref f)=true
 kp:PySem.W.keepIn K (.ref f)=true

section
variable {X:Cx}{pins:List (Addr×Obj)}{σ:St}{H:Hp}{s:GY}{a C dx:Addr}{fs:List (Str×V)}{f:Str}{v:V}{A:HY}{E:GV->GY->Prop}

theorem zN{b:Bool}{Q:GV->GY->Prop}(I:Inv X pins σ H s)(e:H a=some (.ins C dx fs))(c:Cls X.K C)(n:dr X.K C f)(l:fs.lookup f=some v)
  (h:∀u s',Inv X pins σ H s'->bo v u->Q u s'):HK (HG X.prog X.w) A (getAttr (.ref a) f b) Q E s:=by
 obtain⟨mA,O,r,_,_,_⟩:=vk I.hok e;obtain⟨u,hu,ru⟩:=g9.some_of (v:=v) (o:=mA f) (by rw[<-l];exact r f);exact DG I.kIn O (c.get f) c.hd n hu (AU ru) (h u _ (I.tok _) ru)

theorem uQ{m:Str}{g:Addr}{pl:Sem Bool}{Q:GV×List GV->GY->Prop}(I:Inv X pins σ H s)(e:H a=some (.ins C dx fs))(c:Cls X.K C)(k:zM X.K C m g)(l:fs.lookup m=none)
  (h:Q (.ref g,[.ref a]) s):HK (HG X.prog X.w) A (KD (.ref a) m pl) Q E s:=by
 obtain⟨mA,O,r,_,_,_⟩:=vk I.hok e;have hn:mA m=none:=g9.none_of (by rw[<-l];exact r m);exact Cj I.kIn O (c.get m) k.at_ k.fn hn h

theorem zO{y:V}{u:GV}{Q:Unit->GY->Prop}(I:Inv X pins σ H s)(e:H a=some (.ins C dx fs))(c:Cls X.K C)(n:dr X.K C f)(hl:fs.length<1000)(ry:bo y u)
  (h:∀s',Inv X pins σ (upd H a (.ins C dx (bR f y fs))) s'->Q () s'):HK (HG X.prog X.w) A (setAttr (.ref a) f u) Q E s:=by
 obtain⟨mA,O,r,wi,_,ho⟩:=vk I.hok e;have hz:(fs.map (·.1)).length<=Hs:=by rw[GT,Lq];omega
 refine DI I.kIn O c.sa c.po n.taker c.hd wi hz λh' O' sb=>h _ ?_;have hd:∃o,h'.get? dx=some o:=let⟨o,_,_,e',_⟩:=O'.ns;⟨o,e'⟩;refine I.write (x:=a) (e:=dx) (by rw[e];exact Km) (.inr ho) (λb q hb z=>(sb.2 b hb).trans z) hd ?_;refine⟨by rw[aj O.ne];exact ho,?_,O.ne,O'.obj,_,O'.ns,λg=>?_,λg hg=>?_⟩
 .have:=tJ f y fs;omega
 .show g9 ((bR f y fs).lookup g) (if g=f then some u else mA g);rw[tI];by_cases q:g=f
  .rw[if_pos q,if_pos q];exact ry
  .rw[if_neg q,if_neg q];exact r g
 .by_cases q:g=f
  .rw[q];exact(q_ f y fs).1
  .refine(q_ f y fs).2 g (wi g λz=>hg ?_);show(if g=f then some u else mA g)=none;rw[if_neg q];exact z

theorem Inv.made(I:Inv X pins σ H s):Inv X pins σ (upd (upd H s.heap.objs.size (.own (s.heap.objs.size+1))) (s.heap.objs.size+1) (.ins C s.heap.objs.size []))
  { s with heap:=(s.heap.push PySem.W.emptyDict).push (PySem.W.instObj C s.heap.objs.size) }:=by
 have e1:(s.heap.push PySem.W.emptyDict).get? s.heap.objs.size=some PySem.W.emptyDict:=HI s.heap rfl;have e2:((s.heap.push PySem.W.emptyDict).push (PySem.W.instObj C s.heap.objs.size)).get? (s.heap.objs.size+1)=some (PySem.W.instObj C s.heap.objs.size):=by
  have:=HI (s.heap.push PySem.W.emptyDict) (o:=PySem.W.instObj C s.heap.objs.size) rfl
  rwa[JN]at this
 have e3:(s.heap.push PySem.W.emptyDict).Ns s.heap.objs.size (λ_=>none):=⟨PySem.W.emptyDict,#[],_,e1,rfl,(λe he=>absurd he (by simp)),λ_=>rfl⟩;have I1:=I.laid (a:=s.heap.objs.size) (o:=.own (s.heap.objs.size+1)) (h':=s.heap.push PySem.W.emptyDict) (t':=s.toks) (λb u q=>Hg _ q) (G_ _) ⟨_,e1⟩;refine I1.laid (a:=s.heap.objs.size+1) (o:=.ins C s.heap.objs.size []) (t':=s.toks) (λb u q=>Hg _ q) (Li (JN _ _)) ?_;have ne:s.heap.objs.size≠s.heap.objs.size+1:=Hr (Jf _);refine⟨by rw[aj ne,ac],HZ _,ne,e2,λ_=>none,(Heap.Ns1.of_empty e3).at λo q=>Hg _ q,λ_=>Km,λy hy=>absurd rfl hy⟩

theorem DJ{prog:HB}{w:HF}{env:Env}{e:Expr}{f:Str}{pos:Pos}{s:GY}{Q:GV->GY->Prop}(hb:JA e f env (eval e env)=eval e env)
  (h:HK (HG prog w) A (eval e env) (λo s₁=>HK (HG prog w) A (getAttr o f true) Q E s₁) E s):HK (HG prog w) A (eval (.Attribute e f pos) env) Q E s:=
 Attribute_any_ h (by rw[arm_eval_Attribute,hb])
end

def Gr(K:PySem.W.Frag)(ta:TE)(f:Str):TE:=λσ H Q=>ta σ H λx H1=>∃a C dx fs v,x=.ref a/\H1 a=some (.ins C dx fs)/\Cls K C/\dr K C f/\fs.lookup f=some v/\Q v H1
def Gs(K:PySem.W.Frag)(ta tv:TE)(f:Str):TS:=λD σ H=>tv σ H λy H1=>ta σ H1 λx H2=>∃a C dx fs,x=.ref a/\H2 a=some (.ins C dx fs)/\Cls K C/\dr K C f/\fs.length<1000/\
 D.nx σ (upd H2 a (.ins C dx (bR f y fs)))
section
variable {X:Cx}{o e value:Expr}{f:Str}{pos pos' tpos:Pos}{ta tv:TE}
theorem bu(he:PE X e ta)(hb:JA e f X.env (eval e X.env)=eval e X.env):PE X (.Attribute e f pos) (Gr X.K ta f):=by
 intro pins s σ H Q I h;refine DJ hb (thn (he pins s σ H _ I h) λu s1 ⟨x,H1,I1,rx,a,C,dx,fs,v,ex,ea,c,n,l,q⟩=>?_);subst ex;obtain rfl:u=Ie a:=rx;exact zN I1 ea c n l λu' s2 I2 ru=>⟨v,H1,I2,ru,q⟩
theorem db(ha:PE X o ta)(hv:PE X value tv)(hs:JI value (some (.Attribute o f pos')) pos.line X.env=pure false):PS X (.Assign [.Attribute o f pos'] value pos) (Gs X.K ta tv f):=by
 intro pins s σ H D I h;refine plainObj_wpAny_Assign_Attribute (thn (hv pins s σ H _ I h) λu s1 ⟨y,H1,I1,ry,q⟩=>thn (ha pins s1 σ H1 _ I1 q) λov s2 ⟨x,H2,I2,rx,a,C,dx,fs,ex,ea,c,n,l,q2⟩=>?_) hs;subst ex;obtain rfl:ov=Ie a:=rx;exact zO I2 ea c n l ry λs3 I3=>⟨σ,_,I3,q2⟩
end

section
variable {X:Cx}{pins:List (Addr×Obj)}{σ:St}{H:Hp}{s:GY}{A:HY}{E:GV->GY->Prop}{Q:GV->GY->Prop}{c:GV}{b:Bool}
end

structure cF(k:Nat)(A:HY):Prop where
 hd:A.handled=none
 dp:A.depth+3*k+5<recursionLimit
 un:A.units+16*k+200<KG
theorem cF.mono{j k:Nat}{A:HY}(r:cF k A)(h:j<=k):cF j A:=⟨r.hd,by have:=r.dp;omega,by have:=r.un;omega⟩
theorem cF.deeper{k:Nat}{A:HY}(r:cF (k+1) A)(env:Env):cF k (A.deeper env):=
 ⟨r.hd,by have:=r.dp;show A.depth+1+3*k+5<_;omega,by have:=r.un;show A.units+3+16*k+200<_;omega⟩
theorem zP{A:HY}{C:Addr}{us:List GV}{kw:List (Str×GV)}:(A.under (.builtin "type.__call__" ⟨.ref C::us,kw⟩)).depth=A.depth+1:=by
 first|rfl|simp[Lj,Code.weight,Code.isCreation,Code.isGuard,Code.isCaller,Code.frames,Lk,guardIds]
theorem zQ{A:HY}{C:Addr}{us:List GV}{kw:List (Str×GV)}:(A.under (.builtin "type.__call__" ⟨.ref C::us,kw⟩)).units=A.units+1:=by
 first|rfl|simp[Lj,Code.cUnits,Code.frames,Lk]
theorem cF.make{k:Nat}{A:HY}(r:cF (k+1) A)(C:Addr)(us:List GV)(kw:List (Str×GV)):cF k (A.under (.builtin "type.__call__" ⟨.ref C::us,kw⟩)):=
 ⟨r.hd,by have:=r.dp;rw[zP];omega,by have:=r.un;rw[zQ];omega⟩
theorem cF.depth{k:Nat}{A:HY}(r:cF k A):A.depth<recursionLimit:=by have:=r.dp;omega
theorem cF.units{k:Nat}{A:HY}(r:cF k A):A.units+64<KG:=by have:=r.un;omega
def vm:TA:=λ_ H Q=>Q [] H
def Dk(ta:TE)(tr:TA):TA:=λσ H Q=>ta σ H λx H1=>tr σ H1 λxs H2=>Q (x::xs) H2
section
variable {X:Cx}{e:Expr}{es:List Expr}{te:TE}{t:TA}{pos:Pos}
theorem ae:PA X [] vm:=λ_ _ _ _ H Q I h=>Calls.spliced_nil ⟨[],H,I,.nil,h⟩
theorem aa(ha:PE X e te)(hr:PA X es t)(hs:HJ (e::es) X.env=(false,eval e X.env)::HJ es X.env:=by rfl):PA X (e::es) (Dk te t):=by
 intro pos pins s σ H Q I h;rw[hs];show HK _ _ (spliced ((false,eval e X.env)::IT pos (HJ es X.env))) _ _ s;refine Kn (thn (ha pins s σ H _ I h) λu s1 ⟨x,H1,I1,r1,q1⟩=>?_);exact thn (hr pos pins s1 σ H1 _ I1 q1) λus s2 ⟨xs,H2,I2,r2,q2⟩=>⟨x::xs,H2,I2,.cons r1 r2,q2⟩

def Gu(t:TA):TE:=λσ H Q=>t σ H λxs H1=>xs.length<=Hs/\∀p,H1 p=none->Q (.ref p) (upd H1 p (.tup xs))
def EM(t:TA):TE:=λσ H Q=>t σ H λxs H1=>xs.length<=Hs/\∀p,H1 p=none->Q (.ref p) (upd H1 p (.lst xs))
theorem aY{x1}(h:PA X es t):PE X (.Tuple es x1 pos) (Gu t):=by
 intro pins s σ H Q I hq;refine wpAny_Tuple_spliced (thn (h pos pins s σ H _ I hq) λus s1 ⟨xs,H1,I1,r,z,q⟩=>⟨by rw[<-r.length];exact z,?_⟩);have hf:H1 s1.heap.objs.size=none:=I1.hok.fresh (G_ _);refine⟨.ref s1.heap.objs.size,upd H1 s1.heap.objs.size (.tup xs),I1.laid (t':=s1.toks) (λb u e=>Hg _ e) (G_ _) ?_,rfl,q _ hf⟩;exact⟨z,us,r,⟨_,HI _ rfl,rfl,_,rfl⟩⟩
theorem aU(h:PA X es t):PE X (.List es pos) (EM t):=by
 intro pins s σ H Q I hq;refine wpAny_List_spliced (thn (h pos pins s σ H _ I hq) λus s1 ⟨xs,H1,I1,r,z,q⟩=>⟨by rw[<-r.length];exact z,?_⟩);have hf:H1 s1.heap.objs.size=none:=I1.hok.fresh (G_ _);refine⟨.ref s1.heap.objs.size,upd H1 s1.heap.objs.size (.lst xs),I1.laid (t':=s1.toks) (λb u e=>Hg _ e) (G_ _) ?_,rfl,q _ hf⟩;exact⟨z,us,0,r,HI _ rfl⟩
end

abbrev Sp:=List V->Hp->VK->XK->Prop
abbrev CXT:=List Env->Hp->GY->XK->GV->GY->Prop

structure tV(P:HB)(w:HF)(K:PySem.W.Frag)(mg:Str->Option GV)(base:Heap)(A:HY)(outer:List Env)(s:GY)(H:Hp):Prop where
 frames:A.frames=some outer
 mod:Mod K mg base
 bs:∀b o,base.get? b=some o->s.heap.get? b=some o/\H b=none
 bsz:base.objs.size<=s.heap.objs.size
 funs:s.heap.FunFrames base outer
 frf:∀b∈frs outer,H b=none
 hok:HOk P w H s.heap
 bare:JW s.gens
def CE(outer:List Env)(P:HB)(w:HF)(H:Hp)(s:GY)(Q:VK)(u:GV)(s':GY):Prop:=
 ∃v H',s'.os=s.os/\JW s'.gens/\Un (frs outer) [] H H' s.heap s'.heap/\HOk P w H' s'.heap/\bo v u/\Q v H'
def CR(CX:CXT)(outer:List Env)(P:HB)(w:HF)(H:Hp)(s:GY)(Q:VK)(E:XK)(r:J9)(s':GY):Prop:=
 match r with
 |.ok (.ret u)=>CE outer P w H s Q u s'
 |.ok _=>False
 |.error e=>CX outer H s E e s'
structure bi(P:HB)(w:HF)(K:PySem.W.Frag)(mg:Str->Option GV)(base:Heap)(CX:CXT)(k:Nat)(f:Addr)(fd:Hm)(ps:List Str)(sp:Sp):Prop where
 len:∀vs H Q E,sp vs H Q E->vs.length=ps.length
 run:∀(A:HY) (outer:List Env) (s:GY) (H:Hp) (args:Args) (us:List GV) (vs:List V) (Q:VK) (E:XK),cF k A->tV P w K mg base A outer s H->BindsTo s fd args (ps.zip us)->bg vs us->sp vs H Q E->
  JD (HG P w) A (.call (.ref f) args) (CR CX outer P w H s Q E) s
theorem tV.make{P:HB}{w:HF}{K:PySem.W.Frag}{mg:Str->Option GV}{base:Heap}{A:HY}{outer:List Env}{s:GY}{H:Hp}(e:tV P w K mg base A outer s H)(C:Addr)(us:List GV)(kw:List (Str×GV)) :
  tV P w K mg base (A.under (.builtin "type.__call__" ⟨.ref C::us,kw⟩)) outer s H:=⟨by first|exact e.frames|(simpa[Lj,Code.envs,Lk,pushEnvs]using e.frames),e.mod,e.bs,e.bsz,e.funs,e.frf,e.hok,e.bare⟩
section
variable {X:Cx}{pins:List (Addr×Obj)}{σ:St}{H:Hp}{s s':GY}
theorem Inv.env0(I:Inv X pins σ H s):tV X.prog X.w X.K X.mg X.base X.A X.stack s H:=
 ⟨I.ok.frames,I.ok.mod,I.bs,Ho I.ok.bsz I.sz,I.stack,I.stkFree,I.hok,I.bare⟩
theorem Inv.after{Q:VK}{u:GV}(I:Inv X pins σ H s)(h:CE X.stack X.prog X.w H s Q u s'):EP X pins σ Q u s':=by
 obtain⟨v,H',os,bare,un,hok,r,q⟩:=h;obtain⟨hh,g,d,t,os'⟩:=s';obtain rfl:os'=s.os:=os;exact⟨v,H',I.call (h':=hh) (g':=g) (d':=d) (t':=t) (ch:=[]) un hok bare (λb z=>absurd z (by simp)),r,q⟩
end

def zR(sp:Sp)(dvs:List V)(E:XK)(t:TA):TE:=λσ H Q=>t σ H λvs H1=>sp (vs++dvs) H1 Q E
def wX(C:Addr)(m:Str)(sp:Sp)(dvs:List V)(E:XK)(ta:TE)(t:TA):TE:=λσ H Q=>ta σ H λx H1=>∃a dx fs,x=.ref a/\H1 a=some (.ins C dx fs)/\fs.lookup m=none/\
 t σ H1 λvs H2=>sp (x::(vs++dvs)) H2 Q E
def wY(C:Addr)(sp:Sp)(dvs:List V)(E:XK)(t:TA):TE:=λσ H Q=>t σ H λvs H1=>∀x dx,H1 x=none->H1 dx=none->dx≠x->
 sp (.ref x::(vs++dvs)) (upd (upd H1 dx (.own x)) x (.ins C dx [])) (λv H2=>v=.non/\Q (.ref x) H2) E

def gU(K:PySem.W.Frag)(fd:Hm)(ps:List Str)(ds:List GV):Prop:=
 ∀(s:GY) (us:List GV),K.In s.heap->(us++ds).length=ps.length->BindsTo s fd ⟨us,[]⟩ (ps.zip (us++ds))
theorem gU.all{K:PySem.W.Frag}{fd:Hm}{ps:List Str}(h:∀us:List GV,us.length=ps.length->KH fd ⟨us,[]⟩=pure (ps.zip us)):gU K fd ps []:=λs us _ hl=>by
 rw[HU]at hl⊢;exact .of_eq (h us hl)

def fD(CX:CXT)(X:Cx)(E:XK):Prop:=∀(pins:List (Addr×Obj)) (σ:St) (H:Hp) (s:GY) (e:GV) (s':GY),Inv X pins σ H s->CX X.stack H s E e s'->X.xe e s'

section
variable {X:Cx}{CX:CXT}{k:Nat}{f C:Addr}{fd:Hm}{ps:List Str}{sp:Sp}{dvs:List V}{ds:List GV}{E:XK}{x m:Str}{p pos apos:Pos}{e o:Expr}{es:List Expr}{ta:TE}{t:TA}

theorem xE{pins:List (Addr×Obj)}{σ:St}{H:Hp}{s:GY}{Q:VK}{us:List GV}{vs:List V}(F:bi X.prog X.w X.K X.mg X.base CX k f fd ps sp)(hr:cF k X.A)(hb:gU X.K fd ps ds)(hd:bg dvs ds)(hx:fD CX X E)
  (I:Inv X pins σ H s)(r:bg vs us)(h:sp (vs++dvs) H Q E):HK (HG X.prog X.w) X.A (call (.ref f) us) (EP X pins σ Q) X.xe s:=by
 have r2:bg (vs++dvs) (us++ds):=r.append hd;have hl:(us++ds).length=ps.length:=by rw[<-r2.length];exact F.len _ _ _ _ h
 refine LA (Kf (F.run X.A X.stack s H ⟨us,[]⟩ (us++ds) (vs++dvs) Q E hr I.env0 (hb s us I.kIn hl) r2 h) λr s' hq=>?_);cases r with
 |error e=>exact hx pins σ H s e s' I hq
 |ok fl =>
  cases fl with
  |ret u=>exact I.after hq
  |next=>exact Iz hq
  |brk=>exact Iz hq
  |cont=>exact Iz hq

theorem zh(F:bi X.prog X.w X.K X.mg X.base CX k f fd ps sp)(hr:cF k X.A)(hg:Gl X x)(hm:X.mg x=some (.ref f))(hk:PySem.W.keepIn X.K (.ref f)=true)(hb:gU X.K fd ps ds)(hd:bg dvs ds)(hx:fD CX X E)
  (ha:PA X (e::es) t)(hdb:(x==("__debug__" : Str))=false:=by decide)(he:HJ (e::es) X.env=(false,eval e X.env)::HJ es X.env:=by rfl)(hpl:(IT pos (HJ es X.env)).any (·.1)=false:=by rfl) :
  PE X (.Call (.Name x p) (e::es) [] pos) (zR sp dvs E t):=by
 intro pins s σ H Q I h;refine IU (jT I hg hm ?_ hdb);refine PySem.W.callWith_K (h₀:=X.base) I.ok.mod.kin hk (thn (ha pos pins s σ H _ I h) λus s1 ⟨vs,H1,I1,r,q⟩=>⟨I1.kIn,?_⟩) he hpl;exact xE F hr hb hd hx I1 r q
theorem DK{pl:Sem Bool}(he:PE X o ta)(c:Cls X.K C)(hm:zM X.K C m f)(F:bi X.prog X.w X.K X.mg X.base CX k f fd ps sp)(hr:cF k X.A)(hb:gU X.K fd ps ds)(hd:bg dvs ds)(hx:fD CX X E)(ha:PA X (e::es) t)
  (hst:HJ (e::es) X.env=(false,eval e X.env)::HJ es X.env:=by rfl)(hpl:(IT pos (HJ es X.env)).any (·.1)=false:=by rfl)
  (ht:eval (.Call (.Attribute o m apos) (e :: es) [] pos) X.env=(do
   let ov<-eval o X.env
   Lh apos.atName
   let(f,first)<-Ke [ov] (KD ov m pl)
   LB pos f first (IT pos (HJ (e::es) X.env)) (KZ pos (J1 [] X.env))):=by rfl) :
  PE X (.Call (.Attribute o m apos) (e::es) [] pos) (wX C m sp dvs E ta t):=by
 intro pins s σ H Q I h;refine PySem.W.methodCall_KW (pl:=pl) (thn (he pins s σ H _ I h) λu s1 ⟨x,H1,I1,rx,a,dx,fs,ex,ea,l,q⟩=>?_) ht;subst ex;obtain rfl:u=Ie a:=rx;refine uQ I1 ea c hm l ?_;refine PySem.W.callWith_K (first:=[.ref a]) (h₀:=X.base) I.ok.mod.kin hm.kp (thn (ha pos pins s1 σ H1 _ I1 q) λus s2 ⟨vs,H2,I2,r,q2⟩=>⟨I2.kIn,?_⟩) hst hpl
 exact xE (us:=.ref a::us) (vs:=.ref a::vs) F hr hb hd hx I2 (.cons rfl r) q2
theorem Cl{pl:Sem Bool}(he:PE X o ta)(c:Cls X.K C)(hm:zM X.K C m f)(F:bi X.prog X.w X.K X.mg X.base CX k f fd ps sp)(hr:cF k X.A)(hb:gU X.K fd ps ds)(hd:bg dvs ds)(hx:fD CX X E)
  (ht:eval (.Call (.Attribute o m apos) [] [] pos) X.env=(do
   let ov<-eval o X.env
   Lh apos.atName
   let(f,first)<-Ke [ov] (KD ov m pl)
   LB pos f first (IT pos (HJ [] X.env)) (KZ pos (J1 [] X.env))):=by rfl) :
  PE X (.Call (.Attribute o m apos) [] [] pos) (wX C m sp dvs E ta vm):=by
 intro pins s σ H Q I h;refine PySem.W.methodCall_KW (pl:=pl) (thn (he pins s σ H _ I h) λu s1 ⟨x,H1,I1,rx,a,dx,fs,ex,ea,l,q⟩=>?_) ht;subst ex;obtain rfl:u=Ie a:=rx;refine uQ I1 ea c hm l ?_;exact PySem.W.callWith_K0 (first:=[.ref a]) I1.kIn hm.kp (xE (us:=[.ref a]) (vs:=[.ref a]) F hr hb hd hx I1 (.cons rfl .nil) q)

structure Mk(K:PySem.W.Frag)(C f:Addr):Prop where
 makes:PySem.W.makesIn K C=true
 init:PySem.W.findIn K (.ref C) "__init__" = some (some (.ref f))
 fn:PySem.W.isFn K (.ref f)=true
 kp:PySem.W.keepIn K (.ref C)=true

theorem xF{pins:List (Addr×Obj)}{σ:St}{H:Hp}{s:GY}{Q:VK}{us:List GV}{vs:List V}(M:Mk X.K C f)(F:bi X.prog X.w X.K X.mg X.base CX k f fd ps sp)(hr:cF (k+1) X.A)(hb:gU X.K fd ps ds)(hd:bg dvs ds)
  (hx:fD CX X E)(I:Inv X pins σ H s)(r:bg vs us)
  (h:∀x dx,H x=none->H dx=none->dx≠x->sp (.ref x::(vs++dvs)) (upd (upd H dx (.own x)) x (.ins C dx [])) (λv H2=>v=.non/\Q (.ref x) H2) E) :
  HK (HG X.prog X.w) X.A (call (.ref C) us) (EP X pins σ Q) X.xe s:=by
 have hq:=h (s.heap.objs.size+1) s.heap.objs.size (I.hok.fresh (IR _)) (I.hok.fresh (G_ _)) (Hr (Jf _));have I2:=Inv.made (C:=C) I;have r2:bg (V.ref (s.heap.objs.size+1)::(vs++dvs)) (Ie (s.heap.objs.size+1)::(us++ds)):=.cons rfl (r.append hd);have hl:(Ie (s.heap.objs.size+1)::us++ds).length=ps.length:=by
  have e:=r2.length;rw[F.len _ _ _ _ hq]at e;exact e.symm
 refine LA (Ck (f:=f) I.kIn M.makes M.init (beq_iff_eq.mp M.fn) (Kf (F.run _ X.stack _ _ ⟨Ie (s.heap.objs.size+1)::us,[]⟩ (Ie (s.heap.objs.size+1)::(us++ds)) _ _ E (hr.make C us [])
  (I2.env0.make C us []) (hb _ (Ie (s.heap.objs.size+1)::us) I2.kIn hl) r2 hq) λr s' hq'=>?_))
 cases r with
 |error e=>exact hx pins σ _ _ e s' I2 hq'
 |ok fl =>
  cases fl with
  |ret u =>
   obtain⟨v,H',I3,rv,ev,q3⟩:=I2.after hq';subst ev;exact⟨rv,⟨V.ref (s.heap.objs.size+1),H',I3,rfl,q3⟩⟩
  |next=>exact Iz hq'
  |brk=>exact Iz hq'
  |cont=>exact Iz hq'
theorem DL(M:Mk X.K C f)(F:bi X.prog X.w X.K X.mg X.base CX k f fd ps sp)(hr:cF (k+1) X.A)(hg:Gl X x)(hm:X.mg x=some (.ref C))(hb:gU X.K fd ps ds)(hd:bg dvs ds)(hx:fD CX X E)
  (ha:PA X (e::es) t)(hdb:(x==("__debug__" : Str))=false:=by decide)(he:HJ (e::es) X.env=(false,eval e X.env)::HJ es X.env:=by rfl)(hpl:(IT pos (HJ es X.env)).any (·.1)=false:=by rfl) :
  PE X (.Call (.Name x p) (e::es) [] pos) (wY C sp dvs E t):=by
 intro pins s σ H Q I h;refine IU (jT I hg hm ?_ hdb);refine PySem.W.callWith_K (h₀:=X.base) I.ok.mod.kin M.kp (thn (ha pos pins s σ H _ I h) λus s1 ⟨vs,H1,I1,r,q⟩=>⟨I1.kIn,?_⟩) he hpl;exact xF M F hr hb hd hx I1 r q
theorem Cm(M:Mk X.K C f)(F:bi X.prog X.w X.K X.mg X.base CX k f fd ps sp)(hr:cF (k+1) X.A)(hg:Gl X x)(hm:X.mg x=some (.ref C))(hb:gU X.K fd ps ds)(hd:bg dvs ds)(hx:fD CX X E)
  (hdb:(x==("__debug__" : Str))=false:=by decide):PE X (.Call (.Name x p) [] [] pos) (wY C sp dvs E vm):=by
 intro pins s σ H Q I h;refine IU (jT I hg hm ?_ hdb);exact PySem.W.callWith_K0 I.kIn M.kp (xF (us:=[]) M F hr hb hd hx I .nil h)
end

section
variable {X:Cx}{CX:CXT}{k:Nat}{f C:Addr}{fd:Hm}{ps ks:List Str}{sp:Sp}{E:XK}{x m:Str}{p pos apos kpos:Pos}{e o:Expr}{es:List Expr}{kws:List Lu}{te ta:TE}{t tk:TA}{nm:Option Str}
variable {g:List GV->List GV->List GV}{gV:List V->List V->List V}
end

structure aN(N P:List Str)(sc:Scope):Prop where
 kind:sc.kind=.function
 co:sc.isCoroutine=false
 gen:sc.isGenerator=false
 nd:N.Nodup
 pre:N.take P.length=P
 par:∀x∈P,sc.names.lookup x=some .local\/sc.names.lookup x=some .cell
 nofree:∀y∈sc.names,y.2≠.free

theorem vR{JU:Str->Option K0}{x:Str}:∀{binds:List (Str×GV)} {m:Str->Option GV},(∀v,(x,v)∉binds)->LC JU binds m x=m x
 |[],_,_=>rfl
 |(n,v)::r,m,h=>by
  unfold LC;rw[vR λw hw=>h w (Hb _ hw)]
  split
  .have:x≠n:=by rintro rfl;exact h v He
   simp[this]
  .rfl
theorem vS{JU:Str->Option K0}{x:Str}:∀{binds:List (Str×GV)} {m:Str->Option GV},(∀v,(x,v)∉binds)->LD JU binds m x=m x
 |[],_,_=>rfl
 |(n,v)::r,m,h=>by
  unfold LD;rw[vS λw hw=>h w (Hb _ hw)]
  split
  .rfl
  .have:x≠n:=by rintro rfl;exact h v He
   simp[this]
theorem vT{JU:Str->Option K0}{x:Str}{v:GV}:∀{P:List Str} {vs:List GV} {i:Nat} {m:Str->Option GV},P.Nodup->P[i]?=some x->vs[i]?=some v->JU x=some .local->
  LC JU (P.zip vs) m x=some v
 |[],_,_,_,_,h,_,_=>by simp at h
 |_::_,[],_,_,_,_,h,_=>by simp at h
 |p::P,w::vs,0,m,nd,h1,h2,hk=>by
  simp at h1 h2;subst h1;subst h2;show LC JU ((p,w)::P.zip vs) m p=_;unfold LC;rw[vR λv hv=>(List.nodup_cons.mp nd).1 (KQ hv).1,if_pos hk];simp
 |p::P,w::vs,i+1,m,nd,h1,h2,hk=>by
  show LC JU ((p,w)::P.zip vs) m x=_;unfold LC;exact vT (i:=i) (List.nodup_cons.mp nd).2 (by simpa using h1) (by simpa using h2) hk
theorem vU{JU:Str->Option K0}{x:Str}{v:GV}:∀{P:List Str} {vs:List GV} {i:Nat} {m:Str->Option GV},P.Nodup->P[i]?=some x->vs[i]?=some v->JU x≠some .local->
  LD JU (P.zip vs) m x=some v
 |[],_,_,_,_,h,_,_=>by simp at h
 |_::_,[],_,_,_,_,h,_=>by simp at h
 |p::P,w::vs,0,m,nd,h1,h2,hk=>by
  simp at h1 h2;subst h1;subst h2;show LD JU ((p,w)::P.zip vs) m p=_;unfold LD;rw[vS λv hv=>(List.nodup_cons.mp nd).1 (KQ hv).1,if_neg hk];simp
 |p::P,w::vs,i+1,m,nd,h1,h2,hk=>by
  show LD JU ((p,w)::P.zip vs) m x=_;unfold LD;exact vU (i:=i) (List.nodup_cons.mp nd).2 (by simpa using h1) (by simpa using h2) hk

def jd(N:List Str)(vs:List V):St:=vs.map some++Hd (N.length-vs.length) none

def nP(CX:CXT)(P:HB)(w:HF)(K:PySem.W.Frag)(mg:Str->Option GV)(base:Heap)(N:List Str)(qual:Str)(scope:Scope)(f:Addr)(cd:GV)(A:HY)(outer:List Env)(s:GY)(H:Hp)(E:XK):Cx where
 prog:=P
 w:=w
 K:=K
 mg:=mg
 base:=base
 A:=A.deeper (IF qual scope s.heap.objs.size f cd)
 N:=N
 s₀:=s
 H₀:=H
 env:=IF qual scope s.heap.objs.size f cd
 outer:=outer
 stack:=IF qual scope s.heap.objs.size f cd::outer
 ex:=[]
 calm:=true
 fn:=λ_=>true
 pn:=[]
 xe:=λe s'=>HK (HG P w) (A.deeper (IF qual scope s.heap.objs.size f cd)) (leaving (IF qual scope s.heap.objs.size f cd) e) (λ_ s''=>CX outer H s E e s'') (λe' s''=>CX outer H s E e' s'') s'

theorem xG{sc:Scope}{n:Nat}{x:Str}(h:sc.names.lookup x=some .cell):∃c,(cellsFrom n sc.names []).lookup x=some c:=by
 have q:=PySem.W.cellsFrom_some sc.names n [] (.inl h);exact Option.isSome_iff_exists.mp q

theorem AV{CX:CXT}{P:HB}{w:HF}{K:PySem.W.Frag}{mg:Str->Option GV}{base:Heap}{N ps:List Str}{qual:Str}{scope:Scope}{f:Addr}{cd:GV}{A:HY}{outer:List Env}{s s1:GY}{H:Hp}{E:XK}{us:List GV}{vs:List V}
  (S:aN N ps scope)(hd:A.handled=none)(e0:tV P w K mg base A outer s H)(hl:vs.length=ps.length)(r:bg vs us)
  (x:InCallC s s.heap.objs.size (LC (IF qual scope s.heap.objs.size f cd).kindOf (ps.zip us) λ_=>none) (cellsFrom (s.heap.objs.size+1) scope.names []) (LD (IF qual scope s.heap.objs.size f cd).kindOf (ps.zip us) λ_=>none) s1) :
  Inv (nP CX P w K mg base N qual scope f cd A outer s H E) [] (jd N vs) H s1:=by
 have hpl:ps.length<=N.length:=by have:=congrArg K1 S.pre;rw[HD]at this;omega
 obtain⟨h1,tk,rfl,hk⟩:=x.done;have noA:∀b:Addr,b∉(nP CX P w K mg base N qual scope f cd A outer s H E).ex:=λb z=>absurd (show b∈([]:List Addr)from z) (by simp);refine⟨⟨e0.mod,S.kind,rfl,rfl,G_ _,λy z c h1 h2=>?_,λy hy=>?_,λy c _ h=>?_,λ_=>hd,Around.frames_deeper e0.frames,.inr ⟨rfl,rfl⟩,λb z=>absurd z (noA b),e0.bs,e0.bsz,λb _ _=>noA b,λb z=>absurd z (noA b),e0.funs,e0.frf⟩,
  rfl,e0.bare,Un.kept hk,⟨_,x.toInCall.ns,λi y v h1 h2 h3=>?_⟩,λy c h=>⟨_,x.cell y c h⟩,e0.hok.fresh (G_ _),λy c h=>?_,λp hp=>absurd (show p∈([]:List (Addr×Obj))from hp) (by simp),e0.hok.kept hk,?_⟩
 .exact name_of_addr x.apart (PySem.mem_of_lookup h1) (PySem.mem_of_lookup h2)
 .have hy:scope.names.lookup y=some .cell\/scope.names.lookup y=some .free:=hy;rcases hy with hy|hy
  .exact xG hy
  .exact absurd rfl (S.nofree _ (PySem.mem_of_lookup hy))
 .exact HM (x.above y c (PySem.mem_of_lookup h))
 .have hi:i<vs.length:=by
   unfold jd at h2;by_cases hi:i<vs.length
   .exact hi
   .rw[IV (by simpa using hi)]at h2;rw[List.getElem?_replicate]at h2
    split at h2<;>cases h2
  have ha:vs[i]?=some v:=by
   unfold jd at h2;rw[Jw (by simpa using hi),HA]at h2;cases e:vs[i]? with
   |none=>rw[e]at h2;cases h2
   |some a=>rw[e]at h2;cases h2;rfl
  obtain⟨u,hu,rv⟩:=r.get ha;have hp:ps[i]?=some y:=by
   rw[<-S.pre,List.getElem?_take_of_lt (by omega)];exact h1
  have ndP:ps.Nodup:=by rw[<-S.pre];exact S.nd.sublist (List.take_sublist _ _)
  refine⟨u,rv,?_⟩;rcases S.par y (Ha hp)with k|k
  .exact .inl ⟨k,vT ndP hp hu k⟩
  .obtain⟨c,e⟩:=xG (n:=s.heap.objs.size+1) k;refine .inr ⟨.inl k,c,e,?_⟩;have q:=x.cell y c e;rw[vU ndP hp hu (by show scope.names.lookup y≠_;rw[k];decide)]at q;exact q
 .exact e0.hok.fresh (HM (x.above y c (PySem.mem_of_lookup h)))
 .unfold jd;show _=N.length;rw[GX,GT,Ib];omega

theorem zS{CX:CXT}{P:HB}{w:HF}{K:PySem.W.Frag}{mg:Str->Option GV}{base:Heap}{k:Nat}{f:Addr}{name qual:Str}{params:Arguments}{body:List Stmt}{scope:Scope}{dV kV doc pm cdv ct oc:GV}{an od:Option Addr}
  {osl:Array (Option GV)}{N ps:List Str}{sp:Sp}(lk:K.lookup f=some ⟨oc,od,.func (PySem.W.fnOf name qual params body scope dV kV doc pm an cdv ct),osl⟩)(hcd:PySem.W.codeIn K cdv qual=true)(S:aN N ps scope)
  (len:∀vs H Q E,sp vs H Q E->vs.length=ps.length)
  (hbody:∀ (A:HY) (outer:List Env) (s:GY) (H:Hp) (vs:List V) (Q:VK) (E:XK),cF k (A.deeper (IF qual scope s.heap.objs.size f cdv))→sp vs H Q E →
   ∃t,PSs (nP CX P w K mg base N qual scope f cdv A outer s H E) body t/\t { nx:=λ_ H'=>Q .non H',rt:=Q } (jd N vs) H) :
  bi P w K mg base CX (k+1) f (PySem.W.fnOf name qual params body scope dV kV doc pm an cdv ct) ps sp:=by
 refine⟨len,λA outer s H args us vs Q E hr e0 hb r hsp=>?_⟩;have hl:=len _ _ _ _ hsp;have KX:K.In s.heap:=e0.mod.kin.keeps λb o e=>(e0.bs b o e).1;have lim:s.heap.NoLimit:=e0.mod.nolimit.keeps λb o e=>(e0.bs b o e).1;have hkind:∀y∈ps.zip us,scope.names.lookup y.1=some .local\/(scope.names.lookup y.1=some .cell/\((cellsFrom (s.heap.objs.size+1) scope.names []).lookup y.1).isSome=true):=λ⟨n,v⟩ hy=>by
  rcases S.par n (KQ hy).1 with q|q
  .exact .inl q
  .exact .inr ⟨q,PySem.W.cellsFrom_some _ _ _ (.inl q)⟩
 refine codeAny_call_function hr.depth (KX _ _ lk) rfl S.co S.gen rfl (PySem.W.codeRec_of KX hcd) (hb _ _ _ _ ?_);refine wpAny_newFunctionEnv_cells S.kind hkind λenv he s1 x=>?_;subst he;refine⟨lim.keeps x.toInCall.keep,codeAny_func ?_⟩;obtain⟨t,ht,hq⟩:=hbody A outer s H vs Q E (hr.deeper _) hsp;have I:Inv (nP CX P w K mg base N qual scope f cdv A outer s H E) [] (jd N vs) H s1:=AV S hr.hd e0 hl r x;refine Ii (ht [] s1 (jd N vs) H _ I hq) (λfl s' hs=>?_) λe s' hs=>hs;have fin:∀{σ':St} {H':Hp} {v:V} {u:GV},Inv (nP CX P w K mg base N qual scope f cdv A outer s H E) [] σ' H' s'->bo v u->Q v H'->CE outer P w H s Q u s':=
  λ{σ' H' v u} J rv q=>⟨v,H',J.os,J.bare,J.base,J.hok,rv,q⟩
 cases fl with
 |ret u =>
  obtain⟨v,σ',H',J,rv,q⟩:=hs;exact fin J rv q
 |next =>
  obtain⟨σ',H',J,q⟩:=hs;exact fin (v:=V.non) (u:=JS) J rfl q
 |brk =>
  obtain⟨_,_,_,q⟩:=hs;exact Iz q
 |cont =>
  obtain⟨_,_,_,q⟩:=hs;exact Iz q
section
variable {X:Cx}{x:Str}{p pos:Pos}{e:Expr}{es:List Expr}{t:TA}{id T:String}{r:List V->Hp->VK->Prop}

def tCB(r:List V->Hp->VK->Prop)(t:TA):TE:=λσ H Q=>t σ H λvs H1=>r vs H1 Q
theorem aV(hc:iI X (.builtin id) r)(hg:Gl X x)(hm:X.mg x=none)(hv:Jh x=some (.builtin id))(ha:PA X (e::es) t)(hn:x≠"__name__":=by decide)(hdb:(x==("__debug__" : Str))=false:=by decide)
  (he:HJ (e::es) X.env=(false,eval e X.env)::HJ es X.env:=by rfl)(hpl:(IT pos (HJ es X.env)).any (·.1)=false:=by rfl):PE X (.Call (.Name x p) (e::es) [] pos) (tCB r t):=by
 intro pins s σ H Q I h;refine IU (oQ I hg hm hv ?_ hn hdb);exact PyProof.Rows.callWith_builtin1 (thn (ha pos pins s σ H _ I h) λus s1 ⟨vs,H1,I1,r1,q1⟩=>hc pins s1 σ H1 vs us Q I1 r1 q1) he hpl
theorem ni(hc:iI X (.type T) r)(hg:Gl X x)(hm:X.mg x=none)(hv:Jh x=some (.type T))(ha:PA X (e::es) t)(hn:x≠"__name__":=by decide)(hdb:(x==("__debug__" : Str))=false:=by decide)
  (he:HJ (e::es) X.env=(false,eval e X.env)::HJ es X.env:=by rfl)(hpl:(IT pos (HJ es X.env)).any (·.1)=false:=by rfl):PE X (.Call (.Name x p) (e::es) [] pos) (tCB r t):=by
 intro pins s σ H Q I h;refine IU (oQ I hg hm hv ?_ hn hdb);exact IP (thn (ha pos pins s σ H _ I h) λus s1 ⟨vs,H1,I1,r1,q1⟩=>hc pins s1 σ H1 vs us Q I1 r1 q1) he hpl
end
end L2

namespace HT
open PySem PyProof.Rows

section
open PySem.SeqAt
open PySem.AutoSeq1 (wpAny_loadPart')
open PySem.MeetsSeq PySem.MeetsSeq2 PySem.MeetsSeq3

end

section
variable {prog:HB}{w:HF}{A:HY}{E:GV->GY->Prop}{s:GY}

def sIx(n d:Nat):Option Int->Nat
 |none=>d
 |some v=>if v<0 then(v+(n:Int)).toNat else min v.toNat n
theorem sIx_none(n d:Nat):sIx n d none=d:=rfl
theorem sIx_nat(n d k:Nat):sIx n d (some (k:Int))=min k n:=by
 show(if(k:Int)<0 then((k:Int)+(n:Int)).toNat else min (k:Int).toNat n)=min k n;rw[if_neg (by omega),Jq]
theorem sIx_le(n d:Nat)(hd:d<=n)(o:Option Int):sIx n d o<=n:=by
 cases o with
 |none=>exact hd
 |some v =>
  show(if v<0 then(v+(n:Int)).toNat else min v.toNat n)<=n;by_cases hv:v<0
  .rw[if_pos hv];omega
  .rw[if_neg hv];exact Nat.min_le_right _ _
end
end HT

namespace L2
open PySem PySem.Spec PyProof.Rows

abbrev TO:=St->Hp->(Option Int->Hp->Prop)->Prop
def PO(X:Cx)(e:Option Expr)(t:TO):Prop:=
 ∀(pins:List (Addr×Obj)) (s:GY) (σ:St) (H:Hp) (Q:Option Int->Hp->Prop),Inv X pins σ H s->t σ H Q->
  HK (HG X.prog X.w) X.A (evalPart e X.env) (λu s'=>∃o H',Inv X pins σ H' s'/\IsPart u o/\Q o H') X.xe s
def DM:TO:=λ_ H Q=>Q none H
def FO(t:TE):TO:=λσ H Q=>t σ H λx H1=>∃i,x=.int i/\Q (some i) H1

section
variable {X:Cx}{e:Expr}{te:TE}{lo hi:Option Expr}{tl th:TO}{pos p2:Pos}

theorem eS:PO X none DM:=by
 intro pins s σ H Q I h;rw[evalPart_none];exact Ig ⟨none,H,I,.none,h⟩
theorem dX(h:PE X e te):PO X (some e) (FO te):=by
 intro pins s σ H Q I hw;rw[evalPart_some];refine thn (h pins s σ H _ I hw) λu s1 ⟨x,H1,I1,r1,q1⟩=>?_;obtain⟨i,rfl,q⟩:=q1;obtain⟨t,rfl⟩:=r1;exact⟨some i,H1,I1,.int i t,q⟩

def SlR(X:Cx)(r:V->Option Int->Option Int->Hp->VK->Prop):Prop:=
 ∀(pins:List (Addr×Obj)) (s:GY) (σ:St) (H:Hp) (x:V) (v vl vu:GV) (lo hi:Option Int) (sl:Addr) (Q:VK),Inv X pins σ H s->bo x v->s.heap.IsSliceOf sl vl vu .none->IsPart vl lo->IsPart vu hi->r x lo hi H Q->
  ∃T id,Le (.type T) "__getitem__" = pure (some (.builtin id))/\s.TypeIs v T/\HK (HG X.prog X.w) X.A (Ll v (.ref sl)) (EP X pins σ Q) X.xe s
def tSl(r:V->Option Int->Option Int->Hp->VK->Prop)(te:TE)(tl th:TO):TE:=λσ H Q=>te σ H λx H1=>tl σ H1 λl H2=>th σ H2 λu H3=>r x l u H3 Q
theorem dF{r:V->Option Int->Option Int->Hp->VK->Prop}(hr:SlR X r)(he:PE X e te)(hl:PO X lo tl)(hu:PO X hi th):PE X (.Subscript e (.Slice lo hi none p2) pos) (tSl r te tl th):=by
 intro pins s σ H Q I h;refine LF (thn (he pins s σ H _ I h) λv s1 ⟨x,H1,I1,r1,q1⟩=>?_);refine wpAny_Slice (thn (hl pins s1 σ H1 _ I1 q1) λvl s2 ⟨l,H2,I2,pl,q2⟩=>thn (hu pins s2 σ H2 _ I2 q2) λvu s3 ⟨u,H3,I3,pu,q3⟩=>?_);rw[evalPart_none];refine Ig ?_;have I4:Inv X pins σ H3 { s3 with heap:=s3.heap.push { cls:=.type "slice",data:=.fields #[vl,vu,.none] } }:=I3.kept (t':=s3.toks) λb ob q=>Hg _ q;obtain⟨T,id,hT,ht,hg⟩:=hr pins { s3 with heap:=s3.heap.push { cls:=.type "slice",data:=.fields #[vl,vu,.none] } } σ H3 x v vl vu l u s3.heap.objs.size Q I4 r1 (Heap.IsSliceOf.new ..) pl pu q3;show HK (HG X.prog X.w) X.A (K8 e (.Slice lo hi none p2) v (.ref s3.heap.objs.size)) (EP X pins σ Q) X.xe { s3 with heap:=s3.heap.push { cls:=.type "slice",data:=.fields #[vl,vu,.none] } };exact tail_any (ops:=[.ref s3.heap.objs.size,v]) ht hT hg (by with_unfolding_all rfl)

def hJ(xs:List V)(lo hi:Option Int):List V:=(xs.drop (HT.sIx xs.length 0 lo)).take (HT.sIx xs.length xs.length hi-HT.sIx xs.length 0 lo)
theorem yV(xs:List V)(lo hi:Option Int):(hJ xs lo hi).length<=xs.length:=by
 unfold hJ;rw[HD,Jt];omega
end

def ixN(n:Nat)(i:Int):Option Nat:=if 0<=i then(if i<n then some i.toNat else none)else if -(n:Int)<=i then some (i+n).toNat else none
def atI{α:Type}(xs:List α)(i:Int):Option α:=(ixN xs.length i).bind λj=>xs[j]?
theorem zi{n:Nat}{i:Int}{j:Nat}(h:ixN n i=some j):seqIndex? i n=some j/\j<n/\-(n:Int)<=i/\i<n:=by
 unfold ixN at h;by_cases h0:0<=i
 .rw[if_pos h0]at h;by_cases h1:i<n
  .rw[if_pos h1]at h;have e:i.toNat=j:=HV h;exact⟨by rw[Lr h0 h1,e],by omega,by omega,h1⟩
  .rw[if_neg h1]at h;cases h
 .rw[if_neg h0]at h;by_cases h1:-(n:Int)<=i
  .rw[if_pos h1]at h;have e:(i+n).toNat=j:=HV h;exact⟨by rw[Lm (by omega) h1,e],by omega,h1,by omega⟩
  .rw[if_neg h1]at h;cases h
theorem vn{α:Type}{xs:List α}{i:Int}{v:α}(h:atI xs i=some v):∃j,seqIndex? i xs.length=some j/\xs[j]?=some v/\j<xs.length/\-(xs.length:Int)<=i/\i<xs.length:=by
 unfold atI at h;cases e:ixN xs.length i with
 |none=>rw[e]at h;cases h
 |some j =>
  rw[e]at h;obtain⟨h1,h2,h3,h4⟩:=zi e;exact⟨j,h1,h,h2,h3,h4⟩
theorem dy{α:Type}{xs:List α}{j:Nat}{v:α}(h:xs[j]?=some v):atI xs (j:Int)=some v:=by
 have hj:j<xs.length:=(List.getElem?_eq_some_iff.mp h).1;have e:ixN xs.length (j:Int)=some j:=by
  unfold ixN;rw[if_pos (by omega),if_pos (by omega)];simp
 unfold atI;rw[e];exact h
def DN(b:Expr):Prop:=∀o i,K2 b false o i=operate [o,i] (Ll o i)
def IxR(X:Cx)(r:R2):Prop:=
 ∀(value slice:Expr) (pins:List (Addr×Obj)) (s:GY) (σ:St) (H:Hp) (x y:V) (v u:GV) (Q:VK),Inv X pins σ H s->bo x v->bo y u->r x y H Q->
  K2 slice false v u=operate [v,u] (Ll v u)->HK (HG X.prog X.w) X.A (K8 value slice v u) (EP X pins σ Q) X.xe s
def MtR(X:Cx)(id:String)(r:V->List V->Hp->VK->Prop):Prop:=
 ∀(pins:List (Addr×Obj)) (s:GY) (σ:St) (H:Hp) (x:V) (xs:List V) (v:GV) (us:List GV) (Q:VK),Inv X pins σ H s->bo x v->bg xs us->r x xs H Q->
  HK (HG X.prog X.w) X.A (call (.builtin id) (v::us)) (EP X pins σ Q) X.xe s
section
variable {X:Cx}{a b:Expr}{ta tb:TE}{pos:Pos}
theorem aS{r:R2}(hr:IxR X r)(ha:PE X a ta)(hb:PE X b tb)(hs:DN b):PE X (.Subscript a b pos) (tOp r ta tb):=by
 intro pins s σ H Q I h;exact LF (Cf ha hb I h λv u s2 x y H2 I2 rx ry q=>hr a b pins s2 σ H2 x y v u Q I2 rx ry q (hs _ _))

def EN(K:PySem.W.Frag):R2:=λx y H Q=>∃p xs i v,x=.ref p/\y=.int i/\SqL K H p xs/\atI xs i=some v/\Q v H
def nQ(K:PySem.W.Frag):R2:=λx y H Q=>∃p xs i v,x=.ref p/\y=.int i/\SqT K H p xs/\atI xs i=some v/\Q v H
def Gv:R2:=λx y H Q=>∃z i c,x=.str z/\y=.int i/\z.length<=Hs/\atI z.cps.toList i=some c/\Q (.str ⟨#[c]⟩) H
theorem bS:IxR X (EN X.K):=by
 intro value slice pins s σ H x y v u Q I rx ry h hs;obtain⟨p,xs,i,z,rfl,rfl,hq,he,q⟩:=h;cases rx;obtain⟨t,rfl⟩:=ry;obtain⟨its,r,pl,hz⟩:=I.list hq;obtain⟨j,h1,h2,h3,h4,h5⟩:=vn he;obtain⟨w,ew,rw'⟩:=r.get h2;have hl:=r.length;have hn:=lR;have fin:EP X pins σ Q w s:=⟨z,H,I,rw',q⟩;by_cases h0:0<=i
 .have hj:i.toNat=j:=by
   rw[Lr h0 h5]at h1;exact HV h1
  exact item_listR pl.isList h0 (by omega) (by rw[hj];simpa using ew) fin hs
 .have hj:(i+(its.toArray.size:Int)).toNat=j:=by
   rw[Lm (by omega) h4]at h1;rw[Hv,<-hl];exact HV h1
  exact subscriptTail_builtinR (x:=w) pl.isList.typeIs slot_list_getitem.lookup
   (wpAny_getItem_list_neg (Q:=λr s'=>r=w/\EP X pins σ Q r s') pl.isList (by omega) (by rw[Hv]<;>omega) (by omega) (by rw[hj];simpa using ew) ⟨rfl,fin⟩) hs
theorem bM:IxR X (nQ X.K):=by
 intro value slice pins s σ H x y v u Q I rx ry h hs;obtain⟨p,xs,i,z,rfl,rfl,hq,he,q⟩:=h;cases rx;obtain⟨t,rfl⟩:=ry;obtain⟨its,r,pl,hz⟩:=I.tuple hq;obtain⟨j,h1,h2,h3,h4,h5⟩:=vn he;obtain⟨w,ew,rw'⟩:=r.get h2;have hl:=r.length;have hn:=lR;have fin:EP X pins σ Q w s:=⟨z,H,I,rw',q⟩;exact subscriptTail_builtinR (x:=w) pl.typeIs slot_tuple_getitem.lookup
  (getItem_tuple (j:=j) (Q:=λr s'=>r=w/\EP X pins σ Q r s') pl (by omega) (by omega) (by rw[Hv,<-hl];exact h1) (by simpa using ew) ⟨rfl,fin⟩) hs
theorem eV:IxR X Gv:=by
 intro value slice pins s σ H x y v u Q I rx ry h hs;obtain⟨z,i,c,rfl,rfl,hz,he,q⟩:=h;obtain⟨t,rfl⟩:=rx;obtain⟨t',rfl⟩:=ry;obtain⟨j,h1,h2,h3,h4,h5⟩:=vn he;have hl:z.cps.toList.length=z.length:=by simp[Str.length]
 rw[hl]at h1 h4 h5;have hn:=lR;exact tail_any (Ko s z t) slot_str_getitem.lookup (getItem_str (c:=c) (by
  have e1:decide (i < -(2^63:Int))=false:=decide_eq_false (by omega);have e2:decide (i>=2^63)=false:=decide_eq_false (by omega);rw[e1,e2,Bool.or_false]) (by rw[h1];simpa using h2) ⟨.str ⟨#[c]⟩,H,I.tok _,⟨_,rfl⟩,q⟩) hs
theorem zT(its:List GV)(n j:Nat)(u:GV):KL (·.setIfInBounds j u) { cls:=.type "list",data:=.seq its.toArray n }={ cls:=.type "list",data:=.seq (its.set j u).toArray n }:=by
 simp[KL]
theorem Inv.lst{pins:List (Addr×Obj)}{σ:St}{H:Hp}{s:GY}{p:Addr}{xs:List V}(I:Inv X pins σ H s)(h:H p=some (.lst xs)) :
  ∃(its:List GV) (n:Nat),bg xs its/\s.heap.get? p=some { cls:=.type "list",data:=.seq its.toArray n }/\xs.length<=Hs:=by
 obtain⟨z,its,n,r,e⟩:=I.hok p _ h;exact⟨its,n,r,e,z⟩
theorem Inv.lstUpd{pins:List (Addr×Obj)}{σ:St}{H:Hp}{s:GY}{p:Addr}{xs ys:List V}{its its':List GV}{n n':Nat}{f:Obj->Obj}(I:Inv X pins σ H s)(h:H p=some (.lst xs))
  (ho:s.heap.get? p=some { cls:=.type "list",data:=.seq its.toArray n })(hf:f { cls:=.type "list",data:=.seq its.toArray n }={ cls:=.type "list",data:=.seq its'.toArray n' })(r:bg ys its')(hz:ys.length<=Hs)(t:Nat) :
  Inv X pins σ (upd H p (.lst ys)) { s with heap:=s.heap.update p f,toks:=t }:=by
 have e:(s.heap.update p f).get? p=some { cls:=.type "list",data:=.seq its'.toArray n' }:=by
  rw[Heap.get?_update_self f ho (by rw[hf]<;>rfl),hf]
 refine I.write (x:=p) (e:=p) (by rw[h];trivial) (.inl rfl) (λb u hb q=>(JO _ _ (HW hb)).trans q) ⟨_,e⟩ ?_;exact⟨hz,its',n',r,e⟩
def FP:V->V->V->Hp->(Hp->Prop)->Prop:=λo i v H Q=>∃p xs k j,o=.ref p/\i=.int k/\H p=some (.lst xs)/\ixN xs.length k=some j/\Q (upd H p (.lst (xs.set j v)))
theorem tW:EG X FP:=by
 intro pins s σ H o i v ov iv u Q I ro ri rv h;obtain⟨p,xs,k,j,rfl,rfl,hp,hj,q⟩:=h;cases ro;obtain⟨t,rfl⟩:=ri;obtain⟨its,n,r,ho,hz⟩:=I.lst hp;obtain⟨h1,h2,h3,h4⟩:=zi hj;have hl:=r.length;have hn:=lR;have I':Inv X pins σ (upd H p (.lst (xs.set j v))) { s with heap:=s.heap.update p (KL (·.setIfInBounds j u)) }:=
  I.lstUpd hp ho (zT its n j u) (r.set rv j) (by rw[List.length_set];exact hz) s.toks
 by_cases h0:0<=k
 .have hk:k.toNat=j:=by
   rw[Lr h0 h4]at h1;exact HV h1
  exact PySem.W.ki_setAt ho h0 (by omega) (by rw[Hv,<-hl];exact h4) (by rw[hk];exact⟨_,I',q⟩)
 .have hk:(k+(its.toArray.size:Int)).toNat=j:=by
   rw[Lm (by omega) h3]at h1;rw[Hv,<-hl];exact HV h1
  exact PySem.W.ki_setBack ho (by omega) (by rw[Hv,<-hl];exact h3) (by omega) (by rw[hk];exact⟨_,I',q⟩)

theorem xH(lo hi:Option Int)(n:Nat):(JK lo hi none n).1=((HT.sIx n 0 lo:Nat):Int)/\(JK lo hi none n).2.1=((HT.sIx n n hi:Nat):Int)/\(JK lo hi none n).2.2=1:=by
 refine⟨?_,?_,rfl⟩
 .cases lo with
  |none=>simp[JK,HT.sIx]
  |some i =>
   simp only[JK,HT.sIx,Option.getD_none,show(1:Int)>0 by decide,if_true];by_cases h:i<0
   .simp only[h,if_true]<;>omega
   .simp only[h,if_false]<;>omega
 .cases hi with
  |none=>simp[JK,HT.sIx]
  |some i =>
   simp only[JK,HT.sIx,Option.getD_none,show(1:Int)>0 by decide,if_true];by_cases h:i<0
   .simp only[h,if_true]<;>omega
   .simp only[h,if_false]<;>omega
theorem wC(its:List GV)(lo hi:Option Int):slicePick its.toArray lo hi none=((its.drop (HT.sIx its.length 0 lo)).take (HT.sIx its.length its.length hi-HT.sIx its.length 0 lo)).toArray:=by
 obtain⟨h1,h2,h3⟩:=xH lo hi its.toArray.size;unfold slicePick;rw[h1,h2,h3];simp only[sliceRange_one,pick_run,Hv]<;>rfl
def Gw(K:PySem.W.Frag):V->Option Int->Option Int->Hp->VK->Prop:=λx lo hi H Q=>∃a xs,x=.ref a/\SqL K H a xs/\∀p,H p=none->Q (.ref p) (upd H p (.lst (hJ xs lo hi)))
theorem oU:SlR X (Gw X.K):=by
 intro pins s σ H x v vl vu lo hi sl Q I rx hs pl pu h;obtain⟨a,xs,rfl,hx,q⟩:=h;cases rx;obtain⟨its,r,ht,hz⟩:=I.list hx;have hlen:=r.length;refine⟨"list",_,slot_list_getitem.lookup,ht.isList.typeIs,?_⟩;refine wpAny_getItem_list_slice ht.isList hs pl pu .none (by simp) ?_ (by rw[Hv]<;>omega)
 rw[wC,<-hlen];refine⟨.ref s.heap.objs.size,_,I.laid (t':=s.toks) (o:=.lst (hJ xs lo hi)) (λb ob q=>Hg _ q) (G_ _) ?_,rfl,q _ (I.hok.fresh (G_ _))⟩;exact⟨Ho (yV xs lo hi) hz,_,0,(r.drop (HT.sIx xs.length 0 lo)).take (HT.sIx xs.length xs.length hi-HT.sIx xs.length 0 lo),HI _ rfl⟩

def eP:V->Bool
 |.non=>true
 |.bl _=>true
 |.int _=>true
 |.str _=>true
 |_=>false
def eqV:V->V->Bool
 |.non,.non=>true
 |.bl a,.bl b=>a==b
 |.bl a,.int b=>(if a then 1 else 0)==b
 |.int a,.bl b=>a==(if b then 1 else 0)
 |.int a,.int b=>a==b
 |.str a,.str b=>a==b
 |_,_=>false
theorem AW{A:HY}{s:GY}{y x:V}{u v:GV}(ry:bo y u)(rx:bo x v)(fy:eP y=true)(fx:eP x=true):LG A s u v (eqV y x):=by
 cases y with
 |non =>
  cases ry;cases x with
  |non=>cases rx;exact SeqAt.EqAt.same _
  |bl b=>cases rx;exact SeqAt.EqAt.none_bool b
  |int b=>obtain⟨t,rfl⟩:=rx;exact SeqAt.EqAt.none_int b t
  |str b=>obtain⟨t,rfl⟩:=rx;exact SeqAt.EqAt.none_str b t
  |_=>exact absurd (show false=true from fx) Hw
 |bl a =>
  cases ry;cases x with
  |non=>cases rx;exact SeqAt.EqAt.bool_none a
  |bl b=>cases rx;exact SeqAt.EqAt.bool_bool a b
  |int b=>obtain⟨t,rfl⟩:=rx;exact SeqAt.EqAt.bool_int a b t
  |str b=>obtain⟨t,rfl⟩:=rx;exact SeqAt.EqAt.bool_str a b t
  |_=>exact absurd (show false=true from fx) Hw
 |int a =>
  obtain⟨t',rfl⟩:=ry;cases x with
  |non=>cases rx;exact SeqAt.EqAt.int_none a t'
  |bl b=>cases rx;exact SeqAt.EqAt.int_bool a t' b
  |int b=>obtain⟨t,rfl⟩:=rx;exact SeqAt.EqAt.int_int a t' b t
  |str b=>obtain⟨t,rfl⟩:=rx;exact SeqAt.EqAt.int_str a t' b t
  |_=>exact absurd (show false=true from fx) Hw
 |str a =>
  obtain⟨t',rfl⟩:=ry;cases x with
  |non=>cases rx;exact SeqAt.EqAt.str_none a t'
  |bl b=>cases rx;exact SeqAt.EqAt.str_bool a t' b
  |int b=>obtain⟨t,rfl⟩:=rx;exact SeqAt.EqAt.str_int a t' b t
  |str b=>obtain⟨t,rfl⟩:=rx;exact SeqAt.EqAt.str_str a t' b t
  |_=>exact absurd (show false=true from fx) Hw
 |_=>exact absurd (show false=true from fy) Hw
def eqU(x:V)(u:GV):Bool:=match u with
 |.none=>eqV .non x
 |.bool b=>eqV (.bl b) x
 |.int i _=>eqV (.int i) x
 |.str z _=>eqV (.str z) x
 |_=>false
theorem xI{x y:V}{u:GV}(r:bo y u)(f:eP y=true):eqU x u=eqV y x:=by
 cases y with
 |non=>cases r;rfl
 |bl b=>cases r;rfl
 |int i=>obtain⟨t,rfl⟩:=r;rfl
 |str z=>obtain⟨t,rfl⟩:=r;rfl
 |_=>exact absurd (show false=true from f) Hw
theorem oV{x:V}:∀{xs:List V} {us:List GV},bg xs us->xs.all eP=true->us.any (eqU x)=xs.any λy=>eqV y x
 |_,_,.nil,_=>rfl
 |y::xs,u::us,.cons r t,f=>by
  rw[Jl,Iu]at f;rw[Jm,Jm,xI r f.1,oV t f.2]
theorem jU{A:HY}{s:GY}{x:V}{v:GV}(rx:bo x v)(fx:eP x=true):∀{xs:List V} {us:List GV},bg xs us->xs.all eP=true->∀u∈us,LG A s u v (eqU x u)
 |_,_,.nil,_=>λu hu=>by cases hu
 |y::xs,u::us,.cons r t,f=>λu' hu=>by
  rw[Jl,Iu]at f;rcases List.mem_cons.mp hu with rfl|hu
  .rw[xI r f.1];exact AW r rx f.1 fx
  .exact jU rx fx t f.2 u' hu
def inV(x:V)(xs:List V):Bool:=xs.any λy=>eqV y x
def rIn(K:PySem.W.Frag)(neg:Bool):R2:=λx y H Q=>∃p xs,y=.ref p/\(SqL K H p xs\/SqT K H p xs)/\eP x=true/\xs.all eP=true/\Q (.bl (if neg then !inV x xs else inV x xs)) H
theorem hU:OpR X (Iw .In) (rIn X.K false):=by
 intro pins s σ H x y v u Q I rx ry h;obtain⟨p,xs,rfl,hq,fx,fs,q⟩:=h;cases ry;rcases hq with hq|hq
 .obtain⟨its,r,pl,hz⟩:=I.list hq;refine SeqAt.in_listAt (eqU x) pl.isList (λw hw=>jU rx fx r fs w (by simpa using hw)) ⟨.bl _,H,I,rfl,?_⟩;rw[show its.toArray.any (eqU x)=its.any (eqU x) by simp,oV r fs];exact q
 .obtain⟨its,r,pl,hz⟩:=I.tuple hq;refine SeqAt.in_tupleAt (eqU x) pl (λw hw=>jU rx fx r fs w (by simpa using hw)) ⟨.bl _,H,I,rfl,?_⟩;rw[show its.toArray.any (eqU x)=its.any (eqU x) by simp,oV r fs];exact q
theorem xJ:OpR X (Iw .NotIn) (rIn X.K true):=by
 intro pins s σ H x y v u Q I rx ry h;obtain⟨p,xs,rfl,hq,fx,fs,q⟩:=h;cases ry;rcases hq with hq|hq
 .obtain⟨its,r,pl,hz⟩:=I.list hq;refine SeqAt.notIn_listAt (eqU x) pl.isList (λw hw=>jU rx fx r fs w (by simpa using hw)) ⟨.bl _,H,I,rfl,?_⟩;rw[show its.toArray.any (eqU x)=its.any (eqU x) by simp,oV r fs];exact q
 .obtain⟨its,r,pl,hz⟩:=I.tuple hq;refine SeqAt.notIn_tupleAt (eqU x) pl (λw hw=>jU rx fx r fs w (by simpa using hw)) ⟨.bl _,H,I,rfl,?_⟩;rw[show its.toArray.any (eqU x)=its.any (eqU x) by simp,oV r fs];exact q
theorem bN:iI X (.builtin "len") (λxs H Q=>∃p ys,xs=[.ref p]/\(SqL X.K H p ys\/SqT X.K H p ys)/\Q (.int ys.length) H):=by
 intro pins s σ H xs us Q I r h;obtain⟨p,ys,rfl,hq,q⟩:=h;obtain⟨u,rfl,rx⟩:=jc r;cases rx;have hn:=lR;rcases hq with hq|hq
 .obtain⟨its,r',pl,hz⟩:=I.list hq;have hlen:=r'.length;exact Calls.call_len_list pl.isList (by simp only[Hv]<;>omega) ⟨.int ys.length,H,I.tok _,⟨s.toks+1,by rw[Hv,hlen]⟩,q⟩
 .obtain⟨its,r',pl,hz⟩:=I.tuple hq;have hlen:=r'.length;exact len_tuple pl (by simp only[Hv]<;>omega) ⟨.int ys.length,H,I.tok _,⟨s.toks+1,by rw[Hv,hlen]⟩,q⟩
theorem dt:iI X (.builtin "len") (λxs H Q=>∃z,xs=[.str z]/\z.length<=Hs/\Q (.int z.length) H):=by
 intro pins s σ H xs us Q I r h;obtain⟨z,rfl,hz,q⟩:=h;obtain⟨u,rfl,t,rfl⟩:=jc r;have hn:=lR;exact len_str (by omega) ⟨.int z.length,H,I.tok _,⟨_,rfl⟩,q⟩
def tyV(K:PySem.W.Frag)(T:String)(x:V)(H:Hp):Prop:=match x with
 |.str _=>T = "str"
 |.int _=>T = "int"
 |.ref p=>(T = "list"/\∃xs,SqL K H p xs)\/(T = "tuple"/\∃o,K.lookup p=some o/\o.cls=.type "tuple"/\o.dict=none)\/
   (T = "dict"/\((∃kvs,H p=some (.dK kvs))\/∃kvs,H p=some (.dT kvs)))\/(T = "set"/\∃S n,H p=some (.set S n))
 |_=>False
theorem EO{pins:List (Addr×Obj)}{σ:St}{H:Hp}{s:GY}{T:String}{x:V}{v:GV}(I:Inv X pins σ H s)(r:bo x v)(ty:tyV X.K T x H) :
  s.TypeIs v T/\∀a,v=.ref a->∃ob,s.heap.get? a=some ob/\ob.dict=none:=by
 cases x with
 |str z =>
  obtain⟨t,rfl⟩:=r;cases (show T = "str" from ty);exact⟨Ko s z t,λ_ e=>nomatch e⟩
 |int i =>
  obtain⟨t,rfl⟩:=r;cases (show T = "int" from ty);exact⟨LH s i t,λ_ e=>nomatch e⟩
 |ref p =>
  cases r;rcases ty with⟨rfl,xs,hq⟩|⟨rfl,o,hk,hc,hd⟩|⟨rfl,hk⟩|⟨rfl,S,n,hk⟩
  .obtain⟨its,_,pl,_⟩:=I.list hq;refine⟨pl.isList.typeIs,λa e=>?_⟩;cases e;obtain⟨o,n,e,c,hd,_⟩:=pl;exact⟨o,e,hd⟩
  .refine⟨⟨o,I.kIn p o hk,hc⟩,λa e=>?_⟩;cases e;exact⟨o,I.kIn _ o hk,hd⟩
  .have z:∃o,s.heap.get? p=some o/\o.ExactDict:=by
    rcases hk with⟨kvs,hk⟩|⟨kvs,hk⟩
    .obtain⟨_,_,_,_,o,_,_,e,ex,_⟩:=I.hok p _ hk;exact⟨o,e,ex⟩
    .obtain⟨_,_,_,_,o,_,_,e,ex,_⟩:=I.hok p _ hk;exact⟨o,e,ex⟩
   obtain⟨o,e,ex⟩:=z;refine⟨⟨o,e,ex.1⟩,λa e2=>?_⟩;cases e2;exact⟨o,e,ex.2.1⟩
  .obtain⟨o,_,_,_,e,ex,_⟩:=I.hok p _ hk;refine⟨⟨o,e,ex.1⟩,λa e2=>?_⟩;cases e2;exact⟨o,e,ex.2.1⟩
 |_=>exact Iz ty
def tBM(K:PySem.W.Frag)(T:String)(r:V->List V->Hp->VK->Prop)(to:TE)(t:TA):TE:=λσ H Q=>to σ H λx H1=>tyV K T x H1/\t σ H1 λxs H2=>r x xs H2 Q
variable {o e:Expr}{es:List Expr}{to:TE}{t:TA}{name:Str}{apos cpos:Pos}{T id:String}{r:V->List V->Hp->VK->Prop}
theorem cp(pa:PlainAttrs T)(slot:Slot T name id)(hty:typeOf (.builtin id)=pure (.type "method_descriptor"))(hm:MtR X id r)(ho:PE X o to)(ha:PA X (e::es) t)
  (hbase:JA o name X.env (eval o X.env)=eval o X.env:=by rfl)
  (hfew:((IT cpos (HJ (e :: es) X.env)).all (fun x=>!x.1) && (KZ cpos (J1 [] X.env)).all (fun x=>x.1.isSome)
   && decide ((e::es).length+([]:List Lu).length+(if([]:List Lu).isEmpty then 0 else 1)<30))=true:=by rfl)
  (hline:(apos.endLine==cpos.line)=true:=by rfl) (hs:HJ (e::es) X.env=(false,eval e X.env)::HJ es X.env:=by rfl) (hplain:(IT cpos (HJ es X.env)).any (·.1)=false:=by rfl) :
  PE X (.Call (.Attribute o name apos) (e::es) [] cpos) (tBM X.K T r to t):=by
 intro pins s σ H Q I h;refine wpAny_Call_method_late hbase hfew hline rfl (thn (ho pins s σ H _ I h) λv s1 ⟨x,H1,I1,r1,ty,q1⟩=>?_);obtain⟨h1,h2⟩:=EO I1 r1 ty;refine⟨T,id,pa,slot,hty,h1,h2,?_⟩;have hA:=ha cpos pins s1 σ H1 _ I1 q1;rw[hs]at hA⊢;refine Jj (by show(false||(IT cpos (HJ es X.env)).any (·.1))=false;rw[hplain]<;>rfl) (J2 ?_)
 exact thn hA λus s2 ⟨vs,H2,I2,r2,q2⟩=>hm pins s2 σ H2 x vs v us Q I2 r1 r2 q2
end

def MtM(X:Cx)(id:String)(r:V->List V->Hp->VK->Prop):Prop:=
 ∀(pins:List (Addr×Obj)) (s:GY) (σ:St) (H:Hp) (x:V) (xs:List V) (v:GV) (us:List GV) (Q:VK),Inv X pins σ H s->bo x v->bg xs us->r x xs H Q->
  HK (HG X.prog X.w) X.A (call (.builtin id) (v::us)) (EP X pins σ Q) X.xe s

theorem bg.one:∀{x:V} {us:List GV},bg [x] us->∃u,us=[u]/\bo x u
 |_,_,.cons r .nil=>⟨_,rfl,r⟩
theorem bg.rep{xs:List V}{us:List GV}(h:bg xs us):∀k:Nat,bg (Hd k xs).flatten (Hd k us).flatten
 |0=>.nil
 |k+1=>by
  rw[Io,Io,Jb,Jb];exact bg.append h (bg.rep h k)
theorem vV(its:List GV):∀(k:Nat) (acc:List GV),
  LJ (λx1 x2=>x1++x2) acc.toArray (Hd k its.toArray)=(acc++(Hd k its).flatten).toArray
 |0,acc=>by simp
 |k+1,acc=>by
  have e:acc.toArray++its.toArray=(acc++its).toArray:=by simp
  have e2:(acc++its)++(Hd k its).flatten=acc++(Hd (k+1) its).flatten:=by
   rw[Io,Jb,HL]
  rw[<-e2,<-vV its k (acc++its),<-e,Io,KS]

section
variable {X:Cx}{pins:List (Addr×Obj)}{σ:St}{H:Hp}{s:GY}{l b:Addr}{xs ys zs:List V}

theorem Inv.lset{its its':List GV}{n:Nat}{f:Array GV->Array GV}{t':Nat}(I:Inv X pins σ H s)(hH:H l=some (.lst xs))
  (e:s.heap.get? l=some { cls:=.type "list",data:=.seq its.toArray n })(hf:f its.toArray=its'.toArray)(hv:bg ys its')(hz:ys.length<=Hs) :
  Inv X pins σ (upd H l (.lst ys)) { s with heap:=s.heap.update l (KL f),toks:=t' }:=by
 have q:=PySem.IsL.update e f;rw[hf]at q;refine I.write (x:=l) (e:=l) (by rw[hH];exact trivial) (.inl rfl) (λb' u hb hu=>(JO s.heap (KL f) (HW hb)).trans hu) ⟨_,q⟩ ?_;exact⟨hz,its',_,hv,q⟩
theorem Inv.lnew{its:List GV}{t':Nat}(I:Inv X pins σ H s)(hv:bg ys its)(hz:ys.length<=Hs) :
  Inv X pins σ (upd H s.heap.objs.size (.lst ys)) { s with heap:=s.heap.push { cls:=.type "list",data:=.seq its.toArray },toks:=t' }:=
 I.laid (λ_ _ q=>Hg _ q) (G_ _) ⟨hz,its,0,hv,HI _ rfl⟩
theorem Inv.fresh(I:Inv X pins σ H s):H s.heap.objs.size=none:=I.hok.fresh (G_ _)
theorem Inv.lstM(I:Inv X pins σ H s)(hH:H l=some (.lst xs)):xs.length<=Hs/\∃(its:List GV) (n:Nat),bg xs its/\xs.length=its.length/\s.heap.get? l=some { cls:=.type "list",data:=.seq its.toArray n }:=by
 obtain⟨z,its,n,r,e⟩:=I.hok l _ hH;exact⟨z,its,n,r,r.length,e⟩

theorem xK{n:Nat}(h:n<=Hs):Jd n=false:=by
 unfold Jd;exact decide_eq_false (by omega)
end

section
variable {X:Cx}

def DO:V->List V->Hp->VK->Prop:=λx vs H Q=>∃l xs y,x=.ref l/\vs=[y]/\H l=some (.lst xs)/\xs.length<Hs/\Q .non (upd H l (.lst (xs++[y])))
theorem b7:MtM X "list.append" DO:=by
 intro pins s σ H x vs v us Q I rx rv h;obtain⟨l,xs,y,rfl,rfl,hH,hz,q⟩:=h;cases rx;obtain⟨u,rfl,ru⟩:=rv.one;obtain⟨z,its,n,r,hl,e⟩:=I.lstM hH;refine JF F.slot_list_append ⟨_,e,rfl⟩ F.entry_list_append (F.args_list_append_2 _ _) (PySem.list_append l its.toArray n u (by rw[Hv];omega)) ⟨e,?_⟩;refine⟨.non,_,I.lset (its':=its++[u]) hH e (by simp) (r.append (.cons ru .nil)) ?_,rfl,q⟩;rw[GX,Jn];omega

def DP:V->List V->Hp->VK->Prop:=λx vs H Q=>∃l b xs zs,x=.ref l/\vs=[.ref b]/\H l=some (.lst xs)/\H b=some (.lst zs)/\xs.length+zs.length<=Hs/\Q .non (upd H l (.lst (xs++zs)))
theorem ky:MtM X "list.extend" DP:=by
 intro pins s σ H x vs v us Q I rx rv h;obtain⟨l,b,xs,zs,rfl,rfl,hH,hB,hz,q⟩:=h;cases rx;obtain⟨u,rfl,ru⟩:=rv.one;cases ru;obtain⟨z,its,n,r,hl,e⟩:=I.lstM hH;obtain⟨z2,its2,n2,r2,hl2,e2⟩:=I.lstM hB;have hsz:its.toArray.size+its2.toArray.size<=Hs:=by rw[Hv,Hv];omega
 have hlong:¬ (!its.toArray.isEmpty&&Jd (its.toArray.size+its2.toArray.size))=true:=by
  rw[xK hsz,Kp];exact Hw
 refine JF F.slot_list_extend ⟨_,e,rfl⟩ F.entry_list_extend (F.args_list_extend_2 _ _)
  (AutoSeq1.list_extend_list_list_0 l its.toArray n b its2.toArray n2 hlong (by rw[Hv];omega) (by omega)) ⟨e,e2,?_⟩
 refine⟨.non,_,I.lset (its':=its++its2) hH e (by simp) (r.append r2) ?_,rfl,q⟩;rw[GX];omega

def Gx:R2:=λx y H Q=>∃l b xs zs,x=.ref l/\y=.ref b/\H l=some (.lst xs)/\H b=some (.lst zs)/\xs.length+zs.length<=Hs/\∀p,H p=none->Q (.ref p) (upd H p (.lst (xs++zs)))
theorem d7:OpR X (Jz .Add) Gx:=by
 intro pins s σ H x y v u Q I rx ry h;obtain⟨l,b,xs,zs,rfl,rfl,hH,hB,hz,q⟩:=h;cases rx;cases ry;obtain⟨z,its,n,r,hl,e⟩:=I.lstM hH;obtain⟨z2,its2,n2,r2,hl2,e2⟩:=I.lstM hB;refine PySem.P.add_list e e2 ?_ (by rw[Hv,Hv];omega);have ea:its.toArray++its2.toArray=(its++its2).toArray:=by simp
 rw[ea];exact⟨.ref _,_,I.lnew (t':=s.toks) (r.append r2) (by rw[GX];omega),rfl,q _ I.fresh⟩
def Gy:R2:=λx y H Q=>∃l k xs,x=.ref l/\y=.int k/\H l=some (.lst xs)/\-(2^63)<=k/\k<2^63/\xs.length*k.toNat<=Hs/\
 ∀p,H p=none->Q (.ref p) (upd H p (.lst (Hd k.toNat xs).flatten))
theorem zj{α:Type}(xs:List α)(k:Nat):(Hd k xs).flatten.length=k*xs.length:=by
 induction k with
 |zero=>simp
 |succ k ih=>rw[Io,Jb,GX,ih,Nat.succ_mul,Nat.add_comm]
theorem xL:OpR X (Jz .Mult) Gy:=by
 intro pins s σ H x y v u Q I rx ry h;obtain⟨l,k,xs,rfl,rfl,hH,h1,h2,hz,q⟩:=h;cases rx;obtain⟨t,rfl⟩:=ry;obtain⟨z,its,n,r,hl,e⟩:=I.lstM hH;have hlen:its.toArray.size*k.toNat<=Hs:=by rw[Hv,<-hl];exact hz
 have hcap:¬ its.toArray.size*k.toNat>(2^63-1)/8:=by
  have:(Hs:Nat)<=(2^63-1)/8:=by decide
  omega
 have hfit:¬ (!Builtin.List.listFitsIndex k)=true:=by
  rw[fitsIndex_both h1 h2];exact Hw
 have hlong:¬ Jd (its.toArray.size*k.toNat)=true:=by
  rw[xK hlen];exact Hw
 have hnew:LJ (λx1 x2=>x1++x2) #[] (Hd (if its.toArray.isEmpty=true then 0 else k.toNat) its.toArray)=(Hd k.toNat its).flatten.toArray:=by
  have f0:∀m:Nat,LJ (λx1 x2=>x1++x2) #[] (Hd m its.toArray)=(Hd m its).flatten.toArray:=λm=>by
   have:=vV its m [];rw[List.nil_append]at this;exact this
  rw[f0];cases its with
  |nil=>simp
  |cons a r'=>rw[if_neg (by simp)]
 refine wpAny_binaryOp_repeat_ref (T := "list") (U := "int") (by decide) ⟨_,e,rfl⟩ (λs'=>LH s' k t) noFill_list_mul F.fills_int_mul F.slot_int_rmul repeat_list F.slot_int_index.lookup
  (JF F.slot_int_rmul (LH s k t) F.entry_int_rmul (F.args_int_rmul_2 _ _) (int___rmul___int_list k t l its.toArray n)
   ⟨e,rfl,⟨_,e,rfl⟩,JF F.slot_list_mul ⟨_,e,rfl⟩ F.entry_list_mul (F.args_list_mul_2 _ _) (AutoListH.list___mul___list_int_3 l its.toArray n k t hfit hcap hlong) ⟨e,?_⟩⟩)
 rw[hnew];exact⟨.ref _,_,I.lnew (t':=s.toks) (r.rep k.toNat) (by rw[zj,Nat.mul_comm];exact hz),rfl,q _ I.fresh⟩

end

section
variable {prog:HB}{w:HF}{A:HY}{E:GV->GY->Prop}{s:GY}
end

section
variable {X:Cx}
end

section
variable {κ:Type}[DecidableEq κ]
def cX(kvs:List (κ×V))(k:κ):Option V:=(kvs.find? λkv=>decide (kv.1=k)).map (·.2)
def ji(kvs:List (κ×V))(k:κ)(v:V):List (κ×V):=
 if(kvs.any λkv=>decide (kv.1=k))=true then kvs.map (λkv=>if kv.1=k then(kv.1,v)else kv)else kvs++[(k,v)]
theorem jV{p:κ×V}{r:List (κ×V)}{k:κ}(e:p.1=k):cX (p::r) k=some p.2:=by simp[cX,Jk,e]
theorem dG{p:κ×V}{r:List (κ×V)}{k:κ}(e:¬ p.1=k):cX (p::r) k=cX r k:=by simp[cX,Jk,e]
theorem tX(k:κ):∀kvs:List (κ×V),(kvs.any λkv=>decide (kv.1=k))=(cX kvs k).isSome
 |[]=>rfl
 |p::r=>by
  rw[Jm];by_cases e:p.1=k
  .simp only[jV e,decide_eq_true e,Bool.true_or,Option.isSome_some]
  .rw[dG e,decide_eq_false e,K9];exact tX k r
theorem nR(kvs:List (κ×V))(k:κ)(v:V):(ji kvs k v).length<=kvs.length+1:=by
 unfold ji
 split
 .rw[GT];omega
 .rw[GX,GU,Hk];omega
theorem pI{kvs:List (κ×V)}{k:κ}(v:V)(h:cX kvs k=none):ji kvs k v=kvs++[(k,v)]:=by
 unfold ji;rw[tX,h];exact if_neg (by decide)

theorem g9.isSome_eq{o:Option V}{u:Option GV}(r:g9 o u):o.isSome=u.isSome:=by
 cases o with
 |none=>cases u with
  |none=>rfl
  |some _=>exact(show False from r).elim
 |some _=>cases u with
  |none=>exact(show False from r).elim
  |some _=>rfl
theorem KV.val{kvs:List (κ×V)}{vs:List (κ×GV)}(r:KV kvs vs)(k:κ):g9 (cX kvs k) (KM vs k):=by
 unfold KV at r;induction r with
 |nil=>exact Km
 |@cons p q ps qs h t ih =>
  obtain⟨h1,h2⟩:=h;by_cases e:p.1=k
  .have e':q.1=k:=h1.symm.trans e;have b:KM (q::qs) k=some q.2:=by simp[KM,Jk,e']
   rw[jV e,b];exact h2
  .have e':¬ q.1=k:=λz=>e (h1.trans z);have b:KM (q::qs) k=KM qs k:=by simp[KM,Jk,e']
   rw[dG e,b];exact ih
theorem KV.any{kvs:List (κ×V)}{vs:List (κ×GV)}(r:KV kvs vs)(k:κ):(kvs.any λkv=>decide (kv.1=k))=vs.any λkv=>decide (kv.1=k):=by
 unfold KV at r;induction r with
 |nil=>rfl
 |cons h t ih=>rw[Jm,Jm,ih,h.1]
theorem KV.repl{kvs:List (κ×V)}{vs:List (κ×GV)}(r:KV kvs vs)(k:κ){y:V}{u:GV}(ry:bo y u) :
  KV (kvs.map λkv=>if kv.1=k then(kv.1,y)else kv) (vs.map λkv=>if kv.1=k then(kv.1,u)else kv):=by
 unfold KV at r⊢;induction r with
 |nil=>exact .nil
 |@cons p q ps qs h t ih =>
  rw[Hj,Hj];refine .cons ?_ ih;obtain⟨h1,h2⟩:=h;by_cases e:p.1=k
  .rw[if_pos e,if_pos (h1.symm.trans e)];exact⟨h1,ry⟩
  .rw[if_neg e,if_neg (λz=>e (h1.trans z))];exact⟨h1,h2⟩
theorem KV.put{kvs:List (κ×V)}{vs:List (κ×GV)}(r:KV kvs vs)(k:κ){y:V}{u:GV}(ry:bo y u):KV (ji kvs k y) (LK vs k u):=by
 unfold ji LK;rw[r.any k];by_cases e:(vs.any λkv=>decide (kv.1=k))=true
 .rw[if_pos e,if_pos e];exact r.repl k ry
 .rw[if_neg e,if_neg e];exact Paired.snoc r ⟨rfl,ry⟩
theorem KV.length{kvs:List (κ×V)}{vs:List (κ×GV)}(r:KV kvs vs):kvs.length=vs.length:=Paired.length r
end


theorem nj{P:HB}{w:HF}{k:Key}{u:GV}(r:bo (kV k) u):(bA P w).is k u=true:=by
 cases k with
 |inl i=>obtain⟨t,e⟩:=(show ∃t,u=JR i t from r);subst e;exact yT P w i t
 |inr x=>obtain⟨t,e⟩:=(show ∃t,u=IW x t from r);subst e;exact yU P w x t
theorem vW{P:HB}{w:HF}:∀{ks:List Key} {us:List GV},bg (ks.map kV) us->ItemsAre (bA P w) ks us
 |[],_,r=>by rw[Kg]at r;cases r;exact .nil
 |k::ks,_,r=>by
  rw[Hj]at r;cases r with
  |cons h t=>exact .cons (nj h) (vW t)

abbrev KT(H:Hp):List (List Key×V)->List (List Key×Addr×GV)->Prop:=Paired λp q=>p.1=q.1/\H q.2.1=some (.tup (p.1.map kV))/\bo p.2 q.2.2
theorem KT.val{H:Hp}{kvs:List (List Key×V)}{xs:List (List Key×Addr×GV)}(r:KT H kvs xs)(k:List Key):g9 (cX kvs k) ((Ls xs k).map (·.2)):=by
 induction r with
 |nil=>exact Km
 |@cons p q ps qs h t ih =>
  obtain⟨h1,_,h2⟩:=h;by_cases e:p.1=k
  .have e':q.1=k:=h1.symm.trans e;have b:Ls (q::qs) k=some q.2:=by simp[Ls,Jk,e']
   rw[jV e,b];exact h2
  .have e':¬ q.1=k:=λz=>e (h1.trans z);have b:Ls (q::qs) k=Ls qs k:=by simp[Ls,Jk,e']
   rw[dG e,b];exact ih
theorem KT.repl{H:Hp}{kvs:List (List Key×V)}{xs:List (List Key×Addr×GV)}(r:KT H kvs xs)(k:List Key){y:V}{u:GV}(ry:bo y u) :
  KT H (kvs.map λkv=>if kv.1=k then(kv.1,y)else kv) (xs.map (putAt k u)):=by
 induction r with
 |nil=>exact .nil
 |@cons p q ps qs h t ih =>
  rw[Hj,Hj];refine .cons ?_ ih;obtain⟨h1,h2,h3⟩:=h;unfold putAt;by_cases e:p.1=k
  .rw[if_pos e,if_pos (h1.symm.trans e)];exact⟨h1,h2,ry⟩
  .rw[if_neg e,if_neg (λz=>e (h1.trans z))];exact⟨h1,h2,h3⟩
theorem KT.put{H:Hp}{kvs:List (List Key×V)}{xs:List (List Key×Addr×GV)}(r:KT H kvs xs)(k:List Key){b:Addr}{y:V}{u:GV}(hb:H b=some (.tup (k.map kV)))(ry:bo y u) :
  KT H (ji kvs k y) (storedH xs k b u):=by
 have e:(kvs.any λkv=>decide (kv.1=k))=(Ls xs k).isSome:=by
  rw[tX,(r.val k).isSome_eq,Kt]
 unfold ji storedH;rw[e];by_cases q:(Ls xs k).isSome=true
 .rw[if_pos q,if_pos q];exact r.repl k ry
 .rw[if_neg q,if_neg q];exact Paired.snoc r ⟨rfl,hb,ry⟩
theorem KT.keeps{H H':Hp}{kvs:List (List Key×V)}{xs:List (List Key×Addr×GV)}(r:KT H kvs xs)(ht:∀b ys,H b=some (.tup ys)->H' b=some (.tup ys)):KT H' kvs xs:=
 Paired.mapP r λ_ _ z=>⟨z.1,ht _ _ z.2.1,z.2.2⟩

section
variable {P:HB}{w:HF}{H:Hp}{h:Heap}{a:Addr}
theorem Dl{u:HO}(ok:HOk P w H h)(e:Rd H a u):cu P w H h a u:=e.ok ok
theorem sR{kvs:List (Key×V)}(ok:HOk P w H h)(e:Rd H a (.dK kvs)):kvs.length<=Hs/\(a==IE)=false/\∃vs,KV kvs vs/\h.DictOf (bA P w) a vs:=
 show cu P w H h a (.dK kvs)from Dl ok e
theorem FQ{kvs:List (Key×V)}(ok:HOk P w H h)(e:H a=some (.dK kvs)):kvs.length<=Hs/\(a==IE)=false/\∃vs,KV kvs vs/\h.DictOf (bA P w) a vs:=sR ok (.inl e)
theorem rb{ks:List Key}(ok:HOk P w H h)(e:H a=some (.tup (ks.map kV))):(K4 (bA P w)).is h ks a:=by
 obtain⟨_,its,r,o,h1,h2,n,h3⟩:=(show cu P w H h a (.tup (ks.map kV))from ok a _ e);exact⟨o,its.toArray,n,h1,h2,h3,by simpa using vW r⟩
theorem sS{kvs:List (List Key×V)}(ok:HOk P w H h)(e:Rd H a (.dT kvs)):kvs.length<=Hs/\(a==IE)=false/\
  ∃xs,KT H kvs xs/\h.DictOfH (K4 (bA P w)) a xs:=by
 obtain⟨z,y,xs,r,o,es,ep,h1,h2,h3,h4,h5⟩:=(show cu P w H h a (.dT kvs)from Dl ok e);refine⟨z,y,xs,r,o,es,ep,h1,h2,h3,h4,λx hx=>?_,h5⟩;have all:∀{l:List (List Key×V)} {m:List (List Key×Addr×GV)},KT H l m->∀x∈m,(K4 (bA P w)).is h x.1 x.2.1:=by
  intro l m q;induction q with
  |nil=>intro x hx;exact nomatch hx
  |@cons p q ps qs hq t ih =>
   intro x hx;rcases List.mem_cons.mp hx with e|hx
   .subst e;exact rb ok (by rw[<-hq.1];exact hq.2.1)
   .exact ih x hx
 exact all r x hx
theorem FR{kvs:List (List Key×V)}(ok:HOk P w H h)(e:H a=some (.dT kvs)):kvs.length<=Hs/\(a==IE)=false/\
  ∃xs,KT H kvs xs/\h.DictOfH (K4 (bA P w)) a xs:=sS ok (.inl e)
end

def e_(H:Hp)(a:Addr)(y:V)(r:Option V):Prop:=
 (∃kvs k,Rd H a (.dK kvs)/\y=kV k/\r=cX kvs k)\/∃kvs k b,Rd H a (.dT kvs)/\y=.ref b/\H b=some (.tup (k.map kV))/\r=cX kvs k
def rc(H:Hp)(a:Addr)(y v:V)(H':Hp):Prop:=
 (∃kvs k,H a=some (.dK kvs)/\y=kV k/\kvs.length<Hs/\H'=upd H a (.dK (ji kvs k v)))\/
 ∃kvs k b,H a=some (.dT kvs)/\y=.ref b/\H b=some (.tup (k.map kV))/\kvs.length<Hs/\H'=upd H a (.dT (ji kvs k v))
theorem e_.k{H:Hp}{a:Addr}{kvs:List (Key×V)}{k:Key}(e:H a=some (.dK kvs)):e_ H a (kV k) (cX kvs k):=.inl ⟨kvs,k,.inl e,rfl,rfl⟩
theorem rc.k{H:Hp}{a:Addr}{kvs:List (Key×V)}{k:Key}{v:V}(e:H a=some (.dK kvs))(hl:kvs.length<Hs):rc H a (kV k) v (upd H a (.dK (ji kvs k v))):=.inl ⟨kvs,k,e,rfl,hl,rfl⟩
section
variable {X:Cx}{pins:List (Addr×Obj)}{σ:St}{H:Hp}{s:GY}{a:Addr}{y v:V}{u r:GV}{o:Option V}{A:HY}{E:GV->GY->Prop}

theorem Inv.big(I:Inv X pins σ H s):IE<s.heap.objs.size:=by
 have h:HC<s.heap.objs.size:=(I.mod.glob.keeps I.bk).lt;exact IQ (by decide) h

theorem AX{Q:GV->GY->Prop}(hu:A.units+1<KG)(I:Inv X pins σ H s)(g:e_ H a y (some v))(ry:bo y u)(h:∀w' s',Inv X pins σ H s'->bo v w'->Q w' s') :
  HK (HG X.prog X.w) A (Ll (.ref a) u) Q E s:=by
 rcases g with⟨kvs,k,e,ey,l⟩|⟨kvs,k,b,e,ey,eb,l⟩
 .subst ey;obtain⟨z,hd,vs,rel,dd⟩:=sR I.hok e;obtain⟨w',hw,rw'⟩:=g9.some_of (v:=v) (o:=KM vs k) (by rw[l];exact rel.val k);exact wpAny_getItem_of (nj ry) dd.mapOf hw (h w' _ (I.tok _) rw')
 .subst ey;cases (show u=Ie b from ry);obtain⟨z,hd,xs,rel,dd⟩:=sS I.hok e;obtain⟨w',hw,rw'⟩:=g9.some_of (v:=v) (o:=(Ls xs k).map (·.2)) (by rw[l];exact rel.val k);obtain⟨p,hp,hp2⟩:=Option.map_eq_some_iff.mp hw;refine wpAny_getItem_heap (JG hu) (rb I.hok eb) dd hp ?_;rw[hp2];exact h w' _ (I.tok _) rw'
theorem Gz{Q:GV->GY->Prop}(hu:A.units+1<KG)(I:Inv X pins σ H s)(g:e_ H a y o)(ry:bo y u)(h:∀s',Inv X pins σ H s'->Q (.bool o.isSome) s') :
  HK (HG X.prog X.w) A (Iw .In u (.ref a)) Q E s:=by
 rcases g with⟨kvs,k,e,ey,l⟩|⟨kvs,k,b,e,ey,eb,l⟩
 .subst ey;obtain⟨z,hd,vs,rel,dd⟩:=sR I.hok e;refine wpAny_in_of (nj ry) hd dd.mapOf ?_;rw[<-(rel.val k).isSome_eq,<-l];exact h _ (I.tok _)
 .subst ey;cases (show u=Ie b from ry);obtain⟨z,hd,xs,rel,dd⟩:=sS I.hok e;refine wpAny_in_heap (JG hu) (rb I.hok eb) hd dd ?_;have q:=(rel.val k).isSome_eq;rw[Kt]at q;rw[<-q,<-l];exact h _ (I.tok _)
theorem DQ{Q:GV->GY->Prop}(hu:A.units+1<KG)(I:Inv X pins σ H s)(g:e_ H a y o)(ry:bo y u)(h:∀s',Inv X pins σ H s'->Q (.bool (!o.isSome)) s') :
  HK (HG X.prog X.w) A (Iw .NotIn u (.ref a)) Q E s:=by
 rcases g with⟨kvs,k,e,ey,l⟩|⟨kvs,k,b,e,ey,eb,l⟩
 .subst ey;obtain⟨z,hd,vs,rel,dd⟩:=sR I.hok e;refine wpAny_notIn_of (nj ry) hd dd.mapOf ?_;rw[<-(rel.val k).isSome_eq,<-l];exact h _ (I.tok _)
 .subst ey;cases (show u=Ie b from ry);obtain⟨z,hd,xs,rel,dd⟩:=sS I.hok e;refine wpAny_notIn_heap (JG hu) (rb I.hok eb) hd dd ?_;have q:=(rel.val k).isSome_eq;rw[Kt]at q;rw[<-q,<-l];exact h _ (I.tok _)
theorem zk{h':Heap}{t':Nat}{ob:HO}(I:Inv X pins σ H s)(mu:Mut (H a))(hs:Ji a s.heap h')(he:∃q,h'.get? a=some q)(new:cu X.prog X.w (upd H a ob) h' a ob) :
  Inv X pins σ (upd H a ob) { s with heap:=h',toks:=t' }:=
 I.write (x:=a) (e:=a) mu (.inl rfl) (λb q hb z=>(hs.2 b hb).trans z) he new
theorem AY{P:HB}{w:HF}{H':Hp}{h':Heap}{kvs:List (Key×V)}{vs:List (Key×GV)}(z:kvs.length<=Hs)(hd:(a==IE)=false)(rel:KV kvs vs)(dd:h'.DictOf (bA P w) a vs) :
  cu P w H' h' a (.dK kvs):=⟨z,hd,vs,rel,dd⟩
theorem AZ{H':Hp}{Q:Unit->GY->Prop}(hu:A.units+1<KG)(I:Inv X pins σ H s)(g:rc H a y v H')(ry:bo y u)(rv:bo v r)(h:∀s',Inv X pins σ H' s'->Q () s') :
  HK (HG X.prog X.w) A (setItem (.ref a) u r) Q E s:=by
 rcases g with⟨kvs,k,e,ey,l,eH⟩|⟨kvs,k,b,e,ey,eb,l,eH⟩
 .subst ey eH;obtain⟨z,hd,vs,rel,dd⟩:=FQ I.hok e;have hz:vs.length<=Hs:=by rw[<-rel.length];exact z
  have hl:(ji kvs k v).length<=Hs:=by have:=nR kvs k v;omega
  refine wpAny_setItem_pairs (hsz:=hz) (nj ry) dd λh' dd' hs=>h _ ?_;have he:∃q,h'.get? a=some q:=let⟨q,_,_,hq,_⟩:=dd';⟨q,hq⟩;exact zk I (by rw[e];exact Km) hs he (AY hl hd (rel.put k rv) dd')
 .subst ey eH;cases (show u=Ie b from ry);obtain⟨z,hd,xs,rel,dd⟩:=FR I.hok e;have hz:xs.length<=Hs:=by rw[<-Paired.length rel];exact z
  have hl:(ji kvs k v).length<=Hs:=by have:=nR kvs k v;omega
  refine wpAny_setItem_heap (hsz:=hz) (JG hu) (rb I.hok eb) dd λh' dd' hs=>h _ ?_;obtain⟨q,es,ep,hq,h2,h3,h4,_,h5⟩:=dd';refine zk I (by rw[e];exact Km) hs ⟨q,hq⟩ ⟨hl,hd,_,(rel.put k eb rv).keeps λc ys ec=>?_,q,es,ep,hq,h2,h3,h4,h5⟩;rw[aj (FI ec e (λz=>nomatch z))];exact ec
end

section
variable {X:Cx}{pins:List (Addr×Obj)}{σ:St}{H:Hp}{s:GY}{a:Addr}{kvs:List (Key×V)}{k:Key}{u:GV}{A:HY}{E:GV->GY->Prop}
end


def Cn(i:Expr):Prop:=∀ov iv,K2 i false ov iv=operate [ov,iv] (Ll ov iv)
theorem zm{prog:HB}{w:HF}{A:HY}{E:GV->GY->Prop}{s:GY}{env:Env}{value slice:Expr}{pos:Pos}{T id:String}{Q:GV->GY->Prop}
  (hl:Le (.type T) "__getitem__" = pure (some (.builtin id)))(hs:Cn slice)
  (h:HK (HG prog w) A (eval value env) (λo s₁=>HK (HG prog w) A (eval slice env) (λi s₂=>s₂.TypeIs o T/\HK (HG prog w) A (Ll o i) Q E s₂) E s₁) E s) :
  HK (HG prog w) A (eval (.Subscript value slice pos) env) Q E s:=by
 refine LF (Ii h (λo s₁ h₁=>Ii h₁ (λi s₂ h₂=>?_) λ_ _ x=>x) λ_ _ x=>x);obtain⟨hT,h₂⟩:=h₂;unfold K8;refine Hy ?_;rw[getitemInPython_of_ne hT.not_modules];refine Hy (wpAny_specialOf hT hl ?_);have fin:HK (HG prog w) A (K2 slice false o i) (λr s₃=>HK (HG prog w) A (letTemporaryGo value o r >>= λ_=>pure r) Q E s₃) E s₂:=by
  rw[hs o i];exact wpAny_operating (Ii h₂ (λr s₃ h₃=>Hy (wpAny_letTemporaryGo (Ig h₃))) λ_ _ x=>x)
 first
  |exact Ig (Hy fin)
  |exact Hy (Ig (Hy fin))
  |exact Hy fin

theorem yW{X:Cx}{pins:List (Addr×Obj)}{σ:St}{H:Hp}{s:GY}{a:Addr}{y:V}{o:Option V}(I:Inv X pins σ H s)(g:e_ H a y o):s.TypeIs (.ref a) "dict":=by
 rcases g with⟨kvs,k,e,_,_⟩|⟨kvs,k,b,e,_,_,_⟩
 .obtain⟨_,_,vs,_,dd⟩:=sR I.hok e;exact dd.typeIs
 .obtain⟨_,_,xs,_,dd⟩:=sS I.hok e;exact dd.typeIs
def FS(td ty:TE):TE:=λσ H Q=>td σ H λx H1=>ty σ H1 λy H2=>∃a v,x=.ref a/\e_ H2 a y (some v)/\Q v H2
def FT(td ty tv:TE):TS:=λD σ H=>tv σ H λv H1=>td σ H1 λx H2=>ty σ H2 λy H3=>∃a H4,x=.ref a/\rc H3 a y v H4/\D.nx σ H4
section
variable {X:Cx}{o i e value:Expr}{pos pos' tpos:Pos}{td ty tv:TE}
theorem sT(hu:X.A.units+1<KG)(ho:PE X o td)(hi:PE X i ty)(hs:Cn i):PE X (.Subscript o i pos) (FS td ty):=by
 intro pins s σ H Q I h;refine zm PySem.F.slot_dict_getitem.lookup hs (thn (ho pins s σ H _ I h) λu s1 ⟨x,H1,I1,rx,q1⟩=>thn (hi pins s1 σ H1 _ I1 q1) λiv s2 ⟨y,H2,I2,ry,a,v,ex,g,q2⟩=>?_);subst ex;obtain rfl:u=Ie a:=rx;exact⟨yW I2 g,AX hu I2 g ry λw' s3 I3 rw'=>⟨v,H2,I3,rw',q2⟩⟩
theorem sU(hu:X.A.units+1<KG)(ho:PE X o td)(hi:PE X i ty)(hv:PE X value tv)(hs:JI value (some (.Subscript o i pos')) pos.line X.env=pure false) :
  PS X (.Assign [.Subscript o i pos'] value pos) (FT td ty tv):=by
 intro pins s σ H D I h;refine wpAny_Assign_Subscript (thn (hv pins s σ H _ I h) λr s1 ⟨v,H1,I1,rv,q1⟩=>thn (ho pins s1 σ H1 _ I1 q1) λu s2 ⟨x,H2,I2,rx,q2⟩=>thn (hi pins s2 σ H2 _ I2 q2) λiv s3 ⟨y,H3,I3,ry,a,H4,ex,g,q3⟩=>?_) hs;subst ex;obtain rfl:u=Ie a:=rx;exact AZ hu I3 g ry rv λs4 I4=>⟨σ,H4,I4,q3⟩
end


theorem Co{P:HB}{w:HF}{H:Hp}(h:Heap)(hb:IE<h.objs.size):cu P w H (h.push { cls:=.type "dict",data:=.dict #[] }) h.objs.size (.dK []):=
 ⟨HZ _,beq_eq_false_iff_ne.mpr (HW (Hr hb)),[],.nil,Heap.DictOf.new h⟩
def EQ:TE:=λ_ H Q=>∀p,H p=none->Q (.ref p) (upd H p (.dK []))
section
variable {X:Cx}{pos:Pos}
theorem pJ:PE X (.Dict [] [] pos) EQ:=λpins s σ H Q I h =>
 wpAny_Dict_empty ⟨.ref s.heap.objs.size,_,I.laid (a:=s.heap.objs.size) (o:=.dK []) (t':=s.toks) (λ_ _ q=>Hg _ q) (G_ _) (Co s.heap I.big),rfl,h _ (I.hok.fresh (G_ _))⟩
end

def IsD(H:Hp)(a:Addr):Prop:=(∃kvs,Rd H a (.dK kvs))\/∃kvs,Rd H a (.dT kvs)
theorem A1{X:Cx}{pins:List (Addr×Obj)}{σ:St}{H:Hp}{s:GY}{a:Addr}(I:Inv X pins σ H s)(d:IsD H a) :
  s.TypeIs (.ref a) "dict"/\(∀b,Ie a=.ref b->∃ob,s.heap.get? b=some ob/\ob.dict=none)/\(a==IE)=false:=by
 rcases d with⟨kvs,e⟩|⟨kvs,e⟩
 .obtain⟨_,hd,vs,_,dd⟩:=sR I.hok e;refine⟨dd.typeIs,λb q=>?_,hd⟩;cases q;obtain⟨ob,_,_,h1,h2,_⟩:=dd;exact⟨ob,h1,h2.2.1⟩
 .obtain⟨_,hd,xs,_,dd⟩:=sS I.hok e;refine⟨dd.typeIs,λb q=>?_,hd⟩;cases q;obtain⟨ob,_,_,h1,h2,_⟩:=dd;exact⟨ob,h1,h2.2.1⟩

section
variable {X:Cx}{pins:List (Addr×Obj)}{σ:St}{H:Hp}{s:GY}{a:Addr}{y d:V}{u r:GV}{o:Option V}{A:HY}{E:GV->GY->Prop}
end

section
variable {X:Cx}{o e f:Expr}{apos cpos:Pos}{td ty tx:TE}
end

section
variable {X:Cx}{pins:List (Addr×Obj)}{σ:St}{H:Hp}{s:GY}{a:Addr}{kvs:List (Key×V)}{A:HY}{E:GV->GY->Prop}
end


section
variable {X:Cx}{pins:List (Addr×Obj)}{σ:St}{H:Hp}{s:GY}{a:Addr}{y:V}{u:GV}{A:HY}{E:GV->GY->Prop}
end
end L2

namespace Att
open PySem PySem.W PySem.Calls PyProof.Rows

theorem uR{P:HR}{h:Heap}:∀(ns:List Int) (vs:List GV),WellAll P h vs (ns.map WData.int)->Lv vs ns:=by
 intro ns;induction ns with
 |nil =>
  intro vs w;rw[Kg]at w;cases w;exact .nil
 |cons n ns ih =>
  intro vs w;rw[Hj]at w;cases w with
  |cons a b =>
   cases a;exact .cons _ _ (ih _ b)

theorem A2{l:OpenLaw}{n:Nat}(hn:l.most=some n){P:HR}{h:Heap}{args:List WData}{vals:List GV}
  (hpre:l.row.toRowW.claim.pre args=true)(hwl:WellAll P h vals args) :
  ∃a vs ns,vals=[Ie a]/\args=[WData.list (ns.map WData.int)]/\h.get? a=some { cls:=.type "list",data:=.seq vs.toArray }/\Lv vs ns/\ns.length<=n:=by
 have hsh:WShape.hasAll [] args [.list .int]=true:=(pre_splitW hpre).1;have hc:l.pre.holds [] { args:=args }=true:=(pre_splitW hpre).2;obtain⟨d,r,rfl,h1,h2⟩:=hasAllW_cons hsh;obtain rfl:=hasAllW_nil h2;obtain⟨xs,rfl,h3⟩:=hasW_list h1;obtain⟨ns,rfl⟩:=items_int h3;have hlen:ns.length<=n:=by
  unfold OpenLaw.pre at hc;have h4:(WTm.not (.lt (.lit (.int (n:Int))) (.len (.arg 0)))).holds [] { args:=[.list (ns.map .int)] }=true:=by
   have h4:=(holds_andW hc).1;rw[hn]at h4;exact h4
  have h5:=condW_of h4 (w_not (w_lt w_lit (w_len_list (w_arg rfl))));rw[GT]at h5;refine Ju λq=>?_;have q':(n:Int)<((ns.length:Nat):Int):=by omega
  first
   |(rw[decide_eq_true q']at h5;exact absurd h5 (by decide))
   |(simp at h5;omega)
 cases hwl with
 |cons w1 w2 =>
  cases w2;cases w1 with
  |list ho hall=>exact⟨_,_,ns,rfl,rfl,ho,uR ns _ hall,hlen⟩

theorem A3(l:OpenLaw)(args:List WData):l.row.toRowW.claim.post args (.bool true) args=true:=
 postW_of (r:=l.row.toRowW) (X:=(true==true))
  (show WShape.has [] (.bool true) .bool=true by first|rfl|decide|simp[WShape.has,WShape.arms,WShape.armsAll])
  (show(WTm.eq .res (.lit (.bool true))).value [] { args:=args,res:=some (.bool true),after:=args }=some (.bool (true==true))from w_eq_bool (w_res rfl) w_lit) rfl

theorem attach_call{l:OpenLaw}{n:Nat}{q:HB}{loose:List Str}{XP:(Str->Option GV)->Heap->Prop}{YP:HF->Heap->Prop}{d:DefRec}
  (hn:l.most=some n)(hdf:d.params.defaults=[])
  (call:∀ (w:HF) (s₀ s₁:GY) (mg mb:Str→Option GV) (fa:Addr) (o:Obj) (pm cd doc:GV) (a:Addr) (vs:List GV) (ns:List Int),
   Ground q loose [] XP w s₀ mg mb s₁.heap->YP w s₁.heap->
   s₁.heap.get? fa=some o->o.data=.func (docDef d.name d.params d.body d.scope pm cd doc)->s₁.heap.CodeRec cd d.name->mg d.name=some (.ref fa)->
   s₁.heap.get? a=some { cls:=.type "list",data:=.seq vs.toArray }->Lv vs ns->ns.length<=n->s₁.gens=#[]->
   JD (HG l.prog w) K5 (.call (.ref fa) ⟨[.ref a],[]⟩) (λr s'=>r=.ok (.ret (.bool true))/\OldK s₁.heap s'.heap/\s'.os=s₁.os/\JW s'.gens) s₁) :
  WalkO q loose XP YP l.row.toRowW d [] (λf vs=>PySem.call f vs):=by
 intro w s₀ s₁ mg mb G Y fa o pm cd doc dV kV ho hd hcd hD hmg hg args vals as hpre hlay hrd hwl hlo;obtain rfl:dV=.none:=Dflts.none hD hdf;obtain rfl:kV=.none:=Dflts.noKw hD;obtain⟨a,vs,ns,rfl,rfl,hobj,hints,hlen⟩:=A2 hn hpre hwl;refine enter_call (Kf (call w s₀ s₁ mg mb fa o pm cd doc a vs ns G Y ho (fd_plain hd) hcd hmg hobj hints hlen hg) λr s' hq=>?_);obtain⟨rfl,h2,h3,h4⟩:=hq;exact⟨.inl ⟨.bool true,.bool true,[],rfl,λ_=>rfl,.bool true,A3 l _,λ_=>⟨List.Pairwise.nil,λ_ hm=>(nomatch hm)⟩⟩,h2,h3,h4⟩

section
variable {prog:HB}{w:HF}{A:HY}{E:GV->GY->Prop}{s:GY}{K:Frag}

end
end Att

namespace L2
open PySem PySem.Spec PyProof.Rows

theorem vX:∀{vs:List GV} {ns:List Int},Lv vs ns->bg (ns.map V.int) vs
 |_,_,.nil=>.nil
 |_,_,.cons n t h=>.cons ⟨t,rfl⟩ (vX h)

def Cp(H:Hp):Prop:=∀b,H b=none\/∃o xs,H b=some (.frz o (.lst xs))

theorem Cq{P:HB}{w:HF}{K:PySem.W.Frag}{mg mb:Str->Option GV}{CX:CXT}{k:Nat}{fa a:Addr}{fd:Hm}{x:Str}{sp:Sp}{s₁:GY}{vs:List GV}{ns:List Int}
  (KX:K.In s₁.heap)(hns:s₁.heap.Ns HC mg)(hb:s₁.heap.Ns Lb mb)(hbb:∀x:Str,x≠"__name__"->mb x=Jh x)(hlim:s₁.heap.NoLimit)(hg:s₁.gens=#[])
  (ha:s₁.heap.get? a=some { cls:=.type "list",data:=.seq vs.toArray })(hi:Lv vs ns)(hl:ns.length<=Hs)(hr:cF k K5)
  (F:∀base:Heap,K.In base->base.Ns HC mg->bi P w K mg base CX k fa fd [x] sp)(hbind:∀(s:GY) (u:GV),BindsTo s fd ⟨[u],[]⟩ [(x,u)])
  (hsp:∀H:Hp,Cp H->SqL K H a (ns.map V.int)->sp [.ref a] H (λv _=>v=.bl true) λ_ _ _=>False)
  (hCX:∀H e s',CX [] H s₁ (λ_ _ _=>False) e s'->False) :
  JD (HG P w) K5 (.call (.ref fa) ⟨[.ref a],[]⟩) (λr s'=>r=.ok (.ret (.bool true))/\OldK s₁.heap s'.heap/\s'.os=s₁.os/\JW s'.gens) s₁:=by
 have rv:=vX hi;have lenV:=hi.length
 -- from an abstract heap in which nothing but the script may be tracked
 have core:∀H:Hp,Cp H->SqL K H a (ns.map V.int)->HOk P w H s₁.heap->(∀b,H b≠none->b=a)->(H a≠none->K.lookup a=none)->
   JD (HG P w) K5 (.call (.ref fa) ⟨[.ref a],[]⟩) (λr s'=>r=.ok (.ret (.bool true))/\OldK s₁.heap s'.heap/\s'.os=s₁.os/\JW s'.gens) s₁:=by
  intro H hO hS hok hA hK;have base_of:∀{b:Addr} {o:Obj},s₁.heap.get? b=some o->H b=none->(pF s₁.heap H).get? b=some o:=λe n=>B9 e n;have noA:∀{b:Addr} {o:Obj} {es:Array Ic} {ep:Nat},s₁.heap.get? b=some o->o.data=.dict es ep->H b=none:=λ{b o es ep} e d=>by
   cases q:H b with
   |none=>rfl
   |some u =>
    have e':b=a:=hA b (by rw[q];simp);subst e';rw[ha]at e;cases e;have d':Data.seq vs.toArray _=Data.dict es ep:=d;cases d'
  have nsK:∀{b:Addr} {m:Str->Option GV},s₁.heap.Ns b m->(pF s₁.heap H).Ns b m:=λ{b m} ⟨o,es,ep,e,d,r⟩=>⟨o,es,ep,base_of e (noA e d),d,r⟩;have hKb:K.In (pF s₁.heap H):=λb o e=>base_of (KX b o e) (by
   cases q:H b with
   |none=>rfl
   |some u =>
    have e':b=a:=hA b (by rw[q];simp);subst e';rw[hK (by rw[q];simp)]at e;cases e)
  have hM:Mod K mg (pF s₁.heap H):=⟨hKb,nsK hns,⟨mb,nsK hb,hbb⟩,let⟨mc,h1,h2⟩:=hlim;⟨mc,nsK h1,h2⟩⟩;have e0:tV P w K mg (pF s₁.heap H) K5 [] s₁ H:=⟨rfl,hM,λb o e=>DC e,Li (AL _ _),trivial,λb hb=>absurd (show b∈([]:List Addr)from hb) (by simp),hok,.of_eq hg⟩;refine Kf ((F _ hKb (nsK hns)).run K5 [] s₁ H ⟨[.ref a],[]⟩ [.ref a] [.ref a] _ _ hr e0 (hbind s₁ (.ref a)) (.cons rfl .nil) (hsp H hO hS)) λr s' h=>?_;cases r with
  |error e=>exact(hCX H e s' h).elim
  |ok fl =>
   cases fl with
   |next=>exact Iz h
   |brk=>exact Iz h
   |cont=>exact Iz h
   |ret u =>
    obtain⟨v,H',os,bare,un,hok',r',q⟩:=h;have q':v=.bl true:=q;subst q';obtain rfl:u=Lc true:=r';refine⟨rfl,OldK.of_keep λb o e=>?_,os,bare⟩;cases q:H b with
    |none=>exact un.keep b o e q (by intro z;exact absurd (show b∈([]:List Addr)from z) (by simp)) (by simp)
    |some u =>
     rcases hO b with z|⟨ob,xs,z⟩
     .rw[q]at z;cases z
     .have z2:=un.frzs b ob _ z;obtain⟨e1,_⟩:=hok b _ z;obtain⟨e2,_⟩:=hok' b _ z2;rw[e]at e1;cases e1;exact e2
 cases hk:K.lookup a with
 |some o =>
  -- the script is one of the module's own objects
  have e:=KX a o hk;rw[ha]at e;cases e;refine core (λ_=>none) (λ_=>.inl rfl) (.inr ⟨_,vs.toArray,_,hk,rfl,rfl,rfl,by rw[Hv,lenV];exact hl,by simpa using rv⟩) (λb u z=>by have z':(none:Option HO)=some u:=z;cases z') (λb z=>absurd rfl z) λz=>absurd rfl z
 |none =>
  refine core (λb=>if b=a then some (.frz { cls:=.type "list",data:=.seq vs.toArray } (.lst (ns.map V.int)))else none) (λb=>?_) (.inl (.inr ⟨{ cls:=.type "list",data:=.seq vs.toArray },if_pos rfl⟩)) (λb u z=>?_) (λb z=>?_) λ_=>hk
  .by_cases hb:b=a
   .exact .inr ⟨_,_,if_pos hb⟩
   .exact .inl (if_neg hb)
  .by_cases hb:b=a
   .have z':=(if_pos hb).symm.trans z;cases z';subst hb;exact⟨ha,by rw[GT];exact hl,vs,_,rv,ha⟩
   .have z':=(if_neg hb).symm.trans z;cases z'
  .by_cases hb:b=a
   .exact hb
   .exact absurd (if_neg hb) z

theorem walk_of{l:PySem.W.OpenLaw}{n k:Nat}{q:HB}{loose:List Str}{XP:(Str->Option GV)->Heap->Prop}{YP:HF->Heap->Prop}{d:DefRec}{K:HR->PySem.W.Frag}{CX:HF->CXT}{sp:HF->Sp}{x:Str}
  (hn:l.most=some n)(hn2:n<=Hs)(hdf:d.params.defaults=[])(hr:cF k K5)
  (hY:∀(w:HF) (h:Heap),YP w h->(K w.params).In h)
  (F:∀ (w:HF) (mg:Str→Option GV) (fa:Addr) (h:Heap),(K w.params).In h→h.Ns HC mg→mg d.name=some (.ref fa) →
   ∃fd:Hm,(∀(s:GY) (u:GV),BindsTo s fd ⟨[u],[]⟩ [(x,u)])/\
    ∀base:Heap,(K w.params).In base->base.Ns HC mg->bi l.prog w (K w.params) mg base (CX w) k fa fd [x] (sp w))
  (hsp:∀(w:HF) (H:Hp) (a:Addr) (ns:List Int),ns.length<=n->Cp H->SqL (K w.params) H a (ns.map V.int)->sp w [.ref a] H (λv _=>v=.bl true) λ_ _ _=>False)
  (hCX:∀(w:HF) (H:Hp) (s:GY) (e:GV) (s':GY),CX w [] H s (λ_ _ _=>False) e s'->False) :
  PySem.W.WalkO q loose XP YP l.row.toRowW d [] (λf vs=>PySem.call f vs):=by
 refine Att.attach_call hn hdf λw s₀ s₁ mg mb fa o pm cd doc a vs ns G Y ho hd hcd hmg hobj hints hlen hg=>?_;have KX:=hY w _ Y;obtain⟨fd,hb,hF⟩:=F w mg fa _ KX G.T.g hmg;exact Cq KX G.T.g G.T.b G.T.builtins G.T.nolimit hg hobj hints (Ho hlen hn2) hr hF hb (λH hO hS=>hsp w H a ns hlen hO hS) λH e s'=>hCX w H s₁ e s'

abbrev CX0:CXT:=λ_ _ _ _ _ _=>False
abbrev E0:XK:=λ_ _ _=>False
theorem eQ{X:Cx}:fD CX0 X E0:=λ_ _ _ _ _ _ _ h=>h.elim

structure Fun(K:PySem.W.Frag)(x qual:Str)(st:Stmt)(f:Addr)(fd:Hm):Prop where
 ex:∃(oc:GV) (od:Option Addr) (kV doc pm:GV) (an:Option Addr) (cdv ct:GV) (osl:Array (Option GV)),
  fd=PySem.W.fnOf x qual (cG st) (b_ st) (au st) .none kV doc pm an cdv ct/\K.lookup f=some ⟨oc,od,.func fd,osl⟩/\PySem.W.codeIn K cdv qual=true
 kp:PySem.W.keepIn K (.ref f)=true
section
variable {P:HB}{w:HF}{K:PySem.W.Frag}{mg:Str->Option GV}{base:Heap}
theorem Fun.ok{x qual:Str}{st:Stmt}{f:Addr}{fd:Hm}{N ps:List Str}{k:Nat}{sp:Sp}(F:Fun K x qual st f fd)(S:aN N ps (au st))(len:∀vs H Q E,sp vs H Q E->vs.length=ps.length)
  (hbody:∀ (cdv:GV) (A:HY) (outer:List Env) (s:GY) (H:Hp) (vs:List V) (Q:VK) (E:XK),cF k (A.deeper (IF qual (au st) s.heap.objs.size f cdv))→sp vs H Q E →
   ∃t,PSs (nP CX0 P w K mg base N qual (au st) f cdv A outer s H E).nox (b_ st) t/\t { nx:=λ_ H'=>Q .non H',rt:=Q } (jd N vs) H):bi P w K mg base CX0 (k+1) f fd ps sp:=by
 obtain⟨oc,od,kV,doc,pm,an,cdv,ct,osl,rfl,lk,hcd⟩:=F.ex;refine zS lk hcd S len λA outer s H vs Q E hr hsp=>?_;obtain⟨t,h,q⟩:=hbody cdv A outer s H vs Q E hr hsp;exact⟨t,h.nox,q⟩
theorem Fun.binds{x qual:Str}{st:Stmt}{f:Addr}{fd:Hm}{ps:List Str}(F:Fun K x qual st f fd)
  (h:∀(kV doc pm:GV) (an:Option Addr) (cdv ct:GV) (us:List GV),us.length=ps.length->KH (PySem.W.fnOf x qual (cG st) (b_ st) (au st) .none kV doc pm an cdv ct) ⟨us,[]⟩=pure (ps.zip us)):gU K fd ps []:=by
 obtain⟨oc,od,kV,doc,pm,an,cdv,ct,osl,rfl,lk,hcd⟩:=F.ex;exact .all (h kV doc pm an cdv ct)
theorem uS{x qual:Str}{st:Stmt}{f:Addr}{oc:GV}{od an:Option Addr}{osl:Array (Option GV)}{kV doc pm cdv ct:GV}(l:K.lookup f=some ⟨oc,od,.func (PySem.W.fnOf x qual (cG st) (b_ st) (au st) .none kV doc pm an cdv ct),osl⟩)
  (c:PySem.W.codeIn K cdv qual=true)(k:PySem.W.keepIn K (.ref f)=true):Fun K x qual st f (PySem.W.fnOf x qual (cG st) (b_ st) (au st) .none kV doc pm an cdv ct):=⟨⟨oc,od,kV,doc,pm,an,cdv,ct,osl,rfl,l,c⟩,k⟩
end
theorem dB{A:HY}{k:Nat}(hr:cF k A):A.units+1<KG:=Hq (Nat.add_le_add_left (by decide:1<=64) _) hr.units
theorem aB{n:Nat}(h:n<=1000):n<Hs:=Hq h (by decide)

section
variable {X:Cx}
theorem pv(i:Nat){x:Str}{pos:Pos}(hN:X.N[i]?=some x:=by rfl)(hv:Vis X.env.scope x:=by first|exact Hh rfl|exact Or.inr (Hh rfl)|exact Or.inr (Or.inr rfl))(hd:(x==("__debug__" : Str))=false:=by decide)
  (hcd:(x==("__classdict__" : Str))=false:=by decide):PE X (.Name x pos) (B_ i):=EA hN hv hd hcd
end

theorem av{A B:Prop}(h:B):if false=true then A else B:=by
 rw[if_neg Hw];exact h
theorem aQ{A B:Prop}(h:A):if true=true then A else B:=by
 rw[if_pos rfl];exact h
theorem d_{c A B:Prop}[Decidable c](h1:c->A)(h2:¬ c->B):if c then A else B:=by
 by_cases h:c
 .rw[if_pos h];exact h1 h
 .rw[if_neg h];exact h2 h
def ak(H H':Hp):Prop:=∀b o,H b=some o->H' b=some o
theorem ak.refl(H:Hp):ak H H:=λ_ _ h=>h
theorem ak.trans{H H1 H2:Hp}(a:ak H H1)(b:ak H1 H2):ak H H2:=λc o h=>b c o (a c o h)
theorem ak.free{H H':Hp}(e:ak H H'){l:Addr}(h:H' l=Option.none):H l=Option.none:=by
 cases q:H l with
 |none=>rfl
 |some o =>
  rw[e l o q]at h;cases h
theorem ak.seq{K:PySem.W.Frag}{H H':Hp}{a:Addr}{xs:List V}(e:ak H H')(h:SqL K H a xs):SqL K H' a xs:=by
 rcases h with(h|⟨o,h⟩)|h
 .exact .inl (.inl (e _ _ h))
 .exact .inl (.inr ⟨o,e _ _ h⟩)
 .exact .inr h

section
variable {κ:Type}[DecidableEq κ]
end

section
variable {prog:HB}{w:HF}{A:HY}{R:J9->GY->Prop}{s:GY}
theorem xM{elt target iter:Expr}{ifs:List Expr}{scope:Scope}{pos:Pos}{it acc:GV}{env:Env}(I:Nat->GY->Prop)
  (turn:∀ n s,I n s→HK (HG prog w) A (pyNext it) (fun r s₁=>match r with
   |none=>R (.ok .next) s₁
   |some v=>HK (HG prog w) A (J8 target it v) (λ_ s₀=>HK (HG prog w) A (Ld target env v) (λ_ s₂ =>
     HK (HG prog w) A (forIn ifs true λc r=>if r=true then do let ok<-isTrue c env (eval c env);pure (J_ ok)else pure (J_ r)) (λok s₃ =>
      if ok=true then HK (HG prog w) A (eval elt env) (λx s₄ =>
       HK (HG prog w) A (call (.builtin "list.append") [acc,x]) (λ_ s₅=>∃m,m<n/\I m s₅) (λ_ _=>False) s₄) (λ_ _=>False) s₃
      else ∃m,m<n/\I m s₃) (λ_ _=>False) s₂) (λ_ _=>False) s₀) (λ_ _=>False) s₁) (λ_ _=>False) s)
  (n:Nat) (h:I n s):JD (HG prog w) A (.compLoop (.ListComp elt [⟨target,iter,ifs,0⟩] scope pos) 0 it acc env) R s:=by
 refine codeAny_loop rfl I (λn s hI=>?_) n h;show HK _ A ((compTurn (.ListComp elt [⟨target,iter,ifs,0⟩] scope pos) 0 it acc env).onRaise (λx=>do noteFrame x env;theTreesLotGoes x)) _ _ s
 refine wpAny_noted ?_;rw[compTurn_list];refine Hy (K7 (Hy (Ii (turn n s hI) (λr s₁ h₁=>?_) λ_ _ h'=>h'.elim)));cases r with
 |none=>exact Ig h₁
 |some v =>
  refine Hy (Ii h₁ (λ_ s₀ h₀=>?_) λ_ _ h'=>h'.elim);refine Hy (Ii h₀ (λ_ s₂ h₂=>Hy (Ii h₂ (λok s₃ h₃=>?_) λ_ _ h'=>h'.elim)) λ_ _ h'=>h'.elim);cases ok with
  |false=>exact Ig ⟨rfl,h₃⟩
  |true =>
   exact Hy (Hy (Ii h₃ (λx s₄ h₄=>Hy (Ii h₄ (λ_ s₅ h₅=>Ig (Ig ⟨rfl,h₅⟩)) λ_ _ h'=>h'.elim)) λ_ _ h'=>h'.elim))
end

def PTs(X:Cx)(ifs:List Expr)(t:TT):Prop:=
 ∀(pins:List (Addr×Obj)) (s:GY) (σ:St) (H:Hp) (Q:Bool->Hp->Prop),Inv X pins σ H s->t σ H Q->
  HK (HG X.prog X.w) X.A (forIn ifs true λc r=>if r=true then do let ok<-isTrue c X.env (eval c X.env);pure (J_ ok)else pure (J_ r)) (TP X pins σ Q) X.xe s
def ER:TT:=λ_ H Q=>Q true H
theorem dY{X:Cx}:PTs X [] ER:=λ_ _ _ H _ I h=>wpAny_tests_nil ⟨H,I,h⟩
theorem jW{X:Cx}{c:Expr}{t:TT}(h:PT X c t):PTs X [c] t:=λpins s σ H Q I hw=>wpAny_tests_one (h pins s σ H Q I hw)

abbrev Cx.blk(X:Cx)(N:List Str)(s:GY)(H:Hp)(scope:Scope)(cl:List (Str×Addr))(C:Addr)(ex:List Addr):Cx:=
 { X with N:=N,s₀:=s,H₀:=H,env:=compEnvC scope cl C X.env,outer:=X.stack,stack:=X.stack,ex:=ex,fn:=λ_=>false,pn:=[],xe:=λ_ _=>False }

def tY(env:Env):List (Str×Addr)->Prop
 |[]=>True
 |p::r=>env.cells.lookup p.1=some p.2/\tY env r
theorem lF{α:Type}:∀{l:List (Str×α)} {x:Str} {k:α},l.lookup x=some k->(x,k)∈l
 |[],_,_,h=>by simp at h
 |(n,k')::r,x,k,h=>by
  rw[List.lookup_cons]at h;cases hx:x==n with
  |true =>
   rw[hx]at h;have e:x=n:=K6 hx;have e2:k'=k:=HV h;rw[e,e2];exact He
  |false =>
   rw[hx]at h;exact Hb _ (lF h)
theorem tY.get{env:Env}:∀{cl:List (Str×Addr)} {x:Str} {c:Addr},tY env cl->cl.lookup x=some c->env.cells.lookup x=some c:=λ{cl x c} h e=>by
 have go:∀(l:List (Str×Addr)),tY env l->∀p∈l,env.cells.lookup p.1=some p.2:=by
  intro l;induction l with
  |nil=>intro _ p hp;cases hp
  |cons q r ih =>
   intro ha p hp;rcases List.mem_cons.mp hp with rfl|hp
   .exact ha.1
   .exact ih ha.2 p hp
 exact go cl h (x,c) (lF e)
def lG(X:Cx)(scope:Scope)(cl:List (Str×Addr)):List Str->List Nat->Prop
 |[],[]=>True
 |y::ys,j::js=>(X.N[j]?=some y/\(X.env.kindOf y=some .cell\/X.env.kindOf y=some .free)/\(cl.lookup y).isSome=true/\((Je scope X.env).names.lookup y=some .cell\/(Je scope X.env).names.lookup y=some .free))/\lG X scope cl ys js
 |_,_=>False
theorem lG.get{X:Cx}{scope:Scope}{cl:List (Str×Addr)}:∀{ys:List Str} {js:List Nat} {i:Nat} {y:Str},lG X scope cl ys js->ys[i]?=some y->
  ∃j,js[i]?=some j/\X.N[j]?=some y/\(X.env.kindOf y=some .cell\/X.env.kindOf y=some .free)/\(cl.lookup y).isSome=true/\((Je scope X.env).names.lookup y=some .cell\/(Je scope X.env).names.lookup y=some .free)
 |[],_,_,_,_,e=>by simp at e
 |_::_,[],_,_,h,_=>h.elim
 |y::ys,j::js,0,z,h,e=>by
  have e':y=z:=by simpa using e
  subst e';exact⟨j,rfl,h.1⟩
 |y::ys,j::js,i+1,z,h,e=>by
  obtain⟨k,e1,e2⟩:=lG.get (i:=i) h.2 (by simpa using e);exact⟨k,by simpa using e1,e2⟩
theorem lG.len{X:Cx}{scope:Scope}{cl:List (Str×Addr)}:∀{ys:List Str} {js:List Nat},lG X scope cl ys js->ys.length=js.length
 |[],[],_=>rfl
 |[],_::_,h=>h.elim
 |_::_,[],h=>h.elim
 |_::_,_::_,h=>by rw[GU,GU,lG.len h.2]
def rf(σ:St)(js:List Nat):St:=js.map λj=>(σ[j]?).join
theorem xN{scope:Scope}{env:Env}{x:Str}(hcell:∀y∈scope.names,y.2≠.cell)(h:(Je scope env).names.lookup x=some .cell\/(Je scope env).names.lookup x=some .free):(x,KB)∈scope.names:=by
 have hm:∃k,(k=NameKind.cell\/k=KB)/\(x,k)∈(Je scope env).names:=by
  rcases h with h|h
  .exact⟨_,.inl rfl,lF h⟩
  .exact⟨_,.inr rfl,lF h⟩
 obtain⟨k,hk,hm⟩:=hm;obtain⟨⟨n,k'⟩,hin,e⟩:=List.mem_map.mp hm;dsimp only at e;by_cases hc:(k'==KB&&env.scope.kind==.function&&env.kindOf n==some .cell)=true
 .rw[if_pos hc]at e;cases e;have:k'=KB:=by
   rw[Iu,Iu]at hc;exact K6 hc.1.1
  rw[<-this];exact hin
 .rw[if_neg hc]at e;cases e;rcases hk with hk|hk
  .exact absurd hk (hcell _ hin)
  .rw[<-hk];exact hin
section
variable {X:Cx}{pins:List (Addr×Obj)}{σ:St}{H:Hp}{s:GY}
theorem Inv.adopt{D:Addr}{ys:List V}{its:List GV}{n:Nat}(I:Inv X pins σ H s)(hn:H D=none)(hnew:X.s₀.heap.objs.size<=D)(hL:D≠X.env.locals)(hc:∀x c,X.env.cells.lookup x=some c->c≠D)(hp:∀p∈X.pn++pins,p.1≠D)
  (e:s.heap.get? D=some { cls:=.type "list",data:=.seq its.toArray n })(hv:bg ys its)(hz:ys.length<=Hs):Inv X pins σ (upd H D (.lst ys)) s:=by
 have ne:∀b u,H b=some u->b≠D:=λb u q=>cB q hn;refine⟨I.ok,I.os,I.bare,⟨I.base.keep,I.base.slot,λb o q nn hx=>?_,I.base.there,λb xs q=>?_,λb o u q=>?_,λb ps q=>?_⟩,I.loc,I.cell,?_,λx c q=>?_,λp hq=>?_,λb u q=>?_,I.len⟩
 .rw[aj (Hr (Hx (Hl q) hnew))];exact I.base.free b o q nn hx
 .have z:=I.base.tups b xs q;rw[aj (ne b _ z)];exact z
 .have z:=I.base.frzs b o u q;rw[aj (ne b _ z)];exact z
 .obtain⟨more,z⟩:=I.base.tbls b ps q;exact⟨more,by rw[aj (ne b _ z)];exact z⟩
 .rw[aj (HW hL)];exact I.free
 .rw[aj (hc x c q)];exact I.freeC x c q
 .obtain⟨a1,a2,a3⟩:=I.pin p hq;exact⟨a1,by rw[aj (hp p hq)];exact a2,a3⟩
 .by_cases hb:b=D
  .subst hb;rw[ac]at q;cases q;exact⟨hz,its,n,hv,e⟩
  .rw[aj hb]at q;exact(I.hok b u q).stay (λc v _ r=>r) (λc r=>by rw[aj (ne c _ r)];exact r) λc xs r=>by rw[aj (ne c _ r)];exact r
structure zU(X:Cx)(pins:List (Addr×Obj))(σ:St)(C D:Addr)(H:Hp)(s:GY):Prop where
 inv:Inv X pins σ H s
 ns:∃m,s.heap.Ns C m
 nL:C≠X.env.locals
 new:X.s₀.heap.objs.size<=C
 nc:∀x c,X.env.cells.lookup x=some c->c≠C
 np:∀p∈X.pn++pins,p.1≠C
 free:H C=none
theorem zU.gone{C D:Addr}{h':Heap}(O:zU X pins σ C D H s)(sb:Ji C s.heap h'):Inv X pins σ H { s with heap:=h' }:=
 O.inv.turned (t':=s.toks) (it:=C) (λb o hb e=>(sb.2 b hb).trans e) O.free O.nL (.inr O.new) O.nc O.np
end

def gLC(J:It)(g:TG)(tc:TT)(te:TE)(n:Nat)(cv:St)(Fin:List V->Hp->Prop)(H1:Hp):Prop:=
 ∃W:Nat->Nat->List V->Hp->Prop,(∃m,W 0 m [] H1)/\∀i m ys H,W i m ys H->
  (J.stop i H/\Fin ys H)\/
  (J.go i H∧ys.length < Hs∧∃ N:List V→Hp→Prop,(∀ ys' H',N ys' H'→∃ m',m' < m∧W (i+1) m' ys' H')∧∀ x H',J.yld i H x H'→∀ own:St,own.length=n→g x (own++cv) H' fun σ2 H2=>(∃ own2:St,own2.length=n∧σ2=own2++cv) ∧
   tc σ2 H2 λb H3=>if b=true then te σ2 H3 λy H4=>N (ys++[y]) H4 else N ys H3)

def vo(env:Env):List (Str×K0)->List (Str×Addr)->List (Str×Addr)
 |[],acc=>acc
 |(n,k)::r,acc=>vo env r (if k==.free then(match env.cells.lookup n with|some c=>(n,c)::acc|none=>acc)else acc)
theorem xO(env:Env):∀(names:List (Str×K0)) (acc:List (Str×Addr)),tY env acc->tY env (vo env names acc)
 |[],_,h=>h
 |(n,k)::r,acc,h=>by
  refine xO env r _ ?_
  split
  .split
   .exact⟨by assumption,h⟩
   .exact h
  .exact h
structure pK(X:Cx)(scope:Scope)(cl:List (Str×Addr))(own caps:List Str)(js:List Nat):Prop where
 clos:closureFor scope X.env=pure cl
 cell:∀y∈scope.names,y.2≠.cell
 kind:scope.kind=.function
 names:∀y∈scope.names,y.2=.local->scope.names.lookup y.1=some .local
 allc:tY X.env cl
 free:(scope.names.all λy=>y.2 != .free||(cl.lookup y.1).isSome)=true
 cap:lG X scope cl caps js

theorem fb{X:Cx}{scope:Scope}{own caps:List Str}{js:List Nat}(clos:closureFor scope X.env=pure (vo X.env scope.names []):=by with_unfolding_all rfl)(cell:∀y∈scope.names,y.2≠.cell:=by decide +kernel)(kind:scope.kind=.function:=by rfl)
  (names:∀y∈scope.names,y.2=.local->scope.names.lookup y.1=some .local:=by decide +kernel)(free:(scope.names.all λy=>y.2 != .free||((vo X.env scope.names []).lookup y.1).isSome)=true:=by with_unfolding_all rfl)
  (cap:lG X scope (vo X.env scope.names []) caps js):pK X scope (vo X.env scope.names []) own caps js:=⟨clos,cell,kind,names,xO _ _ _ trivial,free,cap⟩
section
variable {X:Cx}{elt iter target:Expr}{ifs:List Expr}{scope:Scope}{cl:List (Str×Addr)}{pos:Pos}{own caps:List Str}{js:List Nat}{g:TG}{tc:TT}{te:TE}
theorem xP{pins:List (Addr×Obj)}{σ:St}{s₂:GY}{H1:Hp}{it:Addr}{fp:List Addr}{tn:Nat->Heap->Prop}{J:It}{Fin:List V->Hp->Prop}{RR:GV->Addr->J9->GY->Prop}{E:GV->GY->Prop}
  (hc:X.calm=true)(L:pK X scope cl own caps js)
  (hg:∀s H C ex,PG (X.blk (own++caps) s H scope cl C ex) target g)(ht:∀s H C ex,PTs (X.blk (own++caps) s H scope cl C ex) ifs tc)(he:∀s H C ex,PE (X.blk (own++caps) s H scope cl C ex) elt te)
  (I2:Inv X pins σ H1 s₂)(T:pH X.prog X.w X.K target J fp it tn)(st2:tn 0 s₂.heap)(f2:∀b∈fp,qW X pins H1 b)
  (G:gLC J g tc te own.length (rf σ js) Fin H1)
  (hRR:∀D C H ys s',H D=none->zU X pins σ C D (upd H D (.lst ys)) s'->Fin ys H->RR (.ref D) C (.ok .next) s') :
  HK (HG X.prog X.w) X.A (newList []) (λacc s₃=>HK (HG X.prog X.w) X.A (newFunctionEnv scope X.env.globals cl [] X.env.qual none .none (some X.env)) (λcenv s₄ =>
   JD (HG X.prog X.w) X.A (.compStart (.ListComp elt [⟨target,iter,ifs,0⟩] scope pos) 0 (.ref it) acc { cenv with scope:=Je scope X.env }) (RR acc cenv.locals) s₄) E s₃) E s₂:=by
 refine Ku (wpAny_newFunctionEnv L.cell (by intro y hy;simp at hy) (λh₁ hns₁ hsb₁=>?_) L.kind);dsimp only at hns₁ hsb₁⊢;generalize hH2:s₂.heap.push { cls:=.type "list",dict:=none,data:=.seq ([]:List GV).toArray }=G2 at hns₁ hsb₁⊢;have hC:G2.objs.size=s₂.heap.objs.size+1:=by rw[<-hH2,JN]
 have up2:∀b o,s₂.heap.get? b=some o->G2.get? b=some o:=λb o e=>hH2▸Hg _ e;have hDC:s₂.heap.objs.size≠G2.objs.size:=by rw[hC];exact Hr (Jf _)
 have hD2:G2.get? s₂.heap.objs.size=some { cls:=.type "list",data:=.seq ([]:List GV).toArray ([]:List GV).length }:=hH2▸HI _ rfl
 -- the state with the list laid
 have I3:Inv X pins σ H1 { s₂ with heap:=G2 }:=I2.kept (t':=s₂.toks) up2;have up3:∀b o,G2.get? b=some o->h₁.get? b=some o:=λb o e=>hsb₁.extBut b o (Hr (Hl e)) (Hg _ e);have DH:H1 s₂.heap.objs.size=none:=I2.fresh;have CH:H1 G2.objs.size=none:=I3.fresh;have fpl:∀b∈fp,b<s₂.heap.objs.size:=λb hb=>by
  obtain⟨o,e,_⟩:=T.obj 0 _ st2 b hb;exact Hl e
 have celllt:∀x c,X.env.cells.lookup x=some c->c<s₂.heap.objs.size:=λx c e=>by
  obtain⟨v,q⟩:=I2.cell x c e;exact q.lt
 have locl:X.env.locals<s₂.heap.objs.size:=I2.lt;generalize hD:s₂.heap.objs.size=D at *;generalize hCC:G2.objs.size=C at *;have hDltC:D<C:=by omega
 have noF:∀b,b∈frs X.stack->b<D:=λb hb=>by
  rcases List.mem_cons.mp (I2.stkSub b hb)with e|hb
  .rw[e];exact locl
  .obtain⟨_,o,ho,_⟩:=I2.ok.funs.mem hb;exact Hx (Hl ho) (hD▸I2.sz)
 have fpF:∀b∈fp,b∉frs X.stack:=λb hb z=>by
  obtain⟨_,e1,e2,_⟩:=f2 b hb;rcases List.mem_cons.mp (I2.stkSub b z)with e|z
  .exact e1 e
  .exact e2 z
 have ok':(X.blk (own++caps) { s₂ with heap:=G2 } H1 scope cl C (D::fp)).Ok:={
  mod:=I2.ok.mod
  kind:=L.kind
  glob:=I2.ok.glob
  blt:=I2.ok.blt
  above:=Li hCC
  inj:=λx y c e1 e2=>I2.ok.inj x y c (L.allc.get e1) (L.allc.get e2)
  has:=λx hx=>by
   have hm:=xN L.cell hx;have q:=List.all_eq_true.mp L.free _ hm;have q':(cl.lookup x).isSome=true:=by simpa using q
   exact Option.isSome_iff_exists.mp q'
  cab:=λx c e=>nomatch e
  hd:=I2.ok.hd
  frames:=I2.ok.frames
  stk:=.inl rfl
  exf:=λb hb=>by
   rcases List.mem_cons.mp hb with rfl|hb
   .exact⟨Hr hDltC,λx c e=>Hr (celllt x c (L.allc.get e))⟩
   .obtain⟨_,e1,e2,_,e4,_⟩:=f2 b hb;exact⟨Hr (IQ (fpl b hb) hDltC),λx c e=>e4 x c (L.allc.get e)⟩
  bs:=λb o e=>⟨up2 b o (I2.bs b o e).1,(I2.bs b o e).2⟩
  bsz:=by
   show X.base.objs.size<=G2.objs.size;have:=I2.ok.bsz;have:=I2.sz;omega
  noex:=λb o e hb=>by
   have hlt:=Hl (I2.bs b o e).1;rcases List.mem_cons.mp hb with z|hb
   .exact absurd (show b<D from hD▸hlt) (by rw[z];exact Iq _)
   .obtain⟨_,_,_,e3,_⟩:=f2 b hb;rcases e3 with e3|e3
    .exact I2.ok.noex b o e e3
    .exact absurd (Hx (Hl (I2.ok.bs b o e).1) e3) (Iq _)
  exfs:=λb hb z=>by
   rcases List.mem_cons.mp hb with e|hb
   .exact absurd (noF b z) (by rw[e];exact Iq _)
   .exact fpF b hb z
  funs:=I3.stack
  frf:=I3.stkFree }
 have hns:h₁.Ns C (λx=>([]:List (Str×GV)).reverse.lookup x):=hns₁;have jd:Inv (X.blk (own++caps) { s₂ with heap:=G2 } H1 scope cl C (D::fp)) [(D,Kv [])] (Hd own.length none++rf σ js) H1 { s₂ with heap:=h₁,toks:=s₂.toks+([]:List (Str×GV)).length }:=by
  refine⟨ok',rfl,I2.bare,Un.kept up3,⟨_,hns,λi x v e1 e2 e3=>?_⟩,λx c e=>?_,CH,λx c e=>I2.freeC x c (L.allc.get e),λp hp=>?_,I3.hok.kept up3,?_⟩
  .have hlo:own.length<=i:=by
    refine Ju λhlt=>?_;rw[Jw (by rw[Ib];exact hlt),List.getElem?_replicate,if_pos hlt]at e2;cases e2
   have e1':caps[i-own.length]?=some x:=by rw[<-IV hlo];exact e1
   obtain⟨j,j1,j2,j3,j4,j5⟩:=L.cap.get e1';have e2':(rf σ js)[i-own.length]?=some (some v):=by
    rw[<-e2,IV (by rw[Ib];exact hlo),Ib]
   have e4:σ[j]?=some (some v):=by
    unfold rf at e2';rw[HA,j1]at e2';have e5:(σ[j]?).join=some v:=HV e2';cases hq:σ[j]? with
    |none=>rw[hq]at e5;cases e5
    |some q=>rw[hq]at e5;exact congrArg some e5
   obtain⟨m,hn,hl⟩:=I2.loc;obtain⟨u,ru,lk⟩:=hl j x v j2 e4 (.inr j3);refine⟨u,ru,.inr ⟨j5,?_⟩⟩;rcases lk with⟨k,_⟩|⟨_,c,ec,o,ho,hd⟩
   .rcases j3 with z|z<;>(rw[k]at z;cases z)
   .obtain⟨c',ec'⟩:=Option.isSome_iff_exists.mp j4;have:=L.allc.get ec';rw[ec]at this;cases this;exact⟨c,ec',o,up3 _ _ (up2 _ _ ho),hd⟩
  .obtain⟨v,o,ho,hd⟩:=I2.cell x c (L.allc.get e);exact⟨v,o,up3 _ _ (up2 _ _ ho),hd⟩
  .have e:p=(D,Kv []):=by simpa using hp
   subst e;exact⟨up3 _ _ hD2,DH,Hr hDltC,λz=>absurd (noF D z) (Iq _),λv z=>by cases z⟩
  .rw[GX,GX,Ib];unfold rf;rw[GT,L.cap.len]
 obtain⟨W,⟨m0,w0⟩,turn⟩:=G;have loop:JD (HG X.prog X.w) X.A (.compLoop (.ListComp elt [⟨target,iter,ifs,0⟩] scope pos) 0 (.ref it) (.ref D) (compEnvC scope cl C X.env)) (RR (.ref D) C) { s₂ with heap:=h₁,toks:=s₂.toks+([]:List (Str×GV)).length }:=by
  refine xM (λn s'=>∃i ys its ow H',Inv (X.blk (own++caps) { s₂ with heap:=G2 } H1 scope cl C (D::fp)) [(D,Kv its)] (ow++rf σ js) H' s'/\ow.length=own.length/\tn i s'.heap/\(∀b∈fp,H' b=none)/\bg ys its/\ys.length<=Hs/\W i n ys H') ?_ m0
   ⟨0,[],[],Hd own.length none,H1,jd,Ib,T.keep _ _ _ st2 λb _ o e=>up3 _ _ (up2 _ _ e),λb hb=>(f2 b hb).1,.nil,HZ _,w0⟩
  rintro n s' ⟨i,ys,its,ow,H',I',hlo,st,fr,hv,hz,wv⟩;have fpok:∀{H'':Hp},(∀b∈fp,H'' b=none)->∀b∈fp,qW (X.blk (own++caps) { s₂ with heap:=G2 } H1 scope cl C (D::fp)) [(D,Kv its)] H'' b:=λhn b hb=>by
   obtain⟨_,e1,e2,e3,e4,e5⟩:=f2 b hb;refine⟨hn b hb,Hr (IQ (fpl b hb) hDltC),fpF b hb,.inl (Hb _ hb),λx c e=>e4 x c (L.allc.get e),λp hp=>?_⟩;have e:p=(D,Kv its):=by simpa using hp
   subst e;exact IN (fpl b hb)
  rcases turn i n ys H' wv with⟨stop,fin⟩|⟨go,hlt,N,hN,step⟩
  .refine Ii (T.done (X.blk (own++caps) { s₂ with heap:=G2 } H1 scope cl C (D::fp)) rfl rfl rfl hc i _ s' _ H' (λ_ _=>False) I' (fpok fr) st stop) (λr s4 ⟨hr,I4⟩=>?_) λ_ _ f=>f;subst hr;have pD:=I4.pin (D,Kv its) (by simp);have hch:∀b∈D::fp,(b∈X.ex\/X.s₀.heap.objs.size<=b)/\b≠X.env.locals/\(∀x c,X.env.cells.lookup x=some c->c≠b)/\∀p∈X.pn++pins,p.1≠b:=λb hb=>by
    rcases List.mem_cons.mp hb with rfl|hb
    .exact⟨.inr (hD▸I2.sz),IN locl,λx c e=>Hr (celllt x c e),λp hp=>Hr (hD▸Hl (I2.pin p hp).1)⟩
    .obtain⟨_,e1,e2,e3,e4,e5⟩:=f2 b hb;exact⟨e3,e1,e4,e5⟩
   have IX:Inv X pins σ H' s4:=I2.call' (ch:=D::fp) I4.os ((Un.kept up2).trans I4.base) I4.hok I4.bare hch;have cD:=hch D He;have IA:Inv X pins σ (upd H' D (.lst ys)) s4:=IX.adopt pD.2.1 (hD▸I2.sz) cD.2.1 cD.2.2.1 cD.2.2.2 pD.1 hv hz;obtain⟨mm,hmm,_⟩:=I4.loc;refine hRR D C H' ys s4 pD.2.1 ⟨IA,⟨mm,hmm⟩,IN (IQ locl hDltC),?_,λx c e=>Hr (IQ (celllt x c e) hDltC),λp hp=>?_,?_⟩ fin
   .have:=I2.sz;omega
   .exact Hr (IQ (show p.1<D from hD▸Hl (I2.pin p hp).1) hDltC)
   .rw[aj (IN hDltC)];exact I4.free
  .refine Ii (T.item (X.blk (own++caps) { s₂ with heap:=G2 } H1 scope cl C (D::fp)) rfl rfl rfl hc i _ s' _ H' (λ_ _=>False) I' (fpok fr) st go) (λr s4 ⟨u,hr,h4⟩=>?_) λ_ _ f=>f;subst hr;refine Ii h4 (λ_ s5 ⟨x,H5,I5,r5,y5,st5,fr5⟩=>?_) λ_ _ f=>f;have I5':=I5.pinned (fpok fr5) (T.obj _ _ st5);have keepT:∀{σ8:St} {H8:Hp} {s8:GY},Inv (X.blk (own++caps) { s₂ with heap:=G2 } H1 scope cl C (D::fp)) ([(D,Kv its)]++qY fp s5.heap) σ8 H8 s8->tn (i+1) s8.heap/\∀b∈fp,H8 b=none:=λ{σ8 H8 s8} I8 =>
    ⟨T.keep _ _ _ st5 fun b hb o e=>(I8.pin (b,o) (HN _ (HN _ (lE hb e)))).1,fun b hb=>by
     obtain⟨o,e,d⟩:=T.obj _ _ st5 b hb;exact(I8.pin (b,o) (HN _ (HN _ (lE hb e)))).2.1⟩
   refine Ii (hg _ _ _ _ _ s5 _ H5 x u _ I5' r5 (step x H5 y5 ow hlo)) (λ_ s6 ⟨σ6,H6,I6,⟨own2,hl2,e6⟩,q6⟩=>?_) λ_ _ f=>f;subst e6;refine Ii (ht _ _ _ _ _ s6 _ H6 _ I6 q6) (λb s7 ⟨H7,I7,q7⟩=>?_) λ_ _ f=>f;cases b with
   |false =>
    rw[if_neg Hw];rw[if_neg Hw]at q7;obtain⟨m',hm,w7⟩:=hN _ _ q7;obtain⟨k1,k2⟩:=keepT I7;exact⟨m',hm,i+1,ys,its,own2,H7,I7.unpinned,hl2,k1,k2,hv,hz,w7⟩
   |true =>
    rw[if_pos rfl];rw[if_pos rfl]at q7;refine Ii (he _ _ _ _ _ s7 _ H7 _ I7 q7) (λy s8 ⟨vy,H8,I8,r8,n8⟩=>?_) λ_ _ f=>f;obtain⟨m',hm,w8⟩:=hN _ _ n8;obtain⟨k1,k2⟩:=keepT I8;have pD:=I8.pin (D,Kv its) (by simp);have hyl:=hv.length;refine append_at (hsz:=by show its.toArray.size<=Hs;rw[Hv];omega) pD.1 λh9 hs9 hD9=>?_;have I9:Inv (X.blk (own++caps) { s₂ with heap:=G2 } H1 scope cl C (D::fp)) [] (own2++rf σ js) H8 { s8 with heap:=h9 }:=by
     refine(I8.pins_of (pins':=[]) λp hp=>nomatch hp).turned (t':=s8.toks) (it:=D) (λb o hb e=>(hs9.2 b hb).trans e) pD.2.1 (Hr hDltC) (.inl He) (λx c e=>Hr (celllt x c (L.allc.get e))) λp hp=>?_;simp at hp
    refine⟨m',hm,i+1,ys++[vy],its++[y],own2,H8,I9.pins_of λp hp=>?_,hl2,T.keep _ _ _ k1 λb hb o e=>(hs9.2 b (Hr (fpl b hb))).trans e,k2,hv.append (.cons r8 .nil),?_,w8⟩
    .have e:p=(D,Kv (its++[y])):=by simpa using hp
     subst e;exact⟨hD9.trans (congrArg some (LCg.lst_snoc its y)),pD.2.1,Hr hDltC,λz=>absurd (noF D z) (Iq _),λv z=>by cases z⟩
    .rw[GX,Jn];omega
 exact codeAny_compStart_list loop (T.self _ _ _ _ _ (T.keep _ _ _ st2 λb _ o e=>up3 _ _ (up2 _ _ e)) loop)

def vp(wi:TI)(g:TG)(tc:TT)(te:TE)(n:Nat)(js:List Nat):TE:=λσ H Q=>wi σ H λJ H1=>gLC J g tc te n (rf σ js) (λys H=>∀p,H p=none->Q (.ref p) (upd H p (.lst ys))) H1
variable {wi:TI}
theorem xQ(hc:X.calm=true)(L:pK X scope cl own caps js)(hi:PI X target iter wi)
  (hg:∀s H C ex,PG (X.blk (own++caps) s H scope cl C ex) target g)(ht:∀s H C ex,PTs (X.blk (own++caps) s H scope cl C ex) ifs tc)(he:∀s H C ex,PE (X.blk (own++caps) s H scope cl C ex) elt te)
  (hs:∀x,Iv iter X.env x=pure x:=by intro _;rfl):PE X (.ListComp elt [⟨target,iter,ifs,0⟩] scope pos) (vp wi g tc te own.length js):=by
 intro pins s σ H Q I h;rw[eval_ListComp];refine wpAny_comprehension_free (use:=none) rfl hs L.clos L.kind L.names (thn (hi pins s σ H _ I h) λv s1 h1=>thn h1 λitv s2 h2=>?_);obtain⟨it,fp,tn,J,H2,e,I2,T,st2,f2,G⟩:=h2;subst e;refine xP hc L hg ht he I2 T st2 f2 G ?_;intro D C H3 ys s' hD O fin;obtain⟨m,hn⟩:=O.ns;exact⟨m,hn,λh' sb=>⟨.ref D,_,O.gone sb,rfl,fin D hD⟩⟩
theorem A4{k:Nat}{y:Str}{py spos:Pos}(hc:X.calm=true)(L:pK X scope cl own caps js)(hi:PI X target iter wi)
  (hg:∀s H C ex,PG (X.blk (own++caps) s H scope cl C ex) target g)(ht:∀s H C ex,PTs (X.blk (own++caps) s H scope cl C ex) ifs tc)(he:∀s H C ex,PE (X.blk (own++caps) s H scope cl C ex) elt te)
  (hN:X.N.Nodup)(hk:X.N[k]?=some y)(hy:X.env.scope.names.lookup y=some .local)
  (hsw:JI (.ListComp elt [⟨target,iter,ifs,0⟩] scope pos) (some (.Name y py)) spos.line X.env=pure true:=by rfl)
  (hs:∀x,Iv iter X.env x=pure x:=by intro _;rfl):PS X (.Assign [.Name y py] (.ListComp elt [⟨target,iter,ifs,0⟩] scope pos) spos) (tT (vp wi g tc te own.length js) (bB k)):=by
 intro pins s σ H De I h;rw[exec_Assign_Name_used _ _ _ _ hsw];refine Hy (K7 (Hy ?_));show HK _ _ (do let _<-comprehension (.ListComp elt [⟨target,iter,ifs,0⟩] scope pos) scope X.env _ (newList []) false (eval iter X.env) (some (Ld (.Name y py) X.env))) _ _ s
 refine Hy (Ii (wpAny_comprehension_free (use:=some (Ld (.Name y py) X.env)) (Q:=λ_ s'=>SP X pins De .next s') rfl hs L.clos L.kind L.names
  (thn (hi pins s σ H _ I h) λv s1 h1=>thn h1 λitv s2 h2=>?_)) (λ_ s' hq=>Ig (Ig hq)) λ_ _ e=>e)
 obtain⟨it,fp,tn,J,H2,e,I2,T,st2,f2,G⟩:=h2;subst e;refine xP hc L hg ht he I2 T st2 f2 G ?_;intro D C H3 ys s' hD O fin;show HK _ _ (Ld (.Name y py) X.env (.ref D)) _ _ _;refine wpAny_assign_Name (vP O.inv hN hk (.inl hy) (show bo (.ref D) (.ref D)from rfl) (λs'' I'' sb=>?_) (.inr hy));obtain⟨a,hsb,ha⟩:=sb;have hne:C≠a:=by
  rcases ha with rfl|ha
  .exact O.nL
  .exact HW (O.nc _ _ ha)
 obtain⟨m,hn⟩:=O.ns;refine⟨m,hn.sameBut hsb hne,λh' sb'=>⟨_,_,?_,fin D hD⟩⟩;exact I''.turned (t':=s''.toks) (it:=C) (λb o hb e=>(sb'.2 b hb).trans e) O.free O.nL (.inr O.new) O.nc O.np
end

section
variable {X:Cx}{elt iter:Expr}{ifs:List Expr}{scope:Scope}{cl:List (Str×Addr)}{pos:Pos}{caps:List Str}{js:List Nat}{tc:TT}{te:TE}{wi:TI}{x:Str}{px:Pos}
theorem Cr{J:It}{cv:St}{Fin:List V->Hp->Prop}{H1:Hp}(h:∃W:Nat->Nat->List V->Hp->Prop,(∃m,W 0 m [] H1)/\∀i m ys H,W i m ys H->
  (J.stop i H/\Fin ys H)\/
  (J.go i H∧ys.length < Hs∧∃ N:List V→Hp→Prop,(∀ ys' H',N ys' H'→∃ m',m' < m∧W (i+1) m' ys' H')∧∀ x H',J.yld i H x H' →
   tc (some x::cv) H' λb H3=>if b=true then te (some x::cv) H3 λy H4=>N (ys++[y]) H4 else N ys H3)):gLC J (bB 0) tc te 1 cv Fin H1:=by
 obtain⟨W,w0,turn⟩:=h;refine⟨W,w0,λi m ys H w=>?_⟩;rcases turn i m ys H w with⟨a,b⟩|⟨a,b,N,hN,c⟩
 .exact .inl ⟨a,b⟩
 .refine .inr ⟨a,b,N,hN,λv H' y own ho=>?_⟩
  match own,ho with
  |[τ],_=>exact⟨⟨[some v],rfl,rfl⟩,c v H' y⟩
def tLC(wi:TI)(tc:TT)(te:TE)(js:List Nat):TE:=vp wi (bB 0) tc te 1 js
theorem gW(hc:X.calm=true)(L:pK X scope cl [x] caps js)(hi:PI X (.Name x px) iter wi)
  (ht:∀s H C ex,PTs (X.blk (x::caps) s H scope cl C ex) ifs tc)(he:∀s H C ex,PE (X.blk (x::caps) s H scope cl C ex) elt te)
  (hN:(x::caps).Nodup:=by decide +kernel)(hx:(Je scope X.env).names.lookup x=some .local:=by with_unfolding_all rfl)
  (hs:∀x,Iv iter X.env x=pure x:=by intro _;rfl):PE X (.ListComp elt [⟨.Name x px,iter,ifs,0⟩] scope pos) (tLC wi tc te js):=
 xQ (own:=[x]) (g:=bB 0) hc L hi (λs H C ex=>aO (i:=0) hN rfl (.inl hx) (.inr hx)) ht he hs
theorem zV{k:Nat}{y:Str}{py spos:Pos}(hc:X.calm=true)(L:pK X scope cl [x] caps js)(hi:PI X (.Name x px) iter wi)
  (ht:∀s H C ex,PTs (X.blk (x::caps) s H scope cl C ex) ifs tc)(he:∀s H C ex,PE (X.blk (x::caps) s H scope cl C ex) elt te)
  (hXN:X.N.Nodup)(hk:X.N[k]?=some y)(hy:X.env.scope.names.lookup y=some .local)(hN:(x::caps).Nodup:=by decide +kernel)(hx:(Je scope X.env).names.lookup x=some .local:=by with_unfolding_all rfl)
  (hsw:JI (.ListComp elt [⟨.Name x px,iter,ifs,0⟩] scope pos) (some (.Name y py)) spos.line X.env=pure true:=by rfl)
  (hs:∀x,Iv iter X.env x=pure x:=by intro _;rfl):PS X (.Assign [.Name y py] (.ListComp elt [⟨.Name x px,iter,ifs,0⟩] scope pos) spos) (tT (tLC wi tc te js) (bB k)):=
 A4 (own:=[x]) (g:=bB 0) hc L hi (λs H C ex=>aO (i:=0) hN rfl (.inl hx) (.inr hx)) ht he hXN hk hy hsw hs
theorem eD{K:PySem.W.Frag}{a:Addr}{xs:List V}{cv:St}{Fin:List V->Hp->Prop}{H1:Hp}(Pv:Nat->List V->Hp->Prop)(h0:Pv 0 [] H1)(hl:∀i ys H,i<=xs.length->Pv i ys H->SqL K H a xs)(hz:∀i ys H,i<xs.length->Pv i ys H->ys.length<Hs)
  (hs:∀i x ys H,xs[i]?=some x->Pv i ys H->tc (some x::cv) H λb H3=>if b=true then te (some x::cv) H3 λy H4=>Pv (i+1) (ys++[y]) H4 else Pv (i+1) ys H3)
  (hd:∀ys H,Pv xs.length ys H->Fin ys H):gLC (Itl K a) (bB 0) tc te 1 cv Fin H1:=by
 refine Cr ⟨λi m ys H=>m=xs.length-i/\i<=xs.length/\Pv i ys H,⟨xs.length,by simp,HZ _,h0⟩,?_⟩;rintro i m ys H ⟨rfl,hi,p⟩;have q:=hl i ys H hi p;by_cases hlt:i<xs.length
 .refine .inr ⟨⟨xs,xs[i],q,by simp[hlt]⟩,hz i ys H hlt p,Pv (i+1),λys' H' p'=>⟨xs.length-(i+1),by omega,rfl,hlt,p'⟩,λv H' y=>?_⟩;obtain⟨e,y⟩:=y;subst e;exact hs i v ys _ (y xs q) p
 .have e:i=xs.length:=by omega
  subst e;exact .inl ⟨⟨xs,q,G_ _⟩,hd ys H p⟩
theorem lS{lo:Int}{n:Nat}{cv:St}{Fin:List V->Hp->Prop}{H1:Hp}(Pv:Nat->List V->Hp->Prop)(h0:Pv 0 [] H1)(hz:∀i ys H,i<n->Pv i ys H->ys.length<Hs)
  (hs:∀i ys H,i<n->Pv i ys H->tc (some (.int (lo+i))::cv) H λb H3=>if b=true then te (some (.int (lo+i))::cv) H3 λy H4=>Pv (i+1) (ys++[y]) H4 else Pv (i+1) ys H3)
  (hd:∀ys H,Pv n ys H->Fin ys H):gLC (Itr lo n) (bB 0) tc te 1 cv Fin H1:=by
 refine Cr ⟨λi m ys H=>m=n-i/\i<=n/\Pv i ys H,⟨n,by simp,HZ _,h0⟩,?_⟩;rintro i m ys H ⟨rfl,hi,p⟩;by_cases hlt:i<n
 .refine .inr ⟨hlt,hz i ys H hlt p,Pv (i+1),λys' H' p'=>⟨n-(i+1),by omega,rfl,hlt,p'⟩,λv H' y=>?_⟩;obtain⟨e,y⟩:=y;subst e y;exact hs i ys _ hlt p
 .have e:i=n:=by omega
  subst e;exact .inl ⟨G_ _,hd ys H p⟩
end

theorem eI{A B:Hp->Prop}{σ:St}{H:Hp}(h:A H):ER σ H (λb H3=>if b=true then A H3 else B H3):=by
 show if true=true then A H else B H;rw[if_pos rfl];exact h
theorem iJ{α:Type}(x:α)(r:List α):atI (x::r) 0=some x:=dy (j:=0) rfl

def Its(x:Str):It:=⟨λi _=>i<x.cps.size,λi H v H'=>H'=H/\∃c,x.cps[i]?=some c/\v=.str ⟨#[c]⟩,λi _=>i=x.cps.size⟩
theorem Cs{P:HB}{w:HF}{K:PySem.W.Frag}{tg:Expr}{x:Str}{t:Tok}{it:Addr}{n:String}(hn:["enumerate","zip","dict_itemiterator","dict_reverseitemiterator","odict_iterator","itertools.zip_longest","itertools.pairwise"].contains n=false)
  (W:∀A':HY,A'.handled=none->Walks P w A' it [it] [it] x.cps.size (SignAt x) (λi h=>h.IsStrIter it n x t i))
  (slf:∀(A:HY) (i:Nat) (s:GY) (Q:GV->GY->Prop) (E:GV->GY->Prop),s.heap.IsStrIter it n x t i->Q (.ref it) s->HK (HG P w) A (Lz (.ref it)) Q E s) :
  pH P w K tg (Its x) [it] it (λi h=>h.IsStrIter it n x t i) where
 mem:=by simp
 obj:=λi h st b hb=>by
  have e:b=it:=by simpa using hb
  subst e;obtain⟨o,e,c,d⟩:=st;exact⟨o,e,λv z=>by rw[d]at z;cases z⟩
 keep:=λi h h' st k=>let⟨o,ho,r⟩:=st;⟨o,k it (by simp) o ho,r⟩
 item:=by
  intro X hP hw hK hc i pins s σ H E I hf st hg;subst hP hw hK;obtain⟨f0,f1,f2,f3,f4,f5⟩:=hf it (by simp);refine(W X.A (I.ok.hd hc)).item i s _ _ hg st λv h' tk hv st' kk=>?_;obtain⟨c,u,hcx,rfl⟩:=hv;have I1:Inv X pins σ H { s with heap:=h',toks:=tk }:=I.turned (λb o hb e=>kk b o (by simpa using hb) e) f0 f1 f3 f4 f5;obtain⟨o,e,c',d⟩:=id st';exact⟨_,rfl,uO (s:={ s with heap:=h',toks:=tk }) e c' d hn ⟨.str ⟨#[c]⟩,H,I1,⟨u,rfl⟩,⟨rfl,c,hcx,rfl⟩,st',λb hb=>(hf b hb).1⟩⟩
 done:=by
  intro X hP hw hK hc i pins s σ H E I hf st hg;subst hP hw hK;obtain⟨f0,f1,f2,f3,f4,f5⟩:=hf it (by simp);have e:i=x.cps.size:=hg;subst e;exact(W X.A (I.ok.hd hc)).done s _ _ st λh' tk kk=>⟨rfl,I.turned (λb o hb e=>kk b o (by simpa using hb) e) f0 f1 f3 f4 f5⟩
 self:=slf
section
variable {X:Cx}{tg:Expr}
def GA(tl:TE):TI:=λσ H R=>tl σ H λv H1=>∃x,v=.str x/\R (Its x) H1
theorem A5{l:Expr}{tl:TE}(hl:PE X l tl):PI X tg l (GA tl):=by
 intro pins s σ H R I h;refine thn (hl pins s σ H _ I h) λv s1 ⟨x,H1,I1,r1,q1⟩=>?_;obtain⟨z,e,q⟩:=q1;subst e;obtain⟨t,rfl⟩:=r1;have go:∀n ob,["enumerate","zip","dict_itemiterator","dict_reverseitemiterator","odict_iterator","itertools.zip_longest","itertools.pairwise"].contains n=false->
   (∀A':HY,A'.handled=none->Walks X.prog X.w A' s1.heap.objs.size [s1.heap.objs.size] [s1.heap.objs.size] z.cps.size (SignAt z) (λi h=>h.IsStrIter s1.heap.objs.size n z t i))->
   (∀(A:HY) (i:Nat) (s:GY) (Q:GV->GY->Prop) (E:GV->GY->Prop),s.heap.IsStrIter s1.heap.objs.size n z t i->Q (.ref s1.heap.objs.size) s->HK (HG X.prog X.w) A (Lz (.ref s1.heap.objs.size)) Q E s)->
   (s1.heap.push ob).IsStrIter s1.heap.objs.size n z t 0->PIE X pins σ tg R (.ref s1.heap.objs.size) { s1 with heap:=s1.heap.push ob }:=λn ob hn W slf st=>by
  refine⟨s1.heap.objs.size,[s1.heap.objs.size],_,_,H1,rfl,I1.kept (t':=s1.toks) λb o e=>Hg _ e,Cs hn W slf,st,λb hb=>?_,q⟩;have e:b=s1.heap.objs.size:=by simpa using hb
  subst e;exact I1.fpOk (G_ _) (I1.hok.fresh (G_ _))
 cases ha:z.cps.all (· < 128)
 .exact wpAny_pyIter_wide ha (go "str_iterator" _ (by decide) (λA' hA=>Walks.strWide hA _ z t) (λ_ _ _ _ _ st h=>wpAny_pyIter_striter_wide st h) ⟨_,HI _ rfl,rfl,rfl⟩)
 .exact wpAny_pyIter_ascii ha (go "str_ascii_iterator" _ (by decide) (λA' hA=>Walks.strAscii hA _ z t) (λ_ _ _ _ _ st h=>wpAny_pyIter_striter_ascii st h) ⟨_,HI _ rfl,rfl,rfl⟩)
end
theorem DR{x:Str}{g:TG}{tb:TS}{D:dZ}{σ:St}{H:Hp}(Pv:Nat->St->Hp->Prop)(h0:Pv 0 σ H)
  (hs:∀i c σ H,x.cps[i]?=some c->Pv i σ H->g (.str ⟨#[c]⟩) σ H λσ2 H2=>tb { D with nx:=Pv (i+1),ct:=Pv (i+1),bk:=D.nx } σ2 H2)(hd:∀σ H,Pv x.cps.size σ H->D.nx σ H) :
  ∃W:Nat->Nat->St->Hp->Prop,(∃m,W 0 m σ H)/\∀i m σ H,W i m σ H->
   ((Its x).stop i H/\D.nx σ H)\/((Its x).go i H/\∃N:St->Hp->Prop,(∀σ' H',N σ' H'->∃m',m'<m/\W (i+1) m' σ' H')/\∀v H',(Its x).yld i H v H'->g v σ H' λσ2 H2=>tb { D with nx:=N,ct:=N,bk:=D.nx } σ2 H2):=by
 refine⟨λi m σ H=>m=x.cps.size-i/\i<=x.cps.size/\Pv i σ H,⟨x.cps.size,by simp,HZ _,h0⟩,?_⟩;rintro i m σ H ⟨rfl,hi,p⟩;by_cases hlt:i<x.cps.size
 .refine .inr ⟨hlt,Pv (i+1),λσ' H' p'=>⟨x.cps.size-(i+1),by omega,rfl,hlt,p'⟩,λv H' y=>?_⟩;obtain⟨e,c,hc,y⟩:=y;subst e y;exact hs i c σ _ hc p
 .have e:i=x.cps.size:=by omega
  subst e;exact .inl ⟨rfl,hd σ H p⟩
theorem ES{x:Str}{tc:TT}{te:TE}{cv:St}{Fin:List V->Hp->Prop}{H1:Hp}(Pv:Nat->List V->Hp->Prop)(h0:Pv 0 [] H1)(hz:∀i ys H,i<x.cps.size->Pv i ys H->ys.length<Hs)
  (hs:∀i c ys H,x.cps[i]?=some c->Pv i ys H->tc (some (.str ⟨#[c]⟩)::cv) H λb H3=>if b=true then te (some (.str ⟨#[c]⟩)::cv) H3 λy H4=>Pv (i+1) (ys++[y]) H4 else Pv (i+1) ys H3)
  (hd:∀ys H,Pv x.cps.size ys H->Fin ys H):gLC (Its x) (bB 0) tc te 1 cv Fin H1:=by
 refine Cr ⟨λi m ys H=>m=x.cps.size-i/\i<=x.cps.size/\Pv i ys H,⟨x.cps.size,by simp,HZ _,h0⟩,?_⟩;rintro i m ys H ⟨rfl,hi,p⟩;by_cases hlt:i<x.cps.size
 .refine .inr ⟨hlt,hz i ys H hlt p,Pv (i+1),λys' H' p'=>⟨x.cps.size-(i+1),by omega,rfl,hlt,p'⟩,λv H' y=>?_⟩;obtain⟨e,c,hc,y⟩:=y;subst e y;exact hs i c ys _ hc p
 .have e:i=x.cps.size:=by omega
  subst e;exact .inl ⟨rfl,hd ys H p⟩

section
variable {X:Cx}
theorem A6{v:GV}{o:Option Int}(p:IsPart v o):∃l:Option (Int×Tok),v=partValue l/\o=l.map (·.1):=by
 cases p with
 |none=>exact⟨none,rfl,rfl⟩
 |int i t=>exact⟨some (i,t),rfl,rfl⟩
theorem kz:SlR X (λx lo hi H Q=>∃z,x=.str z/\z.length<=Hs/\Q (.str (Txt.slice z lo hi)) H):=by
 intro pins s σ H x v vl vu lo hi sl Q I r hs pl pu h;obtain⟨z,rfl,hz,q⟩:=h;obtain⟨t,rfl⟩:=r;obtain⟨l,rfl,rfl⟩:=A6 pl;obtain⟨u,rfl,rfl⟩:=A6 pu;exact⟨"str",_,F.slot_str_getitem.lookup,Ko _ _ _,wpAny_getItem_str_slice (l:=l) (u:=u) (st:=none) hs rfl
  (post_val_or_str ⟨Ho (Txt.slice_le z _ _) hz,λt' k=>⟨.str (Txt.slice z _ _),H,I.tok k,⟨t',rfl⟩,q⟩⟩)⟩
theorem uT:OpR X (Jz .Mult) (λx y H Q=>∃z n,x=.str z/\y=.int n/\MulOk z n/\Q (.str (Txt.mul z n)) H):=by
 intro pins s σ H x y v u Q I rx ry h;obtain⟨z,n,rfl,rfl,hm,q⟩:=h;obtain⟨t,rfl⟩:=rx;obtain⟨t',rfl⟩:=ry;exact SB.mul hm λt'' k=>⟨.str _,H,I.tok k,⟨t'',rfl⟩,q⟩
theorem vY:∀(l:List (Str×Tok)),bg ((l.map (·.1)).map V.str) (strValues l)
 |[]=>.nil
 |p::r=>.cons ⟨p.2,rfl⟩ (vY r)
theorem A7:MtR X "str.split" (λx xs H Q=>∃z c,x=.str z/\xs=[.str ⟨#[c]⟩]/\z.length+2<=Hs/\∀p,H p=none->Q (.ref p) (upd H p (.lst ((Txt.split z ⟨#[c]⟩).map V.str)))):=by
 intro pins s σ H x xs v us Q I rx r h;obtain⟨z,c,rfl,rfl,hz,q⟩:=h;obtain⟨t,rfl⟩:=rx;obtain⟨w',rfl,u,rfl⟩:=jc r;have hy:((⟨#[c]⟩:Str).length==0)=false:=rfl;have len:=split_le z ⟨#[c]⟩;have new:∀(l:List (Str×Tok)) (k:Nat),l.map (·.1)=Txt.split z ⟨#[c]⟩->EP X pins σ Q (.ref s.heap.objs.size) { s with heap:=s.heap.push { cls:=.type "list",data:=.seq (strValues l).toArray },toks:=k }:=λl k e =>
  ⟨.ref _,_,I.lnew (t':=k) (vY l) (by rw[e,GT];exact Ho len hz),rfl,by rw[e];exact q _ I.fresh⟩
 cases h1:(decide (z.length<(⟨#[c]⟩:Str).length)||decide (Builtin.Str.strKind z<Builtin.Str.strKind ⟨#[c]⟩))
 .cases hf:(Ip z ⟨#[c]⟩ 0 z.length (z.length+1)).isEmpty
  .have e1:Txt.split z ⟨#[c]⟩=Builtin.Str.partsBetween z (Ip z ⟨#[c]⟩ 0 z.length (z.length+1)) (⟨#[c]⟩:Str).length:=
    (if_neg (ne_true_of_eq_false h1)).trans (if_neg (ne_true_of_eq_false hf))
   refine JF KI (Ko _ _ _) Kx (Kq _ _) (meets_str_split_sep z ⟨#[c]⟩ t u h1 hy hf (by omega) (by rw[<-e1];omega)) ?_;show wants _ _ _ { s with toks:=_,heap:=s.heap.push { cls:=.type "list",data:=.seq (strsFrom s.toks (Builtin.Str.partsBetween z (Ip z ⟨#[c]⟩ 0 z.length (z.length+1)) (⟨#[c]⟩:Str).length)).toArray } };rw[strsFrom_eq];exact new _ _ ((numbered_texts _ _).trans e1.symm)
  .exact JF KI (Ko _ _ _) Kx (Kq _ _) (meets_str_split_not_found z ⟨#[c]⟩ t u h1 hy hf)
    (new [(z,t)] _ ((if_neg (ne_true_of_eq_false h1)).trans (if_pos hf)).symm)
 .exact JF KI (Ko _ _ _) Kx (Kq _ _) (meets_str_split_cannot_occur z ⟨#[c]⟩ t u h1)
   (new [(z,t)] _ (if_pos h1).symm)
theorem zW{ys:List Str}:∀{us:List GV},bg (ys.map V.str) us->StrsAre us ys:=by
 induction ys with
 |nil=>intro us h;cases h;exact .nil
 |cons y ys ih =>
  intro us h;cases h with
  |cons r t =>
   obtain⟨tk,rfl⟩:=r;exact .cons y tk (ih t)
theorem oW:MtR X "str.join" (λx xs H Q=>∃sep a ys,x=.str sep/\xs=[.ref a]/\SqL X.K H a (ys.map V.str)/\sep.length<=16/\(ys.map (·.length)).sum+ys.length<=1048576/\Q (.str (Txt.join sep ys)) H):=by
 intro pins s σ H x xs v us Q I rx r h;obtain⟨sep,a,ys,rfl,rfl,hS,h1,h2,q⟩:=h;obtain⟨t,rfl⟩:=rx;obtain⟨w',rfl,rfl⟩:=jc r;obtain⟨its,rv,p,hz⟩:=I.list hS;exact join_listW p.isList (zW (by simpa using rv)) h1 h2 λt' k=>⟨.str _,H,I.tok k,⟨t',rfl⟩,q⟩
end
end L2

namespace Tl
open PySem PySem.Builtin PySem.Builtin.Str L2

abbrev tx(l:List Nat):Str:=⟨l.toArray⟩
theorem zX(s:Str):s=tx s.cps.toList:=by cases s;rfl
theorem eJ(a b:List Nat):tx a++tx b=tx (a++b):=by
 show(⟨a.toArray++b.toArray⟩:Str)=⟨(a++b).toArray⟩;rw[List.append_toArray]
theorem bf(l:List Nat):(tx l).length=l.length:=by show l.toArray.size=_;simp
theorem jA{a b:List Nat}(h:tx a=tx b):a=b:=by
 have e:a.toArray=b.toArray:=congrArg Str.cps h;have e2:=congrArg Array.toList e;simpa using e2
theorem A8(l:List Nat)(i:Nat):(tx l).cps[i]?=l[i]?:=by show l.toArray[i]?=_;simp
theorem zn(l:List Nat):(tx l).cps.size=l.length:=by show l.toArray.size=_;simp

def jj{α:Type}(l:List α)(lo hi:Option Int):List α:=(l.drop (HT.sIx l.length 0 lo)).take (HT.sIx l.length l.length hi-HT.sIx l.length 0 lo)
theorem sV(n d:Nat)(i:Int):max 0 (min (if i<0 then i+(n:Int)else i) (n:Int))=((HT.sIx n d (some i):Nat):Int):=by
 show _=(((if i<0 then(i+(n:Int)).toNat else min i.toNat n):Nat):Int);by_cases h:i<0
 .rw[if_pos h,if_pos h];omega
 .rw[if_neg h,if_neg h];omega
theorem rh(lo hi:Option Int)(n:Nat):strSliceIndices lo hi 1 n=KN ((HT.sIx n 0 lo:Nat):Int) ((HT.sIx n n hi:Nat):Int) 1:=by
 cases lo with
 |none =>
  cases hi with
  |none=>rfl
  |some j=>exact congrArg (λz=>KN 0 z 1) (sV n n j)
 |some i =>
  cases hi with
  |none=>exact congrArg (λz=>KN z (n:Int) 1) (sV n 0 i)
  |some j =>
   have a:=sV n 0 i;have b:=sV n n j;show KN (max 0 (min (if i<0 then i+(n:Int)else i) (n:Int))) (max 0 (min (if j<0 then j+(n:Int)else j) (n:Int))) 1=_;rw[a,b]
theorem fc(l:List Nat)(lo hi:Option Int):Txt.slice (tx l) lo hi=tx (jj l lo hi):=by
 have h1:=HT.sIx_le l.length 0 (HZ _) lo;have h2:=HT.sIx_le l.length l.length (G_ _) hi;have ei:strSliceIndices lo hi 1 l.length=strSliceIndices (some ((HT.sIx l.length 0 lo:Nat):Int)) (some ((HT.sIx l.length l.length hi:Nat):Int)) 1 l.length:=by
  rw[rh lo hi,rh (some _) (some _),HT.sIx_nat,HT.sIx_nat,Ka h1,Ka h2]
 have e:Txt.slice (tx l) lo hi=StrLaws.sliceText (tx l) (some ((HT.sIx l.length 0 lo:Nat):Int)) (some ((HT.sIx l.length l.length hi:Nat):Int)):=by
  unfold Txt.slice StrLaws.sliceText;rw[bf,ei]
 by_cases hab:HT.sIx l.length 0 lo<=HT.sIx l.length l.length hi
 .rw[e,StrLaws.sliceText_nat (tx l) hab (by rw[bf];exact h2)];rfl
 .have e0:strSliceIndices lo hi 1 (tx l).length=[]:=by
   rw[bf,rh];unfold KN;simp only[show(1:Int)>0 by decide,if_true];rw[if_neg (by omega)];rfl
  unfold Txt.slice;rw[e0];have hne:¬ (((1:Int)==1&&([]:List Nat).length==(tx l).length)=true):=by
   rw[bf];intro h;have:0=l.length:=by simpa using h
   omega
  rw[if_neg hne];unfold jj;rw[Nat.sub_eq_zero_of_le (by omega),Kr];rfl
theorem cut_to{α:Type}(l:List α)(j:Nat):jj l none (some (j:Int))=l.take j:=by
 unfold jj;rw[HT.sIx_none,HT.sIx_nat,List.drop_zero,Nat.sub_zero];by_cases h:j<=l.length
 .rw[Ka h]
 .rw[Nat.min_eq_right (by omega),Ik (G_ _),Ik (by omega)]
theorem cut_from{α:Type}(l:List α)(i:Nat):jj l (some (i:Int)) none=l.drop i:=by
 unfold jj;rw[HT.sIx_none,HT.sIx_nat];by_cases h:i<=l.length
 .rw[Ka h,Ik (by rw[Jt];exact G_ _)]
 .rw[Nat.min_eq_right (by omega),Nat.sub_self,Kr,JP (by omega)]
def pL{α:Type}(l:List α)(n:Nat):List α:=(Hd n l).flatten
theorem nq{α:Type}(l:List α)(n:Nat):pL l (n+1)=l++pL l n:=by unfold pL;rw[Io,Jb]
theorem xR(l:List Nat):∀(n:Nat) (acc:List Nat),(Hd n l.toArray).foldl (·++·) acc.toArray=(acc++pL l n).toArray
 |0,acc=>by simp[pL]
 |n+1,acc=>by
  rw[Io,KS,List.append_toArray,xR l n,nq,HL]
theorem ET(l:List Nat)(n:Nat):Txt.mul (tx l) (n:Int)=tx (pL l n):=by
 unfold Txt.mul;by_cases h1:(n:Int)<1
 .have e:n=0:=by omega
  subst e;rw[if_pos h1];rfl
 .rw[if_neg h1];by_cases h2:((n:Int)==1||(tx l).length==0)=true
  .rw[if_pos h2];rcases Bool.or_eq_true _ _▸h2 with h|h
   .have e:n=1:=by have:=K6 h;omega
    subst e;rw[nq];simp[pL]
   .have e:l=[]:=by
     have:=K6 h;rw[bf]at this;exact List.eq_nil_of_length_eq_zero this
    subst e;have:∀k,pL ([]:List Nat) k=[]:=λk=>by
     induction k with
     |zero=>rfl
     |succ k ih=>rw[nq,ih];rfl
    rw[this]
  .rw[if_neg h2];have:=xR l n [];have e:((n:Int)).toNat=n:=by omega
   rw[e];show(⟨(Hd n l.toArray).foldl (·++·) #[]⟩:Str)=_;rw[show(#[]:Array Nat)=([]:List Nat).toArray from rfl,this,List.nil_append]
theorem yX{l:List Nat}{n:Nat}(h1:n<=100000)(h2:l.length<=100):MulOk (tx l) (n:Int):=by
 have hb:l.length*n<=10000000:=by
  have:=Nat.mul_le_mul h2 h1;omega
 refine⟨?_,λ_ _=>?_,λ_ _=>?_⟩
 .rw[decide_eq_false (by omega),decide_eq_false (by omega)];rfl
 .rw[bf];have:(100:Int)<=(2^63-1)/(n:Int):=by
   by_cases e:n=0
   .omega
   .exact(Int.le_ediv_iff_mul_le (by omega)).mpr (by omega)
  omega
 .rw[bf];unfold tooLong;have e:((n:Int)).toNat=n:=by omega
  rw[e];exact decide_eq_false (by show ¬ (_>16777216);omega)

def bw(c:Nat):List Nat->List (List Nat)
 |[]=>[[]]
 |x::r=>if x=c then[]::bw c r else match bw c r with
  |[]=>[[x]]
  |p::ps=>(x::p)::ps
theorem gk(c x:Nat)(r:List Nat):bw c (x::r)=if x=c then[]::bw c r else match bw c r with
  |[]=>[[x]]
  |p::ps=>(x::p)::ps:=rfl
theorem vZ(c:Nat):∀l,bw c l≠[]
 |[]=>by simp[bw]
 |x::r=>by
  unfold bw
  split
  .simp
  .split<;>simp
def cS(sep:List Nat):List (List Nat)->List Nat
 |[]=>[]
 |[x]=>x
 |x::y::r=>x++sep++cS sep (y::r)
theorem jX(sep:List Nat):∀ps:List (List Nat),Txt.join (tx sep) (ps.map tx)=tx (cS sep ps):=by
 have go:∀ps:List (List Nat),LM (tx sep) (ps.map tx)=tx (cS sep ps):=by
  intro ps;induction ps with
  |nil=>rfl
  |cons x r ih =>
   cases r with
   |nil=>rfl
   |cons y r =>
    show tx x++tx sep++LM (tx sep) (tx y::r.map tx)=_;rw[show LM (tx sep) (tx y::r.map tx)=tx (cS sep (y::r))from ih,eJ,eJ];rfl
 intro ps;show glued (tx sep) (ps.map tx)=_;rw[StrLaws.glued_eq_join];exact go ps
theorem tK(c:Nat):∀ps:List (List Nat),ps≠[]->(∀p∈ps,c∉p)->bw c (cS [c] ps)=ps:=by
 have one:∀p:List Nat,c∉p->bw c p=[p]:=by
  intro p;induction p with
  |nil=>intro _;rfl
  |cons x r ih =>
   intro h;have hx:x≠c:=λe=>h (by rw[e];exact He);rw[gk,if_neg hx,ih λz=>h (Hb _ z)]
 have app:∀(p:List Nat) (l:List Nat),c∉p->bw c (p++c::l)=p::bw c l:=by
  intro p l;induction p with
  |nil =>
   intro _;show bw c (c::l)=_;rw[gk,if_pos rfl]
  |cons x r ih =>
   intro h;have hx:x≠c:=λe=>h (by rw[e];exact He);show bw c (x::(r++c::l))=_;rw[gk,if_neg hx,ih λz=>h (Hb _ z)]
 intro ps;induction ps with
 |nil=>intro h;exact absurd rfl h
 |cons x r ih =>
  intro _ h;cases r with
  |nil=>exact one x (h x He)
  |cons y r =>
   show bw c (x++[c]++cS [c] (y::r))=_;rw[HL,show[c]++cS [c] (y::r)=c::cS [c] (y::r)from rfl,app _ _ (h x He),ih (by simp) λp hp=>h p (Hb _ hp)]
theorem Ct(l:List Nat)(c:Nat):Txt.split (tx l) ⟨#[c]⟩=(bw c l).map tx:=by
 have h1:=StrLaws.join_split (tx l) ⟨#[c]⟩;have h2:=StrLaws.split_free (tx l) c;have h3:=PyProof.Rows.split_pos (tx l) ⟨#[c]⟩;obtain⟨ps,e⟩:∃ps:List (List Nat),Txt.split (tx l) ⟨#[c]⟩=ps.map tx:=⟨(Txt.split (tx l) ⟨#[c]⟩).map (λs=>s.cps.toList),by
  rw[II];exact(List.map_id' _).symm.trans (Kc λs _=>zX s)⟩
 rw[e]at h1 h2 h3;have e2:cS [c] ps=l:=by
  have:=jX [c] ps;have h4:Txt.join (tx [c]) (ps.map tx)=LM (tx [c]) (ps.map tx):=StrLaws.glued_eq_join _ _;rw[h4]at this;exact jA (this.symm.trans h1)
 have hne:ps≠[]:=by
  intro z;rw[z]at h3;simp at h3
 rw[e,<-e2,tK c ps hne λp hp=>?_];have:=h2 (tx p) (Kd hp);simpa using this
theorem uU(l:List Nat)(c:Nat):(!(occurrences (tx l) ⟨#[c]⟩ 0 (tx l).length 1).isEmpty)=decide (c∈l):=by
 have:=StrLaws.found_one (tx l) c;rw[this]
end Tl

namespace L2
open PySem PySem.Spec PyProof.Rows

section
variable {X:Cx}
end

section
variable {X:Cx}
end
structure bY(K:PySem.W.Frag)(mg:Str->Option GV)(x:Str)(st:Stmt)(ps:List Str)(f:Addr)(fd:Hm):Prop where
 fn:Fun K x x st f fd
 bd:gU K fd ps []
 mg:mg x=some (.ref f)
 ba:∀us:List GV,us.length=ps.length->KH fd ⟨us,[]⟩=pure (ps.zip us)
section
variable {X:Cx}{x:Str}{st:Stmt}{ps:List Str}{f:Addr}{fd:Hm}{k:Nat}{sp:Sp}{e:Expr}{es:List Expr}{t:TA}{p pos:Pos}
theorem aC(D:bY X.K X.mg x st ps f fd)(G:bi X.prog X.w X.K X.mg X.base CX0 k f fd ps sp)(hr:cF k X.A)(hg:Gl X x)(ha:PA X (e::es) t)(hd:(x==("__debug__" : Str))=false:=by decide)
  (he:HJ (e::es) X.env=(false,eval e X.env)::HJ es X.env:=by rfl)(hpl:(IT pos (HJ es X.env)).any (·.1)=false:=by rfl):PE X (.Call (.Name x p) (e::es) [] pos) (zR sp [] E0 t):=zh G hr hg D.mg D.fn.kp D.bd .nil eQ ha hd he hpl
theorem Cu{K:PySem.W.Frag}{h:Heap}{mg:Str->Option GV}(KX:K.In h)(G:h.Ns HC mg){od an:Option Addr}{sl:Array (Option GV)}{oc kV dc pm cd ct:GV}(a:PySem.W.nsIn K HC x=some (some (.ref f)))
  (l:K.lookup f=some ⟨oc,od,.func (PySem.W.fnOf x x (cG st) (b_ st) (au st) .none kV dc pm an cd ct),sl⟩)(c:PySem.W.codeIn K cd x=true)(k:PySem.W.keepIn K (.ref f)=true)
  (b:∀(kV doc pm:GV) (an:Option Addr) (cdv ct:GV) (us:List GV),us.length=ps.length->KH (PySem.W.fnOf x x (cG st) (b_ st) (au st) .none kV doc pm an cdv ct) ⟨us,[]⟩=pure (ps.zip us)) :
  bY K mg x st ps f (PySem.W.fnOf x x (cG st) (b_ st) (au st) .none kV dc pm an cd ct):=
 ⟨uS l c k,(uS l c k).binds b,PySem.W.mg_of KX G a,λus hl=>b _ _ _ _ _ _ us hl⟩
end

theorem dH{t u:TS}{D:dZ}{σ:St}{H:Hp}(Mid:St->Hp->Prop)(h2:∀σ' H',Mid σ' H'->u D σ' H')(h1:(∀σ' H',Mid σ' H'->u D σ' H')->t { D with nx:=u D } σ H):EE t u D σ H:=h1 h2

def lT:List V->List V->Bool
 |[],[]=>true
 |a::r,b::s=>eqV a b&&lT r s
 |_,_=>false
theorem xS:∀{xs ys:List V},xs.length≠ys.length->lT xs ys=false
 |[],[],h=>absurd rfl h
 |[],_::_,_=>rfl
 |_::_,[],_=>rfl
 |a::r,b::s,h=>by
  show(eqV a b&&lT r s)=false;rw[xS (xs:=r) (ys:=s) (λe=>h (by rw[GU,GU,e])),Kp]
theorem uV:∀{xs ys:List V},xs.length=ys.length->(IL xs.length).all (λj=>eqV ((xs[j]?).getD .non) ((ys[j]?).getD .non))=lT xs ys
 |[],[],_=>rfl
 |[],_::_,h=>by simp at h
 |_::_,[],h=>by simp at h
 |a::r,b::s,h=>by
  have ih:=uV (xs:=r) (ys:=s) (by simpa using h);rw[GU,List.range_succ_eq_map,Jl,List.all_map];show(eqV a b&&_)=(eqV a b&&lT r s);rw[<-ih];rfl
section
variable {X:Cx}
theorem xT{xs:List V}(f:xs.all eP=true){j:Nat}{x:V}(h:xs[j]?=some x):eP x=true:=List.all_eq_true.mp f x (Ha h)
theorem Cv{A:HY}{s:GY}{xs ys:List V}{its its2:List GV}(r:bg xs its)(r2:bg ys its2)(fx:xs.all eP=true)(fy:ys.all eP=true)(j:Nat)(h1:j<its.toArray.size)(h2:j<its2.toArray.size) :
  LG A s its.toArray[j] its2.toArray[j] (eqV ((xs[j]?).getD .non) ((ys[j]?).getD .non)):=by
 have l1:=r.length;have l2:=r2.length;have h1':j<its.length:=by simpa using h1
 have h2':j<its2.length:=by simpa using h2
 have e1:xs[j]?=some xs[j]:=GZ (by omega);have e2:ys[j]?=some ys[j]:=GZ (by omega);obtain⟨u,hu,ru⟩:=r.get e1;obtain⟨v,hv,rv⟩:=r2.get e2;have eu:its.toArray[j]=u:=by
  have:its[j]?=some its[j]:=GZ h1';rw[hu]at this;simpa using this.symm
 have ev:its2.toArray[j]=v:=by
  have:its2[j]?=some its2[j]:=GZ h2';rw[hv]at this;simpa using this.symm
 rw[eu,ev,e1,e2];exact AW ru rv (xT fx e1) (xT fy e2)
def GB(K:PySem.W.Frag)(neg:Bool):R2:=λx y H Q=>∃a b xs ys,x=.ref a/\y=.ref b/\SqL K H a xs/\SqL K H b ys/\xs.all eP=true/\ys.all eP=true/\Q (.bl (if neg then !lT xs ys else lT xs ys)) H
theorem A9(hu:X.A.units<KG):OpR X (Iw .Eq) (GB X.K false):=by
 intro pins s σ H x y v u Q I rx ry h;obtain⟨a,b,xs,ys,rfl,rfl,ha,hb,fx,fy,q⟩:=h;cases rx;cases ry;obtain⟨its,r,p,z⟩:=I.list ha;obtain⟨its2,r2,p2,z2⟩:=I.list hb;have l1:=r.length;have l2:=r2.length;by_cases hl:xs.length=ys.length
 .refine SeqAt.eq_listAt (e:=λj=>eqV ((xs[j]?).getD .non) ((ys[j]?).getD .non)) p.isList p2.isList (by simp;omega) hu (λj h1 h2=>Cv r r2 fx fy j h1 h2) ⟨.bl _,H,I,rfl,?_⟩;have e:its.toArray.size=xs.length:=by simp;omega
  rw[e,uV hl];exact q
 .refine SeqAt.eq_list_lengthsAt p.isList p2.isList (by simp;omega) hu ⟨.bl false,H,I,rfl,?_⟩;have q':Q (.bl (lT xs ys)) H:=q;rw[xS hl]at q';exact q'
theorem Cw(hc:X.calm=true):iI X (.builtin "all") (λxs H Q=>∃(l:Addr) (bs:List Bool),xs=[.ref l]/\SqL X.K H l (bs.map V.bl)/\Q (.bl (bs.all id)) H):=by
 intro pins s σ H xs us Q I r h;obtain⟨l,bs,rfl,hl,q⟩:=h;obtain⟨u,rfl,ru⟩:=jc r;cases ru;obtain⟨its,rv,p,z⟩:=I.list hl;have hlt:l<s.heap.objs.size:=by obtain⟨_,_,e,_⟩:=p;exact Hl e
 have len:=rv.length;refine call_all_walk (JM p.isList ?_);refine⟨s.heap.objs.size,[s.heap.objs.size,l],[s.heap.objs.size],its.toArray.size,_,_,λi=>(bs[i]?).getD true,rfl,Walks.list (A:=X.A.in1) (I.ok.hd hc) _ l (Hr hlt) its.toArray,
  ⟨⟨_,HI _ rfl,rfl,rfl⟩,p.isList.push _⟩,λi v s' Q' E' hP hQ=>?_,λh' tk hk=>?_⟩
 .have hi:its[i]?=some v:=by simpa using hP
  have hlt2:i<bs.length:=by
   have:=(List.getElem?_eq_some_iff.mp hi).1;rw[GT]at len;omega
  have eb:(bs.map V.bl)[i]?=some (V.bl bs[i]):=by rw[HA,GZ hlt2];rfl
  obtain⟨w',hw,rw'⟩:=rv.get eb;rw[hi]at hw;cases hw;cases rw';have e2:(bs[i]?).getD true=bs[i]:=by rw[GZ hlt2];rfl
  have hQ2:Q' ((bs[i]?).getD true) s':=hQ;rw[e2]at hQ2;exact Ja hQ2
 .have e:((IL its.toArray.size).all λi=>(bs[i]?).getD true)=bs.all id:=by
   have:its.toArray.size=bs.length:=by rw[GT]at len;simp;omega
   rw[this];exact LSm.range_all bs
  rw[e];exact⟨.bl _,H,I.kept λb x e=>hk b x (λhm=>by rw[List.mem_singleton.mp hm]at e;exact Iq _ (Hl e)) (Hg _ e),rfl,q⟩

theorem pM(hu:X.A.units+1<KG):OpR X (Iw .In) (λy x H Q=>∃a o,x=.ref a/\e_ H a y o/\Q (.bl o.isSome) H):=by
 intro pins s σ H y x u v Q I ry rx h;obtain⟨a,o,rfl,g,q⟩:=h;cases rx;exact Gz hu I g ry λs' I'=>⟨.bl _,H,I',rfl,q⟩
theorem je(hu:X.A.units+1<KG):OpR X (Iw .NotIn) (λy x H Q=>∃a o,x=.ref a/\e_ H a y o/\Q (.bl (!o.isSome)) H):=by
 intro pins s σ H y x u v Q I ry rx h;obtain⟨a,o,rfl,g,q⟩:=h;cases rx;exact DQ hu I g ry λs' I'=>⟨.bl _,H,I',rfl,q⟩
end

inductive DD where
 |bl (b:Bool)
 |int (i:Int)
 |str (s:Str)
 |tup (l:List DD)
 |lst (l:List DD)
mutual
def Rep(K:PySem.W.Frag)(H:Hp):DD->V->Prop
 |.bl b,v=>v=.bl b
 |.int i,v=>v=.int i
 |.str s,v=>v=.str s
 |.tup l,v=>∃a xs,v=.ref a/\SqT K H a xs/\l.length<=1000/\lU K H l xs
 |.lst l,v=>∃a xs,v=.ref a/\SqL K H a xs/\l.length<=1000/\lU K H l xs
def lU(K:PySem.W.Frag)(H:Hp):List DD->List V->Prop
 |[],xs=>xs=[]
 |d::l,xs=>∃x r,xs=x::r/\Rep K H d x/\lU K H l r
end

def vq(P:HB)(w:HF)(K:PySem.W.Frag)(a:Addr)(kvs:List (Key×V)):Prop:=(a==IE)=false/\∃o vs,K.lookup a=some o/\KV kvs vs/\o.IsDictOf (bA P w) vs
section
variable {X:Cx}{o i:Expr}{pos:Pos}{td ty:TE}
theorem Inv.modD{pins:List (Addr×Obj)}{σ:St}{H:Hp}{s:GY}(I:Inv X pins σ H s){a:Addr}{kvs:List (Key×V)}(m:vq X.prog X.w X.K a kvs):∃vs,KV kvs vs/\s.heap.DictOf (bA X.prog X.w) a vs:=by
 obtain⟨_,o,vs,hk,r,d⟩:=m;exact⟨vs,r,Heap.dictOf_iff.mpr ⟨o,I.kIn a o hk,d⟩⟩
theorem v_:OpR X (Iw .In) (λy x H Q=>∃a kvs k,x=.ref a/\vq X.prog X.w X.K a kvs/\y=kV k/\Q (.bl (cX kvs k).isSome) H):=by
 intro pins s σ H y x u v Q I ry rx h;obtain⟨a,kvs,k,rfl,m,rfl,q⟩:=h;cases rx;obtain⟨vs,rel,dd⟩:=I.modD m;refine wpAny_in_of (nj ry) m.1 dd.mapOf ?_;rw[<-(rel.val k).isSome_eq];exact⟨.bl _,H,I.tok _,rfl,q⟩
def EU(P:HB)(w:HF)(K:PySem.W.Frag)(td ty:TE):TE:=λσ H Q=>td σ H λx H1=>ty σ H1 λy H2=>∃a kvs k v,x=.ref a/\vq P w K a kvs/\y=kV k/\cX kvs k=some v/\Q v H2
theorem xU(ho:PE X o td)(hi:PE X i ty)(hs:Cn i):PE X (.Subscript o i pos) (EU X.prog X.w X.K td ty):=by
 intro pins s σ H Q I h;refine zm PySem.F.slot_dict_getitem.lookup hs (thn (ho pins s σ H _ I h) λu s1 ⟨x,H1,I1,rx,q1⟩=>thn (hi pins s1 σ H1 _ I1 q1) λiv s2 ⟨y,H2,I2,ry,a,kvs,k,v,ex,m,ey,l,q2⟩=>?_);subst ex ey;obtain rfl:u=Ie a:=rx;obtain⟨vs,rel,dd⟩:=I2.modD m;obtain⟨w',hw,rw'⟩:=g9.some_of (v:=v) (o:=KM vs k) (by rw[<-l];exact rel.val k);exact⟨dd.mapOf.typeIs,wpAny_getItem_of (nj ry) dd.mapOf hw ⟨v,H2,I2.tok _,rw',q2⟩⟩
end

def CXe(P:HB)(w:HF):CXT:=λouter H s E e s' =>
 ∃(x C:Addr) (H':Hp) (B:Heap) (a0:GV),e=.ref x/\s'.os=s.os/\JW s'.gens/\Un (frs outer) [] H H' s.heap s'.heap/\HOk P w H' B/\
  (∀b o,s.heap.get? b=some o->H b=none->b∉frs outer->B.get? b=some o)/\(∀b o,s.heap.get? b=some o->b∉frs outer->∃o',B.get? b=some o')/\
  Kh B outer x (.ref C) a0 s'.heap/\E (.ref C) none H'
def EV(X:Cx)(E:XK):Prop:=∀(pins:List (Addr×Obj)) (σ:St) (H:Hp) (s:GY) (x C:Addr) (vs:List GV) (h':Heap),Inv X pins σ H s->Heap.MadeExcOf s.heap h' x (.ref C) vs->E (.ref C) none H->X.xe (.ref x) { s with heap:=h' }
theorem zo{env:Env}{l:List Env}{b L:Addr}(hf:env.frame=some L)(h:b∈frs (env::l)):b=L\/b∈frs l:=by
 unfold frs at h;rw[IM,hf]at h;exact List.mem_cons.mp h
theorem DS(l:List Env):∀env∈l,∀a,env.frame=some a->a∈frs l:=λenv he a hf=>List.mem_filterMap.mpr ⟨env,he,hf⟩
section
variable {P:HB}{w:HF}{K:PySem.W.Frag}{mg:Str->Option GV}{base:Heap}{N:List Str}{qual:Str}{scope:Scope}{f:Addr}{cd:GV}{A:HY}{outer:List Env}{s:GY}{H:Hp}{E:XK}
theorem oX:EV (nP (CXe P w) P w K mg base N qual scope f cd A outer s H E) E:=by
 intro pins σ H1 s1 x C vs h' I hx ee;have hfr:(IF qual scope s.heap.objs.size f cd).frame=some (IF qual scope s.heap.objs.size f cd).locals:=rfl;have hst:=I.stack;have hfree:=I.stkFree;have hsub:=I.stkSub;show HK (HG P w) (A.deeper (IF qual scope s.heap.objs.size f cd)) (leaving (IF qual scope s.heap.objs.size f cd) (.ref x)) (λ_ s''=>CXe P w outer H s E (.ref x) s'') _ _;have hin:=DS (IF qual scope s.heap.objs.size f cd::outer);have hff:s1.heap.FunFrames (PySem.W.hideAll s1.heap (frs (IF qual scope s.heap.objs.size f cd::outer))) (IF qual scope s.heap.objs.size f cd::outer):=PySem.W.funFrames_hide hst hin;have notfr:∀b,b<s.heap.objs.size->b∉frs outer->b∉frs (IF qual scope s.heap.objs.size f cd::outer):=λb hlt hb hm=>by
  rcases zo hfr hm with e|hm
  .exact absurd (Hx hlt I.ok.above) (by rw[e];exact Iq _)
  .exact hb hm
 refine wpAny_leaves_madeW (base:=PySem.W.hideAll s1.heap (frs (IF qual scope s.heap.objs.size f cd::outer))) (h:=s1.heap) I.ok.frames hfr (λb o q=>PySem.W.of_hideAll _ q) hff hx λh'' t x1 x2 x3 x4=>?_;have cov1:∀b o,s.heap.get? b=some o->H b=none->b∉frs outer->(PySem.W.hideAll s1.heap (frs (IF qual scope s.heap.objs.size f cd::outer))).get? b=some o:=λb o q n hb =>
  PySem.W.hideAll_get _ (I.base.keep b o q n hb (show b∉([]:List Addr) by simp)) (notfr b (Hl q) hb)
 have cov2:∀b o,s.heap.get? b=some o->b∉frs outer->∃o',(PySem.W.hideAll s1.heap (frs (IF qual scope s.heap.objs.size f cd::outer))).get? b=some o':=λb o q hb=>by
  obtain⟨o',e⟩:=I.base.there b o q (show b∉([]:List Addr) by simp);exact⟨o',PySem.W.hideAll_get _ e (notfr b (Hl q) hb)⟩
 have slot:∀b,b∈frs outer->∀o,s1.heap.get? b=some o->∃sl,h''.get? b=some { o with slots:=sl }:=λb hb o q=>by
  have hm:b∈frs (IF qual scope s.heap.objs.size f cd::outer):=by
   unfold frs;rw[IM,hfr];exact Hb _ hb
  obtain⟨_,o2,e2,nd⟩:=hff.mem hm;rw[q]at e2;cases e2;exact x4 b o (hx.keeps b o q) nd
 refine⟨x,C,H1,_,_,rfl,I.os,I.bare,⟨λb o q n hb _=>x1.1 b o (cov1 b o q n hb),λb o q n hb hx'=>?_,I.base.free,λb o q _=>?_,I.base.tups,I.base.frzs,I.base.tbls⟩,λb ob e=>?_,cov1,cov2,x1,ee⟩
 .obtain⟨sl,e1⟩:=I.base.slot b o q n hb hx';obtain⟨sl2,e2⟩:=slot b hb _ e1;exact⟨sl2,e2⟩
 .by_cases hb:b∈frs outer
  .obtain⟨o',e⟩:=I.base.there b o q (show b∉([]:List Addr) by simp);obtain⟨sl2,e2⟩:=slot b hb _ e;exact⟨_,e2⟩
  .obtain⟨o',e⟩:=cov2 b o q hb;exact⟨o',x1.1 b o' e⟩
 .refine(I.hok b ob e).stay (λc v hc q=>PySem.W.hideAll_get _ q λhm=>?_) (λ_ q=>q) λ_ _ q=>q;have z:=hfree c hm;rcases hc with rfl|hc
  .rw[e]at z;cases z
  .rw[hc]at z;cases z
theorem fE:fD (CXe P w) (nP (CXe P w) P w K mg base N qual scope f cd A outer s H E) E:=by
 intro pins σ H1 s1 e s' I h;obtain⟨x,C,H',B,a0,rfl,os,bare,un,hok,cov1,cov2,fl,ee⟩:=h;have hfr:(IF qual scope s.heap.objs.size f cd).frame=some (IF qual scope s.heap.objs.size f cd).locals:=rfl;show HK (HG P w) (A.deeper (IF qual scope s.heap.objs.size f cd)) (leaving (IF qual scope s.heap.objs.size f cd) (.ref x)) (λ_ s''=>CXe P w outer H s E (.ref x) s'') _ _;have notfr:∀b,b<s.heap.objs.size->b∉frs outer->b∉frs (IF qual scope s.heap.objs.size f cd::outer):=λb hlt hb hm=>by
  rcases zo hfr hm with e|hm
  .exact absurd (Hx hlt I.ok.above) (by rw[e];exact Iq _)
  .exact hb hm
 refine wpAny_leaves_onW I.ok.frames hfr fl λh'' f2 up=>?_;have c1:∀b o,s.heap.get? b=some o->H b=none->b∉frs outer->B.get? b=some o:=λb o q n hb =>
  cov1 b o (I.base.keep b o q n hb (show b∉([]:List Addr) by simp)) (I.base.free b o q n (show b∉([]:List Addr) by simp)) (notfr b (Hl q) hb)
 have c2:∀b o,s.heap.get? b=some o->b∉frs outer->∃o',B.get? b=some o':=λb o q hb=>by
  obtain⟨o',e⟩:=I.base.there b o q (show b∉([]:List Addr) by simp);exact cov2 b o' e (notfr b (Hl q) hb)
 have fm:∀b,b∈frs outer->b∈frs (IF qual scope s.heap.objs.size f cd::outer):=λb hb=>by
  unfold frs;rw[IM,hfr];exact Hb _ hb
 refine⟨x,C,H',B,a0,rfl,os.trans I.os,bare,⟨λb o q n hb _=>f2.1 b o (c1 b o q n hb),λb o q n hb hx'=>?_,λb o q n hx'=>?_,λb o q _=>?_,λb xs q=>un.tups b xs (I.base.tups b xs q),λb o u q=>un.frzs b o u (I.base.frzs b o u q),λb ps q=>?_⟩,hok,c1,c2,f2,ee⟩
 .obtain⟨sl,e1⟩:=I.base.slot b o q n hb hx';obtain⟨sl2,e2⟩:=un.slot b _ e1 (I.base.free b o q n hx') (fm b hb) (by simp);obtain⟨_,o3,e3,nd⟩:=fl.2.2.1.mem (fm b hb);rw[e2]at e3;cases e3;obtain⟨sl3,e4⟩:=up b _ e2 nd;exact⟨sl3,e4⟩
 .obtain⟨o',e⟩:=I.base.there b o q hx';exact un.free b o' e (I.base.free b o q n hx') (by simp)
 .by_cases hb:b∈frs outer
  .obtain⟨_,o3,e3,_⟩:=f2.2.2.1.mem hb;exact⟨o3,e3⟩
  .obtain⟨o',e⟩:=c2 b o q hb;exact⟨o',f2.1 b o' e⟩
 .obtain⟨m1,e1⟩:=I.base.tbls b ps q;obtain⟨m2,e2⟩:=un.tbls b _ e1;exact⟨m1++m2,by rw[e2,Kj]⟩
end

abbrev hV:List GV:=[.type "ValueError",.type "Exception",.type "BaseException",.type "object"]
structure jf(K:PySem.W.Frag)(mg:Str->Option GV)(c:Str)(C:Addr):Prop where
 mg:mg c=some (.ref C)
 ex:PySem.W.excIn K C hV "ValueError.__new__" = true
theorem DT{K:PySem.W.Frag}{h:Heap}{C:Addr}{bmB:List GV}{newId:String}(X:K.In h)(q:PySem.W.excIn K C bmB newId=true) :
  ∃bm N nm q bs hdct sn sub ab col dd k0 k1 k2 k3 k5 mN,h.get? C=some (excClassObj nm q C N bs bm hdct sn sub ab col dd k0 k1 k2 k3 k5 newId)/\h.Ns N mN/\mN "__init__" = none/\OwnTail h bmB bm:=by
 unfold PySem.W.excIn at q
 split at q
 .rename_i dd cd sl ho
  split at q
  .rename_i C' bm k0 k1 k2 k3 n k5 hm hs
   simp only[Iu,beq_iff_eq,Bool.not_eq_true']at q;obtain⟨⟨⟨⟨⟨rfl,rfl⟩,hdel⟩,ht⟩,hok⟩,hni⟩:=q;obtain⟨nm,bs,mro,ns,qn,hd,sn,sub,ab,col,del⟩:=cd;dsimp only at hm hdel hok hni;subst hm hdel;have hsl:sl=#[k0,k1,k2,k3,some (.builtin n),k5]:=by
    obtain⟨l⟩:=sl;simp only at hs;rw[hs]
   subst hsl;exact⟨bm,ns,nm,qn,bs,hd,sn,sub,ab,col,dd,k0,k1,k2,k3,k5,_,X _ _ ho,.of_isNs (PySem.W.isNs_of_in X hok),PySem.W.nsMap_none_of_in X hok hni,PySem.W.tail_of_in X ht⟩
  .cases q
 .cases q
def EW(E:XK)(C:Addr)(t:TA):TS:=λ_ σ H=>t σ H λvs H1=>vs.length<=Hs/\E (.ref C) none H1
section
variable {X:Cx}{E:XK}{c:Str}{C:Addr}{e:Expr}{es:List Expr}{t:TA}{np cpos pos:Pos}
theorem lV(hc:X.calm=true)(hw:EV X E)(O:jf X.K X.mg c C)(hg:Gl X c)(ha:PA X (e::es) t)(hd:(c==("__debug__" : Str))=false:=by decide)
  (he:HJ (e::es) X.env=(false,eval e X.env)::HJ es X.env:=by rfl)(hpl:(IT cpos (HJ es X.env)).any (·.1)=false:=by rfl) :
  PS X (.Raise (some (.Call (.Name c np) (e::es) [] cpos)) none pos) (EW E C t):=by
 intro pins s σ H D I h;obtain⟨bm,N,nm,q,bs,hdct,sn,sub,ab,col,dd,k0,k1,k2,k3,k5,mN,hC,hN,hni,T⟩:=DT I.ok.mod.kin O.ex;refine wpAny_Raise_call_subU (C:=C) (nm:=nm) (q:=q) (N:=N) (bs:=bs) (bm:=bm) (hdct:=hdct) (sn:=sn) (sub:=sub) (ab:=ab) (col:=col) (dd:=dd) (k0:=k0) (k1:=k1) (k2:=k2) (k3:=k3) (k5:=k5)
  PySem.F.excBase_ValueError (by decide +kernel) PySem.F.excBase_ValueError (mN:=mN) (T.hasType PySem.F.excBase_ValueError.hasBase) (I.ok.hd hc) (by rw[he];show(false||(IT cpos (HJ es X.env)).any (·.1))=false;rw[hpl];rfl) hni
  (jT I hg O.mg ⟨rfl,?_⟩ hd)
 have ha':=ha cpos pins s σ H _ I h;rw[he]at ha'⊢;refine J2 (Ii ha' (λvs s₂ h₂=>?_) λ_ _ y=>y);obtain⟨xs,H1,I1,r,hz,ee⟩:=h₂;exact⟨rfl,by rw[<-r.length];exact hz,I1.bk _ _ hC,hN.keeps I1.bk,T.keeps I1.bk,λh' x hm=>hw pins σ H1 s₂ x C _ h' I1 hm ee⟩
end
theorem Fun.okE{P:HB}{w:HF}{K:PySem.W.Frag}{mg:Str->Option GV}{base:Heap}{x qual:Str}{st:Stmt}{f:Addr}{fd:Hm}{N ps:List Str}{k:Nat}{sp:Sp}(F:Fun K x qual st f fd)(S:aN N ps (au st))(len:∀vs H Q E,sp vs H Q E->vs.length=ps.length)
  (hbody:∀ (cdv:GV) (A:HY) (outer:List Env) (s:GY) (H:Hp) (vs:List V) (Q:VK) (E:XK),cF k (A.deeper (IF qual (au st) s.heap.objs.size f cdv))→sp vs H Q E →
   ∃t,PSs (nP (CXe P w) P w K mg base N qual (au st) f cdv A outer s H E) (b_ st) t/\t { nx:=λ_ H'=>Q .non H',rt:=Q } (jd N vs) H):bi P w K mg base (CXe P w) (k+1) f fd ps sp:=by
 obtain⟨oc,od,kV,doc,pm,an,cdv,ct,osl,rfl,lk,hcd⟩:=F.ex;exact zS lk hcd S len λA outer s H vs Q E hr hsp=>hbody cdv A outer s H vs Q E hr hsp
abbrev Cx.marked(X:Cx)(v:GV):Cx:={ X with A:=X.A.mark (some v),calm:=false,xe:=λ_ _=>False }
theorem Inv.marked{X:Cx}{pins:List (Addr×Obj)}{σ:St}{H:Hp}{s:GY}(I:Inv X pins σ H s)(v:GV):Inv (X.marked v) pins σ H s:=
 ⟨⟨I.ok.mod,I.ok.kind,I.ok.glob,I.ok.blt,I.ok.above,I.ok.inj,I.ok.has,I.ok.cab,(λh=>nomatch h),I.ok.frames,I.ok.stk,I.ok.exf,I.ok.bs,I.ok.bsz,I.ok.noex,I.ok.exfs,I.ok.funs,I.ok.frf⟩,I.os,I.bare,I.base,I.loc,I.cell,I.free,I.freeC,I.pin,I.hok,I.len⟩
theorem Inv.unmarked{X:Cx}{pins:List (Addr×Obj)}{σ:St}{H:Hp}{s:GY}{v:GV}(I:Inv (X.marked v) pins σ H s)(hd:X.calm=true->X.A.handled=none):Inv X pins σ H s:=
 ⟨⟨I.ok.mod,I.ok.kind,I.ok.glob,I.ok.blt,I.ok.above,I.ok.inj,I.ok.has,I.ok.cab,hd,I.ok.frames,I.ok.stk,I.ok.exf,I.ok.bs,I.ok.bsz,I.ok.noex,I.ok.exfs,I.ok.funs,I.ok.frf⟩,I.os,I.bare,I.base,I.loc,I.cell,I.free,I.freeC,I.pin,I.hok,I.len⟩
theorem SP.unmarked{X:Cx}{pins:List (Addr×Obj)}{D:dZ}{f:Flow}{s':GY}{v:GV}(hd:X.calm=true->X.A.handled=none)(h:SP (X.marked v) pins D f s'):SP X pins D f s':=by
 cases f with
 |next=>obtain⟨σ',H',I,q⟩:=h;exact⟨σ',H',I.unmarked hd,q⟩
 |brk=>obtain⟨σ',H',I,q⟩:=h;exact⟨σ',H',I.unmarked hd,q⟩
 |cont=>obtain⟨σ',H',I,q⟩:=h;exact⟨σ',H',I.unmarked hd,q⟩
 |ret u=>obtain⟨v,σ',H',I,r,q⟩:=h;exact⟨v,σ',H',I.unmarked hd,r,q⟩
def jB(K:PySem.W.Frag)(C T:Addr):Prop:=PySem.W.exmOne K (.ref C) (.ref T)=some true
section
variable {X:Cx}{k:Nat}{f T:Addr}{fd:Hm}{ps:List Str}{sp:Sp}{fx c:Str}{st:Stmt}{e:Expr}{es:List Expr}{t:TA}{b₀:Stmt}{suite:List Stmt}{th:TS}{np pf cpos apos hpos pos:Pos}
theorem Cy{W:GV->GY->Prop}{pins:List (Addr×Obj)}{σ:St}{H:Hp}{s:GY}{Q:VK}{E:XK}(I:Inv X pins σ H s)(D:bY X.K X.mg fx st ps f fd)(G:bi X.prog X.w X.K X.mg X.base (CXe X.prog X.w) k f fd ps sp)(hr:cF k X.A)(hg:Gl X fx)
  (ha:PA (X.wish W) (e::es) t)(h:t σ H λvs H1=>sp (vs++[]) H1 Q E)(hW:∀H1 s1 e s2,Inv X pins σ H1 s1->CXe X.prog X.w X.stack H1 s1 E e s2->W e s2)
  (hd:(fx==("__debug__" : Str))=false:=by decide)(he:HJ (e::es) X.env=(false,eval e X.env)::HJ es X.env:=by rfl)(hpl:(IT cpos (HJ es X.env)).any (·.1)=false:=by rfl) :
  HK (HG X.prog X.w) X.A (eval (.Call (.Name fx pf) (e::es) [] cpos) X.env) (EP X pins σ Q) W s:=by
 have I':=I.wish W;refine IU (jT I hg D.mg ?_ hd);refine PySem.W.callWith_K (h₀:=X.base) I.ok.mod.kin D.fn.kp (thn (ha cpos pins s σ H _ I' h) λus s1 ⟨vs,H1,I1,r,q⟩=>⟨I1.kIn,?_⟩) he hpl;have r2:bg (vs++[]) (us++[]):=r.append .nil;have hl:(us++[]).length=ps.length:=by rw[<-r2.length];exact G.len _ _ _ _ q
 refine LA (Kf (G.run X.A X.stack s1 H1 ⟨us,[]⟩ (us++[]) (vs++[]) Q E hr I1.env0 (D.bd s1 us I1.kIn hl) r2 q) λr s' hq=>?_);cases r with
 |error ex=>exact hW H1 s1 ex s' I1.unwish hq
 |ok fl =>
  cases fl with
  |ret u=>exact I1.unwish.after hq
  |next=>exact Iz hq
  |brk=>exact Iz hq
  |cont=>exact Iz hq
end
end L2

set_option maxHeartbeats 4000000
namespace L2
open PySem PySem.Spec PyProof.Rows Tl

def PP(X:Cx)(v:Expr)(c:St->Prop):Prop:=∀(pins:List (Addr×Obj)) (s:GY) (σ:St) (H:Hp) (Q:GV->GY->Prop),Inv X pins σ H s->c σ->(∀(y:Str) (t:Tok) (s':GY),y.length<=20000->Inv X pins σ H s'->Q (.str y t) s')->HK (HG X.prog X.w) X.A (eval v X.env) Q X.xe s
def PJ(X:Cx)(vs:List Expr)(c:St->Prop):Prop:=∀(pins:List (Addr×Obj)) (s:GY) (σ:St) (H:Hp) (acc:Str) (Q:Str->GY->Prop),Inv X pins σ H s->c σ->acc.length+20000*vs.length<=1000000->(∀(z:Str) (s':GY),z.length<=1000000->Inv X pins σ H s'->Q z s')->Joins (HG X.prog X.w) X.A X.xe (evalEach vs X.env) acc Q s
section
variable {X:Cx}
theorem rj:PJ X [] (λ_=>True):=λ_ s _ _ acc _ I _ ha q=>q acc s (by simpa using ha) I
theorem eE{v:Expr}{vs:List Expr}{c d:St->Prop}(h:PP X v c)(hr:PJ X vs d)(he:evalEach (v::vs) X.env=eval v X.env::evalEach vs X.env:=by rfl):PJ X (v::vs) (λσ=>c σ/\d σ):=by
 intro pins s σ H acc Q I hc ha q;rw[he];refine h pins s σ H _ I hc.1 λy t s' hy I'=>?_;have hl:(acc++y).length=acc.length+y.length:=strLen_append _ _;rw[GU]at ha;refine⟨y,t,rfl,?_,hr pins s' σ H (acc++y) Q I' hc.2 (by rw[hl];omega) q⟩;rw[hl];exact Ho (show acc.length+y.length<=1000000 by omega) (by decide)
theorem kA{x:Str}{j pos}(hx:x.length<=20000:=by decide +kernel):PP X (.Constant (.str x) j pos) (λ_=>True):=λ_ s _ _ _ I _ q=>JE (q x _ _ hx (I.tok _))
theorem DU{pins:List (Addr×Obj)}{s:GY}{σ:St}{H:Hp}{Q:GV->GY->Prop}{y:Str}{t:Tok}(I:Inv X pins σ H s)(hy:y.length<=20000)(q:∀(y:Str) (t:Tok) (s':GY),y.length<=20000->Inv X pins σ H s'->Q (.str y t) s') :
  HK (HG X.prog X.w) X.A (formatField (.str y t) Ir) Q X.xe s:=
 formatField_str (λt' tk=>q y t' _ hy (I.tok tk)) (Ho hy (by decide))
theorem sW{i:Nat}{e:Expr}{pos:Pos}(he:PE X e (B_ i)):PP X (.FormattedValue e 114 none pos) (λσ=>∃l:List Nat,σ[i]?=some (some (.str (tx l)))/\l.length<=1000/\∀c∈l,c<127):=by
 intro pins s σ H Q I hc q;obtain⟨l,hv,hl,hc⟩:=hc;refine wpAny_FormattedValue_repr (thn (he pins s σ H (λv H'=>v=.str (tx l)/\H'=H) I ⟨_,hv,rfl,rfl⟩) λu s1 ⟨x,H1,I1,r1,e1,e2⟩=>?_);subst e1 e2;obtain⟨t,rfl⟩:=r1;have hb:(reprText (tx l)).length<=20000:=by
  have:=StrLaws.reprText_len (tx l) (λc hm=>IQ (hc c (by simpa using hm)) (by decide));have e1:(reprText (tx l)).cps.toList.length=(reprText (tx l)).length:=Jx;have e2:=bf l;have e3:(tx l).cps.toList.length=(tx l).length:=Jx;omega
 exact wpAny_pyReprObj_str (DU (I1.tok _) hb q) (Ho hb (by decide))
theorem EX{n:Int}{e:Expr}{pos:Pos}(he:PE X e (tC (.int n)))(hn:n.natAbs.log2<1920:=by decide)(hl:(toString n:Str).length<=20000:=by decide +kernel):PP X (.FormattedValue e (-1) none pos) (λ_=>True):=by
 intro pins s σ H Q I _ q;refine wpAny_FormattedValue_plain (thn (he pins s σ H (λv H'=>v=.int n/\H'=H) I ⟨rfl,rfl⟩) λu s1 ⟨x,H1,I1,r1,e1,e2⟩=>?_);subst e1 e2;obtain⟨t,rfl⟩:=r1;exact wpAny_formatField_int hn (q _ _ _ hl (I1.tok _))
def tFs(c:St->Prop):TE:=λσ H Q=>c σ/\∀z:Str,Q (.str z) H
theorem oY{v v2:Expr}{vs:List Expr}{c:St->Prop}{pos:Pos}(h:PJ X (v::v2::vs) c)(hl:vs.length<=20:=by decide):PE X (.JoinedStr (v::v2::vs) pos) (tFs c):=by
 intro pins s σ H Q I hw;refine wpAny_JoinedStr (h pins s σ H _ _ I hw.1 (by show 0+_<=_;simp only[GU];omega) λz s' hz I'=>⟨Ho hz (by decide),.str z,H,I'.tok _,⟨_,rfl⟩,hw.2 z⟩)
end

theorem Inv.track{X:Cx}{pins:List (Addr×Obj)}{σ:St}{H:Hp}{s:GY}{D:Addr}{o:HO}(I:Inv X pins σ H s)(hn:H D=none)(hnew:X.s₀.heap.objs.size<=D)(hL:D≠X.env.locals)(hc:∀x c,X.env.cells.lookup x=some c->c≠D)(hp:∀p∈X.pn++pins,p.1≠D)
  (ok:cu X.prog X.w (upd H D o) s.heap D o):Inv X pins σ (upd H D o) s:=by
 have ne:∀b u,H b=some u->b≠D:=λb u q=>cB q hn;refine⟨I.ok,I.os,I.bare,⟨I.base.keep,I.base.slot,λb o q nn hx=>?_,I.base.there,λb xs q=>?_,λb o u q=>?_,λb ps q=>?_⟩,I.loc,I.cell,?_,λx c q=>?_,λp hq=>?_,λb u q=>?_,I.len⟩
 .rw[aj (Hr (Hx (Hl q) hnew))];exact I.base.free b o q nn hx
 .have z:=I.base.tups b xs q;rw[aj (ne b _ z)];exact z
 .have z:=I.base.frzs b o u q;rw[aj (ne b _ z)];exact z
 .obtain⟨more,z⟩:=I.base.tbls b ps q;exact⟨more,by rw[aj (ne b _ z)];exact z⟩
 .rw[aj (HW hL)];exact I.free
 .rw[aj (hc x c q)];exact I.freeC x c q
 .obtain⟨a1,a2,a3⟩:=I.pin p hq;exact⟨a1,by rw[aj (hp p hq)];exact a2,a3⟩
 .by_cases hb:b=D
  .subst hb;rw[ac]at q;cases q;exact ok
  .rw[aj hb]at q;exact(I.hok b u q).stay (λc v _ r=>r) (λc r=>by rw[aj (ne c _ r)];exact r) λc xs r=>by rw[aj (ne c _ r)];exact r
def Ite(K:PySem.W.Frag)(a:Addr):It:=
 ⟨λi H=>∃xs x,SqL K H a xs/\xs[i]?=some x,λi H x H'=>∃p,H p=none/\x=.ref p/\∀xs y,SqL K H a xs->xs[i]?=some y->H'=upd H p (.tup [.int (i:Int),y]),λi H=>∃xs,SqL K H a xs/\xs.length<=i⟩
theorem A_{P:HB}{w:HF}{K:PySem.W.Frag}{elts:List Expr}{k1}{tp:Pos}(a e it:Addr)(hei:e≠it):pH P w K (.Tuple elts k1 tp) (Ite K a) [e,it] e (λi h=>(∃old,IsEnum h e it (i:Nat) old)/\h.IsListIter it a i) where
 mem:=by simp
 obj:=λi h st b hb=>by
  have hb':b=e\/b=it:=by simpa using hb
  rcases hb' with rfl|rfl
  .obtain⟨⟨old,h1⟩,_⟩:=st;exact⟨_,h1,λv z=>by cases z⟩
  .obtain⟨_,o,h1,c,d⟩:=st;exact⟨o,h1,λv z=>by rw[d]at z;cases z⟩
 keep:=λi h h' st k=>⟨let⟨old,h1⟩:=st.1;⟨old,k e (by simp) _ h1⟩,st.2.at λo h1=>k it (by simp) o h1⟩
 item:=by
  intro X hP hw hK hc i pins s σ H E I hf st hg;subst hP hw hK;obtain⟨xs,x,hq,hx⟩:=hg;obtain⟨its,rv,p,hz⟩:=I.list hq;obtain⟨u,hu,ru⟩:=rv.get hx;obtain⟨f0,f1,f2,f3,f4,f5⟩:=hf e (by simp);obtain⟨g0,g1,g2,g3,g4,g5⟩:=hf it (by simp);obtain⟨⟨old,he⟩,hit⟩:=st;refine wpAny_pyNext_enum_item he hit p.isList (x:=u) (by simpa using hu) hei λh' heo hit' hT hz' hk=>?_;have kk:∀b o,b∉[e,it]->s.heap.get? b=some o->h'.get? b=some o:=λb o hb q=>hk b o (λz=>hb (by simp[z])) (λz=>hb (by simp[z])) q;have nit:∀b v,H b=some v->b∉[e,it]:=λb v q z=>by
   have z':b=e\/b=it:=by simpa using z
   rcases z' with rfl|rfl
   .rw[f0]at q;cases q
   .rw[g0]at q;cases q
  have I1:Inv X pins σ H { s with heap:=h',toks:=s.toks+1 }:=by
   refine I.step (g':=s.gens) (d':=s.drawn) (ch:=[e,it]) (λb hb=>?_) (λb o _ _ hb q _=>kk b o hb q) (λb o _ _ hb q _=>⟨o.slots,kk b o hb q⟩) (λ_ _ _ _ n=>n)
    (λb o hb q=>⟨o,kk b o hb q⟩) (λ_ _ q=>q) (λ_ _ _ q=>q) (λb ps q=>⟨#[],by rw[q];simp⟩) (λm hm=>?_) (λb v q=>?_) I.bare
   .have z':b=e\/b=it:=by simpa using hb
    rcases z' with rfl|rfl
    .exact⟨f3,f1,f4,f5⟩
    .exact⟨g3,g1,g4,g5⟩
   .obtain⟨o,es,ep,ho,r⟩:=hm;exact⟨o,es,ep,kk _ o (λz=>by
     have z':X.env.locals=e\/X.env.locals=it:=by simpa using z
     rcases z' with z'|z'
     .exact f1 z'.symm
     .exact g1 z'.symm) ho,r⟩
   .refine(I.hok b v q).stay (λc o hc r=>kk c o ?_ r) (λ_ r=>r) λ_ _ r=>r;rcases hc with rfl|hc
    .exact nit _ _ q
    .exact nit _ _ hc
  have hsz:s.heap.objs.size<h'.objs.size:=by rw[hz'];exact Jf _
  have hTn:H s.heap.objs.size=none:=I.fresh;have elt:e<s.heap.objs.size:=Hl he;have I2:Inv X pins σ (upd H s.heap.objs.size (.tup [.int (i:Int),x])) { s with heap:=h',toks:=s.toks+1 }:=by
   refine I1.track hTn I.sz (IN I.lt) (λy c q=>?_) (λp hp=>?_) ⟨by show 2<=Hs;decide,[.int i s.toks,u],.cons ⟨_,rfl⟩ (.cons ru .nil),⟨_,hT,rfl,_,rfl⟩⟩
   .obtain⟨v,q2⟩:=I.cell y c q;exact Hr q2.lt
   .exact Hr (Hl (I.pin p hp).1)
  refine⟨_,rfl,wpAny_letOwnedTupleGo_enum (s:={ s with heap:=h',toks:=s.toks+1 }) heo λh'' he'' hs''=>?_⟩;have I3:Inv X pins σ (upd H s.heap.objs.size (.tup [.int (i:Int),x])) { s with heap:=h'',toks:=s.toks+1 }:=Inv.turned (s:={ s with heap:=h',toks:=s.toks+1 }) (h':=h'') (t':=s.toks+1) (it:=e) I2 (λb o hb q=>(hs''.2 b hb).trans q) (by rw[aj (Hr elt)];exact f0) f1 f3 f4 f5;refine⟨.ref s.heap.objs.size,_,I3,rfl,⟨_,hTn,rfl,λys y hy hy2=>?_⟩,⟨⟨_,he''⟩,?_⟩,λb hb=>?_⟩
  .rw[I.list_inj hy hq,hx]at hy2;cases hy2;rfl
  .exact hit'.at λo h1=>(hs''.2 it (HW hei)).trans h1
  .have z':b=e\/b=it:=by simpa using hb
   rcases z' with rfl|rfl
   .rw[aj (Hr elt)];exact f0
   .have ilt:b<s.heap.objs.size:=by
     obtain⟨o,h1,_⟩:=hit;exact Hl h1
    rw[aj (Hr ilt)];exact g0
 done:=by
  intro X hP hw hK hc i pins s σ H E I hf st hg;subst hP hw hK;obtain⟨xs,hq,hx⟩:=hg;obtain⟨its,rv,p,hz⟩:=I.list hq;obtain⟨g0,g1,g2,g3,g4,g5⟩:=hf it (by simp);obtain⟨⟨old,he⟩,hit⟩:=st;have hl:=rv.length;exact wpAny_pyNext_enum_end (I.ok.hd hc) he hit p.isList (by simp;omega) λh' eb=>⟨rfl,I.turned (t':=s.toks) (λb o hb e=>eb b o hb e) g0 g1 g3 g4 g5⟩
 self:=λ_ _ _ _ _ st h=>by
  obtain⟨⟨old,he⟩,_⟩:=st;exact wpAny_pyIter_enum he h
section
variable {X:Cx}{elts:List Expr}{k1:Nat}{tp:Pos}
def FU(K:PySem.W.Frag)(tl:TE):TI:=λσ H R=>tl σ H λx H1=>∃a,x=.ref a/\(∃xs,SqL K H1 a xs)/\R (Ite K a) H1
theorem zp{l:Expr}{k1}{tl:TE}{p pos:Pos}(hg:Gl X "enumerate")(hm:X.mg "enumerate" = none)(hl:PE X l tl)(hs:HJ [l] X.env=[(false,eval l X.env)]:=by rfl):PI X (.Tuple elts k1 tp) (.Call (.Name "enumerate" p) [l] [] pos) (FU X.K tl):=by
 intro pins s σ H R I h;have ha:PA X [l] (Dk tl vm):=aa hl ae hs;refine Call_ (oQ I hg hm (by decide +kernel:Jh "enumerate" = some (.type "enumerate")) (IP (thn (ha pos pins s σ H (λvs H1=>match vs with|[x]=>∃a,x=.ref a/\(∃xs,SqL X.K H1 a xs)/\R (Ite X.K a) H1|_=>False) I h) λus s1 ⟨vs,H1,I1,r1,q1⟩=>?_) hs rfl))
 match vs,r1,q1 with
 |[x],r1,q1 =>
 obtain⟨a,rfl,⟨xs,hq⟩,q⟩:=q1;obtain⟨u,rfl,ru⟩:=jc r1;cases ru;obtain⟨its,rv,p,hz⟩:=I1.list hq;refine call_enumerate_list p.isList λh' he hit hz' hk=>?_;refine wpAny_pyIter_enum he ?_;refine⟨s1.heap.objs.size+1,[s1.heap.objs.size+1,s1.heap.objs.size],_,_,H1,rfl,I1.kept (t':=s1.toks) hk,A_ a _ _ (Nat.succ_ne_self _),⟨⟨_,he⟩,hit⟩,λb hb=>?_,q⟩;have z':b=s1.heap.objs.size+1\/b=s1.heap.objs.size:=by simpa using hb
 have I2:=I1.kept (h':=h') (t':=s1.toks) hk;rcases z' with rfl|rfl
 .exact I1.fpOk (IR _) (I1.hok.fresh (IR _))
 .exact I1.fpOk (G_ _) (I1.hok.fresh (G_ _))
end
theorem xV{K:PySem.W.Frag}{a:Addr}{xs:List V}{g:TG}{tb:TS}{D:dZ}{σ:St}{H:Hp}(Pv:Nat->St->Hp->Prop)(h0:Pv 0 σ H)(hl:∀i σ H,i<=xs.length->Pv i σ H->SqL K H a xs)
  (hs:∀i x σ H p,xs[i]?=some x->Pv i σ H->H p=none->g (.ref p) σ (upd H p (.tup [.int (i:Int),x])) λσ2 H2=>tb { D with nx:=Pv (i+1),ct:=Pv (i+1),bk:=D.nx } σ2 H2)(hd:∀σ H,Pv xs.length σ H->D.nx σ H) :
  ∃W:Nat->Nat->St->Hp->Prop,(∃m,W 0 m σ H)/\∀i m σ H,W i m σ H->
   ((Ite K a).stop i H/\D.nx σ H)\/((Ite K a).go i H/\∃N:St->Hp->Prop,(∀σ' H',N σ' H'->∃m',m'<m/\W (i+1) m' σ' H')/\∀x H',(Ite K a).yld i H x H'->g x σ H' λσ2 H2=>tb { D with nx:=N,ct:=N,bk:=D.nx } σ2 H2):=by
 refine⟨λi m σ H=>m=xs.length-i/\i<=xs.length/\Pv i σ H,⟨xs.length,by simp,HZ _,h0⟩,?_⟩;rintro i m σ H ⟨rfl,hi,p⟩;have q:=hl i σ H hi p;by_cases hlt:i<xs.length
 .refine .inr ⟨⟨xs,xs[i],q,by simp[hlt]⟩,Pv (i+1),λσ' H' p'=>⟨xs.length-(i+1),by omega,rfl,hlt,p'⟩,λx H' y=>?_⟩;obtain⟨t,ht,e,y⟩:=y;subst e;have e2:=y xs xs[i] q (by simp[hlt]);subst e2;exact hs i xs[i] σ H t (by simp[hlt]) p ht
 .have e:i=xs.length:=by omega
  subst e;exact .inl ⟨⟨xs,q,G_ _⟩,hd σ H p⟩

section
variable {X:Cx}{tg:Expr}
end
theorem tZ{X:Cx}(hu:X.A.units<KG):OpR X (Iw .Eq) (λx y H Q=>∃a b xs,x=.ref a/\y=.ref b/\SqL X.K H a xs/\SqL X.K H b []/\Q (.bl xs.isEmpty) H):=by
 intro pins s σ H x y v u Q I rx ry h;obtain⟨a,b,xs,rfl,rfl,ha,hb,q⟩:=h;cases rx;cases ry;obtain⟨its,r,p,z⟩:=I.list ha;obtain⟨its2,r2,p2,z2⟩:=I.list hb;have l1:=r.length;have l2:=r2.length;cases xs with
 |nil =>
  refine SeqAt.eq_listAt (e:=λ_=>true) p.isList p2.isList (by simp at l1 l2⊢;omega) hu (λj h1 h2=>absurd h1 (by simp at l1⊢;omega)) ⟨.bl _,H,I,rfl,?_⟩;have e:its.toArray.size=0:=by rw[Hv];exact l1.symm
  rw[e];exact q
 |cons x r=>exact SeqAt.eq_list_lengthsAt p.isList p2.isList (by simp at l1 l2⊢;omega) hu ⟨.bl false,H,I,rfl,q⟩
def EY:V->List V->Hp->VK->Prop:=λx vs H Q=>∃l y xs j,x=.ref l/\vs=[y]/\H l=some (.lst xs)/\eP y=true/\xs.all eP=true/\(∃v,xs[j]?=some v/\eqV v y=true)/\(∀(m:Nat) (v:V),m<j->xs[m]?=some v->eqV v y=false)/\Q (.int (j:Nat)) H
theorem Cz{X:Cx}:MtM X "list.index" EY:=by
 intro pins s σ H x vs v us Q I rx rv h;obtain⟨l,y,xs,j,rfl,rfl,hH,fy,fs,⟨vj,hvj,hit⟩,hno,q⟩:=h;cases rx;obtain⟨u,rfl,ru⟩:=rv.one;obtain⟨z,its,n,r,hl,e⟩:=I.lstM hH;have fl:∀(m:Nat) (v:V),xs[m]?=some v->eP v=true:=λm v h=>List.all_eq_true.mp fs v (Ha h);have hj:j<its.toArray.size:=by
  rw[Hv,<-hl];exact(List.getElem?_eq_some_iff.mp hvj).1
 have at':∀(m:Nat) (hm:m<its.toArray.size) (v:V),xs[m]?=some v->eqU y its.toArray[m]=eqV v y:=λm hm v h=>by
  obtain⟨u',hu',ru'⟩:=r.get h;have hm2:m<its.length:=by rw[Hv]at hm;exact hm
  have:its[m]=u':=by
   rw[GZ hm2]at hu';exact HV hu'
  rw[show its.toArray[m]=its[m] by simp,this];exact xI ru' (fl m v h)
 refine JF F.slot_list_index ⟨_,e,rfl⟩ F.entry_list_index (F.args_list_index_2 _ _) (SeqAt.list_indexAt l its.toArray n none #[] u (eqU y) j hj ?_ ?_ ?_) ⟨e,λw hw=>jU ru fy r fs w (by simpa using hw),?_⟩
 .have h1:j<xs.length:=(List.getElem?_eq_some_iff.mp hvj).1;have h2:xs.length<=100000000:=Ho z (by decide);omega
 .rw[at' j hj vj hvj];exact hit
 .intro m hm hlt;have h1:m<xs.length:=by rw[hl];rw[Hv]at hm;exact hm
  rw[at' m hm _ (GZ h1)];exact hno m _ hlt (GZ h1)
 .exact⟨.int (j:Nat),H,I.tok _,⟨_,rfl⟩,q⟩
end L2

namespace L2
open PySem PySem.Spec PyProof.Rows

section
variable {X:Cx}
theorem af{H:Hp}{p:Addr}(h:H p=none)(o:HO):ak H (upd H p o):=λb u q=>by rw[aj (cB q h)];exact q
theorem ak.tup{K:PySem.W.Frag}{H H':Hp}{a:Addr}{xs:List V}(e:ak H H')(h:SqT K H a xs):SqT K H' a xs:=by
 rcases h with(h|⟨o,h⟩)|h
 .exact .inl (.inl (e _ _ h))
 .exact .inl (.inr ⟨o,e _ _ h⟩)
 .exact .inr h
def Ba(K:PySem.W.Frag):Sp:=λvs H Q _=>∃(a:Addr) (ns:List Int),vs=[.ref a]/\SqL K H a (ns.map V.int)/\ns.length<=63/\∀H',Q (.bl true) H'
theorem aJ{n:Nat}(h:n<=1000):n<=Hs:=HM (aB h)
theorem Bb{n:Nat}(h:n<=1000000):n<=Hs:=Ho h (by decide)
theorem le1:1<=Hs:=by decide
theorem le2:2<=Hs:=by decide
theorem le3:3<=Hs:=by decide
theorem le4:4<=Hs:=by decide
end
end L2

namespace HT
open PySem PyProof.Rows
section
open PySem.SeqAt
open PySem.AutoSeq1 (wpAny_loadPart')
open PySem.MeetsSeq PySem.MeetsSeq2 PySem.MeetsSeq3

end
end HT

namespace L2
open PySem PySem.Spec PyProof.Rows
section
variable {X:Cx}

end
end L2

set_option maxHeartbeats 4000000
namespace L2
open PySem PySem.Spec PyProof.Rows Tl
def aX(n:Nat):List Nat:=(KO 10 n).map Char.toNat
theorem jk(n:Nat):(PySem.Str.ofString (toString ((n:Nat):Int)))=tx (aX n):=by
 have e:=PySem.W.KIN.signs_num n;rw[zX (PySem.Str.ofString _),e];rfl
theorem uW:∀d:Nat,d<10->(Nat.digitChar d).toNat=d+48:=by decide
theorem pN{n:Nat}(h:n<10):aX n=[n+48]:=by
 unfold aX;rw[Nat.toDigits_of_lt_base h,Ks,uW n h]
theorem wc{n:Nat}(h:10<=n):aX n=aX (n/10)++[n%10+48]:=by
 have hm:n%10<10:=KP n (by decide);have t:KO 10 (n/10)++KO 10 (n%10)=KO 10 (10*(n/10)+n%10):=Nat.toDigits_append_toDigits (by decide) (by omega) hm;rw[Nat.div_add_mod]at t;unfold aX;rw[<-t,Hc,Nat.toDigits_of_lt_base hm,Ks,uW _ hm]
theorem jY:∀(k n:Nat),n<10^(k+1)->(aX n).length<=k+1
 |0,n,h=>by
  rw[pN (by simpa using h)];simp
 |k+1,n,h=>by
  by_cases hn:n<10
  .rw[pN hn];simp
  .rw[wc (by omega),GX,Jn];have:=jY k (n/10) (by
    rw[Nat.pow_succ]at h;omega)
   omega
theorem DV:∀(n c:Nat),c∈aX n->48<=c/\c<=57:=by
 intro n;induction n using Nat.strongRecOn with
 |_ n ih =>
  intro c hc;by_cases h:n<10
  .rw[pN h]at hc;have:c=n+48:=by simpa using hc
   omega
  .rw[wc (by omega)]at hc;rcases List.mem_append.mp hc with hc|hc
   .exact ih (n/10) (by omega) c hc
   .have:c=n%10+48:=by simpa using hc
    omega
theorem Bc{n:Nat}(h:n<10^100):n.log2<1920:=by
 by_cases e:n=0
 .subst e;decide
 .refine(Nat.log2_lt e).mpr (IQ h ?_);decide +kernel
abbrev pl(x:Int×Int):List V:=[.int x.1,.int x.2]
abbrev fm(w h f m:Int):List V:=[.int w,.int h,.int f,.int m]
inductive Say where
 |text (l:List Nat)
 |page (k:Nat)
 |row (k:Nat)
theorem jZ{α:Type}(xs:List α)(x:α):atI (xs++[x]) (-1)=some x:=by
 unfold atI ixN;rw[if_neg (by decide),if_pos (by simp;omega)];have e:(-1+((xs++[x]).length:Int)).toNat=xs.length:=by simp;omega
 show(xs++[x])[(-1+((xs++[x]).length:Int)).toNat]?=some x;rw[e];simp
section
variable {X:Cx}
theorem zq(ns:List Int):∀k,k<=ns.length->preSum (λi=>(ns[i]?).getD 0) k=(ns.take k).sum
 |0,_=>by simp[preSum]
 |k+1,h=>by
  rw[preSum,zq ns k (by omega),IB,GZ (by omega),I0];show _+ns[k]=_+(ns[k]+0);rw[Int.add_zero]
theorem CA(hc:X.calm=true):iI X (.builtin "sum") (λxs H Q=>∃(l:Addr) (ns:List Int),xs=[.ref l]/\SqL X.K H l (ns.map V.int)/\Q (.int ns.sum) H):=by
 intro pins s σ H xs us Q I r h;obtain⟨l,ns,rfl,hl,q⟩:=h;obtain⟨u,rfl,ru⟩:=jc r;cases ru;obtain⟨its,rv,p,z⟩:=I.list hl;have hlt:l<s.heap.objs.size:=by obtain⟨_,_,e,_⟩:=p;exact Hl e
 have len:=rv.length;rw[GT]at len;refine call_sum_walkG (JM p.isList ?_);refine⟨s.heap.objs.size,[s.heap.objs.size,l],[s.heap.objs.size],its.toArray.size,_,_,λi=>(ns[i]?).getD 0,rfl,Walks.list (A:=X.A.in1) (I.ok.hd hc) _ l (Hr hlt) its.toArray,
  ⟨⟨_,HI _ rfl,rfl,rfl⟩,p.isList.push _⟩,λb hb=>?_,λi v hP=>?_,λh' tk t' hk=>?_⟩
 .show b<(s.heap.push _).objs.size;rw[JN];rcases List.mem_cons.mp hb with rfl|hb
  .exact Jf _
  .rw[List.mem_singleton.mp hb];exact Nat.lt_succ_of_lt hlt
 .have hi:its[i]?=some v:=by simpa using hP
  have hlt2:i<ns.length:=by
   have:=(List.getElem?_eq_some_iff.mp hi).1;omega
  have eb:(ns.map V.int)[i]?=some (V.int ns[i]):=by rw[HA,GZ hlt2];rfl
  obtain⟨w',hw,t,ht⟩:=rv.get eb;rw[hi]at hw;cases hw;refine⟨t,?_⟩;have e2:(ns[i]?).getD 0=ns[i]:=by rw[GZ hlt2];rfl
  show v=JR ((ns[i]?).getD 0) t;rw[e2];exact ht
 .have e1:its.toArray.size=ns.length:=by simp;omega
  have e:preSum (λi=>(ns[i]?).getD 0) its.toArray.size=ns.sum:=by
   rw[e1,zq ns _ (G_ _),Hu]
  rw[e];exact⟨.int _,H,I.kept λb x e=>hk b x (λhm=>by rw[List.mem_singleton.mp hm]at e;exact Iq _ (Hl e)) (Hg _ e),⟨_,rfl⟩,q⟩
end
theorem ak.put{H H2:Hp}{r:Addr}{o:HO}(s:ak H H2)(hr:H r=none):ak H (upd H2 r o):=λb u q=>by rw[aj (cB q hr)];exact s b u q
theorem CB{α:Type}(f:α->V)(ns:List α)(lo hi:Option Int):hJ (ns.map f) lo hi=(jj ns lo hi).map f:=by
 unfold hJ jj;rw[GT,List.map_take,List.map_drop]
structure Wd where
 lead:Int
 kept:Bool
 say:Say
 foot:List Say

section
variable {prog:HB}{w:HF}{A:HY}{R:J9->GY->Prop}{I:Addr}{fp wr:List Addr}{P:Nat->GV->Prop}{St:Nat->Heap->Prop}
end
section
variable {prog:HB}{w:HF}{A:HY}{R:J9->GY->Prop}{I:Addr}{fp wr:List Addr}{P:Nat->GV->Prop}{St:Nat->Heap->Prop}
end
structure Frm where
 w:Int
 h:Int
 f:Int
 m:Int
theorem t0{X:Cx}(hu:X.A.units<KG):OpR X (Iw .NotEq) (λx y H Q=>∃a b xs,x=.ref a/\y=.ref b/\SqL X.K H a xs/\SqL X.K H b []/\Q (.bl (!xs.isEmpty)) H):=by
 intro pins s σ H x y v u Q I rx ry h;obtain⟨a,b,xs,rfl,rfl,ha,hb,q⟩:=h;cases rx;cases ry;obtain⟨its,r,p,z⟩:=I.list ha;obtain⟨its2,r2,p2,z2⟩:=I.list hb;have l1:=r.length;have l2:=r2.length;cases xs with
 |nil =>
  refine SeqAt.RcNeAt.lists (e:=λ_=>true) p.isList p2.isList (by simp at l1 l2⊢;omega) hu (λj h1 h2=>absurd h1 (by simp at l1⊢;omega)) _ _ _ _ ⟨.bl _,H,I,rfl,?_⟩;have e:its.toArray.size=0:=by rw[Hv];exact l1.symm
  rw[e];exact q
 |cons x r=>exact SeqAt.RcNeAt.lists_lengths p.isList p2.isList (by simp at l1 l2⊢;omega) hu _ _ _ _ ⟨.bl true,H,I,rfl,q⟩
inductive CL:List Expr->List V->Prop where
 |nil:CL [] []
 |int {i:Int} {j:Nat} {pos:Pos} {es:List Expr} {vs:List V} (h:CL es vs):CL (.Constant (.int i) j pos::es) (.int i::vs)
 |str {x:Str} {j:Nat} {pos:Pos} {es:List Expr} {vs:List V} (h:CL es vs):CL (.Constant (.str x) j pos::es) (.str x::vs)
def tVs(vs:List V):TA:=λ_ H Q=>Q vs H
theorem uX{X:Cx}:∀{es:List Expr} {vs:List V},CL es vs->PA X es (tVs vs)
 |_,_,.nil=>ae
 |_,_,.int h=>aa ah (uX h)
 |_,_,.str h=>aa am (uX h)
def GC(K:PySem.W.Frag):List V->Hp->VK->Prop:=λxs H Q=>∃p ys,xs=[.ref p]/\(SqL K H p ys\/SqT K H p ys)/\Q (.int (ys.length:Nat)) H
def kB:Str:=PySem.Str.ofString "behind"
section
variable (F:Frm)(ds:List Wd)(xs:List (Int×Int))(k:Str)(i:Nat)(j:Int)
end
section
variable {F:Frm}{ds:List Wd}{xs ys:List (Int×Int)}
end
section
variable {prog:HB}{w:HF}{A:HY}{R:J9->GY->Prop}{I:Addr}{fp wr:List Addr}{n:Nat}{P:Nat->GV->Prop}{St:Nat->Heap->Prop}
end
section
variable {F:Frm}{ds:List Wd}{xs:List (Int×Int)}{i:Nat}
end
section
variable {F:Frm}{ds:List Wd}{xs ys:List (Int×Int)}{i:Nat}
end
section
variable {X:Cx}{elts:List Expr}{k1:Nat}{tp:Pos}
end
end L2

set_option maxHeartbeats 4000000
namespace PySem
section
variable {prog:HB}{w:HF}{A:HY}{E:GV->GY->Prop}{s:GY}
end
section
variable {prog:HB}{w:HF}{A:HY}{R:J9->GY->Prop}
end
namespace F
end F
section
variable {prog:HB}{w:HF}{A:HY}{s:GY}{R:J9->GY->Prop}
end
section
variable {prog:HB}{w:HF}{A:HY}{E:GV->GY->Prop}{s:GY}
end
end PySem

set_option maxHeartbeats 4000000
namespace L2
open PySem PySem.Spec PyProof.Rows Tl
structure CC(K:PySem.W.Frag)(x qual:Str)(st:Stmt)(f:Addr)(fd:Hm):Prop where
 ex:∃(oc:GV) (od:Option Addr) (dV kV doc pm:GV) (an:Option Addr) (cdv ct:GV) (osl:Array (Option GV)),fd=PySem.W.fnOf x qual (cG st) (b_ st) (au st) dV kV doc pm an cdv ct/\K.lookup f=some ⟨oc,od,.func fd,osl⟩/\PySem.W.codeIn K cdv qual=true
 kp:PySem.W.keepIn K (.ref f)=true
theorem CC.ok{P:HB}{w:HF}{K:PySem.W.Frag}{mg:Str->Option GV}{base:Heap}{x qual:Str}{st:Stmt}{f:Addr}{fd:Hm}{N ps:List Str}{k:Nat}{sp:Sp}(F:CC K x qual st f fd)(S:aN N ps (au st))(len:∀vs H Q E,sp vs H Q E->vs.length=ps.length)(hbody:∀(cdv:GV) (A:HY) (outer:List Env) (s:GY) (H:Hp) (vs:List V) (Q:VK) (E:XK),cF k (A.deeper (IF qual (au st) s.heap.objs.size f cdv))->sp vs H Q E->
   ∃t,PSs (nP CX0 P w K mg base N qual (au st) f cdv A outer s H E).nox (b_ st) t/\t { nx:=λ_ H'=>Q .non H',rt:=Q } (jd N vs) H):bi P w K mg base CX0 (k+1) f fd ps sp:=by
 obtain⟨oc,od,dV,kV,doc,pm,an,cdv,ct,osl,rfl,lk,hcd⟩:=F.ex;exact zS lk hcd S len λA outer s H vs Q E hr hsp=>let⟨t,h,q⟩:=hbody cdv A outer s H vs Q E hr hsp;⟨t,h.nox,q⟩
structure xW(K:PySem.W.Frag)(mg:Str->Option GV)(x:Str)(st:Stmt)(ps:List Str)(f:Addr)(fd:Hm)(dv:GV):Prop where
 fn:CC K x x st f fd
 bd:gU K fd ps []
 bd1:gU K fd ps [dv]
 mg:mg x=some (.ref f)
section
variable {X:Cx}{x:Str}{st:Stmt}{ps:List Str}{f:Addr}{fd:Hm}{dv:GV}{k:Nat}{sp:Sp}{e:Expr}{es:List Expr}{t:TA}{p pos:Pos}
theorem Be{dx:V}(D:xW X.K X.mg x st ps f fd dv)(hdx:bo dx dv)(G:bi X.prog X.w X.K X.mg X.base CX0 k f fd ps sp)(hr:cF k X.A)(hg:Gl X x)(ha:PA X (e::es) t)(hd:(x==("__debug__" : Str))=false:=by decide)
  (he:HJ (e::es) X.env=(false,eval e X.env)::HJ es X.env:=by rfl)(hpl:(IT pos (HJ es X.env)).any (·.1)=false:=by rfl):PE X (.Call (.Name x p) (e::es) [] pos) (zR sp [dx] E0 t):=zh G hr hg D.mg D.fn.kp D.bd1 (.cons hdx .nil) eQ ha hd he hpl
theorem Bf{K:PySem.W.Frag}{h:Heap}{mg:Str->Option GV}(KX:K.In h)(G:h.Ns HC mg){od an od2:Option Addr}{sl sl2:Array (Option GV)}{oc oc2 kV dc pm cd ct:GV}{T:Addr}{n2:Nat}(a:PySem.W.nsIn K HC x=some (some (.ref f)))
  (l:K.lookup f=some ⟨oc,od,.func (PySem.W.fnOf x x (cG st) (b_ st) (au st) (.ref T) kV dc pm an cd ct),sl⟩)(c:PySem.W.codeIn K cd x=true)(k:PySem.W.keepIn K (.ref f)=true)(lt:K.lookup T=some ⟨oc2,od2,.seq #[dv] n2,sl2⟩)
  (b:∀(kV doc pm:GV) (an:Option Addr) (cdv ct:GV) (us:List GV),us.length=ps.length->∃k,KH (PySem.W.fnOf x x (cG st) (b_ st) (au st) (.ref T) kV doc pm an cdv ct) ⟨us,[]⟩=seqItems? (.ref T) >>= k/\k (some #[dv])=pure (ps.zip us))
  (b1:∀(kV doc pm:GV) (an:Option Addr) (cdv ct:GV) (us:List GV),us.length+1=ps.length->∃k,KH (PySem.W.fnOf x x (cG st) (b_ st) (au st) (.ref T) kV doc pm an cdv ct) ⟨us,[]⟩=seqItems? (.ref T) >>= k/\k (some #[dv])=pure (ps.zip (us++[dv]))) :
  xW K mg x st ps f (PySem.W.fnOf x x (cG st) (b_ st) (au st) (.ref T) kV dc pm an cd ct) dv:=by
 refine⟨⟨⟨oc,od,.ref T,kV,dc,pm,an,cd,ct,sl,rfl,l,c⟩,k⟩,λs us kin hl=>?_,λs us kin hl=>?_,PySem.W.mg_of KX G a⟩
 .rw[HU]at hl⊢;obtain⟨k',e1,e2⟩:=b kV dc pm an cd ct us hl;exact .of_defaults (T:=T) rfl (kin T _ lt) rfl e1 e2
 .rw[GX,Jn]at hl;obtain⟨k',e1,e2⟩:=b1 kV dc pm an cd ct us hl;exact .of_defaults (T:=T) rfl (kin T _ lt) rfl e1 e2
end
section
variable {F:Frm}{ds:List Wd}{xs ys zs:List (Int×Int)}{i j:Nat}
end
section
variable {F:Frm}{ds:List Wd}{x0 xs zs:List (Int×Int)}{np i:Nat}
end
section
variable {F:Frm}{ds:List Wd}{xs:List (Int×Int)}{i j:Nat}
end
section
variable {room:Int}{brk:Nat->Bool}
end
section
variable {F:Frm}{ds:List Wd}{L room:Int}{brk:Nat->Bool}
end
section
variable {F:Frm}{ds:List Wd}{xs:List (Int×Int)}{i j:Nat}
end
section
variable {F:Frm}{ds es:List Wd}{xs ys:List (Int×Int)}{a r:Nat}
end
section
variable {a:Nat}{ds rs:List Wd}
end
section
variable {F:Frm}{ds:List Wd}{xs:List (Int×Int)}{k:Nat}
end
section
variable {F:Frm}{ds es:List Wd}{xs:List (Int×Int)}{k j:Nat}{h h' f w:Int}
end
section
variable {K:PySem.W.Frag}{H0 H H':Hp}{as:List Addr}{ds:List Wd}
end
section
variable {X:Cx}
end
section
variable {prog:HB}{w:HF}{A:HY}{E:GV->GY->Prop}{s:GY}
end
section
variable {X:Cx}{pos:Pos}
end
section
variable {X:Cx}{elt iter:Expr}{ifs:List Expr}{scope:Scope}{cl:List (Str×Addr)}{pos px py tp:Pos}{k1:Nat}{x y:Str}{caps:List Str}{js:List Nat}{tc:TT}{te:TE}{wi:TI}
def g2(K:PySem.W.Frag):TG:=Cc K 2 (sO (bB 0) (sO (bB 1) Cb))
theorem Bg(hc:X.calm=true)(L:pK X scope cl [x,y] caps js)(hi:PI X (.Tuple [.Name x px,.Name y py] k1 tp) iter wi)
  (ht:∀s H C ex,PTs (X.blk (x::y::caps) s H scope cl C ex) ifs tc)(he:∀s H C ex,PE (X.blk (x::y::caps) s H scope cl C ex) elt te)
  (hN:(x::y::caps).Nodup:=by decide +kernel)(hx:(Je scope X.env).names.lookup x=some .local:=by with_unfolding_all rfl)(hy:(Je scope X.env).names.lookup y=some .local:=by with_unfolding_all rfl)
  (hs:∀x,Iv iter X.env x=pure x:=by intro _;rfl):PE X (.ListComp elt [⟨.Tuple [.Name x px,.Name y py] k1 tp,iter,ifs,0⟩] scope pos) (vp wi (g2 X.K) tc te 2 js):=
 xQ (own:=[x,y]) (g:=g2 X.K) hc L hi (λs H C ex=>dP hc (a9 (aO (i:=0) hN rfl (.inl hx) (.inr hx)) (a9 (aO (i:=1) hN rfl (.inl hy) (.inr hy)) c_))) ht he hs
end
end L2

set_option maxHeartbeats 4000000
namespace L2
open PySem PySem.W PySem.Calls PySem.Spec PyProof.Rows Builtin Builtin.ObjectAttr Builtin.Getset_descriptor
def jC(h:Heap)(x C:Addr):Prop:=∃o,h.get? x=some o/\o.cls=.ref C
section
variable {prog:HB}{w:HF}{A:HY}{E:GV->GY->Prop}{h:Heap}{g:Array Lg}{d:Drawn}{t:Nat}{os:Iy}{K:Frag}{x C:Addr}
theorem jC.type{M:Lw}(I:jC h x C):PySem.W.Looks M h (typeOf (.ref x)) (.ref C):=by
 obtain⟨ob,hob,hobc⟩:=I;have z:PySem.W.Looks M h (typeOf (.ref x)) ob.cls:=(PySem.W.Looks.ld hob).andThen .now;rw[hobc]at z;exact z
theorem Bh{M:Lw}{nameV:GV}{Q:Unit->GY->Prop}(X:K.In h)(I:jC h x C)(hb:subIn K (.ref C) (.type "BaseException")=some true)(hq:Q () ⟨h,g,d,t,os⟩):HK M A (checkBuiltinCall "BaseException.__getattribute__" ⟨[.ref x,nameV],[]⟩) Q E ⟨h,g,d,t,os⟩:=by
 have hk:builtinKind "BaseException.__getattribute__" = some .slot:=by decide +kernel
 have hsplit:splitId "BaseException.__getattribute__" = some ("BaseException","__getattribute__"):=by decide +kernel
 have ha:=PySem.F.args_bexc_ga (.ref x) nameV;have L0:=I.type (M:=M);have L1:=looks_subIn (M:=M) X hb;have LI:PySem.W.Looks M h (isInstance (.ref x) (.type "BaseException")) true:=L0.andThen L1;simp only[checkBuiltinCall,hk,hsplit];refine Hy (LI.at ?_)
 repeat (first|assumption|wp_step)
theorem DW{R:J9->GY->Prop}{tp:GV}(X:K.In h)(I:jC h x C)(hm:mroIn K C (.type "object")=some true)
  (hq:R (.ok (.ret (.ref C))) ⟨h,g,d,t,os⟩):JD (HG prog w) A (.call (.builtin "getset_descriptor.__get__") ⟨[.builtin "object.__class__",.ref x,tp],[]⟩) R ⟨h,g,d,t,os⟩:=by
 have L0:=I.type (M:=HG prog w);have L1:=looks_mroIn (M:=HG prog w) X hm;refine J4 KF.slot_gs.plain KF.entry_gs (KF.slot_gs.check _ _ _ _ _ _ _ _ KF.type_class (KF.args_gs _ _ _) ?_);unfold Ky.«getset_descriptor.__get__» descrGet;rw[dga_obj];refine Hy (Ig ?_);unfold descrGetter descrCheckInstance descrNameAndClass isInstance;simp only[KF.owner_class]
 repeat lk
 refine⟨Code.quiet_builtin _ (by decide +kernel),KU KF.entry_class ?_⟩;unfold Ky.«object.__class__» shownTypeOf
 repeat lk
 exact hq
theorem Bi{tk:Tok}{Q:Fin->GY->Prop}(X:K.In h)(I:jC h x C)(hcl:findIn K (.ref C) "__class__" = some (some (.builtin "object.__class__")))(hm:mroIn K C (.type "object")=some true)(hq:Q (.done (.ret (.ref C))) ⟨h,g,d,t,os⟩) :
  HK (HG prog w) A (Ky.«object.__getattribute__» ⟨[.ref x,.str "__class__" tk],[]⟩) Q E ⟨h,g,d,t,os⟩:=by
 have hT5:(⟨h,g,d,t,os⟩:GY).TypeIs (.builtin "object.__class__") "getset_descriptor":=PySem.F.typeOf_object_class;have f5:=PySem.F.typeOf_object_class;have f6:=PySem.F.slot_gs_get.lookup;have f7:=PySem.F.slot_gs_set.lookup;have L0:=I.type (M:=HG prog w);have L1:=looks_findIn (M:=HG prog w) X hcl;obtain⟨o,hx,hc⟩:=id I
 repeat (any_goals (first|assumption|(with_reducible refine wpAny_loadPart_at hx ?_;rw[hc])|with_reducible refine Looks.at L0 ?_|with_reducible refine Looks.at L1 ?_|wp_step))
 refine DW X I hm ?_
 repeat (any_goals (first|assumption|wp_step))
theorem CD{tk:Tok}{R:J9->GY->Prop}(X:K.In h)(I:jC h x C)(hcl:findIn K (.ref C) "__class__" = some (some (.builtin "object.__class__")))(hm:mroIn K C (.type "object")=some true)(hb:subIn K (.ref C) (.type "BaseException")=some true)(hq:R (.ok (.ret (.ref C))) ⟨h,g,d,t,os⟩) :
  JD (HG prog w) A (.call (.builtin "BaseException.__getattribute__") ⟨[.ref x,.str "__class__" tk],[]⟩) R ⟨h,g,d,t,os⟩:=
 J4 (by decide +kernel) PySem.F.entry_bexc_ga (Bh X I hb (Bi X I hcl hm hq))
theorem EZ{tk:Tok}{Q:GV->GY->Prop}(X:K.In h)(I:jC h x C)(hga:findIn K (.ref C) "__getattribute__" = some (some (.builtin "BaseException.__getattribute__")))(hgt:findIn K (.ref C) "__getattr__" = some none)(hcl:findIn K (.ref C) "__class__" = some (some (.builtin "object.__class__")))(hm:mroIn K C (.type "object")=some true)(hb:subIn K (.ref C) (.type "BaseException")=some true)(hq:Q (.ref C) ⟨h,g,d,t,os⟩) :
  HK (HG prog w) A (getAttrBy (.ref x) (.str "__class__" tk) false false) Q E ⟨h,g,d,t,os⟩:=by
 have f3:=PySem.F.attr_ValueError.ga.bind (.ref x);have hx2:(KC "BaseException.__getattribute__" == KC "object.__getattribute__")=false:=by decide +kernel
 have hx1:(onTheHeap (Ie C)&&KC "BaseException.__getattribute__" == KC "object.__getattribute__")=false:=by rw[hx2];rfl
 have L0:=I.type (M:=HG prog w);have L1:=looks_findIn (M:=HG prog w) X hga;have L2:=looks_findIn (M:=HG prog w) X hgt;obtain⟨o,hx,hc⟩:=id I
 repeat (any_goals (first|assumption|(with_reducible refine wpAny_loadPart_at hx ?_;rw[hc])|with_reducible refine Looks.at L0 ?_|with_reducible refine Looks.at L1 ?_|with_reducible refine Looks.at L2 ?_|wp_step))
 refine CD X I hcl hm hb ?_
 repeat (any_goals (first|assumption|wp_step))
theorem CF{Q:Option GV->GY->Prop}(X:K.In h)(I:jC h x C)(hga:findIn K (.ref C) "__getattribute__" = some (some (.builtin "BaseException.__getattribute__")))(hgt:findIn K (.ref C) "__getattr__" = some none)(hcl:findIn K (.ref C) "__class__" = some (some (.builtin "object.__class__")))(hm:mroIn K C (.type "object")=some true)(hb:subIn K (.ref C) (.type "BaseException")=some true)(hq:Q (some (.ref C)) ⟨h,g,d,t+1,os⟩) :
  HK (HG prog w) A (LO (.ref x) "__class__") Q E ⟨h,g,d,t,os⟩:=by
 unfold LO getAttrBy?
 repeat (any_goals (first|assumption|with_reducible apply EZ X I hga hgt hcl hm hb|wp_step))
end
def jD(K:Frag)(C:Addr):Bool:=(clsIn K C).isSome&&findIn K (.ref C) "__getattribute__" == some (some (.builtin "BaseException.__getattribute__"))&&findIn K (.ref C) "__getattr__" == some none&&findIn K (.ref C) "__class__" == some (some (.builtin "object.__class__"))&&mroIn K C (.type "object")==some true&&subIn K (.ref C) (.type "BaseException")==some true
theorem xX{K:Frag}{x C:Addr}(e:jD K C=true):KitX K (.ref x) (.ref C) (λh=>jC h x C):=by
 unfold jD at e;simp only[Iu,beq_iff_eq]at e;obtain⟨⟨⟨⟨⟨e0,e1⟩,e2⟩,e3⟩,e4⟩,e5⟩:=e;refine⟨λ_ _ _ I=>I.type,λ_ _ X _=>?_,λh tp dd its n sl X htp=>?_,λ{prog w A E Q s} X I k=>?_⟩
 .unfold clsIn at e0
  split at e0
  .rename_i c' d' cd' sl' ho
   intro A' Q' E' s' k q;unfold isType loadHead;exact Hy (wpAny_loadPart (k _ _ (X _ _ ho)) (Ig q))
  .cases e0
 .refine Bool.eq_false_iff.mpr λq=>?_;have e:C=tp:=Value.ref.inj (beq_iff_eq.mp q);subst e;unfold clsIn at e0
  split at e0
  .rename_i c' d' cd' sl' ho
   have z:=(X _ _ ho).symm.trans htp;cases z
  .cases e0
 .obtain⟨h,g,d,t,os⟩:=s;exact CF X I e1 e2 e3 e4 e5 k
end L2

namespace L2
open PySem PySem.W PySem.Spec PyProof.Rows
def fe(x C:Addr):HO:=.ext λh=>jC h x C
section
variable {X:Cx}{pins:List (Addr×Obj)}{σ:St}{H:Hp}{s:GY}
theorem cu.there{P:HB}{w:HF}{H:Hp}{h:Heap}{a:Addr}{o:HO}(z:cu P w H h a o):∃ob,h.get? a=some ob:=by
 induction o with
 |lst xs=>obtain⟨_,_,_,_,e⟩:=z;exact⟨_,e⟩
 |tup xs=>obtain⟨_,_,_,ob,e,_⟩:=z;exact⟨_,e⟩
 |dK kvs=>obtain⟨_,_,_,_,ob,_,_,e,_⟩:=z;exact⟨_,e⟩
 |dT kvs=>obtain⟨_,_,_,_,ob,_,_,e,_⟩:=z;exact⟨_,e⟩
 |set S n=>obtain⟨ob,_,_,_,e,_⟩:=z;exact⟨_,e⟩
 |ins C dx fs=>obtain⟨_,_,_,e,_⟩:=z;exact⟨_,e⟩
 |own y=>obtain⟨_,e⟩:=z;exact⟨_,e⟩
 |xd fs=>obtain⟨_,⟨_,_,_,e,_⟩,_⟩:=z;exact⟨_,e⟩
 |rng lo hi=>obtain⟨_,_,_,e⟩:=z;exact⟨_,e⟩
 |frz ob u ih=>obtain⟨e,_⟩:=z;exact⟨_,e⟩
 |tbl ps=>exact⟨_,(show h.get? a=some _ from z)⟩
 |met f y=>exact⟨_,(show h.get? a=some _ from z)⟩
 |ext φ=>obtain⟨_,⟨_,e⟩,_⟩:=z;exact⟨_,e⟩
theorem Inv.trackX{x C:Addr}(I:Inv X pins σ H s)(ex:jC s.heap x C)(hn:H x=none)(h0:∀o,X.s₀.heap.get? x=some o->x∈X.ex)(hL:x≠X.env.locals)(hc:∀y c,X.env.cells.lookup y=some c->c≠x)(hp:∀p∈X.pn++pins,p.1≠x):Inv X pins σ (upd H x (fe x C)) s:=by
 refine⟨I.ok,I.os,I.bare,⟨I.base.keep,I.base.slot,λb o q n hx=>?_,I.base.there,λb xs q=>?_,λb o u q=>?_,λb ps q=>?_⟩,I.loc,I.cell,?_,λy c e=>?_,λp h=>?_,λb ob q=>?_,I.len⟩
 .have nb:b≠x:=λe=>by subst e;exact hx (h0 o q)
  rw[aj nb];exact I.base.free b o q n hx
 .have z:=I.base.tups b xs q;rw[aj (λe=>by rw[e,hn]at z;cases z)];exact z
 .have z:=I.base.frzs b o u q;rw[aj (λe=>by rw[e,hn]at z;cases z)];exact z
 .obtain⟨more,z⟩:=I.base.tbls b ps q;exact⟨more,by rw[aj (λe=>by rw[e,hn]at z;cases z)];exact z⟩
 .rw[aj (HW hL)];exact I.free
 .rw[aj (hc y c e)];exact I.freeC y c e
 .obtain⟨z1,z2,z3,z4,z5⟩:=I.pin p h;exact⟨z1,by rw[aj (hp p h)];exact z2,z3,z4,z5⟩
 .by_cases e:b=x
  .subst e;rw[ac]at q;cases q;obtain⟨o,e1,e2⟩:=id ex;exact⟨ex,⟨o,e1⟩,λh1 h2 p k=>by obtain⟨o,f1,f2⟩:=p;exact⟨o,k o f1,f2⟩⟩
  .rw[aj e]at q;refine(I.hok b ob q).stay (λc v _ z=>z) (λc z=>?_) (λc xs z=>?_)
   .rw[aj (λe=>by rw[e,hn]at z;cases z)];exact z
   .rw[aj (λe=>by rw[e,hn]at z;cases z)];exact z
theorem sX{M:Lw}{A:HY}{E:GV->GY->Prop}{i:Nat}{x:Str}{pos:Pos}{Q:Unit->GY->Prop}(I:Inv X pins σ H s)(hN:X.N.Nodup)(hi:X.N[i]?=some x)(hk:X.env.kindOf x=some .local)
  (h:∀s',Inv X pins (σ.set i none) H s'->Q () s'):HK M A (do bindName X.env x .none;unbindBehindTheSuite X.env x pos) Q E s:=by
 obtain⟨m,hn,hl⟩:=id I.loc;have hcls:(X.env.scope.kind==.class||(X.env.scope.kind==.module&&X.env.locals != X.env.globals))=false:=by rw[I.ok.kind];rfl
 have hiσ:i<σ.length:=by rw[I.len];exact(List.getElem?_eq_some_iff.mp hi).1
 have cne:=I.cne;have tracked:∀{a:Addr} {h':Heap},(∃o,s.heap.get? a=some o/\H a=none)->Ji a s.heap h'->HOk X.prog X.w H h':=λ{a h'} ha hs b ob e=>by
  obtain⟨_,_,hfree⟩:=ha;refine(I.hok b ob e).stay (λc w' hc q=>(hs.2 c ?_).trans q) (λ_ q=>q) λ_ _ q=>q;rintro rfl;rcases hc with rfl|hc
  .rw[hfree]at e;cases e
  .rw[hfree]at hc;cases hc
 refine wpAny_nameGoes_keeps hk hn hcls (λh' v hn' hs=>?_);obtain⟨oL,_,_,hoL,_⟩:=id hn;refine h _ ⟨I.ok,I.os,I.bare,⟨λb o e n hb hx=>?_,λb o e n hb hx=>?_,I.base.free,λb o e hx=>?_,I.base.tups,I.base.frzs,I.base.tbls⟩,⟨_,hn',λj y v' e1 e2 e3=>?_⟩,λy c e=>?_,I.free,I.freeC,λp hp=>?_,tracked ⟨oL,hoL,I.free⟩ hs,by simpa using I.len⟩
 .exact(hs.2 b (Hr (Hx (Hl e) I.ok.above))).trans (I.base.keep b o e n hb hx)
 .obtain⟨sl,e1⟩:=I.base.slot b o e n hb hx;exact⟨sl,(hs.2 b (Hr (Hx (Hl e) I.ok.above))).trans e1⟩
 .obtain⟨o',e1⟩:=I.base.there b o e hx;exact⟨o',(hs.2 b (Hr (Hx (Hl e) I.ok.above))).trans e1⟩
 .by_cases hj:j=i
  .subst hj;rw[JL hiσ]at e2;cases e2
  .rw[J0 (HW hj)]at e2;obtain⟨u',r',q⟩:=hl j y v' e1 e2 e3;refine⟨u',r',?_⟩;rcases q with⟨k,e⟩|⟨k,c,e,z⟩
   .refine .inl ⟨k,?_⟩;have:y≠x:=λe=>hj (tS hN e1 (e▸hi));simp[this,e]
   .exact .inr ⟨k,c,e,z.sameBut hs (cne y c e)⟩
 .obtain⟨w',z⟩:=I.cell y c e;exact⟨w',z.sameBut hs (cne y c e)⟩
 .obtain⟨e,n,ne,nf,d⟩:=I.pin p hp;exact⟨(hs.2 p.1 ne).trans e,n,ne,nf,d⟩
end
def CG(D:dZ)(i:Nat):dZ:={ nx:=λσ H=>D.nx (σ.set i none) H,rt:=D.rt,bk:=λσ H=>D.bk (σ.set i none) H,ct:=λσ H=>D.ct (σ.set i none) H }
section
variable {X:Cx}{k:Nat}{f T:Addr}{fd:Hm}{ps:List Str}{sp:Sp}{fx c n:Str}{i:Nat}{st:Stmt}{e:Expr}{es:List Expr}{t:TA}{b₀:Stmt}{suite:List Stmt}{th:TS}{np pf cpos apos hpos pos:Pos}
theorem Bj{pins:List (Addr×Obj)}{σ:St}{H1 H':Hp}{s1 s2:GY}{D:dZ}{x C:Addr}{B:Heap}{a0:GV}{E2:GV->GY->Prop}(I1:Inv X pins σ H1 s1)(hst:X.stack=X.env::X.outer/\X.env.frame=some X.env.locals)
  (os:s2.os=s1.os)(bare:JW s2.gens)(un:Un (frs X.stack) [] H1 H' s1.heap s2.heap)(hok:HOk X.prog X.w H' B)
  (cov1:∀b o,s1.heap.get? b=some o->H1 b=none->b∉frs X.stack->B.get? b=some o)(cov2:∀b o,s1.heap.get? b=some o->b∉frs X.stack->∃o',B.get? b=some o')(fl:Kh B X.stack x (.ref C) a0 s2.heap)
  (hN:X.N.Nodup)(hi:X.N[i]?=some n)(hk:X.env.kindOf n=some .local)
  (hg:Gl X c)(hm:X.mg c=some (.ref T))(tk:jB X.K C T)(hh:∀v,PSs (X.marked v) (b₀::suite) th)(q:∀x,H' x=none->th (CG D i) (σ.set i (some (.ref x))) (upd H' x (fe x C)))(hd:(c==("__debug__" : Str))=false:=by decide) :
  HK (HG X.prog X.w) X.A (noteFrame (.ref x) X.env) (λ_ s₂=>HK (HG X.prog X.w) X.A (setFlight (.ref x) none) (λ_ s₃=>HK (HG X.prog X.w) X.A (handleBy (.ref x) X.env [.ExceptHandler (some (.Name c np)) (some n) (b₀::suite) hpos]) (SP X pins D) E2 s₃) E2 s₂) E2 s2:=by
 have hfr:X.A.frames=some (X.env::X.outer):=hst.1▸I1.ok.frames;have after:∀h6:Heap,Kh B X.stack x (.ref C) a0 h6->s2.heap.UpToSlots h6->Inv X pins σ H' { s2 with heap:=h6 }:=λh6 fl6 up=>by
  refine I1.call' (ch:=[]) os ⟨λb o q n hb _=>fl6.1 b o (cov1 b o q n hb),λb o q n hb hx'=>?_,un.free,λb o q _=>?_,un.tups,un.frzs,un.tbls⟩ (hok.kept fl6.1) bare (λb z=>absurd z (by simp))
  .obtain⟨sl,e1⟩:=un.slot b o q n hb hx';obtain⟨_,o3,e3,nd⟩:=fl.2.2.1.mem hb;rw[e1]at e3;cases e3;obtain⟨sl3,e4⟩:=up b _ e1 nd;exact⟨sl3,e4⟩
  .by_cases hb:b∈frs X.stack
   .obtain⟨_,o3,e3,_⟩:=fl6.2.2.1.mem hb;exact⟨o3,e3⟩
   .obtain⟨o',e⟩:=cov2 b o q hb;exact⟨o',fl6.1 b o' e⟩
 have flx:=fl;rw[hst.1]at fl;refine wpAny_looks_onW hfr hst.2 fl λh₄ held up4=>?_;refine wpAny_landsW held λh₅ fl5 up5=>?_;have fl5':Kh B X.stack x (.ref C) a0 h₅:=hst.1▸fl5;have I5:=after h₅ fl5' (up4.trans up5);have I5m:=I5.marked (.ref x);refine wpAny_handleBy_cons (codeAny_handlers_test (jT (X:=X.marked (.ref x)) I5m hg hm ?_ hd)) (by intro q;cases q);obtain⟨ob,hob,hobc⟩:=fl5.there;have LT:PySem.W.Looks (HG X.prog X.w) h₅ (typeOf (.ref x)) (.ref C):=by
  have z:PySem.W.Looks (HG X.prog X.w) h₅ (typeOf (.ref x)) ob.cls:=(PySem.W.Looks.ld hob).andThen .now;rw[hobc]at z;exact z
 refine(PySem.W.exm_one (M:=HG X.prog X.w) (I5.kIn) LT tk).here ?_;refine codeAny_handlers_suite_as ?_;refine lands_againW fl5 λh₆ fl6 up6=>?_;have fl6':Kh B X.stack x (.ref C) a0 h₆:=hst.1▸fl6;have I6:=after h₆ fl6' ((up4.trans up5).trans up6);have hBx:B.get? x=none:=fl6'.2.1;have hx0:H' x=none:=by
  cases hq:H' x with
  |none=>rfl
  |some o =>
   obtain⟨ob2,z⟩:=(hok x o hq).there;rw[hBx]at z;cases z
 obtain⟨oe,vs,T',oT,ts,he,hcl,hdat,_⟩:=fl6'.2.2.2;have nofr:∀b,b∈frs X.stack->b≠x:=λb hb e=>by
  obtain⟨_,o3,e3,nd⟩:=fl6'.2.2.1.mem hb;rw[e,he]at e3;cases e3;exact nd _ hdat
 have I7:=(I6.trackX (x:=x) (C:=C) ⟨oe,he,hcl.1⟩ hx0 (λo z=>by
   by_cases hx':x∈X.ex
   .exact hx'
   .obtain⟨o',z'⟩:=I1.base.there x o z hx';obtain⟨o2,z2⟩:=cov2 x o' z' (λhb=>nofr x hb rfl);rw[hBx]at z2;cases z2) (λe=>by
   obtain⟨m,⟨oL,es',ep,hoL,hdL,_⟩,_⟩:=I6.loc;have hoL':h₆.get? X.env.locals=some oL:=hoL;rw[<-e,he]at hoL';cases hoL';rw[hdat]at hdL;cases hdL) (λy cc ec e=>by
   obtain⟨v,oc,z1,z2⟩:=I6.cell y cc ec;have z1':h₆.get? cc=some oc:=z1;rw[e,he]at z1';cases z1';rw[hdat]at z2;cases z2) (λp hp e=>by
   obtain⟨z1,z2,z3,z4,z5⟩:=I1.pin p hp;have nf:p.1∉frs X.stack:=λhb=>by
    rcases List.mem_cons.mp (I1.stkSub p.1 hb)with z|z
    .exact z3 z
    .exact z4 z
   obtain⟨o2,z6⟩:=cov2 p.1 p.2 z1 nf;rw[e,hBx]at z6;cases z6)).marked (.ref x)
 refine pG (X:=X.marked (.ref x)) I7 hN hi (.inl hk) (show bo (.ref x) (.ref x)from rfl) (λs8 I8=>?_) (.inr hk);refine Ii (hh (.ref x) pins _ _ _ (CG D i) I8 (q x hx0)) (λfl s' h=>?_) λ_ _ z=>Iz z;have h':=h.unmarked I1.ok.hd;show HK (HG X.prog X.w) X.A (do bindName X.env n .none;unbindBehindTheSuite X.env n hpos) (λ_ s₃=>SP X pins D fl s₃) E2 s'
 cases fl with
 |next=>obtain⟨σ',H2,J,z⟩:=h';exact sX J hN hi hk λs3 J3=>⟨_,_,J3,z⟩
 |brk=>obtain⟨σ',H2,J,z⟩:=h';exact sX J hN hi hk λs3 J3=>⟨_,_,J3,z⟩
 |cont=>obtain⟨σ',H2,J,z⟩:=h';exact sX J hN hi hk λs3 J3=>⟨_,_,J3,z⟩
 |ret u=>obtain⟨v,σ',H2,J,r,z⟩:=h';exact sX J hN hi hk λs3 J3=>⟨_,_,_,J3,r,z⟩
def E1(K:PySem.W.Frag)(sp:Sp)(t:TA)(T:Addr)(i:Nat)(th:TS):TS:=λD σ H=>t σ H λvs H1=>sp (vs++[]) H1 (λ_ H2=>D.nx σ H2) (λcls _ H2=>∃C,cls=.ref C/\jB K C T/\∀x,H2 x=none->th (CG D i) (σ.set i (some (.ref x))) (upd H2 x (fe x C)))
theorem Bk(hN:X.N.Nodup)(hi:X.N[i]?=some n)(hk:X.env.kindOf n=some .local)(Df:bY X.K X.mg fx st ps f fd)(G:bi X.prog X.w X.K X.mg X.base (CXe X.prog X.w) k f fd ps sp)(hr:cF k X.A)(hgf:Gl X fx)
  (ha:∀W,PA (X.wish W) (e::es) t)(hgc:Gl X c)(O:jf X.K X.mg c T)(hst:X.stack=X.env::X.outer/\X.env.frame=some X.env.locals)(hh:∀v,PSs (X.marked v) (b₀::suite) th)
  (hs:JI (.Call (.Name fx pf) (e::es) [] cpos) none apos.line X.env=pure false:=by rfl)
  (hd:(fx==("__debug__" : Str))=false:=by decide)(hdc:(c==("__debug__" : Str))=false:=by decide)(he:HJ (e::es) X.env=(false,eval e X.env)::HJ es X.env:=by rfl)(hpl:(IT cpos (HJ es X.env)).any (·.1)=false:=by rfl) :
  PS X (.Try [.Expr (.Call (.Name fx pf) (e::es) [] cpos) apos] [.ExceptHandler (some (.Name c np)) (some n) (b₀::suite) hpos] [] [] pos) (E1 X.K sp t T i th):=by
 intro pins s σ H D I h;refine wpAny_Try_except (JT (wpAny_Expr_any (thn (Cy I Df G hr hgf (ha _) h (λH1 s1 ex s2 I1 hx=>?_) hd he hpl) λv s1 ⟨y,H1,I1,r1,q1⟩=>?_) I.quiet hs))
 .obtain⟨x,C,H',B,a0,rfl,os,bare,un,hok,cov1,cov2,fl,C',ec,tk,q⟩:=hx;cases ec;exact Bj I1 hst os bare un hok cov1 cov2 fl hN hi hk hgc O.mg tk hh q hdc
 .exact IY (IY ⟨σ,H1,I1,q1⟩)
def jE(K:PySem.W.Frag)(xs:List V)(H:Hp)(Q:V->Hp->Prop):Prop:=∃x C T b,xs=[.ref x,T]/\H x=some (fe x C)/\jD K C=true/\((∃a,T=.ref a/\PySem.W.kitOne K (.ref C) (.ref a)=some b)\/∃m,T=.ty m/\PySem.W.kitOne K (.ref C) (.type m)=some b)/\Q (.bl b) H
theorem ef{X:Cx}:iI X (.builtin "isinstance") (jE X.K):=by
 intro pins s σ H xs us Q I r h;obtain⟨x,C,T,b,rfl,hx,hl,hT,q⟩:=h;obtain⟨ho,_,_⟩:=(show cu X.prog X.w H s.heap x (fe x C)from I.hok x _ hx);rcases hT with⟨a,rfl,hb⟩|⟨m,rfl,hb⟩
 .cases r with
  |cons r1 r2 =>
   cases r2 with
   |cons r3 r4 =>
    cases r4;cases r1;cases r3;exact PySem.W.kia_one (xX hl) I.kIn ho hb (by intro z;cases z) λtk=>⟨.bl b,H,I.tok tk,rfl,q⟩
 .cases r with
  |cons r1 r2 =>
   cases r2 with
   |cons r3 r4 =>
    cases r4;cases r1;cases r3;exact PySem.W.kia_one (xX hl) I.kIn ho hb (by intro z;cases z) λtk=>⟨.bl b,H,I.tok tk,rfl,q⟩
end
end L2

set_option maxHeartbeats 4000000
namespace L2
open PySem PySem.Spec PyProof.Rows Builtin Builtin.ObjectAttr
section
variable {prog:HB}{w:HF}{A:HY}{E:GV->GY->Prop}{h:Heap}{g:Array Lg}{d:Drawn}{t:Nat}{os:Iy}{a:Addr}{o:Obj}
theorem xY:Le (.type "list") "keys" = pure none:=by rw[typeLookup_type,builtinLookup_eq_fast];kernel_rfl
theorem t4:isSubtype (.type "AttributeError") (.type "AttributeError")=pure true:=by rw[isSubtype_type];kernel_rfl
theorem zY{α:Type}{ov:GV}{name msg:Str}{Q:α->GY->Prop}(hm:msg.length<=Hs)(hh:A.handled=none)
  (hq:∀h' t' e,(∀b o,h.get? b=some o->h'.get? b=some o)->(∃ob,h'.get? e=some ob/\ob.cls=.type "AttributeError")->E (.ref e) ⟨h',g,d,t',os⟩) :
  HK (HG prog w) A (raiseAttrError ov name msg:Sem α) Q E ⟨h,g,d,t,os⟩:=by
 unfold raiseAttrError;refine Hy (wpAny_mkStr (Hy ?_) hm);unfold newExc newTuple;refine Hy (Ku ?_ (by size_fits));refine Hy (m:=firstArgMember _ _) (wpAny_of_eq (a:=JS) (by unfold firstArgMember;kernel_rfl) ?_);refine Ku ?_ (by size_fits);have hE:=HI (h.push { cls:=.type "tuple",data:=.seq #[IW msg t] }) (o:={ cls:=.type "AttributeError",data:=.fields (#[Ie h.objs.size,.none,.none,.none,.bool false,.none]++ownMembersOf (.type "AttributeError") [IW msg t]) }) rfl;have hT:(⟨(h.push { cls:=.type "tuple",data:=.seq #[IW msg t] }).push { cls:=.type "AttributeError",data:=.fields (#[Ie h.objs.size,.none,.none,.none,.bool false,.none]++ownMembersOf (.type "AttributeError") [IW msg t]) },g,d,t+1,os⟩:GY).TypeIs (.ref (h.push { cls:=.type "tuple",data:=.seq #[IW msg t] }).objs.size) "AttributeError":=⟨_,hE,rfl⟩;have f1:=t4;unfold noteAttr lacksNameAndObj layMembers
 repeat (any_goals (first|assumption|wp_step))
 unfold raiseNew;refine Hy (wpAny_handled ?_);rw[hh]
 first
  |refine wpAny_throw ?_
  |refine Hy (Ig (wpAny_throw ?_))
 refine hq _ _ _ (λb o hb=>?_) ⟨_,Heap.get?_update_self _ hE rfl,rfl⟩;have lt:=Hl hb;refine(JO _ _ (λe=>?_)).trans (Hg _ (Hg _ hb));have sz:(h.push { cls:=.type "tuple",data:=.seq #[IW msg t] }).objs.size=h.objs.size+1:=JN ..;have e':(h.push { cls:=.type "tuple",data:=.seq #[IW msg t] }).objs.size=b:=e;exact absurd lt (by rw[<-e',sz];exact Nat.not_lt.mpr (IR _))
theorem zZ{tk:Tok}{Q:Fin->GY->Prop}{its:Array GV}{n:Nat}{sl:Array (Option GV)}(hx:h.get? a=some ⟨.type "list",none,.seq its n,sl⟩)(hh:A.handled=none)
  (hq:∀h' t' e,(∀b o,h.get? b=some o->h'.get? b=some o)->(∃ob,h'.get? e=some ob/\ob.cls=.type "AttributeError")->E (.ref e) ⟨h',g,d,t',os⟩) :
  HK (HG prog w) A (Ky.«object.__getattribute__» ⟨[.ref a,.str "keys" tk],[]⟩) Q E ⟨h,g,d,t,os⟩:=by
 have hT:(⟨h,g,d,t,os⟩:GY).TypeIs (.ref a) "list":=⟨_,hx,rfl⟩;have f4:=xY
 repeat (any_goals (first|assumption|wp_step))
 exact zY (by decide +kernel) hh hq
theorem wD:Le (.type "list") "__getattr__" = pure none:=by rw[typeLookup_type,builtinLookup_eq_fast];kernel_rfl
theorem Bl{tk:Tok}{R:J9->GY->Prop}{its:Array GV}{n:Nat}{sl:Array (Option GV)}(hx:h.get? a=some ⟨.type "list",none,.seq its n,sl⟩)(hh:A.handled=none)
  (hq:∀h' t' e,(∀b o,h.get? b=some o->h'.get? b=some o)->(∃ob,h'.get? e=some ob/\ob.cls=.type "AttributeError")->R (.error (.ref e)) ⟨h',g,d,t',os⟩) :
  JD (HG prog w) A (.call (.builtin "list.__getattribute__") ⟨[.ref a,.str "keys" tk],[]⟩) R ⟨h,g,d,t,os⟩:=
 J4 F.slot_list_getattribute.plain F.entry_list_ga (F.slot_list_getattribute.check _ _ _ _ _ _ _ _ (show(⟨h,g,d,t,os⟩:GY).TypeIs (.ref a) "list" from⟨_,hx,rfl⟩) (F.args_list_getattribute_2 _ _) (zZ hx hh hq))
theorem DX{tk:Tok}{Q:GV->GY->Prop}{its:Array GV}{n:Nat}{sl:Array (Option GV)}(hx:h.get? a=some ⟨.type "list",none,.seq its n,sl⟩)(hh:A.handled=none)
  (hq:∀h' t' e,(∀b o,h.get? b=some o->h'.get? b=some o)->(∃ob,h'.get? e=some ob/\ob.cls=.type "AttributeError")->E (.ref e) ⟨h',g,d,t',os⟩) :
  HK (HG prog w) A (getAttrBy (.ref a) (.str "keys" tk) false) Q E ⟨h,g,d,t,os⟩:=by
 have hT:(⟨h,g,d,t,os⟩:GY).TypeIs (.ref a) "list":=⟨_,hx,rfl⟩;have f2:=F.slot_list_getattribute.lookup;have f3:=F.slot_list_getattribute.bind (.ref a)
 repeat (any_goals (first|assumption|wp_step))
 refine Bl hx hh λh' t' e k ex=>?_;obtain⟨ob,he,hec⟩:=id ex;have hT2:(⟨h',g,d,t',os⟩:GY).TypeIs (.ref e) "AttributeError":=⟨_,he,hec⟩;have f5:=t4;have f6:=wD;show HK (HG prog w) A (getattributeRaised (Ie a) (IW (Lf "keys") tk) (Js "list") (.ref e) none false false) Q E ⟨h',g,d,t',os⟩;unfold getattributeRaised hookBehind
 repeat (any_goals (first|assumption|wp_step))
 exact hq _ _ _ k ex
theorem Bm{Q:Option GV->GY->Prop}{its:Array GV}{n:Nat}{sl:Array (Option GV)}(hx:h.get? a=some ⟨.type "list",none,.seq its n,sl⟩)(hh:A.handled=none)
  (hq:∀h' t',(∀b o,h.get? b=some o->h'.get? b=some o)->Q none ⟨h',g,d,t',os⟩) :
  HK (HG prog w) A (LO (.ref a) "keys") Q E ⟨h,g,d,t,os⟩:=by
 unfold LO getAttrBy?
 repeat (any_goals (first|assumption|with_reducible apply DX hx hh|wp_step))
 rintro h' t' e k ⟨ob,he,hec⟩;have hT2:(⟨h',g,d,t',os⟩:GY).TypeIs (.ref e) "AttributeError":=⟨_,he,hec⟩;have f5:=t4
 repeat (any_goals (first|assumption|wp_step))
 exact hq _ _ k
end
end L2

namespace L2
open PySem PySem.Spec PyProof.Rows
def laid(kvs:List (Key×GV)):List (Key×GV):=kvs.foldl (λm kv=>LK m kv.1 kv.2) []
theorem rk(kvs:List (Key×GV))(kv:Key×GV):laid (kvs++[kv])=LK (laid kvs) kv.1 kv.2:=by unfold laid;rw[Kz];rfl
theorem z0(m:List (Key×GV))(k:Key)(v:GV):(LK m k v).length<=m.length+1:=by
 unfold LK
 split
 .rw[GT];omega
 .rw[GX];simp
theorem oZ:entryFor table "dict.update.loop" = some Ky.«dict.update.loop»:=entryFor_of_tree (by kernel_rfl)
theorem iK:plainId "dict.update.loop" = true:=by decide +kernel
section
variable {prog:HB}{w:HF}{A:HY}{R:J9->GY->Prop}{i0 l d:Addr}{its:Array GV}{kvs:List (Key×GV)}
def Prs(prog:HB)(w:HF)(h:Heap)(its:Array GV)(kvs:List (Key×GV)):Prop:=its.size=kvs.length/\∀(j:Nat) v k x,its[j]?=some v->kvs[j]?=some (k,x)->∃p key,v=.ref p/\IsTup h p #[key,x]/\(bA prog w).is k key=true
theorem CI{h h':Heap}{p a:Addr}{xs:Array GV}(t:IsTup h p xs)(s:Ji a h h')(n:p≠a):IsTup h' p xs:=by
 obtain⟨o,ho,r⟩:=t;exact⟨o,(s.2 p n).trans ho,r⟩
theorem Prs.keep{h h':Heap}{a:Addr}(t:Prs prog w h its kvs)(s:Ji a h h')(n:∀o,h.get? a=some o->o.cls≠.type "tuple"):Prs prog w h' its kvs:=⟨t.1,λj v k x e1 e2=>by
 obtain⟨p,key,e3,tp,kk⟩:=t.2 j v k x e1 e2;refine⟨p,key,e3,CI tp s λe=>?_,kk⟩;obtain⟨o,ho,hc,_⟩:=tp;exact n o (by rw[<-e];exact ho) hc⟩
theorem wE(ne1:i0≠d)(ne2:l≠d)(ne3:l≠i0)(hh:A.in1.handled=none)(hz:its.size<=100000) :
  ∀(k i:Nat) (s:GY),its.size-i=k->i<=its.size->s.heap.IsListIter i0 l i->s.heap.IsList l its->s.heap.DictOf (bA prog w) d (laid (kvs.take i))->(laid (kvs.take i)).length<=i->Prs prog w s.heap its kvs->
  (∀h' tk,h'.DictOf (bA prog w) d (laid kvs)->(∀b o,b≠d->b≠i0->s.heap.get? b=some o->h'.get? b=some o)->R (.ok (.ret .none)) { s with heap:=h',toks:=tk })->
  JD (HG prog w) A (.builtin "dict.update.loop" ⟨[.ref d,.ref i0,rawInt (i:Int),.none],[]⟩) R s:=by
 intro k;induction k with
 |zero =>
  intro i s hk hi hit hl hd hdl hp hR;have ei:i=its.size:=by omega
  refine KU oZ ?_;rw[Around.under_plainId iK _];show HK _ A.in1 (pyNext (.ref i0) >>= _) _ _ s;refine Hy (wpAny_pyNext_list_end hh hit hl (by simp[ei]) λh' ex=>?_);refine Hy (Ig ?_);have e1:kvs.take i=kvs:=Ik (by rw[ei,hp.1];exact G_ _);rw[e1]at hd;exact Ig (hR h' _ (hd.extBut ex (HW ne1)) λb o _ hb e=>ex b o hb e)
 |succ k ih =>
  intro i s hk hi hit hl hd hdl hp hR;have hlt:i<its.size:=by omega
  have hkl:i<kvs.length:=by rw[<-hp.1];exact hlt
  refine KU oZ ?_;rw[Around.under_plainId iK _];show HK _ A.in1 (pyNext (.ref i0) >>= _) _ _ s;refine Hy (wpAny_pyNext_list_item hit hl (x:=its[i]) (by simp[hlt]) λh1 it1 sb1=>?_);have hp1:Prs prog w h1 its kvs:=hp.keep sb1 λo ho hc=>by
   obtain⟨o2,ho2,hc2,_⟩:=hit;rw[ho]at ho2;cases ho2;rw[hc]at hc2;exact absurd (Value.type.inj hc2) (by decide)
  obtain⟨p,key,ev,tp,kk⟩:=hp1.2 i its[i] kvs[i].1 kvs[i].2 (by simp[hlt]) (by rw[GZ hkl]);rw[ev];have hd1:=hd.sameBut sb1 (HW ne1);have hT:({ s with heap:=h1 }:GY).TypeIs (.ref p) "tuple":=by
   obtain⟨o,ho,hc,_⟩:=tp;exact⟨o,ho,hc⟩
  obtain⟨ot,hot,hotc,nt,hotd⟩:=id tp;show HK _ A.in1 (Ke [Ie p] _ >>= _) _ _ _;refine Hy (JX (Hy (wpAny_tryCatch ?_)));unfold Builtin.Dict.pairItems;refine Hy (wpAny_typeOf hT ?_);rw[if_pos (by decide)];refine Hy (wpAny_seqItems hot hotd (Ig ?_));show HK _ A.in1 (Ke [key,kvs[i].2] (dictSet d key kvs[i].2)) _ _ _;refine JX (wpAny_dictSet_pairs kk hd1 (λh2 dd sb2=>?_) (Ho hdl (Ho hi (Ho hz (by decide)))));have tk1:kvs.take (i+1)=kvs.take i++[kvs[i]]:=by rw[IB,GZ hkl];rfl
  have dd2:h2.DictOf (bA prog w) d (laid (kvs.take (i+1))):=by rw[tk1,rk];exact dd
  have hp2:Prs prog w h2 its kvs:=hp1.keep sb2 λo ho hc=>by
   have ty:({ s with heap:=h1 }:GY).TypeIs (.ref d) "dict":=hd1.typeIs;obtain⟨o2,ho2,hc2⟩:=ty;have ho3:h1.get? d=some o2:=ho2;rw[ho]at ho3;cases ho3;rw[hc]at hc2;exact absurd (Value.type.inj hc2) (by decide)
  have it2:h2.IsListIter i0 l (i+1):=by
   obtain⟨o2,ho2,r⟩:=it1;exact⟨o2,(sb2.2 _ ne1).trans ho2,r⟩
  have hl2:h2.IsList l its:=by
   obtain⟨o2,ho2,r⟩:=hl;exact⟨o2,(sb2.2 _ ne2).trans ((sb1.2 _ ne3).trans ho2),r⟩
  have sl:(laid (kvs.take (i+1))).length<=i+1:=by
   rw[tk1,rk];have:=z0 (laid (kvs.take i)) kvs[i].1 kvs[i].2;omega
  refine Ig ⟨plainId_quiet iK _,ih (i+1) _ (by omega) hlt it2 hl2 dd2 sl hp2 λh' tk dd' kp=>hR h' tk dd' λb o n1 n2 e=>kp b o n1 n2 ?_⟩;exact(sb2.2 _ n1).trans ((sb1.2 _ n2).trans e)
end
def ny(kvs:List (Key×V)):List (Key×V):=kvs.foldl (λm kv=>ji m kv.1 kv.2) []
theorem uY(kvs:List (Key×V))(kv:Key×V):ny (kvs++[kv])=ji (ny kvs) kv.1 kv.2:=by unfold ny;rw[Kz];rfl
def GD(K:PySem.W.Frag)(H:Hp)(ps:List V)(kvs:List (Key×V)):Prop:=ps.length=kvs.length/\∀(j:Nat) p k v,ps[j]?=some p->kvs[j]?=some (k,v)->∃a,p=.ref a/\SqT K H a [kV k,v]
section
variable {X:Cx}
theorem uZ(hc:X.calm=true):iI X (.type "dict") (λxs H Q=>∃l ps kvs,xs=[.ref l]/\SqL X.K H l ps/\ps.length<=100000/\GD X.K H ps kvs/\∀p,H p=none->Q (.ref p) (upd H p (.dK (ny kvs)))):=by
 intro pins s σ H xs us Q I r h;obtain⟨l,ps,kvs,rfl,hl,hz,hp,q⟩:=h;obtain⟨u,rfl,ru⟩:=jc r;cases ru;obtain⟨its,rv,p,z⟩:=I.list hl;have hh:=I.ok.hd hc;refine callType_codes (Q₁:=λobj s₁=>obj=.ref s.heap.objs.size/\s₁={ s with heap:=s.heap.push { cls:=.type "dict",data:=.dict #[] } }) F.kt_called_dict (F.kt_typeCall_dict_1 _) F.entry_dict_init (kt_code_dict_new _ ⟨rfl,rfl⟩) ?_;rintro obj s₁ ⟨rfl,rfl⟩;have hnew:(s.heap.push { cls:=.type "dict",data:=.dict #[] }).DictOf (bA X.prog X.w) s.heap.objs.size []:=Heap.DictOf.new s.heap;refine⟨hnew.typeIs,F.args_dict_init_2 _ _,?_⟩;unfold Ky.«dict.__init__»;refine Hy ?_;unfold Builtin.Dict.selfAndRest;refine Hy (wpAny_notOrdered_dict hnew.typeIs ?_);show HK _ _ (pure (s.heap.objs.size,[Ie l])) _ _ _;refine Ig ?_;show HK _ _ (Builtin.Dict.updateFrom "dict.__init__" s.heap.objs.size (.ref l) [] .none) _ _ _;unfold Builtin.Dict.updateFrom;have pl:=p.isList.push { cls:=.type "dict",data:=.dict #[] };refine Hy (wpAny_typeOf pl.typeIs ?_);rw[if_pos (by decide)];obtain⟨o0,n0,ho0,hcl,hdd,hdat⟩:=id p;obtain⟨c0,d0,dt0,sl0⟩:=o0;simp only at hcl hdd hdat;subst hcl hdd hdat;have hlt:l<s.heap.objs.size:=Hl ho0;have hx:=Hg { cls:=.type "dict",data:=.dict #[] } ho0;refine Hy (Bm hx hh λh1 t1 k1=>?_);refine Hy (wpAny_rule ?_);have pl1:h1.IsList l its.toArray:=⟨_,k1 _ _ hx,rfl,_,rfl⟩;refine Hy (JM pl1 ?_);refine Ig ⟨plainId_quiet iK _,?_⟩;have hdn:h1.DictOf (bA X.prog X.w) s.heap.objs.size []:=by
  obtain⟨o,es,ep,ho,rr⟩:=hnew;exact⟨o,es,ep,k1 _ _ ho,rr⟩
 have hdlt:s.heap.objs.size<h1.objs.size:=by
  obtain⟨o,es,ep,ho,rr⟩:=hdn;exact Hl ho
 have kept:∀b o,s.heap.get? b=some o->h1.get? b=some o:=λb o e=>k1 _ _ (Hg _ e);have ilen:its.length=ps.length:=rv.length.symm;have ex:∀n,n<=kvs.length->∃vs:List (Key×GV),vs.length=n/\∀j,(hj:j<n)->∃x:Key×GV,vs[j]?=some x/\x.1=(kvs[j]?.map (·.1)).getD x.1/\(∀v,(kvs[j]?.map (·.2))=some v->bo v x.2)/\∃a key,its[j]?=some (.ref a)/\IsTup s.heap a #[key,x.2]/\(bA X.prog X.w).is x.1 key=true:=by
  intro n;induction n with
  |zero=>exact λ_=>⟨[],rfl,λj hj=>absurd hj (Nat.not_lt_zero _)⟩
  |succ n ih =>
   intro hn;obtain⟨vs,vl,hv⟩:=ih (by omega);have hk:n<kvs.length:=hn;have hpn:n<ps.length:=by rw[hp.1];exact hk
   obtain⟨a,ea,ha⟩:=hp.2 n ps[n] kvs[n].1 kvs[n].2 (GZ hpn) (GZ hk);obtain⟨u,eu,ru⟩:=rv.get (GZ hpn);rw[ea]at ru;cases ru;obtain⟨it2,r2,p2,_⟩:=I.tuple ha;obtain⟨u1,u2,rfl,r3,r4⟩:=zL r2;refine⟨vs++[(kvs[n].1,u2)],by simp[vl],λj hj=>?_⟩;by_cases c:j<n
   .obtain⟨x,e1,e2⟩:=hv j c;exact⟨x,by rw[Jw (by omega)];exact e1,e2⟩
   .have ej:j=n:=by omega
    subst ej;refine⟨(kvs[j].1,u2),by rw[IV (by omega),vl,Nat.sub_self];rfl,by rw[GZ hk];rfl,λv e=>?_,a,u1,eu,p2,nj r3⟩;rw[GZ hk]at e;cases e;exact r4
 obtain⟨vs,vl,hv⟩:=ex kvs.length (G_ _);have rel:∀n,n<=kvs.length->KV (ny (kvs.take n)) (laid (vs.take n)):=by
  intro n;induction n with
  |zero=>exact λ_=>.nil
  |succ n ih =>
   intro hn;obtain⟨x,e1,e2,e3,_⟩:=hv n hn;have hk:n<kvs.length:=hn;have t1':kvs.take (n+1)=kvs.take n++[kvs[n]]:=by rw[IB,GZ hk];rfl
   have t2':vs.take (n+1)=vs.take n++[x]:=by rw[IB,e1];rfl
   rw[t1',t2',uY,rk];rw[GZ hk]at e2 e3;have ek:x.1=kvs[n].1:=e2;rw[ek];exact(ih (by omega)).put _ (e3 _ rfl)
 have rel':=rel kvs.length (G_ _);rw[Hu,<-vl,Hu]at rel';have prs:Prs X.prog X.w (h1.push { cls:=.type "list_iterator",data:=.fields #[.ref l,.int 0 0] }) its.toArray vs:=by
  refine⟨by simp[ilen,hp.1,vl],λj v k x e1 e2=>?_⟩;have hj:j<kvs.length:=by rw[<-vl];exact(List.getElem?_eq_some_iff.mp e2).1
  obtain⟨y,f1,f2,f3,a,key,f4,f5,f6⟩:=hv j hj;rw[e2]at f1;cases f1;have e1':its[j]?=some v:=by simpa using e1
  rw[f4]at e1';cases e1';obtain⟨oo,hoo,rr⟩:=f5;exact⟨a,key,rfl,⟨oo,Hg _ (kept _ _ hoo),rr⟩,f6⟩
 have lz:∀n,(ny (kvs.take n)).length<=n:=by
  intro n;induction n with
  |zero=>exact G_ _
  |succ n ih =>
   by_cases hk:n<kvs.length
   .have t1':kvs.take (n+1)=kvs.take n++[kvs[n]]:=by rw[IB,GZ hk];rfl
    rw[t1',uY];have:=nR (ny (kvs.take n)) kvs[n].1 kvs[n].2;omega
   .rw[Ik (by omega)];rw[Ik (by omega)]at ih;omega
 have lz':=lz kvs.length;rw[Hu]at lz';refine wE (prog:=X.prog) (w:=X.w) (A:=X.A.in1) (i0:=h1.objs.size) (l:=l) (d:=s.heap.objs.size) (its:=its.toArray) (kvs:=vs) (IN hdlt) (Hr hlt) (Hr (IQ hlt hdlt)) hh (by simp;omega) its.toArray.size 0 _ (by simp) (HZ _) ?_ ?_ ?_ (G_ _) ?_ ?_
 .exact⟨_,HI _ rfl,rfl,rfl⟩
 .exact pl1.push _
 .rw[Kr];exact hdn.push _
 .exact prs
 .intro h' tk dd kp;refine⟨rfl,.ref s.heap.objs.size,_,I.laid (a:=s.heap.objs.size) (o:=.dK (ny kvs)) (t':=tk) (λb o e=>?_) (G_ _) (AY (Ho lz' (by rw[<-hp.1];exact Ho hz (by decide))) (beq_eq_false_iff_ne.mpr (HW (Hr I.big))) rel' dd),rfl,q _ (I.hok.fresh (G_ _))⟩;have hb:=Hl e;exact kp b o (Hr hb) (Hr (IQ hb hdlt)) (Hg _ (kept _ _ e))
end
end L2

set_option maxHeartbeats 4000000
namespace L2
open PySem PySem.Spec PyProof.Rows Tl
theorem Dm{X:Cx}{i:Nat}{x:Str}{es:List Expr}{vs:List V}{p1 p2 p4:Pos}(hN:X.N.Nodup)(hi:X.N[i]?=some x)(hx:Loc X.env.scope x)(hc:CL es vs)
  (hf:X.fn x=true\/X.env.scope.names.lookup x=some .local):PS X (.Assign [.Name x p1] (.List es p2) p4) (tT (EM (tVs vs)) (bB i)):=
 ay (i:=i) hN hi hx (aU (uX hc))
section
variable {X:Cx}{fx c:Str}{st:Stmt}{ps:List Str}{f T:Addr}{fd:Hm}{dv:GV}{k i:Nat}{n:Str}{sp:Sp}{e:Expr}{es:List Expr}{t:TA}{th:TS}{pf cpos apos np hpos pos:Pos}{b₀:Stmt}{suite:List Stmt}
end
section
variable {α β:Type}{P P':α->β->Prop}{as as':List α}{bs bs':List β}
end
abbrev Wd0:=List Nat
def E3:Wd0:=[124]
def E4:Wd0:=[93]
abbrev Mn:=List Wd0×DD×List Addr
def mF(xs:List Mn):List Addr:=(xs.map λx=>x.2.2).flatten
structure Fr where
 t:Addr
 A:Addr
 N:Addr
 n:Wd0
 als:List Addr
 wss:List Mn
 vs:List V
 wn:List Mn
section
variable {H0 H H':Hp}{pl cur c2 A t p:Addr}{fs:List Fr}{f:Fr}{vs:List V}{wn:List Mn}
end
end L2

set_option maxHeartbeats 4000000
namespace PySem
open Sem (wp)
open AutoSeq1 (wpAny_loadPart')
section
variable {prog:HB}{w:HF}{A:HY}{E:GV->GY->Prop}{s:GY}
end
end PySem
namespace L2
open PySem PySem.Spec PyProof.Rows Tl
section
variable {X:Cx}{elts:List Expr}{k1:Nat}{tp:Pos}
end
mutual
theorem Rep.mono{K:PySem.W.Frag}{H H':Hp}(s:ak H H'):∀{d:DD} {v:V},Rep K H d v->Rep K H' d v
 |.bl _,v,h=>by unfold Rep at h⊢;exact h
 |.int _,v,h=>by unfold Rep at h⊢;exact h
 |.str _,v,h=>by unfold Rep at h⊢;exact h
 |.tup l,v,h=>by
  unfold Rep at h⊢;obtain⟨a,xs,h1,h2,h3,h4⟩:=h;exact⟨a,xs,h1,s.tup h2,h3,lU.mono s h4⟩
 |.lst l,v,h=>by
  unfold Rep at h⊢;obtain⟨a,xs,h1,h2,h3,h4⟩:=h;exact⟨a,xs,h1,s.seq h2,h3,lU.mono s h4⟩
theorem lU.mono{K:PySem.W.Frag}{H H':Hp}(s:ak H H'):∀{l:List DD} {xs:List V},lU K H l xs->lU K H' l xs
 |[],xs,h=>by unfold lU at h⊢;exact h
 |d::l,xs,h=>by
  unfold lU at h⊢;obtain⟨x,r,h1,h2,h3⟩:=h;exact⟨x,r,h1,Rep.mono s h2,lU.mono s h3⟩
end
section
variable {K:PySem.W.Frag}{H:Hp}
end
structure Sh where
 n:Wd0
 c:Nat
 ns:List DD
 r:List Int
 k:Int
section
variable {S:List Sh}{d j:Nat}{n:Wd0}{as:List (List DD)}{w:Wd0}{k:Nat}{s:Sh}
end
structure Gf where
 t:Addr
 D:Addr
 N:Addr
 n:Wd0
 m:Nat
 Dv:List V
 ds:List (List DD)
 vs:List V
 xs:List DD
section
variable {K:PySem.W.Frag}{H0 H H':Hp}{pf t D N:Addr}{gs r:List Gf}{g:Gf}{v:V}{x:DD}{n:Wd0}{m:Nat}
end
end L2

namespace L2
open PySem PySem.Spec PyProof.Rows

structure c6(K:PySem.W.Frag)(C:Addr)(m qual:Str)(st:Stmt)(ps:List Str)(f:Addr)(fd:Hm):Prop where
 fn:Fun K m qual st f fd
 bd:gU K fd ps []
 me:zM K C m f
structure nz(K:PySem.W.Frag)(mg:Str->Option GV)(c:Str)(C:Addr):Prop where
 mg:mg c=some (.ref C)
 cl:Cls K C
 mks:PySem.W.makesIn K C=true
 kp:PySem.W.keepIn K (.ref C)=true
theorem nz.made{K:PySem.W.Frag}{mg:Str->Option GV}{c qual:Str}{C f:Addr}{st:Stmt}{ps:List Str}{fd:Hm}(L:nz K mg c C)(D:c6 K C "__init__" qual st ps f fd):Mk K C f:=⟨L.mks,D.me.at_,D.me.fn,L.kp⟩
theorem CJ{K:PySem.W.Frag}{C f:Addr}{x q:Str}{st:Stmt}{ps:List Str}{od an:Option Addr}{sl:Array (Option GV)}{oc kV dc pm cd ct:GV}(a:PySem.W.findIn K (.ref C) x=some (some (.ref f)))(fn:PySem.W.isFn K (.ref f)=true)
  (l:K.lookup f=some ⟨oc,od,.func (PySem.W.fnOf x q (cG st) (b_ st) (au st) .none kV dc pm an cd ct),sl⟩)(c:PySem.W.codeIn K cd q=true)(k:PySem.W.keepIn K (.ref f)=true)
  (b:∀(kV doc pm:GV) (an:Option Addr) (cdv ct:GV) (us:List GV),us.length=ps.length->KH (PySem.W.fnOf x q (cG st) (b_ st) (au st) .none kV doc pm an cdv ct) ⟨us,[]⟩=pure (ps.zip us)) :
  c6 K C x q st ps f (PySem.W.fnOf x q (cG st) (b_ st) (au st) .none kV dc pm an cd ct):=
 ⟨uS l c k,(uS l c k).binds b,a,fn,k⟩
section
variable {X:Cx}{CX:CXT}{E:XK}{c m qual:Str}{st:Stmt}{ps:List Str}{C f:Addr}{fd:Hm}{k:Nat}{sp:Sp}{o e:Expr}{es:List Expr}{ta:TE}{t:TA}{p pos apos:Pos}
theorem dC{pl:Sem Bool}(hx:fD CX X E)(L:nz X.K X.mg c C)(D:c6 X.K C m qual st ps f fd)(G:bi X.prog X.w X.K X.mg X.base CX k f fd ps sp)(hr:cF k X.A)(he:PE X o ta)(ha:PA X (e::es) t)
  (hst:HJ (e::es) X.env=(false,eval e X.env)::HJ es X.env:=by rfl)(hpl:(IT pos (HJ es X.env)).any (·.1)=false:=by rfl)
  (ht:eval (.Call (.Attribute o m apos) (e :: es) [] pos) X.env=(do
   let ov<-eval o X.env
   Lh apos.atName
   let(f,first)<-Ke [ov] (KD ov m pl)
   LB pos f first (IT pos (HJ (e::es) X.env)) (KZ pos (J1 [] X.env))):=by rfl) :
  PE X (.Call (.Attribute o m apos) (e::es) [] pos) (wX C m sp [] E ta t):=DK he L.cl D.me G hr D.bd .nil hx ha hst hpl ht
theorem xZ{pl:Sem Bool}(hx:fD CX X E)(L:nz X.K X.mg c C)(D:c6 X.K C m qual st ps f fd)(G:bi X.prog X.w X.K X.mg X.base CX k f fd ps sp)(hr:cF k X.A)(he:PE X o ta)
  (ht:eval (.Call (.Attribute o m apos) [] [] pos) X.env=(do
   let ov<-eval o X.env
   Lh apos.atName
   let(f,first)<-Ke [ov] (KD ov m pl)
   LB pos f first (IT pos (HJ [] X.env)) (KZ pos (J1 [] X.env))):=by rfl) :
  PE X (.Call (.Attribute o m apos) [] [] pos) (wX C m sp [] E ta vm):=Cl he L.cl D.me G hr D.bd .nil hx ht
theorem E5(hx:fD CX X E)(L:nz X.K X.mg c C)(D:c6 X.K C "__init__" qual st ps f fd)(G:bi X.prog X.w X.K X.mg X.base CX k f fd ps sp)(hr:cF (k+1) X.A)(hg:Gl X c)(ha:PA X (e::es) t)(hd:(c==("__debug__" : Str))=false:=by decide)
  (he:HJ (e::es) X.env=(false,eval e X.env)::HJ es X.env:=by rfl)(hpl:(IT pos (HJ es X.env)).any (·.1)=false:=by rfl) :
  PE X (.Call (.Name c p) (e::es) [] pos) (wY C sp [] E t):=DL (L.made D) G hr hg L.mg D.bd .nil hx ha hd he hpl
theorem DY(hx:fD CX X E)(L:nz X.K X.mg c C)(D:c6 X.K C "__init__" qual st ps f fd)(G:bi X.prog X.w X.K X.mg X.base CX k f fd ps sp)(hr:cF (k+1) X.A)(hg:Gl X c)(hd:(c==("__debug__" : Str))=false:=by decide) :
  PE X (.Call (.Name c p) [] [] pos) (wY C sp [] E vm):=Cm (L.made D) G hr hg L.mg D.bd .nil hx hd
end

section
variable {X:Cx}{k:Nat}{f T C:Addr}{fd:Hm}{ps:List Str}{sp:Sp}{cn qual c:Str}{st:Stmt}{e:Expr}{es:List Expr}{t:TA}{b₀:Stmt}{suite:List Stmt}{th:TS}{np pf cpos apos hpos pos:Pos}
end
end L2

namespace L2
open PySem PySem.Spec PyProof.Rows PySem.W

theorem zr{P:HB}{w:HF}{k:Key}{v:GV}(h:(bA P w).is k v=true):bo (kV k) v:=by
 rcases dm (show m_ k v=true from h)with⟨i,t,rfl,rfl⟩|⟨x,t,rfl,rfl⟩
 .exact⟨t,rfl⟩
 .exact⟨t,rfl⟩
section
variable {X:Cx}
end
section
variable {prog:HB}{w:HF}{A:HY}{E:GV->GY->Prop}{s:GY}{T:String}{r d:Addr}{n:Nat}{P:Nat->GV->Prop}{OK:Heap->Prop}
end
section
variable {X:Cx}
end

def Hz(X:Cx)(a:Addr):Prop:=∀o u,X.H₀ a≠some (.frz o u)
section
variable {X:Cx}{pins:List (Addr×Obj)}{σ:St}{H:Hp}{s:GY}{a:Addr}{kvs:List (Key×V)}
theorem Inv.hz(I:Inv X pins σ H s)(e:H a=some (.dK kvs)):Hz X a:=λo u z=>by
 have:=I.base.frzs a o u z;rw[e]at this;cases this
theorem tL{P:HB}{w:HF}{h:Heap}{u v:HO}(ok:HOk P w H h)(e:H a=some u)(hu:∀b,u≠.own b)(ht:∀xs,u≠.tup xs)(new:cu P w (upd H a v) h a v):HOk P w (upd H a v) h:=λb o q=>by
 by_cases eb:b=a
 .rw[eb,ac]at q;cases q;rw[eb];exact new
 .rw[aj eb]at q;refine(ok b o q).stay (λ_ _ _ z=>z) (λc z=>?_) λc xs z=>?_
  .rw[aj (λy=>hu b (by rw[y,e]at z;exact HV z))];exact z
  .rw[aj (λy=>ht xs (by rw[y,e]at z;exact HV z))];exact z
theorem u0{P:HB}{w:HF}{h:Heap}{H':Hp}(x:cu P w H h a (.dK kvs)):cu P w H' h a (.dK kvs):=x
theorem Inv.freeze(I:Inv X pins σ H s)(e:H a=some (.dK kvs)):∃o,s.heap.get? a=some o/\Inv X pins σ (upd H a (.frz o (.dK kvs))) s:=by
 have x:cu X.prog X.w H s.heap a (.dK kvs):=I.hok a _ e;obtain⟨_,_,vs,_,o,es,ep,ho,_⟩:=id x;refine⟨o,ho,?_⟩;have:=I.step (h':=s.heap) (H':=upd H a (.frz o (.dK kvs))) (g':=s.gens) (d':=s.drawn) (t':=s.toks) (ch:=[]) (λ_ z=>nomatch z) (λb o _ _ _ z _=>z) (λb o _ _ _ z _=>⟨o.slots,z⟩)
  (λb o' _ _ n=>by rw[aj (λy=>by rw[y,e]at n;cases n)];exact n) (λb o _ z=>⟨o,z⟩) (λb xs z=>by rw[aj (λy=>by rw[y,e]at z;cases z)];exact z)
  (λb o u z=>by rw[aj (λy=>by rw[y,e]at z;cases z)];exact z) (λb ps z=>⟨#[],by rw[aj (λy=>by rw[y,e]at z;cases z),z];simp⟩) (λm hm=>hm)
  (tL I.hok e (λb z=>by cases z) (λxs z=>by cases z) ⟨ho,u0 x⟩) I.bare
 exact this
theorem Inv.thaw{o:Obj}(I:Inv X pins σ H s)(hz:Hz X a)(e:H a=some (.frz o (.dK kvs))):Inv X pins σ (upd H a (.dK kvs)) s:=by
 have x:cu X.prog X.w H s.heap a (.frz o (.dK kvs)):=I.hok a _ e;have free:∀b,H b=none->upd H a (.dK kvs) b=none:=λb n=>by rw[aj (λy=>by rw[y,e]at n;cases n)];exact n
 refine⟨I.ok,I.os,I.bare,⟨I.base.keep,I.base.slot,λb o' q n hx=>free b (I.base.free b o' q n hx),I.base.there,λb xs q=>?_,λb o' u q=>?_,λb ps q=>?_⟩,I.loc,I.cell,free _ I.free,λy c q=>free _ (I.freeC y c q),λp hp=>?_,?_,I.len⟩
 .have z:=I.base.tups b xs q;rw[aj (λy=>by rw[y,e]at z;cases z)];exact z
 .have z:=I.base.frzs b o' u q;rw[aj (λy=>hz o' u (by rw[<-y];exact q))];exact z
 .obtain⟨m1,z⟩:=I.base.tbls b ps q;exact⟨m1,by rw[aj (λy=>by rw[y,e]at z;cases z)];exact z⟩
 .obtain⟨z1,z2,z3⟩:=I.pin p hp;exact⟨z1,free _ z2,z3⟩
 .exact tL I.hok e (λb z=>by cases z) (λxs z=>by cases z) (u0 x.2)
end
def Itk(a:Addr)(o:Obj)(kvs:List (Key×V)):It:=
 ⟨λi H=>H a=some (.frz o (.dK kvs))/\i<kvs.length,λi H x H'=>H'=H/\∃p,kvs[i]?=some p/\x=kV p.1,λi H=>H a=some (.frz o (.dK kvs))/\kvs.length<=i⟩
def epO(o:Obj):Nat:=match o.data with
 |.dict _ ep=>ep
 |_=>0
theorem fW{P:HB}{w:HF}{H:Hp}{h:Heap}{a:Addr}{o:Obj}{kvs:List (Key×V)}(ok:HOk P w H h)(e:H a=some (.frz o (.dK kvs))):(a==IE)=false/\∃vs,KV kvs vs/\h.DictAt (bA P w) a vs (epO o):=by
 obtain⟨ho,_,hs,vs,rel,o',es,ep,ho',hx,hd,r⟩:=(show cu P w H h a (.frz o (.dK kvs))from ok a _ e);rw[ho]at ho';cases ho';refine⟨hs,vs,rel,o,es,ho,hx,?_,r⟩;unfold epO;rw[hd]
theorem E6{kvs:List (Key×V)}{vs:List (Key×GV)}(r:KV kvs vs):∀{i:Nat} {p:Key×V},kvs[i]?=some p->∃x,vs[i]?=some (p.1,x):=by
 unfold KV at r;induction r with
 |nil=>intro i p h;cases h
 |@cons p q ps qs hq t ih =>
  intro i p' h;cases i with
  |zero=>cases h;exact⟨q.2,by show some q=_;rw[hq.1]⟩
  |succ i=>exact ih h
theorem Bn{P:HB}{w:HF}{K:PySem.W.Frag}{tg:Expr}(a it:Addr)(o:Obj)(kvs:List (Key×V))(hne:a≠it):pH P w K tg (Itk a o kvs) [it] it (λi h=>h.IsKeyIter it a i kvs.length (epO o)) where
 mem:=by simp
 obj:=λi h st b hb=>by
  have e:b=it:=by simpa using hb
  subst e;obtain⟨o,e,c,d⟩:=st;exact⟨o,e,λv z=>by rw[d]at z;cases z⟩
 keep:=λi h h' st k=>st.at λo e=>k it (by simp) o e
 item:=by
  intro X hP hw hK hc i pins s σ H E I hf st hg;subst hP hw hK;obtain⟨he,hi⟩:=hg;obtain⟨hs,vs,rel,da⟩:=fW I.hok he;obtain⟨x,hx⟩:=E6 rel (GZ hi);obtain⟨f0,f1,f2,f3,f4,f5⟩:=hf it (by simp);rw[show kvs.length=vs.length from rel.length]at st;refine wpAny_pyNext_dict_item st da hx λkey h' hk st' sb=>?_;have I1:Inv X pins σ H { s with heap:=h' }:=I.turned (t':=s.toks) (λb o hb e=>(sb.2 b hb).trans e) f0 f1 f3 f4 f5;rw[<-show kvs.length=vs.length from rel.length]at st';obtain⟨oi,e,c,d⟩:=id st';exact⟨key,rfl,uO (s:={ s with heap:=h' }) e c d (by decide) ⟨kV kvs[i].1,H,I1,zr hk,⟨rfl,kvs[i],GZ hi,rfl⟩,st',λb hb=>(hf b hb).1⟩⟩
 done:=by
  intro X hP hw hK hc i pins s σ H E I hf st hg;subst hP hw hK;obtain⟨he,hi⟩:=hg;obtain⟨hs,vs,rel,da⟩:=fW I.hok he;obtain⟨f0,f1,f2,f3,f4,f5⟩:=hf it (by simp);rw[show kvs.length=vs.length from rel.length]at st;exact wpAny_pyNext_dict_end (I.ok.hd hc) st da (Jo (by rw[<-rel.length];exact hi)) λh' eb=>⟨rfl,I.turned (t':=s.toks) (λb o hb e=>eb b o hb e) f0 f1 f3 f4 f5⟩
 self:=λ_ _ _ _ _ st h=>wpAny_pyIter_keyiter st h

def wZ(X:Cx)(P:Hp->Prop):Hp->Prop:=λH=>∃a kvs o,Hz X a/\H a=some (.frz o (.dK kvs))/\P (upd H a (.dK kvs))
def fz(X:Cx)(D:dZ):dZ:={ nx:=λσ=>wZ X (D.nx σ),bk:=λσ=>wZ X (D.bk σ),ct:=λσ=>wZ X (D.ct σ),rt:=λv=>wZ X (D.rt v) }
section
variable {X:Cx}{tg:Expr}
theorem SP.thaw{pins:List (Addr×Obj)}{D:dZ}{f:Flow}{s':GY}(h:SP X pins (fz X D) f s'):SP X pins D f s':=by
 cases f with
 |next=>obtain⟨σ',H',I,a,kvs,o,hz,e,q⟩:=h;exact⟨σ',_,I.thaw hz e,q⟩
 |brk=>obtain⟨σ',H',I,a,kvs,o,hz,e,q⟩:=h;exact⟨σ',_,I.thaw hz e,q⟩
 |cont=>obtain⟨σ',H',I,a,kvs,o,hz,e,q⟩:=h;exact⟨σ',_,I.thaw hz e,q⟩
 |ret u=>obtain⟨v,σ',H',I,r,a,kvs,o,hz,e,q⟩:=h;exact⟨v,σ',_,I.thaw hz e,r,q⟩
def Dn(X:Cx)(tl:TE):TI:=λσ H R=>tl σ H λx H1=>∃a kvs,x=.ref a/\H1 a=some (.dK kvs)/\(Hz X a->∀o,R (Itk a o kvs) (upd H1 a (.frz o (.dK kvs))))
theorem DZ{l:Expr}{tl:TE}(hl:PE X l tl):PI X tg l (Dn X tl):=by
 intro pins s σ H R I h;refine thn (hl pins s σ H _ I h) λv s1 ⟨x,H1,I1,r1,q1⟩=>?_;obtain⟨a,kvs,e,ha,q⟩:=q1;subst e;cases r1;obtain⟨o,ho,I2⟩:=I1.freeze ha;have hf:=q (I1.hz ha) o;have he:upd H1 a (.frz o (.dK kvs)) a=some (.frz o (.dK kvs)):=ac;generalize upd H1 a (.frz o (.dK kvs))=H2 at I2 hf he;obtain⟨hs,vs,rel,da⟩:=fW I2.hok he;refine wpAny_pyIter_dict hs da ?_;refine⟨s1.heap.objs.size,[s1.heap.objs.size],_,_,H2,rfl,I2.kept (t':=s1.toks) λb o e=>Hg _ e,Bn a _ o kvs (Hr (Hl ho)),⟨_,HI _ rfl,rfl,?_⟩,λb hb=>?_,hf⟩
 .rw[rel.length];rfl
 .have e:b=s1.heap.objs.size:=by simpa using hb
  subst e;exact I2.fpOk (G_ _) (I2.hok.fresh (G_ _))
def FV(X:Cx)(tl:TE)(g:TG)(tb:TS):TS:=λD σ H=>Ce (Dn X tl) g tb (fz X D) σ H
theorem D0{iter:Expr}{body:List Stmt}{tl:TE}{g:TG}{tb:TS}{pos:Pos}(hp:Lp (HG X.prog X.w) X.A X.env X.xe)(hc:X.calm=true)(hi:PE X iter tl)(hg:PG X tg g)(hb:PSs X body tb)
  (hs:∀x,Iv iter X.env x=pure x:=by intro _;rfl):PS X (.For tg iter body [] pos) (FV X tl g tb):=by
 intro pins s σ H D I h;exact Ii (cg hp hc (DZ hi) hg hb hs pins s σ H (fz X D) I h) (λ_ _ z=>z.thaw) λ_ _ z=>z
end
def CK(K:PySem.W.Frag)(C T:Addr):Prop:=PySem.W.exmOne K (.ref C) (.ref T)=some false
def HT(K:PySem.W.Frag):List (Addr×TS)->Addr->dZ->St->Hp->Prop
 |[],_,_,_,_=>False
 |(T,th)::r,C,D,σ,H=>(jB K C T/\th D σ H)\/(CK K C T/\HT K r C D σ H)
section
variable {X:Cx}
section
variable {k:Nat}{f C:Addr}{fd:Hm}{ps:List Str}{sp:Sp}{m qual cn:Str}{st:Stmt}{o e:Expr}{es:List Expr}{ta:TE}{t:TA}{apos pos:Pos}{W:GV->GY->Prop}{pins:List (Addr×Obj)}{σ:St}{H:Hp}{s:GY}{Q:VK}{E:XK}
end
end


section
variable {X:Cx}{e:Expr}
def D1:TT:=λ_ _ _=>False
theorem CM:PT X e D1:=λ_ _ _ _ _ _ h=>h.elim
end
theorem zt{kvs:List (Key×V)}{vs:List (Key×GV)}(r:KV kvs vs):∀{i:Nat} {p:Key×V},kvs[i]?=some p->∃x,vs[i]?=some (p.1,x)/\bo p.2 x:=by
 unfold KV at r;induction r with
 |nil=>intro i p h;cases h
 |@cons p q ps qs hq t ih =>
  intro i p' h;cases i with
  |zero=>cases h;exact⟨q.2,(by show some q=_;rw[hq.1]),hq.2⟩
  |succ i=>exact ih h
def Itv(a:Addr)(o:Obj)(kvs:List (Key×V)):It:=
 ⟨λi H=>H a=some (.frz o (.dK kvs))/\i<kvs.length,λi H x H'=>H'=H/\∃p,kvs[i]?=some p/\x=p.2,λi H=>H a=some (.frz o (.dK kvs))/\kvs.length<=i⟩
theorem Bo{P:HB}{w:HF}{K:PySem.W.Frag}{tg:Expr}(a it:Addr)(o:Obj)(kvs:List (Key×V))(hne:a≠it):pH P w K tg (Itv a o kvs) [it] it (λi h=>h.IsValIter it a i kvs.length (epO o)) where
 mem:=by simp
 obj:=λi h st b hb=>by
  have e:b=it:=by simpa using hb
  subst e;obtain⟨o,e,c,d⟩:=st;exact⟨o,e,λv z=>by rw[d]at z;cases z⟩
 keep:=λi h h' st k=>st.at λo e=>k it (by simp) o e
 item:=by
  intro X hP hw hK hc i pins s σ H E I hf st hg;subst hP hw hK;obtain⟨he,hi⟩:=hg;obtain⟨hs,vs,rel,da⟩:=fW I.hok he;obtain⟨x,hx,rx⟩:=zt rel (GZ hi);obtain⟨f0,f1,f2,f3,f4,f5⟩:=hf it (by simp);rw[show kvs.length=vs.length from rel.length]at st;refine wpAny_pyNext_values_item st da hx λh' st' sb=>?_;have I1:Inv X pins σ H { s with heap:=h' }:=I.turned (t':=s.toks) (λb o hb e=>(sb.2 b hb).trans e) f0 f1 f3 f4 f5;rw[<-show kvs.length=vs.length from rel.length]at st';obtain⟨oi,e,c,d⟩:=id st';exact⟨x,rfl,uO (s:={ s with heap:=h' }) e c d (by decide) ⟨kvs[i].2,H,I1,rx,⟨rfl,kvs[i],GZ hi,rfl⟩,st',λb hb=>(hf b hb).1⟩⟩
 done:=by
  intro X hP hw hK hc i pins s σ H E I hf st hg;subst hP hw hK;obtain⟨he,hi⟩:=hg;obtain⟨hs,vs,rel,da⟩:=fW I.hok he;obtain⟨f0,f1,f2,f3,f4,f5⟩:=hf it (by simp);rw[show kvs.length=vs.length from rel.length]at st;exact wpAny_pyNext_values_end (I.ok.hd hc) st da (Jo (by rw[<-rel.length];exact hi)) λh' eb=>⟨rfl,I.turned (t':=s.toks) (λb o hb e=>eb b o hb e) f0 f1 f3 f4 f5⟩
 self:=λ_ _ _ _ _ st h=>wpAny_pyIter_valiter st h
theorem x5:entryFor table "dict_itemiterator.__iter__" = some Ky.«dict_keyiterator.__iter__»:=entryFor_alias (id' := "dict_keyiterator.__iter__") (id (Eq.refl (fastTable "dict_itemiterator.__iter__"))) rfl (by
  show Manifest.canonical (String.map _ "dict_itemiterator.__iter__")++"" = _;decide +kernel) (id (Eq.refl (fastTable "dict_keyiterator.__iter__")))
theorem qI{prog:HB}{w:HF}{A:HY}{E:GV->GY->Prop}{s:GY}{it d:Addr}{i n ep:Nat}{ok ov:GV}{Q:GV->GY->Prop}(st:IsItemIter s.heap it d i n ep ok ov)(h:Q (.ref it) s):HK (HG prog w) A (Lz (.ref it)) Q E s:=by
 have hT:s.TypeIs (.ref it) "dict_itemiterator":=⟨_,st,rfl⟩;refine wpAny_pyIter_slot hT F.slot_dict_itemiterator_iter (wpAny_call_entry F.slot_dict_itemiterator_iter hT x5 ?_ (F.args_dict_itemiterator_iter_1 _));show HK _ _ (pure _) _ _ _;exact Ig ⟨.ref it,rfl,"dict_itemiterator",.builtin "dict_itemiterator.__next__",hT,F.slot_dict_itemiterator_next.lookup,h⟩
def Itp(a:Addr)(o:Obj)(kvs:List (Key×V)):It:=
 ⟨λi H=>H a=some (.frz o (.dK kvs))/\i<kvs.length,λi H x H'=>∃p q,H p=none/\x=.ref p/\kvs[i]?=some q/\H'=upd H p (.tup [kV q.1,q.2]),λi H=>H a=some (.frz o (.dK kvs))/\kvs.length<=i⟩
theorem z7{P:HB}{w:HF}{K:PySem.W.Frag}{elts:List Expr}{k1}{tp:Pos}(a it:Addr)(o:Obj)(kvs:List (Key×V))(hne:a≠it):pH P w K (.Tuple elts k1 tp) (Itp a o kvs) [it] it (λi h=>∃ok ov,IsItemIter h it a i kvs.length (epO o) ok ov) where
 mem:=by simp
 obj:=λi h st b hb=>by
  have e:b=it:=by simpa using hb
  subst e;obtain⟨ok,ov,e⟩:=st;exact⟨_,e,λv z=>by cases z⟩
 keep:=λi h h' st k=>by
  obtain⟨ok,ov,e⟩:=st;exact⟨ok,ov,k it (by simp) _ e⟩
 item:=by
  intro X hP hw hK hc i pins s σ H E I hf st hg;subst hP hw hK;obtain⟨he,hi⟩:=hg;obtain⟨hs,vs,rel,da⟩:=fW I.hok he;obtain⟨x,hx,rx⟩:=zt rel (GZ hi);obtain⟨f0,f1,f2,f3,f4,f5⟩:=hf it (by simp);obtain⟨ok,ov,st⟩:=st;rw[show kvs.length=vs.length from rel.length]at st;refine wpAny_pyNext_items_item st da hx λkey h' hk st' hpair hsz hkeep=>?_;have I1:Inv X pins σ H { s with heap:=h' }:=I.turned (t':=s.toks) (λb o hb e=>hkeep b o hb e) f0 f1 f3 f4 f5;rw[<-show kvs.length=vs.length from rel.length]at st';have hTn:H s.heap.objs.size=none:=I.fresh;have zlt:it<s.heap.objs.size:=Hl st;have I2:Inv X pins σ (upd H s.heap.objs.size (.tup [kV kvs[i].1,kvs[i].2])) { s with heap:=h',toks:=s.toks }:=by
   refine I1.track hTn I.sz (IN I.lt) (λy c q=>?_) (λp hp=>?_) ⟨by show 2<=Hs;decide,[key,x],.cons (zr hk) (.cons rx .nil),⟨_,hpair,rfl,_,rfl⟩⟩
   .obtain⟨v,q2⟩:=I.cell y c q;exact Hr q2.lt
   .exact Hr (Hl (I.pin p hp).1)
  refine⟨_,rfl,wpAny_letOwnedTupleGo_items (s:={ s with heap:=h',toks:=s.toks }) st' λh'' st'' hs''=>?_⟩;have I3:Inv X pins σ (upd H s.heap.objs.size (.tup [kV kvs[i].1,kvs[i].2])) { s with heap:=h'',toks:=s.toks }:=Inv.turned (s:={ s with heap:=h',toks:=s.toks }) (h':=h'') (t':=s.toks) (it:=it) I2 (λc o hb q=>(hs''.2 c hb).trans q) (by rw[aj (Hr zlt)];exact f0) f1 f3 f4 f5;refine⟨.ref s.heap.objs.size,_,I3,rfl,⟨_,kvs[i],hTn,rfl,GZ hi,rfl⟩,⟨_,_,st''⟩,λb hb=>?_⟩;have e:b=it:=by simpa using hb
  subst e;rw[aj (Hr zlt)];exact f0
 done:=by
  intro X hP hw hK hc i pins s σ H E I hf st hg;subst hP hw hK;obtain⟨he,hi⟩:=hg;obtain⟨hs,vs,rel,da⟩:=fW I.hok he;obtain⟨f0,f1,f2,f3,f4,f5⟩:=hf it (by simp);obtain⟨ok,ov,st⟩:=st;rw[show kvs.length=vs.length from rel.length]at st;exact wpAny_pyNext_items_end (I.ok.hd hc) st da (Jo (by rw[<-rel.length];exact hi)) λh' eb=>⟨rfl,I.turned (t':=s.toks) (λb o hb e=>eb b o hb e) f0 f1 f3 f4 f5⟩
 self:=λ_ _ _ _ _ st h=>by
  obtain⟨ok,ov,st⟩:=st;exact qI st h
def iVw(J:Addr->Obj->List (Key×V)->It)(X:Cx)(tl:TE):TI:=λσ H R=>tl σ H λx H1=>∃a kvs,x=.ref a/\H1 a=some (.dK kvs)/\(Hz X a->∀o,R (J a o kvs) (upd H1 a (.frz o (.dK kvs))))
section
variable {X:Cx}{tg:Expr}
theorem D2{l:Expr}{tl:TE}{apos cpos:Pos}(hl:PE X l tl)(hbase:JA l "values" X.env (eval l X.env)=eval l X.env:=by rfl)(hline:(apos.endLine==cpos.line)=true:=by rfl):PI X tg (.Call (.Attribute l "values" apos) [] [] cpos) (iVw Itv X tl):=by
 intro pins s σ H R I h;refine wpAny_Call_method0_late hbase hline (thn (hl pins s σ H _ I h) λv s1 ⟨x,H1,I1,r1,q1⟩=>?_);obtain⟨a,kvs,e,ha,q⟩:=q1;subst e;cases r1;have ad:H1 a=some (.dK kvs):=ha;obtain⟨t1,t2,_⟩:=A1 I1 (.inl ⟨kvs,.inl ha⟩);refine⟨"dict","dict.values",PySem.F.plainAttrs_dict,PySem.F.slot_dict_values,PySem.F.type_dict_values,t1,t2,Jj rfl (PySem.evalArgs_none ?_)⟩;obtain⟨o,ho,I2⟩:=I1.freeze ha;have hf:=q (I1.hz ha) o;have he:upd H1 a (.frz o (.dK kvs)) a=some (.frz o (.dK kvs)):=ac;generalize upd H1 a (.frz o (.dK kvs))=H2 at I2 hf he;obtain⟨hs,vs,rel,da⟩:=fW I2.hok he;have dof:s1.heap.DictOf (bA X.prog X.w) a vs:=by obtain⟨o,es,r⟩:=da;exact⟨o,es,_,r⟩
 refine call_meetsIn PySem.F.slot_dict_values dof.typeIs PySem.F.entry_dict_values (PySem.F.args_dict_values_1 _) (meets_dict_values (bA X.prog X.w) a hs) ⟨⟨vs,dof⟩,?_⟩;refine wpAny_pyIter_values (knd:=bA X.prog X.w) (d:=a) (kvs:=vs) (ep:=epO o) ⟨_,HI _ rfl,rfl,rfl⟩ (da.at' λo e=>Hg _ e) ?_;have I3:=I2.kept (t':=s1.toks) (h':=s1.heap.push { cls:=Js "dict_values",data:=JJ #[Ie a] }) λb o e=>Hg _ e;refine⟨_,[_],_,_,H2,rfl,I3.kept (t':=s1.toks) λb o e=>Hg _ e,Bo a _ o kvs (λz=>?_),⟨_,HI _ rfl,rfl,?_⟩,λb hb=>?_,hf⟩
 .have:=Hl ho;rw[z,size_push']at this;exact absurd this (Nat.not_lt.mpr (IR _))
 .rw[rel.length];rfl
 .have e:b=(s1.heap.push { cls:=Js "dict_values",data:=JJ #[Ie a] }).objs.size:=by simpa using hb
  subst e;exact I3.fpOk (G_ _) (I3.hok.fresh (G_ _))
theorem CN{l:Expr}{tl:TE}{apos cpos:Pos}{elts:List Expr}{k1}{tp:Pos}(hl:PE X l tl)(hbase:JA l "items" X.env (eval l X.env)=eval l X.env:=by rfl)(hline:(apos.endLine==cpos.line)=true:=by rfl):PI X (.Tuple elts k1 tp) (.Call (.Attribute l "items" apos) [] [] cpos) (iVw Itp X tl):=by
 intro pins s σ H R I h;refine wpAny_Call_method0_late hbase hline (thn (hl pins s σ H _ I h) λv s1 ⟨x,H1,I1,r1,q1⟩=>?_);obtain⟨a,kvs,e,ha,q⟩:=q1;subst e;cases r1;obtain⟨t1,t2,_⟩:=A1 I1 (.inl ⟨kvs,.inl ha⟩);refine⟨"dict","dict.items",PySem.F.plainAttrs_dict,PySem.F.slot_dict_items,PySem.F.type_dict_items,t1,t2,Jj rfl (PySem.evalArgs_none ?_)⟩;obtain⟨o,ho,I2⟩:=I1.freeze ha;have hf:=q (I1.hz ha) o;have he:upd H1 a (.frz o (.dK kvs)) a=some (.frz o (.dK kvs)):=ac;generalize upd H1 a (.frz o (.dK kvs))=H2 at I2 hf he;obtain⟨hs,vs,rel,da⟩:=fW I2.hok he;have dof:s1.heap.DictOf (bA X.prog X.w) a vs:=by obtain⟨o,es,r⟩:=da;exact⟨o,es,_,r⟩
 refine call_meetsIn PySem.F.slot_dict_items dof.typeIs PySem.F.entry_dict_items (PySem.F.args_dict_items_1 _) (meets_dict_items (bA X.prog X.w) a hs) ⟨⟨vs,dof⟩,?_⟩;refine wpAny_pyIter_items (knd:=bA X.prog X.w) (d:=a) (kvs:=vs) (ep:=epO o) ⟨_,HI _ rfl,rfl,rfl⟩ (da.at' λo e=>Hg _ e) ?_;have I3:=I2.kept (t':=s1.toks) (h':=s1.heap.push { cls:=Js "dict_items",data:=JJ #[Ie a] }) λb o e=>Hg _ e;refine⟨_,[_],_,_,H2,rfl,I3.kept (t':=s1.toks) λb o e=>Hg _ e,z7 a _ o kvs (λz=>?_),⟨.none,.none,?_⟩,λb hb=>?_,hf⟩
 .have:=Hl ho;rw[z,size_push']at this;exact absurd this (Nat.not_lt.mpr (IR _))
 .have:=HI (s1.heap.push { cls:=Js "dict_items",data:=JJ #[Ie a] }) (o:={ cls:=Js "dict_itemiterator",data:=JJ #[JS,Lc false,Ie a,JR 0 0,JR (↑vs.length) 0,JR (↑(epO o)) 0,JS,JS] }) rfl;rw[rel.length];exact this
 .have e:b=(s1.heap.push { cls:=Js "dict_items",data:=JJ #[Ie a] }).objs.size:=by simpa using hb
  subst e;exact I3.fpOk (G_ _) (I3.hok.fresh (G_ _))
def FW(J:Addr->Obj->List (Key×V)->It)(X:Cx)(tl:TE)(g:TG)(tb:TS):TS:=λD σ H=>Ce (iVw J X tl) g tb (fz X D) σ H
theorem zu{iter:Expr}{J:Addr->Obj->List (Key×V)->It}{body:List Stmt}{tl:TE}{g:TG}{tb:TS}{pos:Pos}(hp:Lp (HG X.prog X.w) X.A X.env X.xe)(hc:X.calm=true)(hi:PI X tg iter (iVw J X tl))(hg:PG X tg g)(hb:PSs X body tb)
  (hs:∀x,Iv iter X.env x=pure x:=by intro _;rfl):PS X (.For tg iter body [] pos) (FW J X tl g tb):=by
 intro pins s σ H D I h;exact Ii (cg hp hc hi hg hb hs pins s σ H (fz X D) I h) (λ_ _ z=>z.thaw) λ_ _ z=>z
end
theorem CO{X:Cx}{a:Addr}{o:Obj}{kvs:List (Key×V)}{g:TG}{tb:TS}{D:dZ}{σ:St}{H:Hp}(hz:Hz X a)(Pv:Nat->St->Hp->Prop)(fr:∀i σ H,Pv i σ H->H a=some (.frz o (.dK kvs)))(h0:Pv 0 σ H)
  (hs:∀i p σ H,kvs[i]?=some p->Pv i σ H->g p.2 σ H λσ2 H2=>tb { fz X D with nx:=Pv (i+1),ct:=Pv (i+1),bk:=(fz X D).nx } σ2 H2)(hd:∀σ H,Pv kvs.length σ H->D.nx σ (upd H a (.dK kvs))) :
  ∃W:Nat->Nat->St->Hp->Prop,(∃m,W 0 m σ H)/\∀i m σ H,W i m σ H->
   ((Itv a o kvs).stop i H/\(fz X D).nx σ H)\/((Itv a o kvs).go i H/\∃N:St->Hp->Prop,(∀σ' H',N σ' H'->∃m',m'<m/\W (i+1) m' σ' H')/\∀x H',(Itv a o kvs).yld i H x H'->g x σ H' λσ2 H2=>tb { fz X D with nx:=N,ct:=N,bk:=(fz X D).nx } σ2 H2):=by
 refine⟨λi m σ H'=>m=kvs.length-i/\i<=kvs.length/\Pv i σ H',⟨kvs.length,by simp,HZ _,h0⟩,?_⟩;rintro i m σ H' ⟨rfl,hi,p⟩;by_cases hlt:i<kvs.length
 .refine .inr ⟨⟨fr i σ H' p,hlt⟩,Pv (i+1),λσ' H' p'=>⟨kvs.length-(i+1),by omega,rfl,hlt,p'⟩,λx H'' y=>?_⟩;obtain⟨rfl,p',hp',rfl⟩:=y;exact hs i p' σ _ hp' p
 .have e:i=kvs.length:=by omega
  subst e;exact .inl ⟨⟨fr _ σ H' p,G_ _⟩,a,kvs,o,hz,fr _ σ H' p,hd σ H' p⟩
theorem Bp{X:Cx}{a:Addr}{o:Obj}{kvs:List (Key×V)}{g:TG}{tb:TS}{D:dZ}{σ:St}{H:Hp}(hz:Hz X a)(Pv:Nat->St->Hp->Prop)(fr:∀i σ H,Pv i σ H->H a=some (.frz o (.dK kvs)))(h0:Pv 0 σ H)
  (hs:∀i q p σ H,kvs[i]?=some q->Pv i σ H->H p=none->g (.ref p) σ (upd H p (.tup [kV q.1,q.2])) λσ2 H2=>tb { fz X D with nx:=Pv (i+1),ct:=Pv (i+1),bk:=(fz X D).nx } σ2 H2)(hd:∀σ H,Pv kvs.length σ H->D.nx σ (upd H a (.dK kvs))) :
  ∃W:Nat->Nat->St->Hp->Prop,(∃m,W 0 m σ H)/\∀i m σ H,W i m σ H->
   ((Itp a o kvs).stop i H/\(fz X D).nx σ H)\/((Itp a o kvs).go i H/\∃N:St->Hp->Prop,(∀σ' H',N σ' H'->∃m',m'<m/\W (i+1) m' σ' H')/\∀x H',(Itp a o kvs).yld i H x H'->g x σ H' λσ2 H2=>tb { fz X D with nx:=N,ct:=N,bk:=(fz X D).nx } σ2 H2):=by
 refine⟨λi m σ H'=>m=kvs.length-i/\i<=kvs.length/\Pv i σ H',⟨kvs.length,by simp,HZ _,h0⟩,?_⟩;rintro i m σ H' ⟨rfl,hi,p⟩;by_cases hlt:i<kvs.length
 .refine .inr ⟨⟨fr i σ H' p,hlt⟩,Pv (i+1),λσ' H' p'=>⟨kvs.length-(i+1),by omega,rfl,hlt,p'⟩,λx H'' y=>?_⟩;obtain⟨p1,q,hp1,rfl,hq,rfl⟩:=y;exact hs i q p1 σ _ hq p hp1
 .have e:i=kvs.length:=by omega
  subst e;exact .inl ⟨⟨fr _ σ H' p,G_ _⟩,a,kvs,o,hz,fr _ σ H' p,hd σ H' p⟩
section
variable {X:Cx}{o:Expr}
end
section
variable {X:Cx}{a b c o:Expr}{bp:List Expr}{ta tb to:TE}{tA tB':TT}{pos:Pos}
def PT1(X:Cx)(e:Expr)(t:TT):Prop:=
 ∀(pins:List (Addr×Obj)) (s:GY) (σ:St) (H:Hp) (Q:Bool->Hp->Prop),Inv X pins σ H s->t σ H Q->HK (HG X.prog X.w) X.A (isTrue e X.env (eval e X.env)) (λd s'=>1<=s'.toks/\TP X pins σ Q d s') X.xe s
def PE1(X:Cx)(e:Expr)(t:TE):Prop:=
 ∀(pins:List (Addr×Obj)) (s:GY) (σ:St) (H:Hp) (Q:VK),1<=s.toks->Inv X pins σ H s->t σ H Q->HK (HG X.prog X.w) X.A (eval e X.env) (EP X pins σ Q) X.xe s
def E7(X:Cx)(st:List Stmt)(t:TS):Prop:=
 ∀(pins:List (Addr×Obj)) (s:GY) (σ:St) (H:Hp) (D:dZ),1<=s.toks->Inv X pins σ H s->t D σ H->HK (HG X.prog X.w) X.A (execs st X.env) (SP X pins D) X.xe s
theorem z8{α:Type}{M:Lw}{A:HY}{s:GY}{t:Sem α}{Q:α->GY->Prop}{E:GV->GY->Prop}(h:1<=s.toks)(w:HK M A t Q E s):HK M A t (λa s'=>1<=s'.toks/\Q a s') E s:=
 wpAny_with_toks h (Ii w (λ_ _ q z=>⟨z,q⟩) λ_ _ q _=>q)
theorem D3{op:CmpOp}{r:R2}{i:Int}{j:Nat}{p2:Pos}(ho:OpR X (Iw op) r)(ha:PE X a ta)(hm:JY op (.Constant (.int i) j p2)=false):PT1 X (.Compare a [op] [.Constant (.int i) j p2] pos) (Dj (tOp r ta (tC (.int i)))):=by
 intro pins s σ H Q I h;refine wpAny_isTrue_Compare1 (thn (ha pins s σ H _ I h) λv s1 ⟨x,H1,I1,r1,q1⟩=>wpAny_Constant_int ?_) hm;refine thn (z8 (Nat.succ_le_succ (HZ _)) (ho pins _ σ H1 x (.int i) v _ _ (I1.tok _) r1 ⟨_,rfl⟩ q1)) λc s3 ⟨tk,z,H3,I3,r3,k,e,q3⟩=>?_;subst e;cases r3;exact Ja ⟨tk,H3,I3,q3⟩
theorem D4(ha:PT1 X a tA)(hb:PW X (.BoolOp .And (b::bp) pos) tB'):PT1 X (.BoolOp .And (a::b::bp) pos) (EC tA tB'):=by
 intro pins s σ H Q I h;refine Ly (thn (ha pins s σ H _ I h) λc s1 ⟨tk,H1,I1,q1⟩=>?_);cases c with
 |true=>exact z8 tk (hb _ pins s1 σ H1 Q I1 q1)
 |false=>exact⟨tk,H1,I1,q1⟩
theorem E8{a b:List Stmt}{tc:TT}{t u:TS}(hc:PT1 X c tc)(ha:E7 X a t)(hb:PSs X b u):PS X (.If c a b pos) (EF tc t u):=by
 intro pins s σ H D I h;refine wpAny_If (thn (hc pins s σ H _ I h) λd s1 ⟨tk,H1,I1,q1⟩=>?_);cases d with
 |true=>exact ha pins s1 σ H1 D tk I1 q1
 |false=>exact hb pins s1 σ H1 D I1 q1
theorem CP{i:Nat}{x:Str}{e:Expr}{te:TE}{pos':Pos}(hN:X.N.Nodup)(hi:X.N[i]?=some x)(hx:Loc X.env.scope x)(he:PE1 X e te)(hs:JI e (some (.Name x pos')) pos.line X.env=pure false:=by rfl)(hf:X.fn x=true\/X.env.scope.names.lookup x=some .local:=by first|exact .inl rfl|exact .inr rfl|assumption) :
  E7 X [.Assign [.Name x pos'] e pos] (tT te (bB i)):=by
 intro pins s σ H D tk I h;refine JT (wpAny_Assign_Name (thn (he pins s σ H _ tk I h) λv s1 ⟨y,H1,I1,r1,q1⟩=>?_) hs);exact pG I1 hN hi hx r1 (λs2 I2=>IY ⟨_,H1,I2,q1⟩) hf
def FX(y z:Str)(to:TE):TE:=λσ H Q=>to σ H λx H1=>∃u:Str,x=.str u/\u.length<=1048576/\Q (.str (Txt.replace u y z)) H1
theorem yY{y z:Str}{j1 j2:Nat}{p1 p2 apos cpos:Pos}(ho:PE X o to)(hyz:(y==z)=false)(hz:z.length<=14)
  (hbase:JA o "replace" X.env (eval o X.env)=eval o X.env:=by rfl)
  (hfew:((IT cpos (HJ [.Constant (.str y) j1 p1,.Constant (.str z) j2 p2] X.env)).all (fun x=>!x.1) && (KZ cpos (J1 [] X.env)).all (fun x=>x.1.isSome)
   && decide (([.Constant (.str y) j1 p1,.Constant (.str z) j2 p2]:List Expr).length+([]:List Lu).length+(if([]:List Lu).isEmpty then 0 else 1)<30))=true:=by rfl)
  (hline:(apos.endLine==cpos.line)=true:=by rfl) (ht:IT cpos (HJ [.Constant (.str y) j1 p1,.Constant (.str z) j2 p2] X.env)=[(false,eval (.Constant (.str y) j1 p1) X.env),(false,eval (.Constant (.str z) j2 p2) X.env)]:=by rfl) :
  PE1 X (.Call (.Attribute o "replace" apos) [.Constant (.str y) j1 p1,.Constant (.str z) j2 p2] [] cpos) (FX y z to):=by
 intro pins s σ H Q tk I h;refine wpAny_Call_method_late hbase hfew hline ht (thn (z8 tk (ho pins s σ H _ I h)) λv s1 ⟨tk1,x,H1,I1,r1,u,e,hu,q⟩=>?_);subst e;obtain⟨t,rfl⟩:=(show ∃t,v=IW u t from r1);refine⟨"str","str.replace",PySem.F.plainAttrs_str,PySem.F.slot_str_replace,PySem.F.type_str_replace,rfl,(λb z=>by cases z),Jj rfl (J2 (Kn (JE (Kn (JE (Calls.spliced_nil ?_))))))⟩;refine SC.replaceW (IN tk1) (IN (Nat.succ_pos _)) (Hr (Jf _)) hyz hu hz λt' k=>⟨.str _,H1,I1.tok _,⟨_,rfl⟩,q⟩
end
end L2

set_option maxHeartbeats 4000000

namespace Tl
open PySem PySem.Spec L2
inductive Kw where
 |plain|mark|number|page|row|foot|entry
 deriving DecidableEq
def Kw.s:Kw->Str
 |.plain=>"plain" | .mark=>"mark" | .number=>"number" | .page=>"page" | .row=>"row" | .foot=>"foot" | .entry=>"entry"
theorem Kw.inj:∀{a b:Kw},a.s=b.s->a=b:=by
 intro a b h;cases a<;>cases b<;>first|rfl|exact absurd h (by decide +kernel)
theorem Kw.beq(a b:Kw):(a.s==b.s)=decide (a=b):=by
 cases a<;>cases b<;>decide +kernel
abbrev Wk:=Kw×V
inductive Tg where
 |page|odd|lst|head (n:Nat) (ws:List Wk)|par (ws:List Wk)
def WkA(F:Hp)(v:V)(w:Wk):Prop:=∃a,v=.ref a/\F a=some (.tup [.str w.1.s,w.2])
def aL{α:Type}(P:V->α->Prop):List V->List α->Prop
 |[],[]=>True
 |v::r,w::s=>P v w/\aL P r s
 |_,_=>False
section
variable {α:Type}{P Q:V->α->Prop}
theorem aL.len:∀{vs:List V} {ws:List α},aL P vs ws->vs.length=ws.length
 |[],[],_=>rfl
 |_::_,_::_,h=>congrArg (·+1) (aL.len h.2)
theorem aL.imp(m:∀v w,P v w->Q v w):∀{vs:List V} {ws:List α},aL P vs ws->aL Q vs ws
 |[],[],_=>trivial
 |_::_,_::_,h=>⟨m _ _ h.1,h.2.imp m⟩
theorem aL.app:∀{vs vs':List V} {ws ws':List α},aL P vs ws->aL P vs' ws'->aL P (vs++vs') (ws++ws')
 |[],_,[],_,_,h=>h
 |_::_,_,_::_,_,h,h'=>⟨h.1,h.2.app h'⟩
theorem aL.one{v:V}{w:α}(h:P v w):aL P [v] [w]:=⟨h,trivial⟩
theorem aL.snoc{v:V}{w:α}{vs:List V}{ws:List α}(h:aL P vs ws)(h':P v w):aL P (vs++[v]) (ws++[w]):=h.app (.one h')
theorem aL.getL:∀{vs:List V} {ws:List α} {i:Nat} {v:V},aL P vs ws->vs[i]?=some v->∃w,ws[i]?=some w/\P v w
 |v::_,w::_,0,x,h,e=>by cases e;exact⟨w,rfl,h.1⟩
 |_::_,_::_,i+1,x,h,e=>aL.getL (i:=i) h.2 (by simpa using e)
 |[],[],_,_,_,e=>by simp at e
theorem aL.getR:∀{vs:List V} {ws:List α} {i:Nat} {w:α},aL P vs ws->ws[i]?=some w->∃v,vs[i]?=some v/\P v w
 |v::_,w::_,0,x,h,e=>by cases e;exact⟨v,rfl,h.1⟩
 |_::_,_::_,i+1,x,h,e=>aL.getR (i:=i) h.2 (by simpa using e)
 |[],[],_,_,_,e=>by simp at e
end
abbrev b8(F:Hp):List V->List Wk->Prop:=aL (WkA F)
theorem WkA.mono{F F':Hp}(s:ak F F'){v:V}{w:Wk}(h:WkA F v w):WkA F' v w:=by
 obtain⟨a,e,h⟩:=h;exact⟨a,e,s _ _ h⟩
theorem b8.mono{F F':Hp}(s:ak F F'){vs:List V}{ws:List Wk}(h:b8 F vs ws):b8 F' vs ws:=h.imp λ_ _=>WkA.mono s
def cZ(F:Hp)(l:Addr)(ws:List Wk):Prop:=∃vs,F l=some (.lst vs)/\b8 F vs ws
theorem cZ.mono{F F':Hp}(s:ak F F'){l:Addr}{ws:List Wk}(h:cZ F l ws):cZ F' l ws:=by
 obtain⟨vs,e,h⟩:=h;exact⟨vs,s _ _ e,b8.mono s h⟩
def TgA(F:Hp)(v:V):Tg->Prop
 |.page=>∃a,v=.ref a/\F a=some (.tup [.str "page"])
 |.odd=>∃a,v=.ref a/\F a=some (.tup [.str "odd"])
 |.lst=>∃a,v=.ref a/\F a=some (.tup [.str "list"])
 |.head n ws=>∃a l,v=.ref a/\F a=some (.tup [.str "head",.int n,.ref l])/\cZ F l ws
 |.par ws=>∃a l,v=.ref a/\F a=some (.tup [.str "paragraph",.ref l])/\cZ F l ws
theorem TgA.mono{F F':Hp}(s:ak F F'){v:V}{t:Tg}(h:TgA F v t):TgA F' v t:=by
 cases t with
 |page=>obtain⟨a,e,h⟩:=h;exact⟨a,e,s _ _ h⟩
 |odd=>obtain⟨a,e,h⟩:=h;exact⟨a,e,s _ _ h⟩
 |lst=>obtain⟨a,e,h⟩:=h;exact⟨a,e,s _ _ h⟩
 |head n ws=>obtain⟨a,l,e,h,h2⟩:=h;exact⟨a,l,e,s _ _ h,h2.mono s⟩
 |par ws=>obtain⟨a,l,e,h,h2⟩:=h;exact⟨a,l,e,s _ _ h,h2.mono s⟩
abbrev fF(F:Hp):List V->List Tg->Prop:=aL (TgA F)
theorem fF.mono{F F':Hp}(s:ak F F'){vs:List V}{ws:List Tg}(h:fF F vs ws):fF F' vs ws:=h.imp λ_ _=>TgA.mono s
def FtE(F:Hp)(p:Key×V)(q:Str×List Wk):Prop:=p.1=.inr q.1/\∃l,p.2=.ref l/\cZ F l q.2
def FtA(F:Hp):List (Key×V)->List (Str×List Wk)->Prop
 |[],[]=>True
 |v::r,w::s=>FtE F v w/\FtA F r s
 |_,_=>False
theorem FtA.mono{F F':Hp}(s:ak F F'):∀{vs:List (Key×V)} {ws:List (Str×List Wk)},FtA F vs ws->FtA F' vs ws
 |[],[],_=>trivial
 |_::_,_::_,⟨⟨h1,l,h2,h3⟩,h⟩=>⟨⟨h1,l,h2,h3.mono s⟩,h.mono s⟩
theorem FtA.len{F:Hp}:∀{vs:List (Key×V)} {ws:List (Str×List Wk)},FtA F vs ws->vs.length=ws.length
 |[],[],_=>rfl
 |_::_,_::_,h=>congrArg (·+1) (FtA.len h.2)
theorem FtA.app{F:Hp}{p:Key×V}{q:Str×List Wk}(e:FtE F p q):∀{vs:List (Key×V)} {ws:List (Str×List Wk)},FtA F vs ws->FtA F (vs++[p]) (ws++[q])
 |[],[],_=>⟨e,trivial⟩
 |_::_,_::_,h=>⟨h.1,h.2.app e⟩
def lkS{β:Type}(n:Str):List (Str×β)->Option β
 |[]=>none
 |p::r=>if p.1=n then some p.2 else lkS n r
theorem FtA.val{F:Hp}{n:Str}:∀{vs:List (Key×V)} {ws:List (Str×List Wk)},FtA F vs ws->(lkS n ws=none->cX vs (.inr n)=none)/\∀f,lkS n ws=some f->∃l,cX vs (.inr n)=some (.ref l)/\cZ F l f
 |[],[],_=>⟨λ_=>rfl,λf h=>by cases h⟩
 |(k,v)::r,(m,g)::s,⟨⟨h1,l,h2,h3⟩,h⟩=>by
  have ih:=FtA.val (n:=n) h;obtain rfl:k=.inr m:=h1;obtain rfl:v=.ref l:=h2;by_cases c:m=n
  .subst c;have e:cX ((JB m,V.ref l)::r) (.inr m)=some (.ref l):=by unfold cX;simp
   refine⟨λz=>?_,λf z=>?_⟩
   .unfold lkS at z;simp at z
   .unfold lkS at z;simp at z;subst z;exact⟨l,e,h3⟩
  .have e:cX ((JB m,V.ref l)::r) (.inr n)=cX r (.inr n):=by
    unfold cX;have:¬ ((JB m:Key)=.inr n):=λz=>c (by cases z;rfl);simp[this]
   have e2:lkS n ((m,g)::s)=lkS n s:=by unfold lkS;rw[if_neg c];cases s<;>rfl
   rw[e,e2];exact ih
def hid(os:List Addr)(H:Hp):Hp:=λb=>if b∈os then none else H b
theorem gg{os:List Addr}{H:Hp}{b:Addr}{o:HO}:hid os H b=some o↔b∉os/\H b=some o:=by
 unfold hid;by_cases c:b∈os
 .rw[if_pos c];exact⟨(λz=>by cases z),λz=>absurd c z.1⟩
 .rw[if_neg c];exact⟨λz=>⟨c,z⟩,λz=>z.2⟩
theorem aZ{os:List Addr}{H:Hp}{b:Addr}{o:HO}(c:b∉os)(h:H b=some o):hid os H b=some o:=gg.mpr ⟨c,h⟩
theorem bT{os:List Addr}{H:Hp}:ak (hid os H) H:=λ_ _ h=>(gg.mp h).2
theorem D5{os:List Addr}{H:Hp}{p:Addr}{o:HO}(h:H p=none):ak (hid os H) (hid os (upd H p o)):=λb u z=>by
 obtain⟨c,z⟩:=gg.mp z;refine aZ c ?_;rw[aj (λe=>by rw[e,h]at z;cases z)];exact z
theorem br{os:List Addr}{H:Hp}{p:Addr}{o:HO}(h:p∈os):hid os (upd H p o)=hid os H:=by
 funext b
 unfold hid;by_cases c:b∈os
 .rw[if_pos c,if_pos c]
 .have n:b≠p:=λe=>c (by rw[e];exact h);rw[if_neg c,if_neg c,aj n]
theorem bj{os:List Addr}{H H':Hp}(s:ak H H'):ak (hid os H) (hid os H'):=λb u z=>by
 obtain⟨c,z⟩:=gg.mp z;exact aZ c (s _ _ z)
theorem jr{os:List Addr}{G H:Hp}(s:ak G H)(n:∀b∈os,G b=none):ak G (hid os H):=λb u z=>aZ (λc=>by rw[n b c]at z;cases z) (s _ _ z)
theorem aW{G H:Hp}{p:Addr}{o:HO}(s:ak G H)(h:G p=none):ak G (upd H p o):=λb u z=>by
 rw[aj (λe=>by rw[e,h]at z;cases z)];exact s _ _ z
structure Rs where
 things:List Tg
 feet:List (Str×List Wk)
 g:Bool
inductive Rw where
 |empty|foot (n:Str) (ws:List Wk)|page|odd|lst|head (n:Nat) (ws:List Wk)|par (ws:List Wk)
def ci(ws:List Wk):List Tg->List Tg
 |[]=>[.par ws]
 |[.par vs]=>[.par (vs++ws)]
 |t::r=>t::ci ws r
theorem tM(ws vs:List Wk):∀l:List Tg,ci ws (l++[.par vs])=l++[.par (vs++ws)]
 |[]=>rfl
 |[t]=>by cases t<;>rfl
 |t::u::r=>by
  have:=tM ws vs (u::r);cases t<;>exact congrArg _ this
def bV(s:Rs):Rw->Rs
 |.empty=>{ s with g:=false }
 |.foot n ws=>{ s with feet:=s.feet++[(n,ws)] }
 |.page=>{ s with things:=s.things++[.page],g:=false }
 |.odd=>{ s with things:=s.things++[.odd],g:=false }
 |.lst=>{ s with things:=s.things++[.lst],g:=false }
 |.head n ws=>{ s with things:=s.things++[.head n ws],g:=false }
 |.par ws=>if s.g then{ s with things:=ci ws s.things }else{ s with things:=s.things++[.par ws],g:=true }
def a7:Rs->List Rw->Rs
 |s,[]=>s
 |s,r::l=>a7 (bV s r) l
theorem Bq(l l':List Rw):∀s:Rs,a7 s (l++l')=a7 (a7 s l) l':=by
 induction l with
 |nil=>intro s;rfl
 |cons a l ih=>intro s;exact ih _
inductive Xc where
 |twice|nofoot|toolong|nomark
 deriving DecidableEq
structure Sc where
 nums:List Str
 titles:List (List Wk)
 feet:List (Str×List Wk)
structure Wt where
 lead:Int
 kept:Bool
 w:Wk
 foot:List Wk
structure Ss where
 fs:Nat
 ws:List Wt
 ms:List (Str×Nat)
 hs:List (Str×Nat)
 lp:Int
 bh:Bool
def bp:V->Str
 |.str n=>n
 |_=>Ir
def fG(s:Ss)(n:Str):Except Xc Ss:=if(lkS n s.ms).isSome then .error .twice else .ok { s with ms:=s.ms++[(n,s.ws.length)] }
def jg(s:Ss)(lead:Int)(w:Wk)(foot:List Wk):Except Xc Ss:=
 if s.ws.length=400 then .error .toolong
 else .ok { s with lp:=if 0<s.lp then 0 else s.lp,ws:=s.ws++[⟨if 0<s.lp then s.lp else lead,s.bh&&decide ((if 0<s.lp then s.lp else lead)<=2),w,foot⟩] }
def jF(k:Nat):Str := "("++tx (aX k)++")"
def hX(c:Sc)(s:Ss)(n:Str):Except Xc (Ss×List Wk):=
 match lkS n c.feet with
 |none=>.error .nofoot
 |some f=>.ok ({ s with fs:=s.fs+1 },(.plain,.str (jF (s.fs+1)))::f)
def du(c:Sc)(s:Ss)(lead:Int)(w:Wk):Except Xc Ss:=
 if w.1=.foot then
  match hX c s (bp w.2)with
  |.error x=>.error x
  |.ok (s',f)=>jg s' lead (f.headD w) f
 else jg s lead w []
def bP(c:Sc)(s:Ss)(lead:Int)(byh:Bool):List Wk->Except Xc Ss
 |[]=>.ok s
 |w::r =>
  if w.1=.mark then
   match fG s (bp w.2)with
   |.error x=>.error x
   |.ok s'=>bP c s' lead byh r
  else
   match du c s lead w with
   |.error x=>.error x
   |.ok s'=>bP c { s' with bh:=byh } 0 byh r
def rm(c:Sc)(s:Ss)(k:Nat):Except Xc Ss:=
 bP c { s with hs:=s.hs++[(c.nums.getD k Ir,s.ws.length)] } 2 true ((.plain,.str (c.nums.getD k Ir))::c.titles.getD k [])
def jG(ws:List Wk):List Wk:=ws.filter λw=>!decide (w.1=.mark)
def dz(c:Sc)(k:Nat)(n:Str):List Wk:=(.plain,.str n)::(jG (c.titles.getD k [])++[(.entry,.int k)])
def gh(c:Sc)(s:Ss)(lead:Int)(k:Nat):List Str->Except Xc Ss
 |[]=>.ok s
 |n::r =>
  match bP c s lead false (dz c k n)with
  |.error x=>.error x
  |.ok s'=>gh c s' 1 (k+1) r
def iL(c:Sc)(s:Ss):Tg->Except Xc Ss
 |.page=>.ok { s with lp:=if s.lp<3 then 3 else s.lp }
 |.odd=>.ok { s with lp:=if s.lp<4 then 4 else s.lp }
 |.head _ _=>rm c s s.hs.length
 |.lst=>gh c s 2 0 c.nums
 |.par ws=>bP c s (if s.bh then 1 else 2) false ws
def iM(c:Sc):Ss->List Tg->Except Xc Ss
 |s,[]=>.ok s
 |s,t::r =>
  match iL c s t with
  |.error x=>.error x
  |.ok s'=>iM c s' r
def cT(k:Kw):Bool:=k=.number||k=.page||k=.row
def jH(s:Ss)(w:Wk):Bool:=cT w.1&&(lkS (bp w.2) s.ms).isNone
def fH(c:Sc)(s:Ss):Option Xc:=
 if s.ms.any (λm=>m.2=s.ws.length)then some .nomark
 else if(s.ws.map (·.w)++c.feet.flatMap (·.2)).any (jH s)then some .nomark
 else none
def lH(k:Nat):Str->List (Str×Nat)->Str
 |n,[]=>n
 |n,(t,at_)::r=>lH k (if at_<=k then t else n) r
def t_(s:Ss)(n:Str):Nat:=(lkS n s.ms).getD 0
def aG:List Tg->List (Nat×List Wk)
 |[]=>[]
 |.head n ws::r=>(n,ws)::aG r
 |_::r=>aG r
def ss0:Ss:=⟨0,[],[],[],0,false⟩

def fsR(sa fa ta:Addr)(g:Bool):List (Str×V):=[("shorts",.ref sa),("feet",.ref fa),("things",.ref ta),("going_on",.bl g)]
section
variable {sa fa ta:Addr}{g:Bool}
theorem Br:HQ ("shorts" : Str) (fsR sa fa ta g)=some (.ref sa):=rfl
theorem vt:HQ ("feet" : Str) (fsR sa fa ta g)=some (.ref fa):=by
 have e:(("feet" : Str) == "shorts")=false:=by decide +kernel
 simp[fsR,HQ,e]
theorem rp:HQ ("things" : Str) (fsR sa fa ta g)=some (.ref ta):=by
 have e:(("things" : Str) == "shorts")=false:=by decide +kernel
 have e2:(("things" : Str) == "feet")=false:=by decide +kernel
 simp[fsR,HQ,e,e2]
theorem yZ:HQ ("going_on" : Str) (fsR sa fa ta g)=some (.bl g):=by
 have e:(("going_on" : Str) == "shorts")=false:=by decide +kernel
 have e2:(("going_on" : Str) == "feet")=false:=by decide +kernel
 have e3:(("going_on" : Str) == "things")=false:=by decide +kernel
 simp[fsR,HQ,e,e2,e3]
theorem nS{m:Str}(h:((m == "shorts")||(m == "feet")||(m == "things")||(m == "going_on"))=false):(fsR sa fa ta g).lookup m=none:=by
 simp only[J5]at h;simp[fsR,HQ,h.1.1.1,h.1.1.2,h.1.2,h.2]
theorem rq{b:Bool}:bR "going_on" (.bl b) (fsR sa fa ta g)=fsR sa fa ta b:=by
 have e:¬ (("shorts" : Str) = "going_on"):=by decide +kernel
 have e2:¬ (("feet" : Str) = "going_on"):=by decide +kernel
 have e3:¬ (("things" : Str) = "going_on"):=by decide +kernel
 simp[fsR,bR,e,e2,e3]
theorem vx:(fsR sa fa ta g).length<1000:=by show 4<1000;decide
end
theorem D6{sa fa ta sa' fa' ta':Addr}{g g':Bool}(h:fsR sa fa ta g=fsR sa' fa' ta' g'):sa=sa'/\fa=fa'/\ta=ta'/\g=g':=by
 simpa[fsR]using h
structure RdA(C:Addr)(H0 H:Hp)(r:Addr)(s:Rs):Prop where
 old:ak H0 H
 mid:∃dx sa fa ta la kvs vs,H r=some (.ins C dx (fsR sa fa ta s.g))/\hid [r,fa,ta,la] H sa=some (.lst [])/\H fa=some (.dK kvs)/\H ta=some (.lst vs)/\
  (H0 r=none/\H0 fa=none/\H0 ta=none/\H0 la=none)/\FtA (hid [r,fa,ta,la] H) kvs s.feet/\
  ((s.g=false/\la=ta/\fF (hid [r,fa,ta,la] H) vs s.things)\/
    (s.g=true/\la≠ta/\∃vi a wvs ini ws,vs=vi++[.ref a]/\s.things=ini++[.par ws]/\hid [r,fa,ta,la] H a=some (.tup [.str "paragraph",.ref la])/\H la=some (.lst wvs)/\b8 (hid [r,fa,ta,la] H) wvs ws/\fF (hid [r,fa,ta,la] H) vi ini))
theorem RdA.same{C:Addr}{H0 H H':Hp}{r:Addr}{s:Rs}(R:RdA C H0 H r s)(m:ak H H'):RdA C H0 H' r s:=by
 obtain⟨old,dx,sa,fa,ta,la,kvs,vs,h1,h2,h3,h4,h5,h6,h7⟩:=R;refine⟨old.trans m,dx,sa,fa,ta,la,kvs,vs,m _ _ h1,bj m _ _ h2,m _ _ h3,m _ _ h4,h5,h6.mono (bj m),?_⟩;rcases h7 with⟨e1,e2,h⟩|⟨e1,e2,vi,a,wvs,ini,ws,q1,q2,q3,q4,q5,q6⟩
 .exact .inl ⟨e1,e2,fF.mono (bj m) h⟩
 .exact .inr ⟨e1,e2,vi,a,wvs,ini,ws,q1,q2,bj m _ _ q3,m _ _ q4,b8.mono (bj m) q5,fF.mono (bj m) q6⟩
theorem o4{os:List Addr}{H:Hp}(n:∀b∈os,∀us,H b≠some (.tup us)){vs:List V}{ws:List Wk}(h:b8 H vs ws):b8 (hid os H) vs ws:=h.imp λv w ⟨a,e,h⟩=>⟨a,e,aZ (λc=>n a c _ h) h⟩
def TgN(F H:Hp)(v:V):Tg->Prop
 |.page=>∃a,v=.ref a/\H a=some (.tup [.str "page"])
 |.odd=>∃a,v=.ref a/\H a=some (.tup [.str "odd"])
 |.lst=>∃a,v=.ref a/\H a=some (.tup [.str "list"])
 |.head n ws=>∃a l,v=.ref a/\H a=some (.tup [.str "head",.int n,.ref l])/\F l=none/\cZ H l ws
 |.par ws=>∃a l,v=.ref a/\H a=some (.tup [.str "paragraph",.ref l])/\F l=none/\cZ H l ws
theorem TgN.hid{F H:Hp}{os:List Addr}{v:V}{t:Tg}(n:∀b∈os,∀us,H b≠some (.tup us))(f:∀b∈os,F b≠none)(h:TgN F H v t):TgA (hid os H) v t:=by
 have ls:∀{l:Addr} {ws:List Wk},F l=none->cZ H l ws->cZ (Tl.hid os H) l ws:=λe ⟨vs,h1,h2⟩=>⟨vs,aZ (λc=>f _ c e) h1,o4 n h2⟩;cases t with
 |page=>obtain⟨a,e,h⟩:=h;exact⟨a,e,aZ (λc=>n a c _ h) h⟩
 |odd=>obtain⟨a,e,h⟩:=h;exact⟨a,e,aZ (λc=>n a c _ h) h⟩
 |lst=>obtain⟨a,e,h⟩:=h;exact⟨a,e,aZ (λc=>n a c _ h) h⟩
 |head k ws=>obtain⟨a,l,e,h,h1,h2⟩:=h;exact⟨a,l,e,aZ (λc=>n a c _ h) h,ls h1 h2⟩
 |par ws=>obtain⟨a,l,e,h,h1,h2⟩:=h;exact⟨a,l,e,aZ (λc=>n a c _ h) h,ls h1 h2⟩
theorem gi{H:Hp}{a:Addr}{o:HO}(h:H a=some o)(n:∀us,o≠.tup us):∀us,H a≠some (.tup us):=λus z=>by
 rw[h]at z;exact n us (HV z)
theorem sY{H:Hp}{a:Addr}{o:HO}(h:H a=some o):H a≠none:=λz=>by rw[h]at z;cases z
theorem RdA.use{C:Addr}{H0 H:Hp}{r:Addr}{s:Rs}(R:RdA C H0 H r s):∃dx sa fa ta kvs vs,H r=some (.ins C dx (fsR sa fa ta s.g))/\H sa=some (.lst [])/\H fa=some (.dK kvs)/\H ta=some (.lst vs)/\vs.length=s.things.length/\kvs.length=s.feet.length/\(∀n,lkS n s.feet=none->cX kvs (.inr n)=none)/\
  (∀H' v t,ak H H'->TgN H H' v t->RdA C H0 (upd (upd H' ta (.lst (vs++[v]))) r (.ins C dx (fsR sa fa ta false))) r { s with things:=s.things++[t],g:=false })/\
  (∀H',ak H H'->RdA C H0 (upd H' r (.ins C dx (fsR sa fa ta false))) r { s with g:=false })/\
  (∀H' n l ws,ak H H'->H l=none->cZ H' l ws->RdA C H0 (upd H' fa (.dK (kvs++[(.inr n,.ref l)]))) r { s with feet:=s.feet++[(n,ws)] })/\
  (s.g=true->∃vi a la wvs ini ws,vs=vi++[.ref a]/\H a=some (.tup [.str "paragraph",.ref la])/\H la=some (.lst wvs)/\s.things=ini++[.par ws]/\wvs.length=ws.length/\∀H' us ws',ak H H'->b8 H' us ws'->RdA C H0 (upd H' la (.lst (wvs++us))) r { s with things:=ci ws' s.things })/\
  (∀H' a l ws,ak H H'->H' a=some (.tup [.str "paragraph",.ref l])->H l=none->cZ H' l ws->RdA C H0 (upd (upd (upd H' ta (.lst (vs++[.ref a]))) r (.ins C dx (fsR sa fa ta false))) r (.ins C dx (fsR sa fa ta true))) r { s with things:=s.things++[.par ws],g:=true })/\
  FtA H kvs s.feet/\fF H vs s.things/\H0 fa=none/\H0 ta=none:=by
 obtain⟨old,dx,sa,fa,ta,la,kvs,vs,h1,h2,h3,h4,h5,h6,h7⟩:=R;have n1:r≠fa:=λz=>by rw[z,h3]at h1;cases h1
 have n2:r≠ta:=λz=>by rw[z,h4]at h1;cases h1
 have n3:fa≠ta:=λz=>by rw[z,h4]at h3;cases h3
 have hla:∃us,H la=some (.lst us):=by
  rcases h7 with⟨e1,e2,h⟩|⟨e1,e2,vi,a,wvs,ini,ws,q1,q2,q3,q4,q5,q6⟩
  .rw[e2];exact⟨_,h4⟩
  .exact⟨_,q4⟩
 obtain⟨us0,hla⟩:=hla;have n4:la≠r:=λz=>by rw[z,h1]at hla;cases hla
 have n5:la≠fa:=λz=>by rw[z,h3]at hla;cases hla
 have nt:∀{H':Hp},ak H H'->∀b∈[r,fa,ta,la],∀us,H' b≠some (.tup us):=λ{H'} m b hb=>by
  simp only[Ih,H_,or_false]at hb;rcases hb with rfl|rfl|rfl|rfl
  .exact gi (m _ _ h1) (λus z=>by cases z)
  .exact gi (m _ _ h3) (λus z=>by cases z)
  .exact gi (m _ _ h4) (λus z=>by cases z)
  .exact gi (m _ _ hla) (λus z=>by cases z)
 have nn:∀b∈[r,fa,ta,la],H b≠none:=λb hb=>by
  simp only[Ih,H_,or_false]at hb;rcases hb with rfl|rfl|rfl|rfl
  .exact sY h1
  .exact sY h3
  .exact sY h4
  .exact sY hla
 have sub:∀b∈[r,fa,ta,ta],b∈[r,fa,ta,la]:=λb hb=>by
  simp only[Ih,H_,or_false]at hb⊢;rcases hb with h|h|h|h<;>simp[h]
 have m0:∀{H':Hp},ak H H'->ak (hid [r,fa,ta,la] H) (hid [r,fa,ta,ta] H'):=λ{H'} m b o z=>by
  obtain⟨c,z⟩:=gg.mp z;exact aZ (λw=>c (sub b w)) (m _ _ z)
 have cl:∀{H':Hp},ak H H'->fF (hid [r,fa,ta,ta] H') vs s.things:=λ{H'} m=>by
  rcases h7 with⟨e1,e2,h⟩|⟨e1,e2,vi,a,wvs,ini,ws,q1,q2,q3,q4,q5,q6⟩
  .exact fF.mono (m0 m) h
  .rw[q1,q2];exact(fF.mono (m0 m) q6).snoc ⟨a,la,rfl,m0 m _ _ q3,wvs,aZ (by simp[n4,n5,e2]) (m _ _ q4),b8.mono (m0 m) q5⟩
 refine⟨dx,sa,fa,ta,kvs,vs,h1,bT _ _ h2,h3,h4,(cl (ak.refl _)).len,h6.len,λn hn=>(h6.val).1 hn,?_,?_,?_,?_,?_,h6.mono bT,fF.mono bT (cl (ak.refl _)),h5.2.1,h5.2.2.1⟩
 .intro H' v t m tn;have e:hid [r,fa,ta,ta] (upd (upd H' ta (.lst (vs++[v]))) r (.ins C dx (fsR sa fa ta false)))=hid [r,fa,ta,ta] H':=by
   rw[br (by simp),br (by simp)]
  refine⟨?_,dx,sa,fa,ta,ta,kvs,vs++[v],ac,?_,?_,?_,⟨h5.1,h5.2.1,h5.2.2.1,h5.2.2.1⟩,?_,.inl ⟨rfl,rfl,?_⟩⟩
  .exact aW (aW (old.trans m) h5.2.2.1) h5.1
  .rw[e];exact m0 m _ _ h2
  .rw[aj (HW n1),aj n3];exact m _ _ h3
  .rw[aj (HW n2)];exact ac
  .rw[e];exact h6.mono (m0 m)
  .rw[e];exact(cl m).snoc (tn.hid (λb hb=>nt m b (sub b hb)) (λb hb=>nn b (sub b hb)))
 .intro H' m;have e:hid [r,fa,ta,ta] (upd H' r (.ins C dx (fsR sa fa ta false)))=hid [r,fa,ta,ta] H':=br (by simp);refine⟨aW (old.trans m) h5.1,dx,sa,fa,ta,ta,kvs,vs,ac,?_,?_,?_,⟨h5.1,h5.2.1,h5.2.2.1,h5.2.2.1⟩,?_,.inl ⟨rfl,rfl,?_⟩⟩
  .rw[e];exact m0 m _ _ h2
  .rw[aj (HW n1)];exact m _ _ h3
  .rw[aj (HW n2)];exact m _ _ h4
  .rw[e];exact h6.mono (m0 m)
  .rw[e];exact cl m
 .intro H' n l ws m hl lw;have e:hid [r,fa,ta,la] (upd H' fa (.dK (kvs++[(.inr n,.ref l)])))=hid [r,fa,ta,la] H':=br (by simp);have hm:=bj (os:=[r,fa,ta,la]) m;refine⟨aW (old.trans m) h5.2.1,dx,sa,fa,ta,la,kvs++[(.inr n,.ref l)],vs,?_,?_,ac,?_,h5,?_,?_⟩
  .rw[aj n1];exact m _ _ h1
  .rw[e];exact hm _ _ h2
  .rw[aj (HW n3)];exact m _ _ h4
  .rw[e];obtain⟨us,l1,l2⟩:=lw;exact(h6.mono hm).app ⟨rfl,l,rfl,us,aZ (λc=>nn _ c hl) l1,o4 (nt m) l2⟩
  .rw[e];rcases h7 with⟨e1,e2,h⟩|⟨e1,e2,vi,a,wvs,ini,ws,q1,q2,q3,q4,q5,q6⟩
   .exact .inl ⟨e1,e2,fF.mono hm h⟩
   .exact .inr ⟨e1,e2,vi,a,wvs,ini,ws,q1,q2,hm _ _ q3,by rw[aj n5];exact m _ _ q4,b8.mono hm q5,fF.mono hm q6⟩
 .intro hg;rcases h7 with⟨e1,e2,h⟩|⟨e1,e2,vi,a,wvs,ini,ws,q1,q2,q3,q4,q5,q6⟩
  .rw[hg]at e1;cases e1
  refine⟨vi,a,la,wvs,ini,ws,q1,bT _ _ q3,q4,q2,q5.len,λH' us ws' m al=>?_⟩;have e:hid [r,fa,ta,la] (upd H' la (.lst (wvs++us)))=hid [r,fa,ta,la] H':=br (by simp);have hm:=bj (os:=[r,fa,ta,la]) m;refine⟨aW (old.trans m) h5.2.2.2,dx,sa,fa,ta,la,kvs,vs,?_,?_,?_,?_,h5,?_,.inr ⟨e1,e2,vi,a,wvs++us,ini,ws++ws',q1,?_,?_,ac,?_,?_⟩⟩
  .rw[aj (HW n4)];exact m _ _ h1
  .rw[e];exact hm _ _ h2
  .rw[aj (HW n5)];exact m _ _ h3
  .rw[aj (HW e2)];exact m _ _ h4
  .rw[e];exact h6.mono hm
  .show ci ws' s.things=_;rw[q2,tM]
  .rw[e];exact hm _ _ q3
  .rw[e];exact(b8.mono hm q5).app (o4 (nt m) al)
  .rw[e];exact fF.mono hm q6
 .intro H' a l ws m ha hl lw;have lr:l≠r:=λz=>by rw[z,h1]at hl;cases hl
  have lfa:l≠fa:=λz=>by rw[z,h3]at hl;cases hl
  have lta:l≠ta:=λz=>by rw[z,h4]at hl;cases hl
  have lla:l≠la:=λz=>by rw[z,hla]at hl;cases hl
  obtain⟨us,l1,l2⟩:=lw;have nt':∀b∈[r,fa,ta,l],∀us,H' b≠some (.tup us):=λb hb=>by
   simp only[Ih,H_,or_false]at hb;rcases hb with rfl|rfl|rfl|rfl
   .exact gi (m _ _ h1) (λus z=>by cases z)
   .exact gi (m _ _ h3) (λus z=>by cases z)
   .exact gi (m _ _ h4) (λus z=>by cases z)
   .exact gi l1 (λus z=>by cases z)
  have e:hid [r,fa,ta,l] (upd (upd (upd H' ta (.lst (vs++[.ref a]))) r (.ins C dx (fsR sa fa ta false))) r (.ins C dx (fsR sa fa ta true)))=hid [r,fa,ta,l] H':=by
   rw[br (by simp),br (by simp),br (by simp)]
  have mm:ak (hid [r,fa,ta,ta] H) (hid [r,fa,ta,l] H'):=λb o z=>by
   obtain⟨c,z⟩:=gg.mp z;refine aZ (λw=>?_) (m _ _ z);simp only[Ih,H_,or_false]at w c;rcases w with w|w|w|w
   .exact c (.inl w)
   .exact c (.inr (.inl w))
   .exact c (.inr (.inr (.inl w)))
   .rw[w,hl]at z;cases z
  refine⟨aW (aW (aW (old.trans m) h5.2.2.1) h5.1) h5.1,dx,sa,fa,ta,l,kvs,vs++[.ref a],ac,?_,?_,?_,⟨h5.1,h5.2.1,h5.2.2.1,old.free hl⟩,?_,.inr ⟨rfl,lta,vs,a,us,s.things,ws,rfl,rfl,?_,?_,?_,?_⟩⟩
  .rw[e];exact mm _ _ (m0 (ak.refl _) _ _ h2)
  .rw[aj (HW n1),aj (HW n1),aj n3];exact m _ _ h3
  .rw[aj (HW n2),aj (HW n2)];exact ac
  .rw[e];exact h6.mono ((m0 (ak.refl _)).trans mm)
  .rw[e];exact aZ (λc=>nt' a c _ ha) ha
  .rw[aj lr,aj lr,aj lta];exact l1
  .rw[e];exact o4 nt' l2
  .rw[e];exact fF.mono mm (cl (ak.refl _))
def tgN:Tg->Nat
 |.head _ ws=>ws.length
 |.par ws=>ws.length
 |_=>0
def rwN:Rw->Nat
 |.foot _ ws=>ws.length
 |.head _ ws=>ws.length
 |.par ws=>ws.length
 |_=>0
def tgS(l:List Tg):Nat:=(l.map tgN).sum
theorem x6(ws:List Wk):∀l:List Tg,tgS (ci ws l)=tgS l+ws.length/\(ci ws l).length<=l.length+1
 |[]=>by simp[ci,tgS,tgN]
 |[t]=>by
  cases t<;>simp[ci,tgS,tgN]
 |t::u::r=>by
  have ih:=x6 ws (u::r);have e:ci ws (t::u::r)=t::ci ws (u::r):=by cases t<;>rfl
  rw[e];unfold tgS at ih⊢;simp only[Hj,Im,GU]at ih⊢;omega
theorem D7(s:Rs)(w:Rw):tgS (bV s w).things<=tgS s.things+rwN w/\(bV s w).things.length<=s.things.length+1/\(bV s w).feet.length<=s.feet.length+1:=by
 have snoc:∀(l:List Tg) (t:Tg),tgS (l++[t])=tgS l+tgN t:=λl t=>by simp[tgS]
 cases w with
 |empty=>exact⟨G_ _,IR _,IR _⟩
 |foot n ws=>exact⟨JV _ _,IR _,by simp[bV]⟩
 |page=>simp[bV,snoc,tgN,rwN]
 |odd=>simp[bV,snoc,tgN,rwN]
 |lst=>simp[bV,snoc,tgN,rwN]
 |head n ws=>simp[bV,snoc,tgN,rwN]
 |par ws =>
  unfold bV;by_cases g:s.g=true
  .simp only[g,if_true];have:=x6 ws s.things;exact⟨by rw[this.1];exact G_ _,this.2,IR _⟩
  .simp only[IG]at g;simp[g,snoc,tgN,rwN]
theorem vz:∀(l:List Rw) (s:Rs),tgS (a7 s l).things<=tgS s.things+(l.map rwN).sum/\(a7 s l).things.length<=s.things.length+l.length/\(a7 s l).feet.length<=s.feet.length+l.length
 |[],s=>by simp[a7]
 |w::l,s=>by
  have h:=D7 s w;have ih:=vz l (bV s w);have e:a7 s (w::l)=a7 (bV s w) l:=rfl;rw[e];simp only[Hj,Im,GU];omega
theorem tN(f:Rw->Nat):∀(l:List Rw) (k:Nat),((l.take k).map f).sum<=(l.map f).sum
 |[],k=>by simp
 |a::l,0=>by simp
 |a::l,k+1=>by
  have:=tN f l k;simp only[List.take_succ_cons,Hj,Im];omega
def rs0:Rs:=⟨[],[],false⟩
theorem D8{ini:List Tg}{ws:List Wk}:ws.length<=tgS (ini++[.par ws]):=by simp[tgS,tgN]
def FrX(H H':Hp)(x:Addr):Prop:=∀b u,b≠x->H b=some u->H' b=some u
theorem FrX.refl{H:Hp}{x:Addr}:FrX H H x:=λ_ _ _ h=>h
theorem FrX.same{H H1 H':Hp}{x:Addr}(f:FrX H H1 x)(s:ak H1 H'):FrX H H' x:=λb u n h=>s _ _ (f b u n h)
theorem FrX.at{H H':Hp}{x:Addr}{o:HO}(f:FrX H H' x):FrX H (upd H' x o) x:=λb u n h=>by
 rw[aj n];exact f b u n h
theorem FrX.free{H H':Hp}{x p:Addr}{o:HO}(f:FrX H H' x)(hx:H' x=some o)(hp:H' p=none):H p=none:=by
 cases z:H p with
 |none=>rfl
 |some u =>
  by_cases e:p=x
  .rw[e,hx]at hp;cases hp
  .rw[f p u e z]at hp;cases hp
theorem FrX.old{G H H':Hp}{x:Addr}(f:FrX H H' x)(s:ak G H)(hx:G x=none):ak G H':=λb u h=>f b u (λz=>by rw[z,hx]at h;cases h) (s _ _ h)
end Tl

set_option maxHeartbeats 4000000

namespace Tl
open PySem PySem.Spec L2
structure Sad where
 x:Addr
 dx:Addr
 na:Addr
 ta:Addr
 fa:Addr
 wa:Addr
 ma:Addr
 ha:Addr
def Sad.os(A:Sad):List Addr:=[A.x,A.wa,A.ma,A.ha]
def fsS(A:Sad)(fs lp:Int)(bh:Bool):List (Str×V):=[("numbers",.ref A.na),("titles",.ref A.ta),("feet",.ref A.fa),("feet_set",.int fs),("words",.ref A.wa),("marks",.ref A.ma),("heads",.ref A.ha),("leap",.int lp),("behind_head",.bl bh)]
section
variable {A:Sad}{fs lp:Int}{bh:Bool}
theorem u5:HQ ("numbers" : Str) (fsS A fs lp bh)=some (.ref A.na):=by
 rfl
theorem wd:HQ ("titles" : Str) (fsS A fs lp bh)=some (.ref A.ta):=by
 have e0:(("titles" : Str) == "numbers")=false:=by decide +kernel
 simp[fsS,HQ,e0]
theorem vA:HQ ("feet" : Str) (fsS A fs lp bh)=some (.ref A.fa):=by
 have e0:(("feet" : Str) == "numbers")=false:=by decide +kernel
 have e1:(("feet" : Str) == "titles")=false:=by decide +kernel
 simp[fsS,HQ,e0,e1]
theorem tO:HQ ("feet_set" : Str) (fsS A fs lp bh)=some (.int fs):=by
 have e0:(("feet_set" : Str) == "numbers")=false:=by decide +kernel
 have e1:(("feet_set" : Str) == "titles")=false:=by decide +kernel
 have e2:(("feet_set" : Str) == "feet")=false:=by decide +kernel
 simp[fsS,HQ,e0,e1,e2]
theorem jl:HQ ("words" : Str) (fsS A fs lp bh)=some (.ref A.wa):=by
 have e0:(("words" : Str) == "numbers")=false:=by decide +kernel
 have e1:(("words" : Str) == "titles")=false:=by decide +kernel
 have e2:(("words" : Str) == "feet")=false:=by decide +kernel
 have e3:(("words" : Str) == "feet_set")=false:=by decide +kernel
 simp[fsS,HQ,e0,e1,e2,e3]
theorem jm:HQ ("marks" : Str) (fsS A fs lp bh)=some (.ref A.ma):=by
 have e0:(("marks" : Str) == "numbers")=false:=by decide +kernel
 have e1:(("marks" : Str) == "titles")=false:=by decide +kernel
 have e2:(("marks" : Str) == "feet")=false:=by decide +kernel
 have e3:(("marks" : Str) == "feet_set")=false:=by decide +kernel
 have e4:(("marks" : Str) == "words")=false:=by decide +kernel
 simp[fsS,HQ,e0,e1,e2,e3,e4]
theorem lW:HQ ("heads" : Str) (fsS A fs lp bh)=some (.ref A.ha):=by
 have e0:(("heads" : Str) == "numbers")=false:=by decide +kernel
 have e1:(("heads" : Str) == "titles")=false:=by decide +kernel
 have e2:(("heads" : Str) == "feet")=false:=by decide +kernel
 have e3:(("heads" : Str) == "feet_set")=false:=by decide +kernel
 have e4:(("heads" : Str) == "words")=false:=by decide +kernel
 have e5:(("heads" : Str) == "marks")=false:=by decide +kernel
 simp[fsS,HQ,e0,e1,e2,e3,e4,e5]
theorem sZ:HQ ("leap" : Str) (fsS A fs lp bh)=some (.int lp):=by
 have e0:(("leap" : Str) == "numbers")=false:=by decide +kernel
 have e1:(("leap" : Str) == "titles")=false:=by decide +kernel
 have e2:(("leap" : Str) == "feet")=false:=by decide +kernel
 have e3:(("leap" : Str) == "feet_set")=false:=by decide +kernel
 have e4:(("leap" : Str) == "words")=false:=by decide +kernel
 have e5:(("leap" : Str) == "marks")=false:=by decide +kernel
 have e6:(("leap" : Str) == "heads")=false:=by decide +kernel
 simp[fsS,HQ,e0,e1,e2,e3,e4,e5,e6]
theorem o5:HQ ("behind_head" : Str) (fsS A fs lp bh)=some (.bl bh):=by
 have e0:(("behind_head" : Str) == "numbers")=false:=by decide +kernel
 have e1:(("behind_head" : Str) == "titles")=false:=by decide +kernel
 have e2:(("behind_head" : Str) == "feet")=false:=by decide +kernel
 have e3:(("behind_head" : Str) == "feet_set")=false:=by decide +kernel
 have e4:(("behind_head" : Str) == "words")=false:=by decide +kernel
 have e5:(("behind_head" : Str) == "marks")=false:=by decide +kernel
 have e6:(("behind_head" : Str) == "heads")=false:=by decide +kernel
 have e7:(("behind_head" : Str) == "leap")=false:=by decide +kernel
 simp[fsS,HQ,e0,e1,e2,e3,e4,e5,e6,e7]
theorem wF{fs':Int}:bR "feet_set" (.int fs') (fsS A fs lp bh)=fsS A fs' lp bh:=by
 have e0:¬ (("numbers" : Str) = "feet_set"):=by decide +kernel
 have e1:¬ (("titles" : Str) = "feet_set"):=by decide +kernel
 have e2:¬ (("feet" : Str) = "feet_set"):=by decide +kernel
 simp[fsS,bR,e0,e1,e2]
theorem rz{lp':Int}:bR "leap" (.int lp') (fsS A fs lp bh)=fsS A fs lp' bh:=by
 have e0:¬ (("numbers" : Str) = "leap"):=by decide +kernel
 have e1:¬ (("titles" : Str) = "leap"):=by decide +kernel
 have e2:¬ (("feet" : Str) = "leap"):=by decide +kernel
 have e3:¬ (("feet_set" : Str) = "leap"):=by decide +kernel
 have e4:¬ (("words" : Str) = "leap"):=by decide +kernel
 have e5:¬ (("marks" : Str) = "leap"):=by decide +kernel
 have e6:¬ (("heads" : Str) = "leap"):=by decide +kernel
 simp[fsS,bR,e0,e1,e2,e3,e4,e5,e6]
theorem ua{bh':Bool}:bR "behind_head" (.bl bh') (fsS A fs lp bh)=fsS A fs lp bh':=by
 have e0:¬ (("numbers" : Str) = "behind_head"):=by decide +kernel
 have e1:¬ (("titles" : Str) = "behind_head"):=by decide +kernel
 have e2:¬ (("feet" : Str) = "behind_head"):=by decide +kernel
 have e3:¬ (("feet_set" : Str) = "behind_head"):=by decide +kernel
 have e4:¬ (("words" : Str) = "behind_head"):=by decide +kernel
 have e5:¬ (("marks" : Str) = "behind_head"):=by decide +kernel
 have e6:¬ (("heads" : Str) = "behind_head"):=by decide +kernel
 have e7:¬ (("leap" : Str) = "behind_head"):=by decide +kernel
 simp[fsS,bR,e0,e1,e2,e3,e4,e5,e6,e7]

theorem jn{m:Str}(h:[("numbers" : Str),("titles" : Str),("feet" : Str),("feet_set" : Str),("words" : Str),("marks" : Str),("heads" : Str),("leap" : Str),("behind_head" : Str)].all (λn=>!(m==n))=true):(fsS A fs lp bh).lookup m=none:=by
 simp only[Jl,List.all_nil,K_,Iu,Bool.not_eq_true']at h;obtain⟨h1,h2,h3,h4,h5,h6,h7,h8,h9⟩:=h;simp[fsS,HQ,h1,h2,h3,h4,h5,h6,h7,h8,h9]
theorem o6:(fsS A fs lp bh).length<1000:=by show 9<1000;decide
end
theorem x8{n:Str}{v:V}:∀{l:List (Str×V)},(bR n v l).length<=l.length+1
 |[]=>G_ _
 |(m,x)::r=>by
  by_cases e:m=n
  .simp[bR,e]
  .have:=x8 (n:=n) (v:=v) (l:=r);simp[bR,e];exact this
theorem iN{n:Str}{v:V}:∀{l:List (Str×V)},(l.map Prod.fst).all (λm=>m != n)=true->bR n v l=l++[(n,v)]
 |[],_=>rfl
 |(m,x)::r,h=>by
  rw[Hj,Jl,Iu]at h;have e:¬ (m=n):=by simpa using h.1
  have ih:=iN (n:=n) (v:=v) h.2;simp[bR,e]at ih⊢;exact ih
theorem D9(A:Sad):(bR "behind_head" (.bl false) (bR "leap" (.int 0) (bR "heads" (.ref A.ha) (bR "marks" (.ref A.ma) (bR "words" (.ref A.wa) (bR "feet_set" (.int 0) (bR "feet" (.ref A.fa) (bR "titles" (.ref A.ta) (bR "numbers" (.ref A.na) [])))))))))=fsS A 0 0 false:=by
 rw[show bR "numbers" (.ref A.na) []=([("numbers",.ref A.na)]:List (Str×V))from rfl];rw[iN (n := "titles") (by show(["numbers"]:List Str).all (λm=>m != "titles")=true;decide +kernel)];rw[iN (n := "feet") (by show(["numbers","titles"]:List Str).all (λm=>m != "feet")=true;decide +kernel)];rw[iN (n := "feet_set") (by show(["numbers","titles","feet"]:List Str).all (λm=>m != "feet_set")=true;decide +kernel)];rw[iN (n := "words") (by show(["numbers","titles","feet","feet_set"]:List Str).all (λm=>m != "words")=true;decide +kernel)];rw[iN (n := "marks") (by show(["numbers","titles","feet","feet_set","words"]:List Str).all (λm=>m != "marks")=true;decide +kernel)];rw[iN (n := "heads") (by show(["numbers","titles","feet","feet_set","words","marks"]:List Str).all (λm=>m != "heads")=true;decide +kernel)];rw[iN (n := "leap") (by show(["numbers","titles","feet","feet_set","words","marks","heads"]:List Str).all (λm=>m != "leap")=true;decide +kernel)];rw[iN (n := "behind_head") (by show(["numbers","titles","feet","feet_set","words","marks","heads","leap"]:List Str).all (λm=>m != "behind_head")=true;decide +kernel)];rfl
def WtA(F:Hp)(v:V)(t:Wt):Prop:=∃a w f,v=.ref a/\F a=some (.tup [.int t.lead,.bl t.kept,.ref w,.ref f])/\WkA F (.ref w) t.w/\cZ F f t.foot
def HdA(F:Hp)(v:V)(h:Str×Nat):Prop:=∃a,v=.ref a/\F a=some (.tup [.str h.1,.int (h.2:Int)])
def TlA(F:Hp)(v:V)(ws:List Wk):Prop:=∃l,v=.ref l/\cZ F l ws
def mkV(ms:List (Str×Nat)):List (Key×V):=ms.map λm=>(.inr m.1,.int (m.2:Int))
theorem o7{n:Str}:∀ms:List (Str×Nat),cX (mkV ms) (.inr n)=(lkS n ms).map λ(k:Nat)=>V.int (k:Int)
 |[]=>rfl
 |(m,k)::r=>by
  have ih:=o7 (n:=n) r;by_cases c:m=n
  .subst c;have e:lkS m ((m,k)::r)=some k:=by unfold lkS;simp
   rw[e];unfold mkV;rw[Hj,jV rfl];rfl
  .have e:lkS n ((m,k)::r)=lkS n r:=by
    show(if m=n then some k else lkS n r)=lkS n r;exact if_neg c
   rw[e,<-ih];unfold mkV;rw[Hj,dG (λz=>c (by injection z))]
theorem CQ(ms:List (Str×Nat))(n:Str)(k:Nat):mkV (ms++[(n,k)])=mkV ms++[(.inr n,.int (k:Int))]:=by simp[mkV]
theorem zv(ms:List (Str×Nat)):(mkV ms).length=ms.length:=by unfold mkV;rw[GT]
theorem WtA.mono{F F':Hp}(s:ak F F'){v:V}{t:Wt}(h:WtA F v t):WtA F' v t:=by
 obtain⟨a,w,f,e,h1,h2,h3⟩:=h;exact⟨a,w,f,e,s _ _ h1,h2.mono s,h3.mono s⟩
theorem HdA.mono{F F':Hp}(s:ak F F'){v:V}{h:Str×Nat}(z:HdA F v h):HdA F' v h:=by
 obtain⟨a,e,h1⟩:=z;exact⟨a,e,s _ _ h1⟩
theorem TlA.mono{F F':Hp}(s:ak F F'){v:V}{ws:List Wk}(z:TlA F v ws):TlA F' v ws:=by
 obtain⟨a,e,h1⟩:=z;exact⟨a,e,h1.mono s⟩
structure ScA(G:Hp)(A:Sad)(c:Sc):Prop where
 nums:G A.na=some (.lst (c.nums.map V.str))
 titles:∃tvs,G A.ta=some (.lst tvs)/\aL (TlA G) tvs c.titles
 feet:∃kvs,G A.fa=some (.dK kvs)/\FtA G kvs c.feet
theorem ScA.mono{G G':Hp}(s:ak G G'){A:Sad}{c:Sc}(S:ScA G A c):ScA G' A c:=by
 obtain⟨h1,⟨tvs,h2,h3⟩,⟨kvs,h4,h5⟩⟩:=S;exact⟨s _ _ h1,⟨tvs,s _ _ h2,h3.imp λ_ _=>TlA.mono s⟩,⟨kvs,s _ _ h4,h5.mono s⟩⟩
structure StA(C:Addr)(G H:Hp)(A:Sad)(c:Sc)(σ:Ss):Prop where
 old:ak G H
 ins:H A.x=some (.ins C A.dx (fsS A (σ.fs:Int) σ.lp σ.bh))
 cl:ScA G A c
 fr:∀b∈A.os,G b=none
 ne:A.wa≠A.ha
 words:∃wvs,H A.wa=some (.lst wvs)/\aL (WtA (hid A.os H)) wvs σ.ws
 marks:H A.ma=some (.dK (mkV σ.ms))
 heads:∃hvs,H A.ha=some (.lst hvs)/\aL (HdA (hid A.os H)) hvs σ.hs
section
variable {C:Addr}{G H H':Hp}{A:Sad}{c:Sc}{σ:Ss}
theorem StA.same(S:StA C G H A c σ)(m:ak H H'):StA C G H' A c σ:=by
 obtain⟨w1,w2,w3⟩:=S.words;obtain⟨h1,h2,h3⟩:=S.heads;exact⟨S.old.trans m,m _ _ S.ins,S.cl,S.fr,S.ne,⟨w1,m _ _ w2,w3.imp λ_ _=>WtA.mono (bj m)⟩,m _ _ S.marks,⟨h1,m _ _ h2,h3.imp λ_ _=>HdA.mono (bj m)⟩⟩
theorem StA.nt(S:StA C G H A c σ):∀b∈A.os,∀us,H b≠some (.tup us):=λb hb=>by
 obtain⟨w1,w2,w3⟩:=S.words;obtain⟨h1,h2,h3⟩:=S.heads;simp only[Sad.os,Ih,H_,or_false]at hb;rcases hb with rfl|rfl|rfl|rfl
 .exact gi S.ins (λus z=>by cases z)
 .exact gi w2 (λus z=>by cases z)
 .exact gi S.marks (λus z=>by cases z)
 .exact gi h2 (λus z=>by cases z)
theorem StA.nes(S:StA C G H A c σ):A.x≠A.wa/\A.x≠A.ma/\A.x≠A.ha/\A.wa≠A.ma/\A.ma≠A.ha:=by
 obtain⟨w1,w2,w3⟩:=S.words;obtain⟨h1,h2,h3⟩:=S.heads;have i:=S.ins;have k:=S.marks;refine⟨λz=>?_,λz=>?_,λz=>?_,λz=>?_,λz=>?_⟩
 .rw[z,w2]at i;cases i
 .rw[z,k]at i;cases i
 .rw[z,h2]at i;cases i
 .rw[z,k]at w2;cases w2
 .rw[z,h2]at k;cases k
theorem CS:A.x∈A.os:=by simp[Sad.os]
theorem Do:A.wa∈A.os:=by simp[Sad.os]
theorem w_:A.ma∈A.os:=by simp[Sad.os]
theorem z9:A.ha∈A.os:=by simp[Sad.os]
theorem StA.flds(S:StA C G H A c σ)(fs':Nat)(lp':Int)(bh':Bool):StA C G (upd H A.x (.ins C A.dx (fsS A (fs':Int) lp' bh'))) A c { σ with fs:=fs',lp:=lp',bh:=bh' }:=by
 obtain⟨w1,w2,w3⟩:=S.words;obtain⟨h1,h2,h3⟩:=S.heads;obtain⟨n1,n2,n3,n4,n5⟩:=S.nes;have e:hid A.os (upd H A.x (.ins C A.dx (fsS A (fs':Int) lp' bh')))=hid A.os H:=br CS;refine⟨aW S.old (S.fr _ CS),ac,S.cl,S.fr,S.ne,⟨w1,?_,?_⟩,?_,⟨h1,?_,?_⟩⟩
 .rw[aj (HW n1)];exact w2
 .rw[e];exact w3
 .rw[aj (HW n2)];exact S.marks
 .rw[aj (HW n3)];exact h2
 .rw[e];exact h3
theorem StA.mark(S:StA C G H A c σ)(n:Str)(k:Nat):StA C G (upd H A.ma (.dK (mkV (σ.ms++[(n,k)])))) A c { σ with ms:=σ.ms++[(n,k)] }:=by
 obtain⟨w1,w2,w3⟩:=S.words;obtain⟨h1,h2,h3⟩:=S.heads;obtain⟨n1,n2,n3,n4,n5⟩:=S.nes;have e:hid A.os (upd H A.ma (.dK (mkV (σ.ms++[(n,k)]))))=hid A.os H:=br w_;refine⟨aW S.old (S.fr _ w_),?_,S.cl,S.fr,S.ne,⟨w1,?_,?_⟩,ac,⟨h1,?_,?_⟩⟩
 .rw[aj n2];exact S.ins
 .rw[aj n4];exact w2
 .rw[e];exact w3
 .rw[aj (HW n5)];exact h2
 .rw[e];exact h3
theorem vB{os:List Addr}(nt:∀b∈os,∀us,H b≠some (.tup us)){l:Addr}{ws:List Wk}(n:l∉os)(h:cZ H l ws):cZ (hid os H) l ws:=by
 obtain⟨vs,h1,h2⟩:=h;exact⟨vs,aZ n h1,o4 nt h2⟩
theorem vC{os:List Addr}(nt:∀b∈os,∀us,H b≠some (.tup us)){a:Addr}{us:List V}(h:H a=some (.tup us)):hid os H a=some (.tup us):=aZ (λz=>nt a z us h) h
theorem StA.word(S:StA C G H A c σ){wvs:List V}(hw:H A.wa=some (.lst wvs)){v:V}{t:Wt}{a w f:Addr}(e1:v=.ref a)(h1:H a=some (.tup [.int t.lead,.bl t.kept,.ref w,.ref f]))(h2:WkA H (.ref w) t.w)(h3:cZ H f t.foot)(n1:f≠A.wa)(n2:f≠A.ha):StA C G (upd H A.wa (.lst (wvs++[v]))) A c { σ with ws:=σ.ws++[t] }:=by
 obtain⟨w1,w2,w3⟩:=S.words;obtain⟨hv,hh2,hh3⟩:=S.heads;obtain⟨m1,m2,m3,m4,m5⟩:=S.nes;rw[hw]at w2;injection w2 with w2;injection w2 with w2;subst w2;have e:hid A.os (upd H A.wa (.lst (wvs++[v])))=hid A.os H:=br Do;have nf:f∉A.os:=λz=>by
  obtain⟨fv,hf,_⟩:=h3;simp only[Sad.os,Ih,H_,or_false]at z;rcases z with z|z|z|z
  .rw[z,S.ins]at hf;cases hf
  .exact n1 z
  .rw[z,S.marks]at hf;cases hf
  .exact n2 z
 refine⟨aW S.old (S.fr _ Do),?_,S.cl,S.fr,S.ne,⟨wvs++[v],ac,?_⟩,?_,⟨hv,?_,?_⟩⟩
 .rw[aj m1];exact S.ins
 .rw[e];obtain⟨b,z1,z2⟩:=h2;exact w3.snoc ⟨a,w,f,e1,vC S.nt h1,⟨b,z1,vC S.nt z2⟩,vB S.nt nf h3⟩
 .rw[aj (HW m4)];exact S.marks
 .rw[aj (HW S.ne)];exact hh2
 .rw[e];exact hh3
theorem StA.headp(S:StA C G H A c σ){hvs:List V}(hw:H A.ha=some (.lst hvs)){a:Addr}{n:Str}{k:Nat}(h1:H a=some (.tup [.str n,.int (k:Int)])):StA C G (upd H A.ha (.lst (hvs++[.ref a]))) A c { σ with hs:=σ.hs++[(n,k)] }:=by
 obtain⟨w1,w2,w3⟩:=S.words;obtain⟨hv,hh2,hh3⟩:=S.heads;obtain⟨m1,m2,m3,m4,m5⟩:=S.nes;rw[hw]at hh2;injection hh2 with hh2;injection hh2 with hh2;subst hh2;have e:hid A.os (upd H A.ha (.lst (hvs++[.ref a])))=hid A.os H:=br z9;refine⟨aW S.old (S.fr _ z9),?_,S.cl,S.fr,S.ne,⟨w1,?_,?_⟩,?_,⟨hvs++[.ref a],ac,?_⟩⟩
 .rw[aj m3];exact S.ins
 .rw[aj S.ne];exact w2
 .rw[e];exact w3
 .rw[aj m5];exact S.marks
 .rw[e];exact hh3.snoc ⟨a,rfl,vC S.nt h1⟩
theorem StA.re(S:StA C G H A c σ):StA C (hid A.os H) H A c σ:=
 ⟨bT,S.ins,S.cl.mono (jr S.old S.fr),(λb hb=>by unfold hid;rw[if_pos hb]),S.ne,S.words,S.marks,S.heads⟩
theorem StA.base{G':Hp}(S:StA C G' H A c σ)(m:ak G G')(cl:ScA G A c):StA C G H A c σ:=
 ⟨m.trans S.old,S.ins,cl,(λb hb=>m.free (S.fr b hb)),S.ne,S.words,S.marks,S.heads⟩
theorem StA.fresh(S:StA C G H A c σ){p:Addr}(hp:H p=none):p∉A.os:=λz=>by
 obtain⟨w1,w2,w3⟩:=S.words;obtain⟨h1,h2,h3⟩:=S.heads;simp only[Sad.os,Ih,H_,or_false]at z;rcases z with rfl|rfl|rfl|rfl
 .rw[S.ins]at hp;cases hp
 .rw[w2]at hp;cases hp
 .rw[S.marks]at hp;cases hp
 .rw[h2]at hp;cases hp
theorem StA.out(S:StA C G H A c σ):ak G (hid A.os H):=jr S.old S.fr
end
theorem s_{β:Type}{n:Str}{v:β}:∀{l:List (Str×β)},lkS n l=some v->(n,v)∈l
 |[],h=>by cases h
 |(m,k)::r,h=>by
  by_cases c:m=n
  .have e:lkS n ((m,k)::r)=some k:=if_pos c;rw[e]at h;cases h;rw[c];exact He
  .have e:lkS n ((m,k)::r)=lkS n r:=if_neg c;rw[e]at h;exact Hb _ (s_ h)
def j0(tw nf tl nm:Addr):Xc->Addr
 |.twice=>tw
 |.nofoot=>nf
 |.toolong=>tl
 |.nomark=>nm
structure Bd(σ:Ss)(n:Nat):Prop where
 ws:σ.ws.length<=400
 fs:σ.fs<=σ.ws.length
 ms:σ.ms.length+n<=1000000
theorem x9{σ σ':Ss}{ld:Int}{w:Wk}{f:List Wk}(h:jg σ ld w f=.ok σ'):σ.ws.length≠400/\σ'.ws.length=σ.ws.length+1/\σ'.fs=σ.fs/\σ'.ms=σ.ms/\σ'.hs=σ.hs:=by
 unfold jg at h;by_cases c:σ.ws.length=400
 .rw[if_pos c]at h;cases h
 .rw[if_neg c]at h;cases h;exact⟨c,by simp,rfl,rfl,rfl⟩
theorem we{c:Sc}{σ σ':Ss}{ld:Int}{w:Wk}(h:du c σ ld w=.ok σ'):σ.ws.length≠400/\σ'.ws.length=σ.ws.length+1/\σ'.fs<=σ.fs+1/\σ'.ms=σ.ms:=by
 unfold du at h;by_cases k:w.1=.foot
 .rw[if_pos k]at h;unfold hX at h;cases hv:lkS (bp w.2) c.feet with
  |none=>rw[hv]at h;cases h
  |some g =>
   rw[hv]at h;obtain⟨h1,h2,h3,h4,h5⟩:=x9 h;exact⟨h1,h2,by rw[h3];exact G_ _,h4⟩
 .rw[if_neg k]at h;obtain⟨h1,h2,h3,h4,h5⟩:=x9 h;exact⟨h1,h2,by rw[h3];exact IR _,h4⟩
theorem ub{c:Sc}{byh:Bool}:∀{ws:List Wk} {σ σ':Ss} {ld:Int} (hm:∀w∈ws,w.1≠.mark),bP c σ ld byh ws=.ok σ'->(σ.ws.length<=400->σ'.ws.length<=400)/\(σ.fs<=σ.ws.length->σ'.fs<=σ'.ws.length)/\σ'.ms=σ.ms
 |[],σ,σ',ld,_,h=>by cases h;exact⟨id,id,rfl⟩
 |w::r,σ,σ',ld,hm,h=>by
  have h:(if w.1=.mark then(match fG σ (bp w.2)with|.error x=>.error x|.ok s'=>bP c s' ld byh r)else(match du c σ ld w with|.error x=>.error x|.ok s'=>bP c { s' with bh:=byh } 0 byh r))=Except.ok σ':=h
  rw[if_neg (hm w He)]at h;cases e:du c σ ld w with
  |error x=>rw[e]at h;cases h
  |ok s' =>
   rw[e]at h;obtain⟨b1,b2,b3,b4⟩:=we e;obtain⟨i1,i2,i3⟩:=ub (λw hw=>hm w (Hb _ hw)) h;exact⟨λz=>i1 (by show s'.ws.length<=400;omega),λz=>i2 (by show s'.fs<=s'.ws.length;omega),i3.trans b4⟩
def GWk(w:Wk):Prop:=(w.1≠.entry/\∃n:List Nat,n.length<=200/\(∀d∈n,d<127)/\w.2=.str (tx n))\/(w.1=.entry/\∃k:Nat,w.2=.int (k:Int))
structure kL(c:Sc):Prop where
 few:c.nums.length<=200
 tl:c.titles.length=c.nums.length
 tw:∀t∈c.titles,t.length<=130/\∀w∈t,GWk w
 fl:c.feet.length<=200
 fw:∀p∈c.feet,p.2.length<=39/\∀w∈p.2,GWk w/\w.1≠.mark/\w.1≠.foot
 nl:∀n∈c.nums,∃l:List Nat,n=tx l/\l.length<=100
 nc:∀l:List Nat,tx l∈c.nums->∀d∈l,d<127
def rA(c:Sc)(w:Wk):Prop:=(w.1=.plain/\∃n:List Nat,w.2=.str (tx n))\/(w.1=.entry/\∃k:Nat,w.2=.int (k:Int)/\k<c.nums.length)\/(cT w.1=true/\∃n:List Nat,n.length<=200/\(∀d∈n,d<127)/\w.2=.str (tx n))
structure uc(c:Sc)(σ:Ss):Prop where
 ws:∀t∈σ.ws,rA c t.w/\t.foot.length<=40/\∀w∈t.foot,rA c w/\(w.1=.plain\/∃p∈c.feet,w∈p.2)
 ms:∀m∈σ.ms,∃l:List Nat,m.1=tx l/\l.length<=200/\∀d∈l,d<127
theorem FtA.get{F:Hp}:∀{vs:List (Key×V)} {ws:List (Str×List Wk)} {i:Nat} {p:Key×V},FtA F vs ws->vs[i]?=some p->∃q,ws[i]?=some q/\FtE F p q
 |v::_,w::_,0,x,h,e=>by cases e;exact⟨w,rfl,h.1⟩
 |_::_,_::_,i+1,x,h,e=>FtA.get (i:=i) h.2 (by simpa using e)
 |[],[],_,_,_,e=>by simp at e
theorem Bs{H:Hp}{a:Addr}{o o':HO}:upd (upd H a o) a o'=upd H a o':=by
 funext b
 by_cases e:b=a
 .subst e;rw[ac,ac]
 .rw[aj e,aj e,aj e]
theorem CT{H:Hp}{a:Addr}{o:HO}(h:H a=some o):upd H a o=H:=by
 funext b
 by_cases e:b=a
 .subst e;rw[ac,h]
 .rw[aj e]
theorem Bt{H H2:Hp}{a:Addr}{o:Obj}{kvs:List (Key×V)}(h:H a=some (.dK kvs))(s:ak (upd H a (.frz o (.dK kvs))) H2):ak H (upd H2 a (.dK kvs)):=λb u z=>by
 by_cases e:b=a
 .subst e;rw[ac];rw[h]at z;exact z
 .rw[aj e];exact s _ _ (by rw[aj e];exact z)
theorem xa(k:Kw):inV (.str k.s) [.str (PySem.Str.ofString "number"),.str (PySem.Str.ofString "page"),.str (PySem.Str.ofString "row")]=cT k:=by
 cases k<;>decide +kernel
def z_(s:Ss)(w:Wk):V×V:=
 match w.1 with
 |.plain=>(.str "text",.str (bp w.2))
 |.entry=>(.str "page",.int (match w.2 with|.int k=>((s.hs.getD k.toNat (Ir,0)).2:Nat)|_=>0))
 |.number=>(.str "text",.str (lH (t_ s (bp w.2)) "0" s.hs))
 |k=>(.str k.s,.int (t_ s (bp w.2):Nat))
def SyA(F:Hp)(v:V)(s:V×V):Prop:=∃a,v=.ref a/\F a=some (.tup [s.1,s.2])
theorem SyA.mono{F F':Hp}(m:ak F F'){v:V}{s:V×V}(h:SyA F v s):SyA F' v s:=by
 obtain⟨a,e,h⟩:=h;exact⟨a,e,m _ _ h⟩
def TwA(σ:Ss)(F:Hp)(v:V)(t:Wt×Addr):Prop:=∃a s us,v=.ref a/\F a=some (.tup [.int t.1.lead,.bl t.1.kept,.ref s,.ref t.2])/\SyA F (.ref s) (z_ σ t.1.w)/\F t.2=some (.lst us)/\aL (SyA F) us (t.1.foot.map (z_ σ))
theorem TwA.mono{σ:Ss}{F F':Hp}(m:ak F F'){v:V}{t:Wt×Addr}(h:TwA σ F v t):TwA σ F' v t:=by
 obtain⟨a,s,us,e,h1,h2,h3,h4⟩:=h;exact⟨a,s,us,e,m _ _ h1,h2.mono m,m _ _ h3,h4.imp λ_ _=>SyA.mono m⟩
def xb(σ:Ss)(w:Wk):Prop:=(w.1=.plain/\∃n:List Nat,w.2=.str (tx n))\/(w.1=.entry/\∃k:Nat,w.2=.int (k:Int)/\k<σ.hs.length)\/(cT w.1=true/\∃(n:List Nat) (k:Nat),w.2=.str (tx n)/\lkS (tx n) σ.ms=some k)
def Dp(σ:Ss):Prop:=∀t∈σ.ws,xb σ t.w/\t.foot.length<=40/\∀w∈t.foot,xb σ w
structure nA(H F:Hp)(σ:Ss)(p:Addr)(vs:List V)(fs:List Addr):Prop where
 at_:F p=some (.lst vs)
 new:H p=none
 len:fs.length=σ.ws.length
 nd:fs.Nodup
 fr:∀f∈fs,H f=none/\f≠p
 all:aL (TwA σ (hid [p] F)) vs (σ.ws.zip fs)
theorem ftX{F F':Hp}(m:∀l ws,cZ F l ws->cZ F' l ws):∀{vs:List (Key×V)} {ws:List (Str×List Wk)},FtA F vs ws->FtA F' vs ws
 |[],[],_=>trivial
 |_::_,_::_,⟨⟨h1,l,h2,h3⟩,h⟩=>⟨⟨h1,l,h2,m _ _ h3⟩,ftX m h⟩
theorem FrX.get{H H':Hp}{x b:Addr}{u:HO}(f:FrX H H' x)(h:H b=some u)(n:b≠x):H' b=some u:=f b u n h
def RnW(c:Sc)(w:Wk):Prop:=GWk w/\(w.1=.entry->∃k:Nat,w.2=.int (k:Int)/\k<c.nums.length)
theorem RnW.ws{c:Sc}{w:Wk}(h:RnW c w)(n1:w.1≠.mark)(n2:w.1≠.foot):rA c w:=by
 obtain⟨g,en⟩:=h;rcases g with⟨ne,n,l1,l2,e⟩|⟨e,_⟩
 .cases hk:w.1 with
  |plain=>exact .inl ⟨hk,n,e⟩
  |entry=>exact absurd hk ne
  |mark=>exact absurd hk n1
  |foot=>exact absurd hk n2
  |number=>exact .inr (.inr ⟨by rw[hk];rfl,n,l1,l2,e⟩)
  |page=>exact .inr (.inr ⟨by rw[hk];rfl,n,l1,l2,e⟩)
  |row=>exact .inr (.inr ⟨by rw[hk];rfl,n,l1,l2,e⟩)
 .exact .inr (.inl ⟨e,en e⟩)
structure vD(c:Sc):Prop where
 fw:∀p∈c.feet,p.2.length<=39/\∀w∈p.2,rA c w
structure StB(c:Sc)(σ σ':Ss)(n:Nat):Prop where
 ok:uc c σ->uc c σ'
 ms:σ'.ms.length<=σ.ms.length+n
 ws:σ.ws.length<=400->σ'.ws.length<=400
 fs:σ.fs<=σ.ws.length->σ'.fs<=σ'.ws.length
theorem StB.refl{c:Sc}{σ:Ss}{n:Nat}:StB c σ σ n:=⟨id,JV _ _,id,id⟩
theorem StB.trans{c:Sc}{σ σ1 σ2:Ss}{n m:Nat}(a:StB c σ σ1 n)(b:StB c σ1 σ2 m):StB c σ σ2 (n+m):=⟨λh=>b.ok (a.ok h),by have:=a.ms;have:=b.ms;omega,λh=>b.ws (a.ws h),λh=>b.fs (a.fs h)⟩
theorem StB.more{c:Sc}{σ σ1:Ss}{n m:Nat}(a:StB c σ σ1 n)(h:n<=m):StB c σ σ1 m:=⟨a.ok,by have:=a.ms;omega,a.ws,a.fs⟩
theorem zw{c:Sc}{σ σ':Ss}{ld:Int}{w:Wk}{f:List Wk}(h:jg σ ld w f=.ok σ')(hw:rA c w)(hf:f.length<=40/\∀w∈f,rA c w/\(w.1=.plain\/∃p∈c.feet,w∈p.2)):(uc c σ->uc c σ')/\σ'.ms=σ.ms/\σ'.hs=σ.hs/\σ'.fs=σ.fs/\σ'.ws.length=σ.ws.length+1/\σ.ws.length≠400:=by
 unfold jg at h;by_cases e:σ.ws.length=400
 .rw[if_pos e]at h;cases h
 .rw[if_neg e]at h;cases h;refine⟨λs=>⟨?_,s.ms⟩,rfl,rfl,rfl,by simp,e⟩;intro t ht;rcases List.mem_append.mp ht with ht|ht
  .exact s.ws t ht
  .rw[List.mem_singleton.mp ht];exact⟨hw,hf⟩
theorem CU{c:Sc}(fo:vD c){σ σ':Ss}{ld:Int}{w:Wk}(h:du c σ ld w=.ok σ')(hw:RnW c w)(nm:w.1≠.mark):StB c σ σ' 0/\σ'.hs=σ.hs:=by
 unfold du at h;by_cases k:w.1=.foot
 .rw[if_pos k]at h;unfold hX at h;cases hv:lkS (bp w.2) c.feet with
  |none=>rw[hv]at h;cases h
  |some g =>
   rw[hv]at h;have gm:=fo.fw _ (s_ hv);have pl:rA c (.plain,.str (jF (σ.fs+1))):=.inl ⟨rfl,(jF (σ.fs+1)).cps.toList,by rw[<-zX]⟩;obtain⟨h1,h2,h3,h4,h5,h6⟩:=zw (c:=c) h pl ⟨by simp only[GU];have:=gm.1;dsimp only at this;omega,λx hx=>by
    rcases List.mem_cons.mp hx with rfl|hx
    .exact⟨pl,.inl rfl⟩
    .exact⟨gm.2 x hx,.inr ⟨_,s_ hv,hx⟩⟩⟩
   refine⟨⟨λs=>h1 ⟨s.ws,s.ms⟩,by rw[h2];exact G_ _,λz=>?_,λz=>?_⟩,h3⟩
   .have:σ.ws.length≠400:=h6;have:σ'.ws.length=σ.ws.length+1:=h5;omega
   .have:σ'.ws.length=σ.ws.length+1:=h5;have:σ'.fs=σ.fs+1:=h4;omega
 .rw[if_neg k]at h;obtain⟨h1,h2,h3,h4,h5,h6⟩:=zw (c:=c) h (hw.ws nm k) ⟨by simp,by simp⟩;exact⟨⟨h1,by rw[h2];exact G_ _,λz=>by omega,λz=>by omega⟩,h3⟩
theorem u6{c:Sc}{σ:Ss}{ld:Int}{byh:Bool}{w:Wk}{r:List Wk}:bP c σ ld byh (w::r)=(if w.1=.mark then(match fG σ (bp w.2)with|.error x=>.error x|.ok s'=>bP c s' ld byh r)else(match du c σ ld w with|.error x=>.error x|.ok s'=>bP c { s' with bh:=byh } 0 byh r)):=rfl
theorem o8{c:Sc}(fo:vD c){byh:Bool}:∀{ws:List Wk} {σ σ':Ss} {ld:Int},(∀w∈ws,RnW c w)->bP c σ ld byh ws=.ok σ'->StB c σ σ' ws.length/\σ'.hs=σ.hs
 |[],σ,σ',ld,_,h=>by cases h;exact⟨.refl,rfl⟩
 |w::r,σ,σ',ld,hw,h=>by
  rw[u6]at h;have hr:∀x∈r,RnW c x:=λx hx=>hw x (Hb _ hx);have h0:=hw w He;by_cases k:w.1=.mark
  .rw[if_pos k]at h;cases e:fG σ (bp w.2)with
   |error x=>rw[e]at h;cases h
   |ok s' =>
    rw[e]at h;obtain⟨b,hs⟩:=o8 fo hr h;unfold fG at e;by_cases z:(lkS (bp w.2) σ.ms).isSome=true
    .rw[if_pos z]at e;cases e
    .rw[if_neg z]at e;cases e;have b0:StB c σ { σ with ms:=σ.ms++[(bp w.2,σ.ws.length)] } 1:=⟨λs=>⟨s.ws,λm hm=>by
      rcases List.mem_append.mp hm with hm|hm
      .exact s.ms m hm
      .rw[List.mem_singleton.mp hm];rcases h0.1 with⟨_,n,l1,l2,e⟩|⟨e,_⟩
       .exact⟨n,by rw[e];rfl,l1,l2⟩
       .rw[k]at e;cases e⟩,by simp,id,id⟩
     exact⟨(b0.trans b).more (by simp only[GU];omega),hs⟩
  .rw[if_neg k]at h;cases e:du c σ ld w with
   |error x=>rw[e]at h;cases h
   |ok s' =>
    rw[e]at h;obtain⟨b1,h1⟩:=CU fo e h0 k;obtain⟨b2,h2⟩:=o8 fo hr h;have b3:StB c s' { s' with bh:=byh } 0:=⟨λs=>⟨s.ws,s.ms⟩,G_ _,id,id⟩;exact⟨((b1.trans b3).trans b2).more (by simp only[GU];omega),h2.trans h1⟩
def RdW(w:Wk):Prop:=GWk w/\w.1≠.entry
def TgG:Tg->Prop
 |.head n ws=>1<=n/\n<=3/\ws.length<=130/\∀w∈ws,RdW w
 |.par ws=>ws.length<=600/\∀w∈ws,RdW w
 |_=>True
def FtG(feet:List (Str×List Wk)):Prop:=feet.length<=200/\∀p∈feet,p.2.length<=39/\∀w∈p.2,RdW w/\w.1≠.mark/\w.1≠.foot
def eW(c:Sc)(things:List Tg):Except Xc Ss:=
 match iM c ss0 things with
 |.error e=>.error e
 |.ok σ=>match fH c σ with
  |some e=>.error e
  |none=>.ok σ
theorem RdW.run{c:Sc}{w:Wk}(h:RdW w):RnW c w:=⟨h.1,λz=>absurd z h.2⟩
theorem kL.run{c:Sc}(so:kL c)(st:∀t∈c.titles,∀w∈t,RdW w){k:Nat}(hk:k<c.nums.length):(∀w∈((.plain,.str (c.nums.getD k Ir))::c.titles.getD k []:List Wk),RnW c w)/\(∀w∈dz c k (c.nums.getD k Ir),RnW c w)/\(c.titles.getD k []).length<=130:=by
 have hn:c.nums[k]?=some (c.nums.getD k Ir):=by rw[HE,GZ hk];rfl
 have ht:c.titles[k]?=some (c.titles.getD k []):=by rw[HE,GZ (by rw[so.tl];exact hk)];rfl
 obtain⟨l,e,ll⟩:=so.nl _ (Ha hn);have p:RnW c (.plain,.str (c.nums.getD k Ir)):=⟨.inl ⟨by show Kw.plain≠Kw.entry;decide,l,by omega,so.nc l (by rw[<-e];exact Ha hn),by rw[e]⟩,λz=>by cases z⟩;have tw:=so.tw _ (Ha ht);have tr:=st _ (Ha ht);refine⟨λw hw=>?_,λw hw=>?_,tw.1⟩
 .rcases List.mem_cons.mp hw with rfl|hw
  .exact p
  .exact(tr w hw).run
 .unfold dz at hw;rcases List.mem_cons.mp hw with rfl|hw
  .exact p
  .rcases List.mem_append.mp hw with hw|hw
   .exact(tr w (List.mem_filter.mp hw).1).run
   .rw[List.mem_singleton.mp hw];exact⟨.inr ⟨rfl,k,rfl⟩,λ_=>⟨k,rfl,hk⟩⟩
theorem x_{c:Sc}(so:kL c)(fo:vD c)(st:∀t∈c.titles,∀w∈t,RdW w):∀{ns:List Str} {σ σ':Ss} {ld:Int} {k:Nat},c.nums.drop k=ns->gh c σ ld k ns=.ok σ'->StB c σ σ' 0/\σ'.hs=σ.hs
 |[],σ,σ',ld,k,_,h=>by cases h;exact⟨.refl,rfl⟩
 |n::r,σ,σ',ld,k,hd,h=>by
  have hk:k<c.nums.length:=by
   by_cases z:k<c.nums.length
   .exact z
   .rw[JP (by omega)]at hd;cases hd
  have e0:c.nums.getD k Ir=n:=by
   rw[Ia hk]at hd;injection hd with hd _;rw[HE,GZ hk,hd];rfl
  have hd2:c.nums.drop (k+1)=r:=by
   rw[Ia hk]at hd;injection hd
  have h:(match bP c σ ld false (dz c k n)with|.error x=>.error x|.ok s'=>gh c s' 1 (k+1) r)=Except.ok σ':=h
  cases e:bP c σ ld false (dz c k n)with
  |error x=>rw[e]at h;cases h
  |ok s' =>
   rw[e]at h;have rn:=(so.run st hk).2.1;rw[e0]at rn;obtain⟨b1,h1⟩:=o8 fo rn e;obtain⟨b2,h2⟩:=x_ so fo st hd2 h;have nm:=ub (λw hw=>?_) e
   .exact⟨⟨λs=>b2.ok (b1.ok s),by have:=b2.ms;rw[nm.2.2]at this;exact this,λz=>b2.ws (b1.ws z),λz=>b2.fs (b1.fs z)⟩,h2.trans h1⟩
   .unfold dz at hw;rcases List.mem_cons.mp hw with rfl|hw
    .show Kw.plain≠Kw.mark;decide
    .rcases List.mem_append.mp hw with hw|hw
     .simpa using(List.mem_filter.mp hw).2
     .rw[List.mem_singleton.mp hw];show Kw.entry≠Kw.mark;decide
def d8:Tg->Nat
 |.head _ _=>1
 |_=>0
theorem Bu{c:Sc}(so:kL c)(fo:vD c)(st:∀t∈c.titles,∀w∈t,RdW w){σ σ':Ss}{t:Tg}(h:iL c σ t=.ok σ')(tg:TgG t)(hk:d8 t=1->σ.hs.length<c.nums.length):StB c σ σ' 600/\σ'.hs.length=σ.hs.length+d8 t:=by
 cases t with
 |page=>cases h;exact⟨⟨λs=>⟨s.ws,s.ms⟩,JV _ _,id,id⟩,rfl⟩
 |odd=>cases h;exact⟨⟨λs=>⟨s.ws,s.ms⟩,JV _ _,id,id⟩,rfl⟩
 |lst =>
  obtain⟨b,e⟩:=x_ so fo st (k:=0) rfl h;exact⟨b.more (by omega),by rw[e];rfl⟩
 |par ws =>
  obtain⟨b,e⟩:=o8 fo (λw hw=>(tg.2 w hw).run) h;exact⟨b.more tg.1,by rw[e];rfl⟩
 |head n ws =>
  have hk:=hk rfl;obtain⟨r1,r2,r3⟩:=so.run st hk;obtain⟨b,e⟩:=o8 fo r1 h;have b0:StB c σ { σ with hs:=σ.hs++[(c.nums.getD σ.hs.length Ir,σ.ws.length)] } 0:=⟨λs=>⟨s.ws,s.ms⟩,G_ _,id,id⟩;exact⟨(b0.trans b).more (by simp only[GU];omega),by rw[e];simp[d8]⟩
theorem E9{c:Sc}{σ:Ss}(ss:uc c σ)(fo:vD c)(hl:σ.hs.length=c.nums.length)(ck:fH c σ=none):Dp σ:=by
 have nb:∀w∈σ.ws.map (·.w)++c.feet.flatMap (·.2),jH σ w=false:=by
  unfold fH at ck;by_cases a:(σ.ms.any λm=>m.2=σ.ws.length)=true
  .rw[if_pos a]at ck;cases ck
  rw[if_neg a]at ck;by_cases b:((σ.ws.map (·.w)++c.feet.flatMap (·.2)).any (jH σ))=true
  .rw[if_pos b]at ck;cases ck
  rw[IG,Jp]at b;intro w hw;exact Bool.eq_false_iff.mpr (b w hw)
 have one:∀w,rA c w->(cT w.1=true->jH σ w=false)->xb σ w:=λw h z=>by
  rcases h with h|⟨h,k,e,kl⟩|⟨h,n,l1,l2,e⟩
  .exact .inl h
  .exact .inr (.inl ⟨h,k,e,by rw[hl];exact kl⟩)
  .have z:=z h;unfold jH at z;rw[h,e]at z;change (true&&(lkS (tx n) σ.ms).isNone)=false at z;cases hv:lkS (tx n) σ.ms with
   |none=>rw[hv]at z;cases z
   |some k=>exact .inr (.inr ⟨h,n,k,e,hv⟩)
 intro t ht;obtain⟨h1,h2,h3⟩:=ss.ws t ht;refine⟨one _ h1 λ_=>nb _ (ID _ (Kd ht)),h2,λw hw=>one _ (h3 w hw).1 λz=>?_⟩;rcases(h3 w hw).2 with e|⟨p,hp,hw⟩
 .rw[e]at z;cases z
 .exact nb _ (HN _ (List.mem_flatMap.mpr ⟨p,hp,hw⟩))
theorem nA.base{G H F:Hp}{σ:Ss}{p:Addr}{vs:List V}{fs:List Addr}(T:nA H F σ p vs fs)(s:ak G H):nA G F σ p vs fs:=⟨T.at_,s.free T.new,T.len,T.nd,λf hf=>⟨s.free (T.fr f hf).1,(T.fr f hf).2⟩,T.all⟩
theorem nA.same{H F F':Hp}{σ:Ss}{p:Addr}{vs:List V}{fs:List Addr}(T:nA H F σ p vs fs)(s:ak F F'):nA H F' σ p vs fs:=⟨s _ _ T.at_,T.new,T.len,T.nd,T.fr,T.all.imp λ_ _=>TwA.mono (bj s)⟩
end Tl

namespace L2
open PySem PySem.Spec PyProof.Rows Tl
theorem CV{X:Cx}{K:PySem.W.Frag}{tg l:Expr}{tl:TE}(hK:X.K=K)(hl:PE X l tl):PI X tg l (Dh K tl):=by
 subst hK;exact bq hl
theorem ud{K:PySem.W.Frag}{a:Addr}{xs:List V}{cv:St}{tc:TT}{te:TE}{Fin:List V->Hp->Prop}{H1:Hp}(Pv:Nat->List V->Hp->Prop)(h0:Pv 0 [] H1)(hl:∀i ys H,i<=xs.length->Pv i ys H->SqL K H a xs)(hz:∀i ys H,i<xs.length->Pv i ys H->ys.length<Hs)
  (hs:∀i x ys H,xs[i]?=some x->Pv i ys H->∃b u v,x=.ref b/\SqT K H b [u,v]/\tc (some u::some v::cv) H λb H3=>if b=true then te (some u::some v::cv) H3 λy H4=>Pv (i+1) (ys++[y]) H4 else Pv (i+1) ys H3)
  (hd:∀ys H,Pv xs.length ys H->Fin ys H):gLC (Itl K a) (g2 K) tc te 2 cv Fin H1:=by
 refine⟨λi m ys H=>m=xs.length-i/\i<=xs.length/\Pv i ys H,⟨xs.length,by simp,HZ _,h0⟩,?_⟩;rintro i m ys H ⟨rfl,hi,p⟩;have q:=hl i ys H hi p;by_cases hlt:i<xs.length
 .refine .inr ⟨⟨xs,xs[i],q,by simp[hlt]⟩,hz i ys H hlt p,Pv (i+1),λys' H' p'=>⟨xs.length-(i+1),by omega,rfl,hlt,p'⟩,λv H' y own ho=>?_⟩;obtain⟨e,y⟩:=y;subst e;obtain⟨b,u,w,rfl,hb,h⟩:=hs i v ys _ (y xs q) p
  match own,ho with
  |[o1,o2],_=>exact⟨b,_,rfl,hb,rfl,_,_,rfl,_,_,rfl,rfl,⟨[some u,some w],rfl,rfl⟩,h⟩
 .have e:i=xs.length:=by omega
  subst e;exact .inl ⟨⟨xs,q,G_ _⟩,hd ys H p⟩
section
variable {X:Cx}{elt iter:Expr}{ifs:List Expr}{scope:Scope}{cl:List (Str×Addr)}{pos px py pz' tp:Pos}{k1:Nat}{x y z:Str}{caps:List Str}{js:List Nat}{tc:TT}{te:TE}{wi:TI}
def g3(K:PySem.W.Frag):TG:=Cc K 3 (sO (bB 0) (sO (bB 1) (sO (bB 2) Cb)))
theorem E_(hc:X.calm=true)(L:pK X scope cl [x,y,z] caps js)(hi:PI X (.Tuple [.Name x px,.Name y py,.Name z pz'] k1 tp) iter wi)
  (ht:∀s H C ex,PTs (X.blk (x::y::z::caps) s H scope cl C ex) ifs tc)(he:∀s H C ex,PE (X.blk (x::y::z::caps) s H scope cl C ex) elt te)
  (hN:(x::y::z::caps).Nodup:=by decide +kernel)(hx:(Je scope X.env).names.lookup x=some .local:=by with_unfolding_all rfl)(hy:(Je scope X.env).names.lookup y=some .local:=by with_unfolding_all rfl)(hz:(Je scope X.env).names.lookup z=some .local:=by with_unfolding_all rfl)
  (hs:∀x,Iv iter X.env x=pure x:=by intro _;rfl):PE X (.ListComp elt [⟨.Tuple [.Name x px,.Name y py,.Name z pz'] k1 tp,iter,ifs,0⟩] scope pos) (vp wi (g3 X.K) tc te 3 js):=
 xQ (own:=[x,y,z]) (g:=g3 X.K) hc L hi (λs H C ex=>dP hc (a9 (aO (i:=0) hN rfl (.inl hx) (.inr hx)) (a9 (aO (i:=1) hN rfl (.inl hy) (.inr hy)) (a9 (aO (i:=2) hN rfl (.inl hz) (.inr hz)) c_)))) ht he hs
end
theorem Fa{X:Cx}{elt iter:Expr}{ifs:List Expr}{scope:Scope}{cl:List (Str×Addr)}{pos px py tp:Pos}{k1:Nat}{x y:Str}{caps:List Str}{js:List Nat}{tc:TT}{te:TE}{wi:TI}{k:Nat}{v:Str}{pv' spos:Pos}(hc:X.calm=true)(L:pK X scope cl [x,y] caps js)(hi:PI X (.Tuple [.Name x px,.Name y py] k1 tp) iter wi)
  (ht:∀s H C ex,PTs (X.blk (x::y::caps) s H scope cl C ex) ifs tc)(he:∀s H C ex,PE (X.blk (x::y::caps) s H scope cl C ex) elt te)
  (hXN:X.N.Nodup)(hk:X.N[k]?=some v)(hv:X.env.scope.names.lookup v=some .local)(hN:(x::y::caps).Nodup:=by decide +kernel)(hx:(Je scope X.env).names.lookup x=some .local:=by with_unfolding_all rfl)(hy:(Je scope X.env).names.lookup y=some .local:=by with_unfolding_all rfl)
  (hsw:JI (.ListComp elt [⟨.Tuple [.Name x px,.Name y py] k1 tp,iter,ifs,0⟩] scope pos) (some (.Name v pv')) spos.line X.env=pure true:=by rfl)
  (hs:∀x,Iv iter X.env x=pure x:=by intro _;rfl):PS X (.Assign [.Name v pv'] (.ListComp elt [⟨.Tuple [.Name x px,.Name y py] k1 tp,iter,ifs,0⟩] scope pos) spos) (tT (vp wi (g2 X.K) tc te 2 js) (bB k)):=
 A4 (own:=[x,y]) (g:=g2 X.K) hc L hi (λs H C ex=>dP hc (a9 (aO (i:=0) hN rfl (.inl hx) (.inr hx)) (a9 (aO (i:=1) hN rfl (.inl hy) (.inr hy)) c_))) ht he hXN hk hv hsw hs
theorem CW{K:PySem.W.Frag}{a:Addr}{xs:List V}{cv:St}{tc:TT}{te:TE}{Fin:List V->Hp->Prop}{H1:Hp}(Pv:Nat->List V->Hp->Prop)(h0:Pv 0 [] H1)(hl:∀i ys H,i<=xs.length->Pv i ys H->SqL K H a xs)(hz:∀i ys H,i<xs.length->Pv i ys H->ys.length<Hs)
  (hs:∀i x ys H,xs[i]?=some x->Pv i ys H->∃b u v w,x=.ref b/\SqT K H b [u,v,w]/\tc (some u::some v::some w::cv) H λb H3=>if b=true then te (some u::some v::some w::cv) H3 λy H4=>Pv (i+1) (ys++[y]) H4 else Pv (i+1) ys H3)
  (hd:∀ys H,Pv xs.length ys H->Fin ys H):gLC (Itl K a) (g3 K) tc te 3 cv Fin H1:=by
 refine⟨λi m ys H=>m=xs.length-i/\i<=xs.length/\Pv i ys H,⟨xs.length,by simp,HZ _,h0⟩,?_⟩;rintro i m ys H ⟨rfl,hi,p⟩;have q:=hl i ys H hi p;by_cases hlt:i<xs.length
 .refine .inr ⟨⟨xs,xs[i],q,by simp[hlt]⟩,hz i ys H hlt p,Pv (i+1),λys' H' p'=>⟨xs.length-(i+1),by omega,rfl,hlt,p'⟩,λv H' y own ho=>?_⟩;obtain⟨e,y⟩:=y;subst e;obtain⟨b,u,w,z,rfl,hb,h⟩:=hs i v ys _ (y xs q) p
  match own,ho with
  |[o1,o2,o3],_=>exact⟨b,_,rfl,hb,rfl,_,_,rfl,_,_,rfl,_,_,rfl,rfl,⟨[some u,some w,some z],rfl,rfl⟩,h⟩
 .have e:i=xs.length:=by omega
  subst e;exact .inl ⟨⟨xs,q,G_ _⟩,hd ys H p⟩
theorem Bv{X:Cx}{a:Addr}{o:Obj}{kvs:List (Key×V)}{g:TG}{tb:TS}{D:dZ}{σ:St}{H:Hp}(hz:Hz X a)(Pv:Nat->St->Hp->Prop)(h0:Pv 0 σ (upd H a (.frz o (.dK kvs))))(hf:∀i σ H',Pv i σ H'->H' a=some (.frz o (.dK kvs)))
  (hs:∀i p σ H',kvs[i]?=some p->Pv i σ H'->g (kV p.1) σ H' λσ2 H2=>tb { fz X D with nx:=Pv (i+1),ct:=Pv (i+1),bk:=(fz X D).nx } σ2 H2)(hd:∀σ H',Pv kvs.length σ H'->D.nx σ (upd H' a (.dK kvs))) :
  ∃W:Nat->Nat->St->Hp->Prop,(∃m,W 0 m σ (upd H a (.frz o (.dK kvs))))/\∀i m σ H,W i m σ H->
   ((Itk a o kvs).stop i H/\(fz X D).nx σ H)\/((Itk a o kvs).go i H/\∃N:St->Hp->Prop,(∀σ' H',N σ' H'->∃m',m'<m/\W (i+1) m' σ' H')/\∀x H',(Itk a o kvs).yld i H x H'->g x σ H' λσ2 H2=>tb { fz X D with nx:=N,ct:=N,bk:=(fz X D).nx } σ2 H2):=by
 refine⟨λi m σ H'=>m=kvs.length-i/\i<=kvs.length/\Pv i σ H',⟨kvs.length,by simp,HZ _,h0⟩,?_⟩;rintro i m σ H' ⟨rfl,hi,p⟩;have fr:=hf i σ H' p;by_cases hlt:i<kvs.length
 .refine .inr ⟨⟨fr,hlt⟩,Pv (i+1),λσ' H' p'=>⟨kvs.length-(i+1),by omega,rfl,hlt,p'⟩,λx H2 y=>?_⟩;obtain⟨rfl,p',hp',rfl⟩:=y;exact hs i p' σ _ hp' p
 .have e:i=kvs.length:=by omega
  subst e;exact .inl ⟨⟨fr,G_ _⟩,a,kvs,o,hz,fr,hd σ H' p⟩
end L2

namespace K63
open PySem PySem.Spec L2 Tl

def neW(ps:List (List Nat)):List (List Nat):=ps.filter λw=>!w.isEmpty
def de(l:List Nat):List (List Nat):=neW (bw 32 l)
theorem u7(c:Nat):∀l:List Nat,((bw c l).map (·.length)).sum+(bw c l).length=l.length+1
 |[]=>rfl
 |x::r=>by
  have ih:=u7 c r;rw[gk];by_cases hx:x=c
  .rw[if_pos hx,Hj,Im,GU,GU];simp only[Hk];omega
  .rw[if_neg hx];cases e:bw c r with
   |nil=>exact absurd e (vZ c r)
   |cons q qs =>
    rw[e]at ih;simp only[Hj,Im,GU]at ih⊢;omega
theorem lX{ls:List (List Nat)}{i:Nat}{y:V}(h:((ls.map tx).map V.str)[i]?=some y):∃w,ls[i]?=some w/\y=V.str (tx w):=by
 rw[HA,HA]at h;cases e:ls[i]? with
 |none=>rw[e]at h;cases h
 |some w=>rw[e]at h;exact⟨w,rfl,(HV h).symm⟩
theorem CY(ps:List (List Nat))(w:List Nat):neW (ps++[w])=if w=[]then neW ps else neW ps++[w]:=by
 unfold neW;rw[IH];cases w with
 |nil=>simp
 |cons a r=>simp

def isL(c:Nat):Bool:=decide (97<=c/\c<=122)
def isF(c:Nat):Bool:=decide (48<=c/\c<=57)
def LL:List Nat:=[97,98,99,100,101,102,103,104,105,106,107,108,109,110,111,112,113,114,115,116,117,118,119,120,121,122]
def FF:List Nat:=[48,49,50,51,52,53,54,55,56,57]
theorem GE:(PySem.Str.ofString "abcdefghijklmnopqrstuvwxyz")=tx LL:=by decide +kernel
theorem GF:(PySem.Str.ofString "0123456789")=tx FF:=by decide +kernel
theorem FY:(PySem.Str.ofString "abcdefghijklmnopqrstuvwxyz0123456789")=tx (LL++FF):=by decide +kernel
theorem Bw(c:Nat):decide (c∈LL)=isL c:=by
 by_cases h:c<123
 .have:∀c<123,decide (c∈LL)=isL c:=by decide +kernel
  exact this c h
 .have h1:c∉LL:=λhm=>h ((show ∀x∈LL,x<123 by decide) c hm);unfold isL;rw[decide_eq_false h1,decide_eq_false (by omega)]
theorem Bx(c:Nat):decide (c∈FF)=isF c:=by
 by_cases h:c<123
 .have:∀c<123,decide (c∈FF)=isF c:=by decide +kernel
  exact this c h
 .have h1:c∉FF:=λhm=>h ((show ∀x∈FF,x<123 by decide) c hm);unfold isF;rw[decide_eq_false h1,decide_eq_false (by omega)]
theorem By(c:Nat):(!(Ip (PySem.Str.ofString "abcdefghijklmnopqrstuvwxyz") ⟨#[c]⟩ 0 (PySem.Str.ofString "abcdefghijklmnopqrstuvwxyz").length 1).isEmpty)=isL c:=by rw[GE,uU,Bw]
theorem Bz(c:Nat):(!(Ip (PySem.Str.ofString "0123456789") ⟨#[c]⟩ 0 (PySem.Str.ofString "0123456789").length 1).isEmpty)=isF c:=by rw[GF,uU,Bx]
theorem D_(c:Nat):(!(Ip (PySem.Str.ofString "abcdefghijklmnopqrstuvwxyz0123456789") ⟨#[c]⟩ 0 (PySem.Str.ofString "abcdefghijklmnopqrstuvwxyz0123456789").length 1).isEmpty)=(isL c||isF c):=by
 rw[FY,uU,<-Bw,<-Bx];by_cases h1:c∈LL
 .rw[decide_eq_true (ID _ h1),decide_eq_true h1];rfl
 .by_cases h2:c∈FF
  .rw[decide_eq_true (HN _ h2),decide_eq_true h2,Bool.or_true]
  .rw[decide_eq_false h1,decide_eq_false h2,decide_eq_false (λh=>(List.mem_append.mp h).elim h1 h2)];rfl
theorem Ea{c:Nat}(h:isL c=true):isF c=false:=by
 unfold isL at h;have:=of_decide_eq_true h;exact decide_eq_false (by omega)
def bQ:List Nat->Bool
 |[]=>false
 |c::r=>decide ((c::r).length<=12)&&(isL c&&(c::r).all λd=>isL d||isF d)
theorem wj{c:Nat}{r:List Nat}(h:¬ (c::r).length<=12):bQ (c::r)=false:=by
 show(decide _&&_)=false;rw[decide_eq_false h,Kl]
theorem pO{c:Nat}{r:List Nat}(h:(c::r).length<=12):bQ (c::r)=(isL c&&(c::r).all λd=>isL d||isF d):=by
 show(decide _&&_)=_;rw[decide_eq_true h,JZ]
theorem ce:(PySem.Str.ofString "")=tx []:=by decide +kernel
theorem ya(c:Nat)(r:List Nat):decide (V.str (tx (c::r))=V.str (PySem.Str.ofString ""))=false:=by
 refine decide_eq_false λh=>?_;have h2:=V.str.inj h;rw[ce]at h2;have h3:=jA h2;cases h3
theorem yb:decide (V.str (tx [])=V.str (PySem.Str.ofString ""))=true:=decide_eq_true (by rw[ce])
theorem GG(c:Nat)(r:List Nat):Txt.slice (tx (c::r)) none (some 1)=tx [c]:=by
 rw[show(some (1:Int))=some ((1:Nat):Int)from rfl,fc,cut_to];rfl
theorem GH(c:Nat)(r:List Nat):Txt.slice (tx (c::r)) (some 1) none=tx r:=by
 rw[show(some (1:Int))=some ((1:Nat):Int)from rfl,fc,cut_from];rfl
theorem c33:(PySem.Str.ofString "!")=tx [33]:=by decide +kernel
theorem FZ(c:Nat):decide (V.str (tx [c])=V.str (PySem.Str.ofString "!"))=decide (c=33):=by
 rw[c33];by_cases h:c=33
 .subst h;rw[decide_eq_true rfl,decide_eq_true rfl]
 .rw[decide_eq_false h];refine decide_eq_false λe=>h ?_;have:=jA (V.str.inj e);simpa using this
theorem Fb(l:List Nat)(f:Nat->Bool):((l.map f).all id)=l.all f:=by rw[List.all_map];rfl

def opn:List Nat->Bool
 |c::r=>decide (c=91)&&bQ r
 |[]=>false
section
variable {cn:Option Nat}{w:List Nat}{t:List (List Nat)}{m:Nat}
end
theorem cw{s:Str}{l:List Nat}(h:s=tx l)(w:List Nat):decide (V.str (tx w)=V.str s)=decide (w=l):=by
 rw[h];by_cases e:w=l
 .rw[decide_eq_true e,e];exact decide_eq_true rfl
 .rw[decide_eq_false e];exact decide_eq_false λz=>e (jA (V.str.inj z))
theorem c91:(PySem.Str.ofString "[")=tx [91]:=by decide +kernel
theorem GI:(PySem.Str.ofString "|")=tx E3:=by decide +kernel
theorem Fc:(PySem.Str.ofString "]")=tx E4:=by decide +kernel
def NdA(F:Hp)(v:V)(t:List Nat):Prop:=∃b,v=.ref b/\F b=some (.tup [.str "word",.str (tx t)])
theorem NdA.mono{F F':Hp}(s:ak F F'){v:V}{t:List Nat}(h:NdA F v t):NdA F' v t:=by
 obtain⟨b,e,h⟩:=h;exact⟨b,e,s _ _ h⟩
theorem NdsA.mono{F F':Hp}(s:ak F F'){vs:List V}{ts:List (List Nat)}(h:aL (NdA F) vs ts):aL (NdA F') vs ts:=h.imp λ_ _=>NdA.mono s
theorem bb{α:Type}{l:List α}{i:Nat}{x:α}(h:l[i]?=some x):l.take (i+1)=l.take i++[x]:=by
 obtain⟨hi,e⟩:=List.getElem?_eq_some_iff.mp h;rw[IB,h];rfl

def lI:List (Key×V):=[(.inr (PySem.Str.ofString "#"),.str (PySem.Str.ofString "mark")),(.inr (PySem.Str.ofString "@"),.str (PySem.Str.ofString "number")),(.inr (PySem.Str.ofString "&"),.str (PySem.Str.ofString "page")),(.inr (PySem.Str.ofString "^"),.str (PySem.Str.ofString "row")),(.inr (PySem.Str.ofString "~"),.str (PySem.Str.ofString "foot"))]
inductive o9 (w:HF):List Ic->List (Key×V)->Prop
 |nil:o9 w [] []
 |cons {e:Ic} {k:Key} {v:V} {es:List Ic} {kvs:List (Key×V)}:m_ k e.key=true->e.hash=Ev w k->bo v e.val->o9 w es kvs->o9 w (e::es) ((k,v)::kvs)
def yc(w:HF)(es:Array Ic)(kvs:List (Key×V)):Prop:=o9 w es.toList kvs/\(kvs.map (·.1)).Nodup
theorem BA{P:HB}{w:HF}{es:List Ic}{kvs:List (Key×V)}(h:o9 w es kvs):∃vs,KV kvs vs/\Pairs (bA P w) es vs/\vs.map (·.1)=kvs.map (·.1)/\∀e∈es,∃k,(bA P w).is k e.key=true/\e.hash=(bA P w).hash k:=by
 induction h with
 |nil=>exact⟨[],.nil,.nil,rfl,λe he=>nomatch he⟩
 |@cons e k v es kvs h1 h2 h3 _ ih =>
  obtain⟨vs,a,b,c,d⟩:=ih;refine⟨(k,e.val)::vs,.cons ⟨rfl,h3⟩ a,.cons h1 rfl b,by rw[Hj,Hj,c],λx hx=>?_⟩;rcases List.mem_cons.mp hx with rfl|hx
  .exact⟨k,h1,h2⟩
  .exact d x hx
theorem zx{P:HB}{w:HF}{K:PySem.W.Frag}{a:Addr}{oc:GV}{od:Option Addr}{es:Array Ic}{ep:Nat}{sl:Array (Option GV)}{kvs:List (Key×V)}(b:(a==IE)=false)
  (l:K.lookup a=some ⟨oc,od,.dict es ep,sl⟩)(c:(⟨oc,od,.dict es ep,sl⟩:Obj).ExactDict)(e:yc w es kvs):vq P w K a kvs:=by
 obtain⟨vs,h1,h2,h3,h4⟩:=BA (P:=P) e.1;exact⟨b,_,vs,l,h1,es,ep,c,rfl,λx hx=>h4 x (by simpa using hx),h2,by rw[h3];exact e.2⟩
def mk(c:Nat):Option String:=if c=35 then some "mark" else if c=64 then some "number" else if c=38 then some "page" else if c=94 then some "row" else if c=126 then some "foot" else none
def lJ:List Nat->String×List Nat
 |[]=>("plain",[])
 |c::r=>match mk c,bQ r with
  |some s,true=>(s,r)
  |_,_=>if c=33/\r≠[]then("plain",r)else("plain",c::r)
theorem CZ(c:Nat)(h:mk c=none):cX lI (.inr ⟨#[c]⟩)=none:=by
 unfold mk at h
 split at h
 .cases h
 split at h
 .cases h
 split at h
 .cases h
 split at h
 .cases h
 split at h
 .cases h
 rename_i h1 h2 h3 h4 h5
 have key:∀d:Nat,c≠d->¬ ((JB (tx [d]):Key)=JB (tx [c])):=λd hd e=>hd (by
  have e2:=jA (Sum.inr.inj e);have e3:d=c:=by simpa using e2
  exact e3.symm)
 unfold lI;rw[show(PySem.Str.ofString "#")=tx [35] by decide +kernel,show(PySem.Str.ofString "@")=tx [64] by decide +kernel,show(PySem.Str.ofString "&")=tx [38] by decide +kernel,show(PySem.Str.ofString "^")=tx [94] by decide +kernel,show(PySem.Str.ofString "~")=tx [126] by decide +kernel];show cX _ (JB (tx [c]))=none;rw[dG (key 35 h1),dG (key 64 h2),dG (key 38 h3),dG (key 94 h4),dG (key 126 h5)];rfl
theorem C0(c:Nat)(s:String)(h:mk c=some s):cX lI (.inr ⟨#[c]⟩)=some (.str (PySem.Str.ofString s)):=by
 have hc:c=35\/c=64\/c=38\/c=94\/c=126:=by
  unfold mk at h
  split at h
  .omega
  split at h
  .omega
  split at h
  .omega
  split at h
  .omega
  split at h
  .omega
  cases h
 rcases hc with rfl|rfl|rfl|rfl|rfl
 all_goals
  have e:=HV h;subst e;decide +kernel

def plL(c:Nat)(r:List Nat):Kw×List Nat:=if c=33/\r≠[]then(.plain,r)else(.plain,c::r)
def kwC(c:Nat)(r:List Nat):Kw×List Nat:=if bQ r=true then(if c=35 then(.mark,r)else if c=64 then(.number,r)else if c=38 then(.page,r)else if c=94 then(.row,r)else if c=126 then(.foot,r)else plL c r)else plL c r
def kwL:List Nat->Kw×List Nat
 |[]=>(.plain,[])
 |c::r=>kwC c r
theorem Eb:∀t:List Nat,PySem.Str.ofString (lJ t).1=(kwL t).1.s/\(lJ t).2=(kwL t).2
 |[]=>⟨rfl,rfl⟩
 |c::r=>by
  have pl:∀q:String×List Nat,q=(if c=33/\r≠[]then("plain",r)else("plain",c::r))->PySem.Str.ofString q.1=(plL c r).1.s/\q.2=(plL c r).2:=λq e=>by
   rw[e];unfold plL;by_cases h:c=33/\r≠[]
   .rw[if_pos h,if_pos h];exact⟨rfl,rfl⟩
   .rw[if_neg h,if_neg h];exact⟨rfl,rfl⟩
  have hk:lJ (c::r)=match mk c,bQ r with
   |some s,true=>(s,r)
   |_,_=>if c=33/\r≠[]then("plain",r)else("plain",c::r):=rfl
  show PySem.Str.ofString (lJ (c::r)).1=(kwC c r).1.s/\(lJ (c::r)).2=(kwC c r).2;rw[hk];unfold kwC mk;cases hn:bQ r with
  |false =>
   rw[if_neg (show ¬ (false=true) by decide)];refine pl _ ?_
   split
   .rename_i h;cases h
   .rfl
  |true =>
   rw[if_pos rfl];by_cases h1:c=35
   .simp[h1,Kw.s]
   by_cases h2:c=64
   .simp[h2,Kw.s]
   by_cases h3:c=38
   .simp[h3,Kw.s]
   by_cases h4:c=94
   .simp[h4,Kw.s]
   by_cases h5:c=126
   .simp[h5,Kw.s]
   simp only[h1,h2,h3,h4,h5,if_false];exact pl _ rfl
def wkL(t:List Nat):Wk:=((kwL t).1,.str (tx (kwL t).2))
structure pP(t:List Nat):Prop where
 ne:t≠[]
 len:t.length<=61
 opn:opn t=false
 pl:(kwL t).1=.plain->(kwL t).2.length<=60
 sg:∀d∈t,d<127
def gX:List (Key×V):=[(.inr (PySem.Str.ofString "page"),.int 3),(.inr (PySem.Str.ofString "odd"),.int 4)]
def kwV(k:Kw):V:=.str k.s
theorem tP{k:Kw}:∀{bs:List Kw},k∉bs->inV (kwV k) (bs.map kwV)=false
 |[],_=>rfl
 |b::r,h=>by
  have e:¬ (b=k):=λz=>h (by rw[z];exact He);have ih:=tP (bs:=r) λz=>h (Hb _ z);unfold inV at ih⊢;rw[Hj,Jm,ih,Bool.or_false];show(b.s==k.s)=false;rw[Kw.beq,decide_eq_false e]
theorem yd:∀bs:List Kw,(bs.map kwV).all eP=true
 |[]=>rfl
 |_::r=>by rw[Hj,Jl,yd r];rfl

theorem c32:(PySem.Str.ofString " ")=tx [32]:=by decide +kernel
def dN:List Nat:=[46,102,111,111,116]
def tf:List Nat:=[46,112,97,103,101]
def vE:List Nat:=[46,111,100,100]
def nC:List Nat:=[46,108,105,115,116]
def GJ:List Nat:=[46,108,101,116]
theorem kg:(PySem.Str.ofString ".foot")=tx dN:=by decide +kernel
theorem Aa:(PySem.Str.ofString ".let")=tx GJ:=by decide +kernel
theorem Dq:(PySem.Str.ofString ".page")=tx tf:=by decide +kernel
theorem Fd:(PySem.Str.ofString ".odd")=tx vE:=by decide +kernel
theorem Ab:(PySem.Str.ofString ".list")=tx nC:=by decide +kernel
theorem cH1:(PySem.Str.ofString "=")=tx [61]:=by decide +kernel
theorem cH2:(PySem.Str.ofString "==")=tx [61,61]:=by decide +kernel
theorem cH3:(PySem.Str.ofString "===")=tx [61,61,61]:=by decide +kernel
theorem GK:(PySem.Str.ofString ".")=tx [46]:=by decide +kernel
def Dr(w:List Nat)(r:Rw):Prop:=(w=tf/\r=.page)\/(w=vE/\r=.odd)\/(w=nC/\r=.lst)
inductive jI:List (List Nat)->Rw->Prop
 |empty:jI [] .empty
 |foot {n:List Nat} {ts:List (List Nat)}:bQ n=true->n.length<=12->ts.length<=39->(∀t∈ts,pP t/\(kwL t).1∉[Kw.mark,Kw.foot])->jI (dN::n::ts) (.foot (tx n) (ts.map wkL))
 |alone {w:List Nat} {r:Rw}:Dr w r->jI [w] r
 |head {k:Nat} {ts:List (List Nat)}:k<3->ts.length<=129->(∀t∈ts,pP t/\(kwL t).1∉[Kw.foot])->jI (Hd (k+1) 61::ts) (.head (k+1) (ts.map wkL))
 |par {c:Nat} {u:List Nat} {ts:List (List Nat)}:c≠46->(c::u)∉[[61],[61,61],[61,61,61]]->ts.length<=129->(∀t∈(c::u)::ts,pP t)->jI ((c::u)::ts) (.par (((c::u)::ts).map wkL))
def C1(s:Rs):Rw->Prop
 |.foot n _=>lkS n s.feet=none
 |_=>True
def lK:Rs->List Rw->Prop
 |_,[]=>True
 |s,r::l=>C1 s r/\lK (bV s r) l
theorem lK.at:∀{l:List Rw} {s:Rs} {k:Nat} {r:Rw},lK s l->l[k]?=some r->C1 (a7 s (l.take k)) r
 |x::l,s,0,r,h,e=>by cases e;exact h.1
 |x::l,s,k+1,r,h,e=>lK.at (l:=l) (k:=k) h.2 (by simpa using e)
 |[],_,_,_,_,e=>by simp at e
theorem rB{w:List Nat}:∀(ls:List (List Nat)),inV (.str (tx w)) (ls.map λl=>.str (tx l))=decide (w∈ls)
 |[]=>rfl
 |l::r=>by
  have ih:=rB (w:=w) r;unfold inV at ih⊢;rw[Hj,Jm,ih];show((tx l==tx w)||_)=_;by_cases e:w=l
  .subst e;simp
  .have:(tx l==tx w)=false:=by
    rw[beq_eq_false_iff_ne];exact λz=>e (jA z.symm)
   rw[this,K9];simp[e]
theorem pQ{n:Str}{v:V}:∀{l:List (Str×V)},(l.map Prod.fst).all (λm=>m != n)=true->bR n v l=l++[(n,v)]
 |[],_=>rfl
 |(m,x)::r,h=>by
  rw[Hj,Jl,Iu]at h;have e:¬ (m=n):=by simpa using h.1
  have ih:=pQ (n:=n) (v:=v) h.2;simp[bR,e]at ih⊢;exact ih

def Fe(l:List Nat)(r:Rw):Prop:=l.length<=20000/\jI (de l) r
def lY:List (List Nat)->List Rw->Prop
 |[],[]=>True
 |l::ls,r::rs=>Fe l r/\lY ls rs
 |_,_=>False
theorem lY.len:∀{ls:List (List Nat)} {rs:List Rw},lY ls rs->ls.length=rs.length
 |[],[],_=>rfl
 |_::_,_::_,h=>congrArg (·+1) (lY.len h.2)
theorem lY.get:∀{ls:List (List Nat)} {rs:List Rw} {i:Nat} {l:List Nat},lY ls rs->ls[i]?=some l->∃r,rs[i]?=some r/\Fe l r
 |l::_,r::_,0,x,h,e=>by cases e;exact⟨r,rfl,h.1⟩
 |_::_,_::_,i+1,x,h,e=>lY.get (i:=i) h.2 (by simpa using e)
 |[],[],_,_,_,e=>by simp at e
def al(b:Nat):Nat:=(LL++FF).getD b 0
theorem Ec:∀k:Nat,k<36->atI (PySem.Str.ofString "abcdefghijklmnopqrstuvwxyz0123456789").cps.toList (k:Int)=some (al k):=by decide +kernel
theorem Ff:∀b:Nat,b<36->∀c:Nat,c<36->al b=al c->b=c:=by decide +kernel
theorem Fg:∀b:Nat,b<26->isL (al b)=true:=by decide +kernel
theorem Fh:∀b:Nat,b<36->(isL (al b)||isF (al b))=true:=by decide +kernel
structure Ix(xs:List Nat):Prop where
 ne:xs≠[]
 len:xs.length<=12
 fst:∀b,xs.head?=some b->b<26
 all:∀b∈xs,b<36
theorem Ix.name{xs:List Nat}(h:Ix xs):bQ (xs.map al)=true:=by
 cases xs with
 |nil=>exact absurd rfl h.ne
 |cons b r =>
  have hl:(al b::r.map al).length<=12:=by have:=h.len;simp at this⊢;omega
  show bQ (al b::r.map al)=true;rw[pO hl,Fg b (h.fst b rfl),JZ];refine List.all_eq_true.mpr λd hd=>?_;obtain⟨b',hb',rfl⟩:=List.mem_map.mp (show d∈(b::r).map al from hd);exact Fh b' (h.all b' hb')
theorem ye:∀cs:List Nat,cS [] (cs.map λc=>[c])=cs
 |[]=>rfl
 |[c]=>rfl
 |c::d::r=>by
  show[c]++[]++cS [] ((d::r).map λc=>[c])=_;rw[ye (d::r)];rfl
theorem vF:∀cs:List Nat,((cs.map λc=>tx [c]).map (·.length)).sum=cs.length
 |[]=>rfl
 |c::r=>by
  rw[Hj,Hj,Im,vF r,bf];simp only[GU,Hk];omega

theorem kM:(PySem.Str.ofString "")=tx []:=by decide +kernel
theorem ej1(cs:List Nat):Txt.join (PySem.Str.ofString "") (cs.map λd=>tx [d])=tx cs:=by
 rw[kM,show(cs.map λd=>tx [d])=((cs.map λd=>[d]).map tx) by rw[II];rfl,jX,ye]
def nmB(bs:List Nat)(a j:Nat):List Nat:=bs.take a++[j/36%36]++[j%36]++bs.drop a
structure ue(bs:List Nat)(a:Nat):Prop where
 len:bs.length<=10
 fst:∀b,bs.head?=some b->b<26
 all:∀b∈bs,b<36
 lo:1<=a
 hi:a<=bs.length
theorem ue.ix{bs:List Nat}{a:Nat}(h:ue bs a)(j:Nat):Ix (nmB bs a j):=by
 have l1:=h.lo;have l2:=h.hi;have l3:=h.len
 match bs,h with
 |[],h=>simp at l2;omega
 |b::r,h =>
 obtain⟨a',rfl⟩:∃a',a=a'+1:=⟨a-1,by omega⟩;refine⟨by simp[nmB],?_,?_,?_⟩
 .have e1:(List.take (a'+1) (b::r)).length=a'+1:=by rw[HD];omega
  have e2:(List.drop (a'+1) (b::r)).length=(b::r).length-(a'+1):=by rw[Jt]
  unfold nmB;simp only[GX,e1,e2,GU,Hk]at l2 l3⊢;omega
 .intro x hx;have:x=b:=by simpa[nmB]using hx.symm
  rw[this];exact h.fst b rfl
 .intro x hx;simp only[nmB,KW,JH]at hx;rcases hx with((hx|hx)|hx)|hx
  .exact h.all x (List.mem_of_mem_take hx)
  .rw[hx];exact KP _ (by decide)
  .rw[hx];exact KP _ (by decide)
  .exact h.all x (List.mem_of_mem_drop hx)
theorem u8:∀{xs ys:List Nat},(∀x∈xs,x<36)->(∀y∈ys,y<36)->xs.map al=ys.map al->xs=ys
 |[],[],_,_,_=>rfl
 |x::xs,y::ys,h1,h2,e=>by
  rw[Hj,Hj]at e;injection e with e1 e2;rw[Ff x (h1 x He) y (h2 y He) e1,u8 (λz hz=>h1 z (Hb _ hz)) (λz hz=>h2 z (Hb _ hz)) e2]
theorem ue.inj{bs:List Nat}{a:Nat}(h:ue bs a){i j:Nat}(hi:i<1296)(hj:j<1296)(e:(nmB bs a i).map al=(nmB bs a j).map al):i=j:=by
 have e:=u8 (h.ix i).all (h.ix j).all e;unfold nmB at e;rw[HL,HL,HL,HL]at e;have e:=List.append_cancel_left e;simp only[List.singleton_append,List.cons.injEq]at e;omega
structure NmF(nm:Nat->List Nat):Prop where
 name:∀j,bQ (nm j)=true
 len:∀j,(nm j).length<=12
 sg:∀j,∀d∈nm j,33<=d/\d<127
 inj:∀i j,i<1296->j<1296->nm i=nm j->i=j
theorem F0:∀b:Nat,b<36->33<=al b/\al b<127:=by decide +kernel
theorem ue.nmF{bs:List Nat}{a:Nat}(h:ue bs a):NmF λj=>(nmB bs a j).map al:=
 ⟨fun j=>(h.ix j).name,fun j=>by rw [GT]; exact (h.ix j).len,fun j d hd=>by
  obtain⟨b,hb,rfl⟩:=List.mem_map.mp hd;exact F0 b ((h.ix j).all b hb),λi j hi hj e=>h.inj hi hj e⟩
abbrev NWd:=Kw×List Nat
structure C2(l:List Nat):Prop where
 ne:l≠[]
 len:l.length<=60
 sg:∀d∈l,33<=d/\d<127
def WdG(nm:Nat->List Nat)(k:Kw)(at_ marks feet:Nat)(w:NWd):Prop:=
 (k=.mark/\∃j,w=(.mark,nm j))\/(k≠.mark/\w.1=.plain/\C2 w.2)\/(k≠.mark/\k≠.plain/\w.1=k/\∃j,w.2=nm j)
def sgK:Kw->Nat
 |.mark=>35|.number=>64|.page=>38|.row=>94|.foot=>126|_=>33
def uf(w:NWd):Prop:=w.1≠.entry/\(∀d∈w.2,33<=d/\d<127)/\((w.1=.plain/\w.2≠[]/\w.2.length<=60)\/(w.1≠.plain/\bQ w.2=true/\w.2.length<=12))
theorem WdG.ok{nm:Nat->List Nat}(hn:NmF nm){k:Kw}{at_ marks feet:Nat}{w:NWd}(ke:k≠.entry)(h:WdG nm k at_ marks feet w):uf w:=by
 rcases h with⟨_,j,rfl⟩|⟨_,h1,h2⟩|⟨_,h0,h1,j,h2⟩
 .exact⟨by show Kw.mark≠Kw.entry;decide,hn.sg _,.inr ⟨by show Kw.mark≠Kw.plain;decide,hn.name _,hn.len _⟩⟩
 .exact⟨by rw[h1];decide,h2.sg,.inl ⟨h1,h2.ne,h2.len⟩⟩
 .exact⟨by rw[h1];exact ke,by rw[h2];exact hn.sg _,.inr ⟨by rw[h1];exact h0,by rw[h2];exact hn.name _,by rw[h2];exact hn.len _⟩⟩
def isM(c:Nat):Bool:=decide (c∈[35,64,38,94,126])
def lL(tight:Bool):List Nat->Bool
 |[]=>false
 |c::r=>decide (c∈[46,33,91])||(if tight then decide (c=61)else decide ((c::r)∈[[61],[61,61],[61,61,61]]))||(isM c&&bQ r)
theorem wo(tight:Bool)(c:Nat)(r:List Nat):lL tight (c::r)=(decide (c∈[46,33,91])||(if tight then decide (c=61)else decide ((c::r)∈[[61],[61,61],[61,61,61]]))||(isM c&&bQ r)):=rfl
def wrW(tight:Bool)(w:NWd):List Nat:=if w.1=.plain then(if lL tight w.2=true then 33::w.2 else w.2)else sgK w.1::w.2
structure Fi(t:List Nat)(w:NWd):Prop where
 good:pP t
 back:kwL t=w
 nb:32∉t
 dot:t.head?≠some 46
 hd:t∉[[61],[61,61],[61,61,61]]
theorem C3{k:Kw}{r:List Nat}(hk:k≠.plain)(he:k≠.entry)(hn:bQ r=true):kwC (sgK k) r=(k,r):=by
 unfold kwC;rw[if_pos hn];cases k<;>first|rfl|exact absurd rfl hk|exact absurd rfl he
theorem C4{r:List Nat}(h:r≠[]):kwC 33 r=(.plain,r):=by
 have p:plL 33 r=(.plain,r):=by unfold plL;rw[if_pos ⟨rfl,h⟩]
 unfold kwC;by_cases hn:bQ r=true
 .rw[if_pos hn];exact p
 .rw[if_neg hn];exact p
theorem BB{c:Nat}{r:List Nat}(h1:c≠33)(h2:(isM c&&bQ r)=false):kwC c r=(.plain,c::r):=by
 have p:plL c r=(.plain,c::r):=by unfold plL;rw[if_neg (λz=>h1 z.1)]
 unfold kwC;by_cases hn:bQ r=true
 .rw[hn,K_]at h2;have m:=of_decide_eq_false h2;simp only[Ih,H_,or_false,not_or]at m;rw[if_pos hn,if_neg m.1,if_neg m.2.1,if_neg m.2.2.1,if_neg m.2.2.2.1,if_neg m.2.2.2.2];exact p
 .rw[if_neg hn];exact p
theorem Ac(tight:Bool){w:NWd}(h:uf w):Fi (wrW tight w) w:=by
 obtain⟨k,r⟩:=w;obtain⟨he,sg,h⟩:=h;dsimp only at he sg h;have n32:∀l:List Nat,(∀d∈l,33<=d/\d<127)->32∉l:=λl hl z=>by have:=hl 32 z;omega
 rcases h with⟨hk,hne,hl⟩|⟨hk,hn,hl⟩
 .subst hk;unfold wrW;rw[if_pos rfl];by_cases b:lL tight r=true
  .rw[if_pos b];have kb:kwL (33::r)=(.plain,r):=C4 hne;have sg':∀d∈33::r,33<=d/\d<127:=λd hd=>by
    rcases List.mem_cons.mp hd with rfl|hd
    .exact⟨by decide,by decide⟩
    .exact sg d hd
   refine⟨⟨by simp,by simp only[GU];omega,rfl,λ_=>by rw[kb];exact hl,λd hd=>(sg' d hd).2⟩,kb,n32 _ sg',by simp,by simp⟩
  .rw[if_neg b];rw[IG]at b
   match r,hne,b with
   |c::u,_,b =>
   unfold lL at b;simp only[J5]at b;obtain⟨⟨b1,b2⟩,b3⟩:=b;have b1:=of_decide_eq_false b1;simp only[Ih,H_,or_false,not_or]at b1;have kb:kwL (c::u)=(.plain,c::u):=BB b1.2.1 b3;have op:opn (c::u)=false:=by show(decide (c=91)&&bQ u)=false;rw[decide_eq_false b1.2.2];rfl
   refine⟨⟨by simp,(by show(c::u).length<=61;omega),op,λ_=>by rw[kb];exact hl,λd hd=>(sg d hd).2⟩,kb,n32 _ sg,by simp;exact b1.1,?_⟩;cases tight with
   |true =>
    have b2:¬ (c=61):=of_decide_eq_false b2;simp[b2]
   |false=>exact of_decide_eq_false b2
 .unfold wrW;rw[if_neg hk];have kb:kwL (sgK k::r)=(k,r):=C3 hk he hn;have s1:33<=sgK k/\sgK k<127/\sgK k≠91/\sgK k≠46/\sgK k≠61:=by cases k<;>decide
  have sg':∀d∈sgK k::r,33<=d/\d<127:=λd hd=>by
   rcases List.mem_cons.mp hd with rfl|hd
   .exact⟨s1.1,s1.2.1⟩
   .exact sg d hd
  have op:opn (sgK k::r)=false:=by show(decide (sgK k=91)&&bQ r)=false;rw[decide_eq_false s1.2.2.1];rfl
  refine⟨⟨by simp,by simp only[GU];omega,op,λz=>by rw[kb]at z;exact absurd z hk,λd hd=>(sg' d hd).2⟩,kb,n32 _ sg',by simp;exact s1.2.2.2.1,by simp[s1.2.2.2.2]⟩
inductive Wy where
 |words|empty|h1|h2|h3|page|odd|lst|foot
 deriving DecidableEq
def Wy.t:Wy->List Nat
 |.words=>[119,111,114,100,115]|.empty=>[]|.h1=>[61]|.h2=>[61,61]|.h3=>[61,61,61]
 |.page=>tf|.odd=>vE|.lst=>nC|.foot=>dN
def Wy.hd:Wy->Bool
 |.h1=>true|.h2=>true|.h3=>true|_=>false
def Wy.bare:Wy->Bool
 |.empty=>true|.page=>true|.odd=>true|.lst=>true|_=>false
theorem Wy.inj:∀{a b:Wy},a.t=b.t->a=b:=by
 intro a b h;cases a<;>cases b<;>first|rfl|exact absurd h (by decide)
abbrev dj:=Wy×List (Kw×Int)
structure Ad(kds:List Kw)(r:dj):Prop where
 bare:r.1.bare=true->r.2=[]
 len:r.2.length<=6
 head:r.1.hd=true->∀w∈r.2,w.1≠.foot
 foot:r.1=.foot->∀w∈r.2,w.1≠.mark/\w.1≠.foot
 kds:∀w∈r.2,w.1∈kds\/w.1=.plain
abbrev bD:=Wy×List Nat×List NWd
structure kN(r:bD):Prop where
 bare:r.1.bare=true->r.2.2=[]
 len:r.2.2.length<=129
 words:r.1=.words->r.2.2≠[]
 head:r.1.hd=true->∀w∈r.2.2,w.1≠.foot
 foot:r.1=.foot->bQ r.2.1=true/\r.2.1.length<=12/\(∀d∈r.2.1,33<=d/\d<127)/\r.2.2.length<=39/\∀w∈r.2.2,w.1≠.mark/\w.1≠.foot
 ok:∀w∈r.2.2,uf w
def rC(w:NWd):Wk:=(w.1,.str (tx w.2))
def wkS(ws:List NWd):List Wk:=ws.map rC
def fg(tight:Bool)(r:bD):List (List Nat):=(if r.1=.empty\/r.1=.words then[]else[r.1.t])++(if r.1=.foot then[r.2.1]else[])++r.2.2.map (wrW tight)
def bE(r:bD):Rw:=
 match r.1 with
 |.words=>.par (wkS r.2.2)
 |.empty=>.empty
 |.h1=>.head 1 (wkS r.2.2)
 |.h2=>.head 2 (wkS r.2.2)
 |.h3=>.head 3 (wkS r.2.2)
 |.page=>.page
 |.odd=>.odd
 |.lst=>.lst
 |.foot=>.foot (tx r.2.1) (wkS r.2.2)
theorem Ed{tight:Bool}{ws:List NWd}(h:∀w∈ws,uf w):(ws.map (wrW tight)).map wkL=wkS ws:=by
 rw[II];refine Kc λw hw=>?_;show wkL (wrW tight w)=rC w;unfold wkL rC;rw[(Ac tight (h w hw)).back]
theorem Fj(tight:Bool){r:bD}(h:kN r):jI (fg tight r) (bE r):=by
 obtain⟨wy,n,ws⟩:=r;have g:∀t∈ws.map (wrW tight),∃w∈ws,Fi t w:=λt ht=>by
  obtain⟨w,hw,rfl⟩:=List.mem_map.mp ht;exact⟨w,hw,Ac tight (h.ok w hw)⟩
 have bk:=Ed (tight:=tight) h.ok;have ln:=h.len;dsimp only at bk ln;have hd:∀k,k<3->(∀w∈ws,w.1≠.foot)->jI (Hd (k+1) 61::ws.map (wrW tight)) (.head (k+1) (wkS ws)):=λk hk hf=>by
  rw[<-bk];refine .head hk (by rw[GT];exact ln) λt ht=>?_;obtain⟨w,hw,o⟩:=g t ht;exact⟨o.good,by rw[o.back];simpa using hf w hw⟩
 cases wy with
 |words =>
  show jI (ws.map (wrW tight)) (.par (wkS ws));rw[<-bk];have ne:=h.words rfl
  match ws,ne,g,ln with
  |w::r,_,g,ln =>
  obtain⟨w',_,o⟩:=g (wrW tight w) He;rw[Hj];cases e:wrW tight w with
  |nil=>exact absurd e o.good.ne
  |cons c u =>
   rw[e]at o;refine .par (λz=>o.dot (by rw[z];rfl)) o.hd (by rw[GT];simp only[GU]at ln;omega) λt ht=>?_;rw[<-e,<-Hj]at ht;obtain⟨_,_,o'⟩:=g t ht;exact o'.good
 |empty =>
  have e:ws=[]:=h.bare rfl;subst e;exact .empty
 |h1=>exact hd 0 (by decide) (h.head rfl)
 |h2=>exact hd 1 (by decide) (h.head rfl)
 |h3=>exact hd 2 (by decide) (h.head rfl)
 |page =>
  have e:ws=[]:=h.bare rfl;subst e;exact .alone (.inl ⟨rfl,rfl⟩)
 |odd =>
  have e:ws=[]:=h.bare rfl;subst e;exact .alone (.inr (.inl ⟨rfl,rfl⟩))
 |lst =>
  have e:ws=[]:=h.bare rfl;subst e;exact .alone (.inr (.inr ⟨rfl,rfl⟩))
 |foot =>
  obtain⟨f1,f2,f3,f4,f5⟩:=h.foot rfl;show jI (dN::n::ws.map (wrW tight)) (.foot (tx n) (wkS ws));rw[<-bk];refine .foot f1 f2 (by rw[GT];exact f4) λt ht=>?_;obtain⟨w,hw,o⟩:=g t ht;exact⟨o.good,by rw[o.back];simpa using f5 w hw⟩
theorem nD(tight:Bool){r:bD}(h:kN r):∀t∈fg tight r,32∉t/\t≠[]/\t.length<=61:=λt ht=>by
 unfold fg at ht;rcases List.mem_append.mp ht with ht|ht
 .rcases List.mem_append.mp ht with ht|ht
  .by_cases c:r.1=.empty\/r.1=.words
   .rw[if_pos c]at ht;cases ht
   .rw[if_neg c]at ht;rw[List.mem_singleton.mp ht];revert c;cases r.1<;>decide
  .by_cases c:r.1=.foot
   .rw[if_pos c]at ht;rw[List.mem_singleton.mp ht];obtain⟨f1,f2,f3,_⟩:=h.foot c;exact⟨λz=>(by have:=f3 32 z;omega),(λz=>by rw[z]at f1;cases f1),(by omega)⟩
   .rw[if_neg c]at ht;cases ht
 .obtain⟨w,hw,rfl⟩:=List.mem_map.mp ht;have o:=Ac tight (h.ok w hw);exact⟨o.nb,o.good.ne,o.good.len⟩
theorem zy(tight:Bool){r:bD}(h:kN r):(fg tight r).length<=131:=by
 have:=h.len;unfold fg;simp only[GX,GT];have a:(if r.1=.empty\/r.1=.words then([]:List (List Nat))else[r.1.t]).length<=1:=by split<;>simp
 have b:(if r.1=.foot then[r.2.1]else([]:List (List Nat))).length<=1:=by split<;>simp
 omega
abbrev nT(l:List Nat):List Nat:=PySem.StrLaws.dbl 32 l
def nE(a b:Nat)(d:Bool)(l:List Nat):List Nat:=Hd a 32++(if d then nT l else l)++Hd b 32
theorem yf(c:Nat):∀n:Nat,pL [c] n=Hd n c
 |0=>rfl
 |n+1=>by
  rw[nq,yf c n,Io];rfl
theorem lZ:∀(l:List (List Nat)),(∀t∈l,t.length<=61)->((l.map tx).map (·.length)).sum<=61*l.length
 |[],_=>G_ _
 |x::r,h=>by
  have h1:=lZ r λt ht=>h t (Hb _ ht);have h2:=h x He;rw[Hj,Hj,Im,bf,GU];omega
theorem u9(n:Nat):Txt.mul (PySem.Str.ofString " ") (n:Int)=tx (Hd n 32):=by
 rw[show(PySem.Str.ofString " ")=tx [32] by decide +kernel,ET,yf]
theorem zA{n:Nat}(h:n<=10):MulOk (PySem.Str.ofString " ") (n:Int):=by
 rw[show(PySem.Str.ofString " ")=tx [32] by decide +kernel];exact yX (by omega) (by simp)
def pR:List (List Nat)->List (List Nat)->Prop
 |[],[]=>True
 |r::rs,s::ss=>(∃a b d,a<=10/\b<=10/\s=nE a b d r)/\pR rs ss
 |_,_=>False
theorem C5(l:List Nat):∃h r,bw 32 l=h::r:=by
 cases e:bw 32 l with
 |nil=>exact absurd e (vZ 32 l)
 |cons h r=>exact⟨h,r,rfl⟩
theorem tj{c:Nat}{l h:List Nat}{r:List (List Nat)}(e:bw 32 l=h::r)(n:c≠32):bw 32 (c::l)=(c::h)::r:=by
 rw[gk,if_neg n,e]
theorem lP(l:List Nat):bw 32 (32::l)=[]::bw 32 l:=by rw[gk,if_pos rfl]
theorem zB(r:List (List Nat)):neW ([]::r)=neW r:=rfl
theorem BC(l:List Nat):de (nT l)=de l:=by
 have key:∀l:List Nat,∃h r r',bw 32 l=h::r/\bw 32 (nT l)=h::r'/\neW r=neW r':=λl=>by
  induction l with
  |nil=>exact⟨[],[],[],rfl,rfl,rfl⟩
  |cons c l ih =>
   obtain⟨h,r,r',e1,e2,e3⟩:=ih;by_cases hc:c=32
   .subst hc;refine⟨[],h::r,[]::h::r',by rw[lP,e1],?_,?_⟩
    .show bw 32 (PySem.StrLaws.dbl 32 (32::l))=_;rw[show PySem.StrLaws.dbl 32 (32::l)=32::32::nT l from by simp[PySem.StrLaws.dbl],lP,lP,e2]
    .rw[zB];unfold neW at e3⊢;rw[Jg,Jg,e3]
   .refine⟨c::h,r,r',tj e1 hc,?_,e3⟩;show bw 32 (PySem.StrLaws.dbl 32 (c::l))=_;rw[show PySem.StrLaws.dbl 32 (c::l)=c::nT l from by simp[PySem.StrLaws.dbl,hc]];exact tj e2 hc
 obtain⟨h,r,r',e1,e2,e3⟩:=key l;unfold de;rw[e1,e2];unfold neW at e3⊢;rw[Jg,Jg,e3]
theorem u_(l:List Nat):∀a:Nat,de (Hd a 32++l)=de l
 |0=>rfl
 |a+1=>by
  rw[Io,KJ];unfold de;rw[lP,zB];exact u_ l a
theorem Ae(l:List Nat):de (l++[32])=de l:=by
 have key:∀l:List Nat,bw 32 (l++[32])=bw 32 l++[[]]:=λl=>by
  induction l with
  |nil=>rfl
  |cons c l ih =>
   rw[KJ];by_cases hc:c=32
   .subst hc;rw[lP,lP,ih];rfl
   .obtain⟨h,r,e⟩:=C5 l;rw[tj (by rw[ih,e];rfl) hc,tj e hc];rfl
 unfold de;rw[key];unfold neW;rw[IH];simp
theorem wq(l:List Nat):∀b:Nat,de (l++Hd b 32)=de l
 |0=>by rw[List.replicate_zero,HU]
 |b+1=>by
  rw[List.replicate_succ',<-HL,Ae];exact wq l b
theorem yg{ws:List (List Nat)}(h:∀t∈ws,32∉t/\t≠[]):de (cS [32] ws)=ws:=by
 by_cases e:ws=[]
 .subst e;rfl
 .unfold de;rw[tK 32 ws e λp hp=>(h p hp).1];unfold neW;refine List.filter_eq_self.mpr λw hw=>?_;have:=(h w hw).2;cases w with
  |nil=>exact absurd rfl this
  |cons _ _=>rfl
abbrev Fk:=@nE
theorem BD(a b:Nat)(d:Bool)(l:List Nat):de (Fk a b d l)=de l:=by
 show de (nE a b d l)=_;unfold nE;rw[wq,u_];cases d with
 |true=>exact BC l
 |false=>rfl
theorem zC(l:List Nat):(nT l).length<=2*l.length:=by
 induction l with
 |nil=>exact G_ _
 |cons c l ih =>
  by_cases hc:c=32
  .subst hc;show(PySem.StrLaws.dbl 32 (32::l)).length<=_;rw[show PySem.StrLaws.dbl 32 (32::l)=32::32::nT l from by simp[PySem.StrLaws.dbl]];simp only[GU];omega
  .show(PySem.StrLaws.dbl 32 (c::l)).length<=_;rw[show PySem.StrLaws.dbl 32 (c::l)=c::nT l from by simp[PySem.StrLaws.dbl,hc]];simp only[GU];omega
theorem BE{b:Nat}:∀(l:List (List Nat)),(∀t∈l,t.length<=b)->(cS [32] l).length<=l.length*(b+1)
 |[],_=>by simp[cS]
 |[a],h=>by
  have:=h a He;simp[cS];omega
 |a::c::r,h=>by
  have h1:=h a He;have h2:=BE (c::r) λt ht=>h t (Hb _ ht);show(a++[32]++cS [32] (c::r)).length<=_;rw[GX,GX];simp only[GU,Hk]at h2⊢;have:(r.length+1+1)*(b+1)=(r.length+1)*(b+1)+(b+1):=by rw[Nat.add_mul (r.length+1) 1,Nat.one_mul]
  omega
theorem rD(tight:Bool){r:bD}(h:kN r):(cS [32] (fg tight r)).length<=8200:=by
 have h1:=BE (b:=61) (fg tight r) λt ht=>(nD tight h t ht).2.2;have h2:=zy tight h;omega
structure SpR(tight:Bool)(l:List Nat)(r:bD):Prop where
 len:l.length<=20000
 ws:de l=fg tight r
theorem SpR.of(tight:Bool){r:bD}(h:kN r)(a b:Nat)(d:Bool)(ha:a<=10)(hb:b<=10):SpR tight (Fk a b d (cS [32] (fg tight r))) r:=by
 refine⟨?_,?_⟩
 .have h1:=rD tight h;have h2:=zC (cS [32] (fg tight r));show(nE a b d _).length<=_;unfold nE;simp only[GX,Ib]
  split<;>omega
 .rw[BD,yg λt ht=>⟨(nD tight h t ht).1,(nD tight h t ht).2.1⟩]
def xc(tight:Bool):List (List Nat)->List bD->Prop
 |[],[]=>True
 |l::ls,r::rs=>SpR tight l r/\xc tight ls rs
 |_,_=>False
theorem pR.snoc{r s:List Nat}(h:∃a b d,a<=10/\b<=10/\s=nE a b d r):∀{rs ss:List (List Nat)},pR rs ss->pR (rs++[r]) (ss++[s])
 |[],[],_=>⟨h,trivial⟩
 |_::_,_::_,z=>⟨z.1,z.2.snoc h⟩
theorem pR.all{tight:Bool}:∀{ns:List bD} {ss:List (List Nat)},(∀r∈ns,kN r)->pR (ns.map λr=>cS [32] (fg tight r)) ss->xc tight ss ns
 |[],[],_,_=>trivial
 |r::ns,s::ss,h,z=>by
  obtain⟨⟨a,b,d,ha,hb,rfl⟩,z2⟩:=z;exact⟨SpR.of tight (h r He) a b d ha hb,pR.all (λx hx=>h x (Hb _ hx)) z2⟩
 |[],_::_,_,z=>z.elim
 |_::_,[],_,z=>z.elim
theorem xc.rows{tight:Bool}:∀{ls:List (List Nat)} {rs:List bD},xc tight ls rs->(∀r∈rs,kN r)->lY ls (rs.map bE)
 |[],[],_,_=>trivial
 |l::_,r::_,a,h=>⟨⟨a.1.len,by rw[a.1.ws];exact Fj tight (h r He)⟩,a.2.rows λx hx=>h x (Hb _ hx)⟩

def KcA(F:Hp)(v:V)(w:Kw×Int):Prop:=∃a,v=.ref a/\F a=some (.tup [.str w.1.s,.int w.2])
def RrA(F:Hp)(v:V)(r:dj):Prop:=∃a l us,v=.ref a/\F a=some (.tup [.str (tx r.1.t),.ref l])/\F l=some (.lst us)/\aL (KcA F) us r.2
theorem KcA.mono{F F':Hp}(s:ak F F'){v:V}{w:Kw×Int}(h:KcA F v w):KcA F' v w:=by
 obtain⟨a,e,h⟩:=h;exact⟨a,e,s _ _ h⟩
theorem RrA.mono{F F':Hp}(s:ak F F'){v:V}{r:dj}(h:RrA F v r):RrA F' v r:=by
 obtain⟨a,l,us,e,h1,h2,h3⟩:=h;exact⟨a,l,us,e,s _ _ h1,s _ _ h2,h3.imp λ_ _=>KcA.mono s⟩
structure iO(H G:Hp)(p:Addr)(rows:List dj):Prop where
 old:ak H G
 fr:H p=none
 st:∃vs lo,G p=some (.lst vs)/\H lo=none/\vs.length=rows.length/\
  ((rows=[]/\lo=p)\/∃vi a us ini w ws,vs=vi++[.ref a]/\rows=ini++[(w,ws)]/\lo≠p/\hid [p,lo] G a=some (.tup [.str (tx w.t),.ref lo])/\G lo=some (.lst us)/\aL (KcA (hid [p,lo] G)) us ws/\aL (RrA (hid [p,lo] G)) vi ini)
theorem iO.same{H G G':Hp}{p:Addr}{rows:List dj}(R:iO H G p rows)(m:ak G G'):iO H G' p rows:=by
 obtain⟨old,fr,vs,lo,h1,h2,h3,h4⟩:=R;refine⟨old.trans m,fr,vs,lo,m _ _ h1,h2,h3,?_⟩;rcases h4 with h4|⟨vi,a,us,ini,w,ws,e1,e2,e3,e4,e5,e6,e7⟩
 .exact .inl h4
 .exact .inr ⟨vi,a,us,ini,w,ws,e1,e2,e3,bj m _ _ e4,m _ _ e5,e6.imp λ_ _=>KcA.mono (bj m),e7.imp λ_ _=>RrA.mono (bj m)⟩
theorem iO.all{H G:Hp}{p:Addr}{rows:List dj}(R:iO H G p rows):∃vs,G p=some (.lst vs)/\vs.length=rows.length/\aL (RrA (hid [p] G)) vs rows:=by
 obtain⟨old,fr,vs,lo,h1,h2,h3,h4⟩:=R;refine⟨vs,h1,h3,?_⟩;rcases h4 with⟨rfl,_⟩|⟨vi,a,us,ini,w,ws,rfl,rfl,e3,e4,e5,e6,e7⟩
 .match vs,h3 with
  |[],_=>trivial
 .have m:ak (hid [p,lo] G) (hid [p] G):=λb o z=>by
   obtain⟨c,z⟩:=gg.mp z;exact aZ (λw=>c (by simp at w⊢;exact .inl w)) z
  exact(e7.imp λ_ _=>RrA.mono m).snoc ⟨a,lo,us,rfl,m _ _ e4,aZ (by simpa using e3) e5,e6.imp λ_ _=>KcA.mono m⟩
theorem iO.add{H G G':Hp}{p pl pt:Addr}{rows:List dj}{w:Wy}{vs:List V}(R:iO H G p rows)(m:ak G G')(n1:G pl=none)(k1:G' pl=some (.lst []))(n2:G pt=none)(k2:G' pt=some (.tup [.str (tx w.t),.ref pl]))(hv:G' p=some (.lst vs)):iO H (upd G' p (.lst (vs++[.ref pt]))) p (rows++[(w,[])]):=by
 obtain⟨vs',h1,h2,h3⟩:=R.all;obtain⟨old,fr,_⟩:=R;rw[m _ _ h1]at hv;injection hv with hv;injection hv with hv;subst hv;have npl:pl≠p:=λz=>by rw[z,h1]at n1;cases n1
 have npt:pt≠p:=λz=>by rw[z,h1]at n2;cases n2
 have ntl:pt≠pl:=λz=>by rw[z,k1]at k2;cases k2
 have e:hid [p,pl] (upd G' p (.lst (vs'++[.ref pt])))=hid [p,pl] G':=br (by simp);have mm:ak (hid [p] G) (hid [p,pl] G'):=λb o z=>by
  obtain⟨c,z⟩:=gg.mp z;refine aZ (λw=>?_) (m _ _ z);simp only[Ih,H_,or_false]at w c;rcases w with w|w
  .exact c w
  .rw[w,n1]at z;cases z
 refine⟨aW (old.trans m) fr,fr,vs'++[.ref pt],pl,ac,old.free n1,by simp[h2],.inr ⟨vs',pt,[],rows,w,[],rfl,rfl,npl,?_,?_,trivial,?_⟩⟩
 .rw[e];exact aZ (by simp[npt,ntl]) k2
 .rw[aj npl];exact k1
 .rw[e];exact h3.imp λ_ _=>RrA.mono mm
theorem iO.last{H G:Hp}{p:Addr}{ini:List dj}{w:Wy}{ws:List (Kw×Int)}(R:iO H G p (ini++[(w,ws)])):∃vi a lo us,G p=some (.lst (vi++[.ref a]))/\G a=some (.tup [.str (tx w.t),.ref lo])/\G lo=some (.lst us)/\us.length=ws.length/\∀G' pk kc,ak G G'->G pk=none->G' pk=some (.tup [.str kc.1.s,.int kc.2])->iO H (upd G' lo (.lst (us++[.ref pk]))) p (ini++[(w,ws++[kc])]):=by
 obtain⟨old,fr,vs,lo,h1,h2,h3,h4⟩:=R;rcases h4 with⟨e,_⟩|⟨vi,a,us,ini',w',ws',e1,e2,e3,e4,e5,e6,e7⟩
 .simp at e
 .have e2':=List.append_inj' e2 rfl;obtain⟨rfl,e2'⟩:=e2';injection e2' with e2' _;injection e2' with e2a e2b;subst e2a;subst e2b;subst e1;refine⟨vi,a,lo,us,h1,bT _ _ e4,e5,e6.len,λG' pk kc m nk kk=>?_⟩;have e:hid [p,lo] (upd G' lo (.lst (us++[.ref pk])))=hid [p,lo] G':=br (by simp);have n1:pk≠p:=λz=>by rw[z,h1]at nk;cases nk
  have n2:pk≠lo:=λz=>by rw[z,e5]at nk;cases nk
  refine⟨aW (old.trans m) h2,fr,vi++[.ref a],lo,?_,h2,by simpa using h3,.inr ⟨vi,a,us++[.ref pk],ini,w,ws++[kc],rfl,rfl,e3,?_,ac,?_,?_⟩⟩
  .rw[aj (HW e3)];exact m _ _ h1
  .rw[e];exact bj m _ _ e4
  .rw[e];exact(e6.imp λ_ _=>KcA.mono (bj m)).snoc ⟨pk,rfl,aZ (by simp[n1,n2]) kk⟩
  .rw[e];exact e7.imp λ_ _=>RrA.mono (bj m)
inductive WyD where
 |word|eq|way (w:Wy)
def WyD.t:WyD->List Nat
 |.word=>[119,111,114,100]|.eq=>[61]|.way w=>w.t
def Af(wys:List WyD)(w:Wy):Prop:=w=.words\/.way w∈wys\/(w.hd=true/\.eq∈wys)
structure l0(wys:List WyD)(kds:List Kw)(n:Nat)(rows:List dj):Prop where
 len:rows.length<=n
 sum:(rows.map (·.2.length)).sum<=n
 ok:∀r∈rows,Ad kds r/\Af wys r.1
theorem l0.add{wys:List WyD}{kds:List Kw}{n:Nat}{rows:List dj}(h:l0 wys kds n rows){w:Wy}(hw:Af wys w):l0 wys kds (n+1) (rows++[(w,[])]):=by
 refine⟨by rw[GX];have:=h.len;simp only[GU,Hk];omega,by rw[Hc,I0];have:=h.sum;simp;omega,λr hr=>?_⟩;rcases List.mem_append.mp hr with hr|hr
 .exact h.ok r hr
 .rw[List.mem_singleton.mp hr];exact⟨⟨λ_=>rfl,by simp,(λ_ x hx=>by cases hx),(λ_ x hx=>by cases hx),(λx hx=>by cases hx)⟩,hw⟩
theorem BF:(PySem.Str.ofString "word")=tx [119,111,114,100]:=by decide +kernel
theorem jJ:(PySem.Str.ofString "words")=tx [119,111,114,100,115]:=by decide +kernel
theorem at3:∀k:Nat,k<3->∃w:Wy,w.hd=true/\atI [V.str (PySem.Str.ofString "="),V.str (PySem.Str.ofString "=="),V.str (PySem.Str.ofString "===")] (k:Int)=some (.str (tx w.t))
 |0,_=>⟨.h1,rfl,congrArg (λz=>some (V.str z)) cH1⟩
 |1,_=>⟨.h2,rfl,congrArg (λz=>some (V.str z)) cH2⟩
 |2,_=>⟨.h3,rfl,congrArg (λz=>some (V.str z)) cH3⟩
theorem Fl(w:Wy):inV (.str (tx w.t)) [V.str (PySem.Str.ofString ""),V.str (PySem.Str.ofString ".page"),V.str (PySem.Str.ofString ".odd"),V.str (PySem.Str.ofString ".list")]=w.bare:=by
 rw[kM,Dq,Fd,Ab];refine(rB [[],tf,vE,nC]).trans ?_;cases w<;>decide
theorem GL(k:Kw):inV (.str k.s) [V.str (PySem.Str.ofString "mark"),V.str (PySem.Str.ofString "foot")]=(decide (k=.mark)||decide (k=.foot)):=by
 cases k<;>decide +kernel
theorem F6{w:Wy}(h:w.bare=false):∃c u,w.t=c::u/\(decide (c=61)=w.hd):=by
 cases w<;>first|exact⟨_,_,rfl,rfl⟩|cases h

def mkN(ws:List (Kw×Int)):Nat:=(ws.filter λw=>decide (w.1=.mark)).length
def dI(rows:List dj):Nat:=(rows.map λr=>mkN r.2).sum
def ftN(rows:List dj):Nat:=(rows.filter λr=>decide (r.1=.foot)).length
def b1(b:Bool):Nat:=if b then 1 else 0
theorem yh(ws:List (Kw×Int))(w:Kw×Int):mkN (ws++[w])=mkN ws+b1 (decide (w.1=.mark)):=by
 unfold mkN;rw[IH,GX];cases h:decide (w.1=.mark)<;>simp[KA,h,b1]
theorem BG(rows:List dj)(r:dj):dI (rows++[r])=dI rows+mkN r.2:=by unfold dI;simp
theorem yi(rows:List dj)(r:dj):ftN (rows++[r])=ftN rows+b1 (decide (r.1=.foot)):=by
 unfold ftN;rw[IH,GX];cases h:decide (r.1=.foot)<;>simp[KA,h,b1]
theorem yj:∀rows:List dj,(rows.map λr=>((mkN r.2:Nat):Int)).sum=((dI rows:Nat):Int)
 |[]=>rfl
 |r::rs=>by
  have:=yj rs;unfold dI at this⊢;rw[Hj,Im,this,Hj,Im];omega
def WsR(nm:Nat->List Nat)(M F:Nat):Nat->List (Kw×Int)->List NWd->Prop
 |_,[],[]=>True
 |at_,k::r,w::s=>WdG nm k.1 at_ M F w/\WsR nm M F (at_+b1 (decide (k.1=.mark))) r s
 |_,_,_=>False
theorem WsR.snoc{nm:Nat->List Nat}{M F:Nat}{k:Kw×Int}{w:NWd}:∀{ws:List (Kw×Int)} {ds:List NWd} {at_:Nat},WsR nm M F at_ ws ds->WdG nm k.1 (at_+mkN ws) M F w->WsR nm M F at_ (ws++[k]) (ds++[w])
 |[],[],_,_,h=>⟨h,trivial⟩
 |x::ws,d::ds,at_,h,h2=>⟨h.1,WsR.snoc (ws:=ws) h.2 (by
  have:at_+mkN (x::ws)=at_+b1 (decide (x.1=.mark))+mkN ws:=by
   unfold mkN;cases e:decide (x.1=.mark)<;>simp[KA,e,b1]<;>omega
  rw[this]at h2;exact h2)⟩
def yk(nm:Nat->List Nat)(M F at_ hung:Nat)(r:dj)(n:bD):Prop:=n.1=(if r.1=.words/\r.2=[]then .empty else r.1)/\n.2.1=(if r.1=.foot then nm hung else[])/\WsR nm M F at_ r.2 n.2.2
def fA(nm:Nat->List Nat)(M F:Nat):Nat->Nat->List dj->List bD->Prop
 |_,_,[],[]=>True
 |at_,hung,r::rs,n::ns=>yk nm M F at_ hung r n/\fA nm M F (at_+mkN r.2) (hung+b1 (decide (r.1=.foot))) rs ns
 |_,_,_,_=>False
theorem fA.snoc{nm:Nat->List Nat}{M F:Nat}{r:dj}{n:bD}:∀{rs:List dj} {ns:List bD} {at_ hung:Nat},fA nm M F at_ hung rs ns->yk nm M F (at_+dI rs) (hung+ftN rs) r n->fA nm M F at_ hung (rs++[r]) (ns++[n])
 |[],[],_,_,_,h=>⟨h,trivial⟩
 |x::rs,y::ns,at_,hung,h,h2=>⟨h.1,fA.snoc (rs:=rs) h.2 (by
  have e1:at_+dI (x::rs)=at_+mkN x.2+dI rs:=by unfold dI;simp;omega
  have e2:hung+ftN (x::rs)=hung+b1 (decide (x.1=.foot))+ftN rs:=by
   unfold ftN;cases e:decide (x.1=.foot)<;>simp[KA,e,b1]<;>omega
  rw[e1,e2]at h2;exact h2)⟩
def NnA(F:Hp)(v:V)(n:bD):Prop:=∃a l,v=.ref a/\F a=some (.tup [.str (tx n.1.t),.str (tx n.2.1),.ref l])/\cZ F l (wkS n.2.2)
theorem NnA.mono{F F':Hp}(s:ak F F'){v:V}{n:bD}(h:NnA F v n):NnA F' v n:=by
 obtain⟨a,l,e,h1,h2⟩:=h;exact⟨a,l,e,s _ _ h1,h2.mono s⟩
def ug:List bD:=[(.empty,[],[]),(.words,[],[(.plain,[101,110,100])])]
theorem F7:(PySem.Str.ofString "end")=tx [101,110,100]:=by decide +kernel

inductive Sw where
 |w (x:NWd)|head (k:Nat)|entry (k:Nat)|goal (k:Nat)
def Sw.k:Sw->Str
 |.w x=>x.1.s|.head _=>"head" | .entry _=>"entry" | .goal _=>"goal"
def Sw.v:Sw->V
 |.w x=>.str (tx x.2)|.head k=>.int (k:Int)|.entry k=>.int (k:Int)|.goal k=>.int (k:Int)
def SwA(F:Hp)(v:V)(s:Sw):Prop:=∃a,v=.ref a/\F a=some (.tup [.str s.k,s.v])
theorem SwA.mono{F F':Hp}(m:ak F F'){v:V}{s:Sw}(h:SwA F v s):SwA F' v s:=by
 obtain⟨a,e,h⟩:=h;exact⟨a,e,m _ _ h⟩
def Sw.isM:Sw->Bool
 |.w x=>decide (x.1=.mark)
 |_=>false
abbrev Ttl:=List Nat×List NWd
def TtA(F:Hp)(v:V)(t:Ttl):Prop:=∃a l,v=.ref a/\F a=some (.tup [.str (tx t.1),.ref l])/\cZ F l (wkS t.2)
theorem TtA.mono{F F':Hp}(m:ak F F'){v:V}{t:Ttl}(h:TtA F v t):TtA F' v t:=by
 obtain⟨a,l,e,h1,h2⟩:=h;exact⟨a,l,e,m _ _ h1,h2.mono m⟩
def va(tt:List Ttl):List Sw->Nat->List (Str×Nat)
 |[],_=>[]
 |.head k::r,n=>(tx (tt.getD k ([],[])).1,n)::va tt r (n+1)
 |s::r,n=>va tt r (n+(if s.isM then 0 else 1))
def hB(b:Bool):Nat:=if b then 1 else 0
def ttW(t:Ttl):List Sw:=(t.2.filter λx=>!decide (x.1=.mark)).map .w
def pS(tt:List Ttl)(k:Nat):List Sw:=.entry k::(ttW (tt.getD k ([],[]))++[.goal k])
def fI(tt:List Ttl)(n:Nat):List Sw:=(IL n).flatMap (pS tt)
def gY(tt:List Ttl)(h:Nat)(r:bD):List Sw:=if r.1=.words then r.2.2.map .w else if r.1.hd=true then .head h::r.2.2.map .w else if r.1=.lst then fI tt tt.length else[]
def eX(tt:List Ttl):Nat->List bD->List Sw
 |_,[]=>[]
 |h,r::rs=>gY tt h r++eX tt (h+hB r.1.hd) rs
theorem Ds{F:Hp}:∀{ws:List NWd} {vs:List V},b8 F vs (wkS ws)->aL (SwA F) vs (ws.map .w)
 |[],[],_=>trivial
 |_::_,_::_,h=>⟨h.1,Ds h.2⟩
theorem Sw.mark_k{s:Sw}:s.k=(PySem.Str.ofString "mark")↔s.isM=true:=by
 cases s with
 |head k=>exact⟨λh=>absurd h (by show ¬ (("head" : Str)=_);decide +kernel),λh=>by cases h⟩
 |entry k=>exact⟨λh=>absurd h (by show ¬ (("entry" : Str)=_);decide +kernel),λh=>by cases h⟩
 |goal k=>exact⟨λh=>absurd h (by show ¬ (("goal" : Str)=_);decide +kernel),λh=>by cases h⟩
 |w x =>
  show x.1.s=Kw.mark.s↔decide (x.1=.mark)=true;rw[decide_eq_true_iff];exact⟨λh=>Kw.inj h,λh=>by rw[h]⟩
def fh(tt:List Ttl):Sw->Wk
 |.w x=>rC x
 |.head k=>(.plain,.str (tx (tt.getD k ([],[])).1))
 |.entry k=>(.plain,.str (tx (tt.getD k ([],[])).1))
 |.goal k=>(.entry,.int (k:Int))
theorem Ee(tt:List Ttl)(s:Sw):(fh tt s).1=.mark↔s.isM=true:=by
 cases s with
 |w x=>show x.1=.mark↔decide (x.1=.mark)=true;rw[decide_eq_true_iff]
 |head k=>exact⟨λz=>(by cases z),λz=>(by cases z)⟩
 |entry k=>exact⟨λz=>(by cases z),λz=>(by cases z)⟩
 |goal k=>exact⟨λz=>(by cases z),λz=>(by cases z)⟩
def bG(c:Nat×Nat×Nat)(l:Int):Nat×Nat×Nat:=if l=1 then(c.1+1,0,0)else if l=2 then(c.1,c.2.1+1,0)else(c.1,c.2.1,c.2.2+1)
def ctr(ls:List Int):Nat×Nat×Nat:=ls.foldl bG (0,0,0)
def vG(c:Nat×Nat×Nat):List V:=[V.int (c.1:Int),V.int (c.2.1:Int),V.int (c.2.2:Int)]
def eK(c:Nat×Nat×Nat)(l:Int):List Nat:=if l=1 then aX c.1 else if l=2 then aX c.1++[46]++aX c.2.1 else aX c.1++[46]++(aX c.2.1++[46]++aX c.2.2)
def fJ(ls:List Int)(i:Nat):List (List Nat):=(IL i).map λk=>eK (ctr (ls.take (k+1))) (ls.getD k 0)
def nV(n:Nat):V:=V.int (n:Int)
def C6(ls:List Int):Prop:=∀l∈ls,l=1\/l=2\/l=3
theorem Ef{c:Nat×Nat×Nat}{n:Nat}(l:Int)(a:c.1<=n)(b:c.2.1<=n)(d:c.2.2<=n):(bG c l).1<=n+1/\(bG c l).2.1<=n+1/\(bG c l).2.2<=n+1:=by
 obtain⟨x,y,z⟩:=c;dsimp only at a b d;unfold bG;by_cases h:l=1
 .rw[if_pos h];refine⟨?_,?_,?_⟩<;>dsimp only<;>omega
 .rw[if_neg h];by_cases h:l=2
  .rw[if_pos h];refine⟨?_,?_,?_⟩<;>dsimp only<;>omega
  .rw[if_neg h];refine⟨?_,?_,?_⟩<;>dsimp only<;>omega
theorem zD:∀(ls:List Int) (c:Nat×Nat×Nat) (n:Nat),c.1<=n->c.2.1<=n->c.2.2<=n->(ls.foldl bG c).1<=n+ls.length/\(ls.foldl bG c).2.1<=n+ls.length/\(ls.foldl bG c).2.2<=n+ls.length
 |[],c,n,a,b,d=>⟨a,b,d⟩
 |l::r,c,n,a,b,d=>by
  obtain⟨s1,s2,s3⟩:=Ef l a b d;have:=zD r (bG c l) (n+1) s1 s2 s3;rw[KS,GU];omega
theorem lev{z:Int}(h:z=1\/z=2\/z=3)(c:Nat×Nat×Nat){m:Nat}(b1:(bG c z).1<=m)(b2:(bG c z).2.1<=m)(b3:(bG c z).2.2<=m):∃(pre:List V) (k:Int) (cs:List Nat),hJ (vG c) none (some (z-1))=pre/\atI (vG c) (z-1)=some (V.int k)/\pre++[V.int (k+1)]++(Hd (3-z).toNat [V.int 0]).flatten=vG (bG c z)/\pre.length<=2/\(3-z).toNat<=2/\0<=3-z/\3-z<=2/\hJ (vG (bG c z)) none (some z)=cs.map nV/\cs.length<=3/\(∀n∈cs,n<=m)/\cS [46] (cs.map aX)=eK (bG c z) z:=by
 obtain⟨x,y,w⟩:=c;rcases h with rfl|rfl|rfl
 .refine⟨[],x,[x+1],rfl,rfl,rfl,by simp,by decide,by decide,by decide,rfl,by simp,?_,rfl⟩;intro n hn;simp at hn;subst hn;exact b1
 .refine⟨[nV x],y,[x,y+1],rfl,rfl,rfl,by simp,by decide,by decide,by decide,rfl,by simp,?_,rfl⟩;intro n hn;simp at hn;rcases hn with rfl|rfl
  .exact b1
  .exact b2
 .refine⟨[nV x,nV y],w,[x,y,w+1],rfl,rfl,rfl,by simp,by decide,by decide,by decide,rfl,by simp,?_,rfl⟩;intro n hn;simp at hn;rcases hn with rfl|rfl|rfl
  .exact b1
  .exact b2
  .exact b3
theorem BH(ls:List Int):(ctr ls).1<=ls.length/\(ctr ls).2.1<=ls.length/\(ctr ls).2.2<=ls.length:=by
 have:=zD ls (0,0,0) 0 (G_ _) (G_ _) (G_ _);rw[Ki]at this;exact this
theorem C7{ls:List Int}{i:Nat}{z:Int}(h:ls[i]?=some z):ctr (ls.take (i+1))=bG (ctr (ls.take i)) z:=by
 unfold ctr;rw[bb h,Kz];rfl
theorem BI{ls:List Int}{i:Nat}{z:Int}(h:ls[i]?=some z):fJ ls (i+1)=fJ ls i++[eK (ctr (ls.take (i+1))) z]:=by
 unfold fJ;rw[Kb,Hc,Ks,HE,h];rfl
theorem pT(ls:List Int)(i:Nat):(fJ ls i).length=i:=by unfold fJ;rw[GT,Il]
theorem GM:(PySem.Str.ofString ".")=tx [46]:=by decide +kernel
theorem xf{n:Nat}(h:n<=63):(aX n).length<=3:=jY 2 n (by omega)
theorem GN{n:Nat}(h:n<=63):n<10^100:=Hq h (by decide +kernel)
theorem Eg{cs:List Int}{i:Nat}{y:V}(h:(cs.map V.int)[i]?=some y):∃n,y=V.int n/\cs[i]?=some n:=by
 rw[HA]at h;cases e:cs[i]? with
 |none=>rw[e]at h;cases h
 |some w=>rw[e]at h;exact⟨w,(HV h).symm,rfl⟩
theorem Fm{cs:List Nat}{i:Nat}{y:V}(h:(cs.map nV)[i]?=some y):∃n:Nat,y=V.int (n:Int)/\cs[i]?=some n:=by
 rw[HA]at h;cases e:cs[i]? with
 |none=>rw[e]at h;cases h
 |some w=>rw[e]at h;exact⟨w,(HV h).symm,rfl⟩
theorem yl:∀(cs:List Nat),(∀n∈cs,n<=63)->(((cs.map aX).map tx).map (·.length)).sum<=3*cs.length
 |[],_=>G_ _
 |n::r,h=>by
  have h1:=yl r (λm hm=>h m (Hb _ hm));have h2:=xf (h n He);rw[Hj,Hj,Hj,Im,bf,GU];omega
end K63
namespace K63
open PySem PySem.Spec L2 Tl

theorem lts{t:TS}{D:dZ}{σ:St}{H:Hp}(k:let D':=D;let s':=σ;t D' s' H):t D σ H:=k
local macro_rules | `(tactic| refine ⟨$a,$as,*⟩)=>`(tactic| ((try (refine lts ?_; intro _ _)); refine (⟨$a,$as,*⟩)))
local macro_rules | `(tactic| exact ⟨$a,$as,*⟩)=>`(tactic| ((try (refine lts ?_; intro _ _)); exact (⟨$a,$as,*⟩)))
local macro_rules | `(tactic| walk_at "c")=>`(tactic| exact (⟨rfl,rfl,rfl,by decide +kernel,rfl,by decide +kernel,by decide +kernel⟩))
noncomputable abbrev nU:Stmt:=top 57
noncomputable abbrev uh:Stmt:=top 58
noncomputable abbrev ui:Stmt:=top 61
noncomputable abbrev uj:Stmt:=top 62
noncomputable abbrev nW:Stmt:=top 59
noncomputable abbrev l7:Stmt:=top 63
noncomputable abbrev uk:Stmt:=top 65
noncomputable abbrev rE:Stmt:=top 67
noncomputable abbrev pU:Stmt:=top 70
noncomputable abbrev pV:Stmt:=top 69
noncomputable abbrev pW:Stmt:=top 72
noncomputable abbrev l8:Stmt:=top 20
noncomputable abbrev l9:Stmt:=top 23
noncomputable abbrev kO:Stmt:=bx 55 0
noncomputable abbrev fX:Stmt:=bx 55 8
noncomputable abbrev iP:Stmt:=bx 55 5
noncomputable abbrev hZ:Stmt:=bx 55 7
noncomputable abbrev iQ:Stmt:=bx 55 6
noncomputable abbrev jo:Stmt:=bx 55 4
noncomputable abbrev iR:Stmt:=bx 55 2
noncomputable abbrev iS:Stmt:=bx 55 3
noncomputable abbrev h_:Stmt:=bx 55 1
noncomputable abbrev ia:Stmt:=bx 55 11
noncomputable abbrev ib:Stmt:=bx 55 10
noncomputable abbrev gx:Stmt:=bx 55 9
noncomputable abbrev kP:Stmt:=bx 49 0
noncomputable abbrev ic:Stmt:=bx 49 6
noncomputable abbrev gy:Stmt:=bx 49 4
noncomputable abbrev rF:Stmt:=top 19
noncomputable abbrev rG:Stmt:=top 21
noncomputable abbrev rH:Stmt:=top 39
noncomputable abbrev l_:Stmt:=top 41
noncomputable abbrev nX:Stmt:=top 43
noncomputable abbrev rJ:Stmt:=top 38
noncomputable abbrev rK:Stmt:=top 30
noncomputable abbrev md:Stmt:=top 28
noncomputable abbrev rL:Stmt:=top 26
noncomputable abbrev ie:Stmt:=bx 49 7
noncomputable abbrev ig:Stmt:=bx 49 3
noncomputable abbrev gz:Stmt:=bx 49 5
noncomputable abbrev iT:Stmt:=bx 49 1
noncomputable abbrev pX:Stmt:=top 18
noncomputable abbrev nY:Stmt:=top 48
noncomputable abbrev nZ:Stmt:=top 54
noncomputable abbrev n9:Stmt:=top 74
noncomputable abbrev n_:Stmt:=top 73
noncomputable abbrev um:Stmt:=top 66
noncomputable abbrev pY:Stmt:=top 75
noncomputable abbrev oa:Stmt:=top 60
noncomputable abbrev og:Stmt:=top 64
noncomputable abbrev uo:Stmt:=top 68
noncomputable abbrev Ag:Stmt:=top 76
set_option genInjectivity false in
structure AdD where
 (oA:Addr)(mC:Hm)(uA:Addr)(sF:Hm)(uB:Addr)(sI:Hm)(uC:Addr)(sJ:Hm)(oF:Addr)(mJ:Hm)(mw:Addr)(kW:Hm)(uF:Addr)(sM:Hm)(sA:Addr)(qz:Hm)(qr:Addr)(oN:Hm)(qt:Addr)(oO:Hm)(qp:Addr)(oK:Hm)(mv:Addr)(kU:Hm)(mx:Addr)(kX:Hm)(kT:Addr)(j9:Hm)(f_:Addr)(fN:Hm)(i9:Addr)(iG:Hm)(iz:Addr)(gQ:Hm)(i_:Addr)(iH:Hm)(jp:Addr)(ja:Hm)(i7:Addr)(iE:Hm)(i8:Addr)(iF:Hm)(iC:Addr)(gT:Hm)(iA:Addr)(gR:Hm)(iB:Addr)(gS:Hm)(gM:Addr)(ge:Hm)(kS:Addr)(j7:Hm)(ir:Addr)(gN:Hm)(gK:Addr)(gb:Hm)(sx:Addr)(qx:Hm)(sy:Addr)(qy:Hm)(su:Addr)(qw:Hm)(mB:Addr)(kZ:Hm)(oJ:Addr)(mO:Hm)(sD:Addr)(qB:Hm)(sC:Addr)(qA:Hm)(my:Addr)(kY:Hm)(sE:Addr)(qC:Hm)(iy:Addr)(gP:Hm)(iu:Addr)(gO:Hm)(gL:Addr)(gc:Hm)(i6:Addr)(iD:Hm)(qu:Addr)(oP:Hm)(oH:Addr)(mL:Hm)(oI:Addr)(mM:Hm)(oC:Addr)(mE:Hm)(oE:Addr)(mI:Hm)(uD:Addr)(sK:Hm)(qq:Addr)(oM:Hm)(oB:Addr)(mD:Hm)(oG:Addr)(mK:Hm)(uE:Addr)(sL:Hm)(AA:Addr)(vh:Hm)(bK:Addr)(aI:Addr)
set_option genInjectivity false in
structure Adr extends AdD where
 (ju jv eU dg eZ cK c7 cM eN aE aF cN aA bC aH:Addr)
structure TxD(K:PySem.W.Frag)(mg:Str->Option GV)(a:AdD):Prop where
 bF:nz K mg "Reader" a.bK
 jq:dr K a.bK "shorts"
 fR:dr K a.bK "feet"
 eO:dr K a.bK "things"
 dh:dr K a.bK "going_on"
 aD:nz K mg "Setter" a.aI
 fC:dr K a.aI "numbers"
 gf:dr K a.aI "titles"
 fS:dr K a.aI "feet"
 dW:dr K a.aI "feet_set"
 cE:dr K a.aI "words"
 cC:dr K a.aI "marks"
 dw:dr K a.aI "heads"
 cW:dr K a.aI "leap"
 di:dr K a.aI "behind_head"
 oh:bY K mg "_law_cell_at" nU ["script","k"] a.oA a.mC
 bz:bY K mg "_law_draw" uh ["cell","k","many"] a.uA a.sF
 uw:bY K mg "_law_form" ui ["cell"] a.uB a.sI
 f9:bY K mg "_law_name" uj ["cell","j"] a.uC a.sJ
 oq:bY K mg "_law_sign_by" nW ["cell","k"] a.oF a.mJ
 mo:bY K mg "_law_plain_by" l7 ["cell"] a.mw a.kW
 uz:bY K mg "_law_word" uk ["first","kind","cell","at","marks","feet"] a.uF a.sM
 si:bY K mg "_law_named" rE ["rows","first"] a.sA a.qz
 lN:bY K mg "_law_stream" pU ["named","titles"] a.qr a.oN
 lO:bY K mg "_law_titles" pV ["named"] a.qt a.oO
 ql:bY K mg "_law_padded" pW ["named","first"] a.qp a.oK
 jN:bY K mg "figures_of" l8 ["number"] a.mv a.kU
 mq:bY K mg "numbers_of" l9 ["levels"] a.mx a.kX
 kR:c6 K a.aI "__init__" "Setter.__init__" kO ["self","all_heads","feet"] a.kT a.j9
 f8:c6 K a.aI "check_marks" "Setter.check_marks" fX ["self"] a.f_ a.fN
 i4:c6 K a.aI "set_mark" "Setter.set_mark" iP ["self","name"] a.i9 a.iG
 io:c6 K a.aI "next_foot" "Setter.next_foot" hZ ["self","name"] a.iz a.gQ
 i5:c6 K a.aI "set_word" "Setter.set_word" iQ ["self","lead","word"] a.i_ a.iH
 dL:c6 K a.aI "set_run" "Setter.set_run" jo ["self","lead","words","by_head"] a.jp a.ja
 iY:c6 K a.aI "set_head" "Setter.set_head" iR ["self","k"] a.i7 a.iE
 iZ:c6 K a.aI "set_list" "Setter.set_list" iS ["self"] a.i8 a.iF
 iq:c6 K a.aI "set_thing" "Setter.set_thing" h_ ["self","thing"] a.iC a.gT
 ip:c6 K a.aI "number_at" "Setter.number_at" ia ["self","k"] a.iA a.gR
 e9:c6 K a.aI "saying_of" "Setter.saying_of" ib ["self","word"] a.iB a.gS
 gJ:c6 K a.aI "words_told" "Setter.words_told" gx ["self"] a.gM a.ge
 kQ:c6 K a.bK "__init__" "Reader.__init__" kP ["self"] a.kS a.j7
 dR:c6 K a.bK "add_thing" "Reader.add_thing" ic ["self","thing"] a.ir a.gN
 gH:c6 K a.bK "read_alone" "Reader.read_alone" gy ["self","words"] a.gK a.gb
 kG:bY K mg "is_name" rF ["word"] a.sx a.qx
 sh:bY K mg "kind_of" rG ["word"] a.sy a.qy
 se:bY K mg "by_name" rH ["shorts"] a.su a.qw
 mt:bY K mg "size_among" l_ ["named","nodes","count"] a.mB a.kZ
 oz:bY K mg "words_out" nX ["named","nodes","arguments"] a.oJ a.mO
 sk:bY K mg "put_out" rJ ["shorts","nodes"] a.sD a.qB
 sj:bY K mg "node_of" rK ["word","count"] a.sC a.qA
 mr:bY K mg "opens_call" md ["word"] a.my a.kY
 sr:xW K mg "tree_of" rL ["words","count"] a.sE a.qC .none
 dS:c6 K a.bK "words_out" "Reader.words_out" ie ["self","words","barred"] a.iy a.gP
 im:c6 K a.bK "read_foot" "Reader.read_foot" ig ["self","words"] a.iu a.gO
 gI:c6 K a.bK "read_words" "Reader.read_words" gz ["self","words"] a.gL a.gc
 iX:c6 K a.bK "read_row" "Reader.read_row" iT ["self","words"] a.i6 a.iD
 qo:bY K mg "words_in" pX ["row"] a.qu a.oP
 ox:bY K mg "read_rows" nY ["rows"] a.oH a.mL
 oy:bY K mg "set_words" nZ ["rows","form"] a.oI a.mM
 om:bY K mg "_law_refusal" n9 ["rows","form"] a.oC a.mE
 on:bY K mg "_law_refused" n_ ["stream","feet"] a.oE a.mI
 ux:bY K mg "_law_rows" um ["script","ways","kinds"] a.uD a.sK
 qm:bY K mg "_law_spaced" pY ["rows","first"] a.qq a.oM
 oj:bY K mg "_law_is_name" oa ["word"] a.oB a.mD
 ou:bY K mg "_law_written" og ["kind","rest"] a.oG a.mK
 uy:bY K mg "_law_text" uo ["way","name","words"] a.uE a.sL
 xg:bY K mg "law" Ag ["script"] a.AA a.vh
structure Txt(P:HB)(w:HF)(K:PySem.W.Frag)(mg:Str->Option GV)(a:Adr):Prop extends TxD K mg a.toAdD where
 fT:mg "ValueError" = none
 tD:mg "all" = none
 pC:mg "dict" = none
 fq:mg "enumerate" = none
 tE:mg "int" = none
 bU:mg "isinstance" = none
 cr:mg "len" = none
 nO:mg "max" = none
 tF:mg "min" = none
 gv:mg "range" = none
 qE:mg "str" = none
 tG:mg "sum" = none
 wz:jf K mg "BadCall" a.cK
 yS:jf K mg "BadRow" a.c7
 wA:jf K mg "BadWord" a.cM
 B8:jf K mg "Deep" a.eN
 uG:jf K mg "NoFoot" a.aE
 qD:jf K mg "NoMark" a.aF
 wB:jf K mg "NoShort" a.cN
 sN:jf K mg "TooLong" a.aA
 nN:jf K mg "TrueleafError" a.bC
 vO:jf K mg "Twice" a.aH
 cI:jB K a.aH a.bC
 cz:jB K a.aE a.bC
 cj:jB K a.aA a.bC
 cA:jB K a.aF a.bC
 c8:jD K a.aH=true
 cO:jD K a.aE=true
 cq:jD K a.aA=true
 cQ:jD K a.aF=true
 pB:PySem.W.kitOne K (.ref a.aH) (.ref a.aH)=some true
 nK:PySem.W.kitOne K (.ref a.aH) (.ref a.aE)=some false
 mZ:PySem.W.kitOne K (.ref a.aH) (.ref a.aA)=some false
 nM:PySem.W.kitOne K (.ref a.aH) (.ref a.aF)=some false
 jS:PySem.W.kitOne K (.ref a.aH) (.type "ValueError")=some true
 nJ:PySem.W.kitOne K (.ref a.aH) (.ref a.c7)=some false
 mW:PySem.W.kitOne K (.ref a.aH) (.ref a.cK)=some false
 mX:PySem.W.kitOne K (.ref a.aH) (.ref a.cM)=some false
 qH:PySem.W.kitOne K (.ref a.aH) (.ref a.eN)=some false
 mY:PySem.W.kitOne K (.ref a.aH) (.ref a.cN)=some false
 nG:PySem.W.kitOne K (.ref a.aE) (.ref a.aH)=some false
 mQ:PySem.W.kitOne K (.ref a.aE) (.ref a.aE)=some true
 lj:PySem.W.kitOne K (.ref a.aE) (.ref a.aA)=some false
 mR:PySem.W.kitOne K (.ref a.aE) (.ref a.aF)=some false
 jO:PySem.W.kitOne K (.ref a.aE) (.type "ValueError")=some true
 mP:PySem.W.kitOne K (.ref a.aE) (.ref a.c7)=some false
 k_:PySem.W.kitOne K (.ref a.aE) (.ref a.cK)=some false
 lg:PySem.W.kitOne K (.ref a.aE) (.ref a.cM)=some false
 pz:PySem.W.kitOne K (.ref a.aE) (.ref a.eN)=some false
 li:PySem.W.kitOne K (.ref a.aE) (.ref a.cN)=some false
 mV:PySem.W.kitOne K (.ref a.aA) (.ref a.aH)=some false
 lC:PySem.W.kitOne K (.ref a.aA) (.ref a.aE)=some false
 kK:PySem.W.kitOne K (.ref a.aA) (.ref a.aA)=some true
 lD:PySem.W.kitOne K (.ref a.aA) (.ref a.aF)=some false
 jw:PySem.W.kitOne K (.ref a.aA) (.type "ValueError")=some true
 lB:PySem.W.kitOne K (.ref a.aA) (.ref a.c7)=some false
 kH:PySem.W.kitOne K (.ref a.aA) (.ref a.cK)=some false
 kI:PySem.W.kitOne K (.ref a.aA) (.ref a.cM)=some false
 nI:PySem.W.kitOne K (.ref a.aA) (.ref a.eN)=some false
 kJ:PySem.W.kitOne K (.ref a.aA) (.ref a.cN)=some false
 nH:PySem.W.kitOne K (.ref a.aF) (.ref a.aH)=some false
 mT:PySem.W.kitOne K (.ref a.aF) (.ref a.aE)=some false
 lA:PySem.W.kitOne K (.ref a.aF) (.ref a.aA)=some false
 mU:PySem.W.kitOne K (.ref a.aF) (.ref a.aF)=some true
 jP:PySem.W.kitOne K (.ref a.aF) (.type "ValueError")=some true
 mS:PySem.W.kitOne K (.ref a.aF) (.ref a.c7)=some false
 lm:PySem.W.kitOne K (.ref a.aF) (.ref a.cK)=some false
 lq:PySem.W.kitOne K (.ref a.aF) (.ref a.cM)=some false
 pA:PySem.W.kitOne K (.ref a.aF) (.ref a.eN)=some false
 lx:PySem.W.kitOne K (.ref a.aF) (.ref a.cN)=some false
 gt:mg "ALONE" = some (.ref a.ju)/\∀H,SqT K H a.ju [.str (PySem.Str.ofString ".page"),.str (PySem.Str.ofString ".odd"),.str (PySem.Str.ofString ".list")]
 eB:∃t,mg "FIGURES" = some (.str (PySem.Str.ofString "0123456789") t)
 gu:mg "HEADS" = some (.ref a.jv)/\∀H,SqT K H a.jv [.str (PySem.Str.ofString "="),.str (PySem.Str.ofString "=="),.str (PySem.Str.ofString "===")]
 fP:mg "KINDS" = some (.ref a.eU)/\vq P w K a.eU lI
 fQ:mg "LEAPS" = some (.ref a.dg)/\vq P w K a.dg gX
 dU:∃t,mg "LETTERS" = some (.str (PySem.Str.ofString "abcdefghijklmnopqrstuvwxyz") t)
 cx:∃t,mg "LONGEST_NAME" = some (.int 12 t)
 cy:∃t,mg "LONGEST_TEXT" = some (.int 60 t)
 c4:∃t,mg "MOST_CALLS" = some (.int 400 t)
 bX:∃t,mg "MOST_FOOT_WORDS" = some (.int 39 t)
 bH:∃t,mg "MOST_WORDS_books" = some (.int 400 t)
 bI:∃t,mg "MOST_WORDS_shorts" = some (.int 400 t)
 dO:mg "POINTING" = some (.ref a.eZ)/\∀H,SqT K H a.eZ [.str (PySem.Str.ofString "number"),.str (PySem.Str.ofString "page"),.str (PySem.Str.ofString "row")]
section
variable {P:HB}{w:HF}{K:PySem.W.Frag}{mg:Str->Option GV}{base:Heap}{a:Adr}

def ym(K:PySem.W.Frag):Sp:=λvs H Q _=>∃(b:Addr) (ns:List Int) (k:Nat),vs=[.ref b,.int (k:Int)]/\SqL K H b (ns.map V.int)/\Q (.int (ns.getD k 0)) H
theorem yn:aN ["script","k"] ["script","k"] (au nU):=by walk_at "c"
theorem yo(T:Txt P w K mg a):bi P w K mg base CX0 1 a.oA a.mC ["script","k"] (ym K):=by
 refine T.oh.fn.ok yn (λvs H Q E h=>?_) (λcdv A outer s H vs Q E hr h=>?_)
 .obtain⟨b,ns,k,rfl,_⟩:=h;rfl
 obtain⟨b,ns,k,rfl,hS,q⟩:=h;refine⟨_,(ag (aR (ao wW (pv 1) (aV bN rfl T.cr PySem.boot_len (aa (pv 0) ae)) (nomark _)) (ai (aP (aS bS (pv 0) (pv 1) (λ_ _=>rfl)))) aM)
   (ai (aP ah))),?_⟩
 refine⟨_,rfl,_,rfl,_,_,rfl,.inl hS,_,_,rfl,rfl,_,rfl,?_⟩;refine d_ (λc=>?_) (λc=>?_)
 .have hk:k<ns.length:=by
   have:=of_decide_eq_true c;rw[GT]at this;omega
  refine⟨_,rfl,_,rfl,_,_,_,_,rfl,rfl,hS,dy (j:=k) (v:=.int (ns.getD k 0)) ?_,q⟩;rw[HA,GZ hk,HE,GZ hk];rfl
 .have hk:ns.length<=k:=by
   refine Ju λhk=>c (decide_eq_true ?_);rw[GT];omega
  have e:ns.getD k 0=0:=by rw[HE,Jo hk];rfl
  rw[e]at q;exact q
def bJ(c k m:Int):Int:=(c+1)*(48271+7919*k*k)%2147483647*((c+1)*(48271+7919*k*k)%2147483647)%2147483629/7%m
theorem dJ(c k:Int){m:Int}(h:0<m):0<=bJ c k m/\bJ c k m<m:=⟨Int.emod_nonneg _ (by omega),Int.emod_lt_of_pos _ h⟩
theorem F8{k:Int}(h0:0<=k)(h1:k<=100000):0<=7919*k*k/\7919*k*k<=79190000000000:=by
 have a:=Int.mul_nonneg h0 h0;have b:k*k<=100000*100000:=Int.mul_le_mul h1 h1 h0 (by decide);rw[Int.mul_assoc];omega
def BJ:Sp:=λvs H Q _=>∃c k m:Int,vs=[.int c,.int k,.int m]/\(0<=k/\k<=100000)/\0<m/\Q (.int (bJ c k m)) H
theorem wt:aN ["cell","k","many","number"] ["cell","k","many"] (au uh):=by walk_at "c"
theorem bv(T:Txt P w K mg a):bi P w K mg base CX0 1 a.uA a.sF ["cell","k","many"] BJ:=by
 refine T.bz.fn.ok wt (λvs H Q E h=>?_) (λcdv A outer s H vs Q E hr h=>?_)
 .obtain⟨c,k,m,rfl,_⟩:=h;rfl
 obtain⟨c,k,m,rfl,⟨h0,h1⟩,hm,q⟩:=h;refine⟨_,(ag (ay (i:=3) wt.nd rfl (Hh rfl) (aK kj (aK uP (aK bZ (pv 0) ah) (aK bZ ah (aK uP (aK uP ah (pv 1)) (pv 1)))) ah))
   (ai (aP (aK kj (aK sQ (aK kj (aK uP (pv 3) (pv 3)) ah) ah) (pv 2))))),?_⟩
 have sq:=F8 h0 h1;refine⟨_,rfl,_,_,rfl,rfl,_,rfl,_,_,rfl,rfl,.inl ⟨by decide,by decide⟩,_,rfl,_,_,rfl,rfl,.inr ⟨by omega,by omega⟩,_,_,rfl,rfl,_,_,rfl,rfl,.inr ⟨by omega,by omega⟩,_,_,rfl,rfl,(by decide:(0:Int)<2147483647),?_⟩;refine⟨_,rfl,_,rfl,_,_,rfl,rfl,.inl ⟨by omega,by omega⟩,_,_,rfl,rfl,(by decide:(0:Int)<2147483629),_,_,rfl,rfl,⟨by decide,by decide⟩,_,rfl,_,_,rfl,rfl,hm,?_⟩;exact q
theorem ii(c k:Int){m:Nat}(h:0<m):∃d:Nat,bJ c k (m:Int)=(d:Int)/\d<m:=by
 have:=dJ c k (show(0:Int)<(m:Int) by omega);exact⟨(bJ c k m).toNat,by omega,by omega⟩

theorem at4(a b c d:Int):∀k:Nat,k<4->∃w,atI [V.int a,V.int b,V.int c,V.int d] (k:Int)=some (V.int w)
 |0,_=>⟨a,rfl⟩
 |1,_=>⟨b,rfl⟩
 |2,_=>⟨c,rfl⟩
 |3,_=>⟨d,rfl⟩

def BK:Sp:=λvs H Q _=>∃c:Int,vs=[.int c]/\∀p H' (x y z u:Int),H p=none->ak H H'->H' p=some (.tup [.int x,.int y,.int z,.int u])->Q (.ref p) H'
theorem wu:aN ["cell","wide"] ["cell"] (au ui):=by walk_at "c"
theorem BL(T:Txt P w K mg a):bi P w K mg base CX0 2 a.uB a.sI ["cell"] BK:=by
 refine T.uw.fn.ok wu (λvs H Q E h=>?_) (λcdv A outer s H vs Q E hr h=>?_)
 .obtain⟨c,rfl,_⟩:=h;rfl
 obtain⟨c,rfl,q⟩:=h;refine⟨_,(ag (ay (i:=1) wu.nd rfl (Hh rfl) (aS bS (aU (aa (aK bZ ah (aC T.bz (bv T) (hr.mono (by decide)) rfl (aa (pv 0) (aa ah (aa ah ae))))) (aa ah (aa ah (aa (aK bZ ah (aC T.bz (bv T) (hr.mono (by decide)) rfl (aa (pv 0) (aa ah (aa ah ae))))) ae))))) (aC T.bz (bv T) (hr.mono (by decide)) rfl (aa (pv 0) (aa ah (aa ah ae)))) (λ_ _=>rfl)))
   (ai (aP (aY (aa (pv 1) (aa (aK bZ ah (aC T.bz (bv T) (hr.mono (by decide)) rfl (aa (pv 0) (aa ah (aa ah ae))))) (aa (aK kj (pv 0) (aK bZ (aK EJ ah ah) ah)) (aa (aK bZ ah (aC T.bz (bv T) (hr.mono (by decide)) rfl (aa (pv 0) (aa ah (aa ah ae))))) ae)))))))),?_⟩
 obtain⟨n,en,hn⟩:=ii c 77 (show 0<4 by decide);have en:bJ c 77 4=(n:Int):=en;refine⟨_,rfl,_,75,200,rfl,⟨by decide,by decide⟩,by decide,_,_,rfl,rfl,_,rfl,_,76,30,rfl,⟨by decide,by decide⟩,by decide,_,_,rfl,rfl,le4,λp1 hp1=>?_⟩;obtain⟨w,hw⟩:=at4 (1+bJ c 75 200) 1 200 (1+bJ c 76 30) n hn;refine⟨_,rfl,_,77,4,rfl,⟨by decide,by decide⟩,by decide,_,_,_,_,rfl,rfl,SqL.of ac,(by rw[en];exact hw),?_⟩;refine⟨_,rfl,_,rfl,_,78,60,rfl,⟨by decide,by decide⟩,by decide,_,_,rfl,rfl,_,rfl,_,_,rfl,rfl,⟨by decide,by decide,by decide⟩,_,_,rfl,rfl,_,_,rfl,rfl,(by show(0:Int)<10^I_ 60+1;decide),_,rfl,_,79,60,rfl,⟨by decide,by decide⟩,by decide,_,_,rfl,rfl,le4,λp2 hp2=>?_⟩;exact q p2 _ _ _ _ _ ((af hp1 _).free hp2) ((af hp1 _).trans (af hp2 _)) ac

def iU(c:Int):List Nat:=(bJ c 60 26).toNat::(IL (bJ c 57 10).toNat).map λ(k:Nat)=>(bJ c (61+(k:Int)) 36).toNat
def mf(c:Int):Nat:=1+(bJ c 58 (1+bJ c 57 10)).toNat
def gZ(c:Int)(j:Nat):List Nat:=(nmB (iU c) (mf c) j).map al
theorem Ah(c:Int):ue (iU c) (mf c):=by
 have h1:=dJ c 57 (show(0:Int)<10 by decide);have h2:=dJ c 58 (show(0:Int)<1+bJ c 57 10 by omega);have h3:=dJ c 60 (show(0:Int)<26 by decide);refine⟨?_,?_,?_,?_,?_⟩
 .unfold iU;simp only[GU,GT,Il];omega
 .intro b hb;have:b=(bJ c 60 26).toNat:=by simpa[iU]using hb.symm
  omega
 .intro b hb;rcases List.mem_cons.mp hb with rfl|hb
  .omega
  .obtain⟨k,_,rfl⟩:=List.mem_map.mp hb;have:=dJ c (61+(k:Int)) (show(0:Int)<36 by decide);omega
 .unfold mf;omega
 .unfold mf iU;simp only[GU,GT,Il];omega
theorem F9(c:Int):NmF (gZ c):=(Ah c).nmF

def BM:Sp:=λvs H Q _=>∃(c:Int) (j:Nat),vs=[.int c,.int (j:Int)]/\∀H',ak H H'->Q (.str (tx (gZ c j))) H'
theorem kC:aN ["cell","j","some","size","base","at"] ["cell","j"] (au uj):=by walk_at "c"
theorem ij(T:Txt P w K mg a):bi P w K mg base CX0 2 a.uC a.sJ ["cell","j"] BM:=by
 refine T.f9.fn.ok kC (λvs H Q E h=>?_) (λcdv A outer s H vs Q E hr h=>?_)
 .obtain⟨c,j,rfl,_⟩:=h;rfl
 obtain⟨c,j,rfl,q⟩:=h;refine⟨_,(ag (ay (i:=2) kC.nd rfl (Or.inr rfl) am)
   (ag (ay (i:=3) kC.nd rfl (Hh rfl) (aK bZ ah (aC T.bz (bv T) (hr.mono (by decide)) rfl (aa (pv 0) (aa ah (aa ah ae))))))
   (ag (ay (i:=4) kC.nd rfl (Hh rfl) (aK dM (aS eV (pv 2) (aC T.bz (bv T) (hr.mono (by decide)) rfl (aa (pv 0) (aa ah (aa ah ae)))) (λ_ _=>rfl)) (cp PySem.F.plainAttrs_str PySem.F.slot_str_join PySem.F.type_str_join oW am (aa (gW rfl (fb (caps:=["cell","some"]) (js:=[0,2]) (cap:=⟨⟨rfl,.inl rfl,rfl,.inl rfl⟩,⟨⟨rfl,.inl rfl,rfl,.inl rfl⟩,trivial⟩⟩)) (qX rfl T.gv (aa (aK ki (pv 3) ah) ae)) (λ_ _ _ _=>dY) (λ_ _ _ _=>(aS eV (pv 2) (aC T.bz (bv T) (hr.mono (by decide)) rfl (aa (pv 1) (aa (aK bZ ah (pv 0)) (aa ah ae)))) (λ_ _=>rfl)))) ae))))
   (ag (ay (i:=5) kC.nd rfl (Hh rfl) (aK bZ ah (aC T.bz (bv T) (hr.mono (by decide)) rfl (aa (pv 0) (aa ah (aa (pv 3) ae))))))
   (ai (aP (aK dM (aK dM (aK dM (dF kz (pv 4) eS (dX (pv 5))) (aS eV (pv 2) (aK kj (aK sQ (pv 1) ah) ah) (λ_ _=>rfl))) (aS eV (pv 2) (aK kj (pv 1) ah) (λ_ _=>rfl))) (dF kz (pv 4) (dX (pv 5)) eS)))))))),?_⟩
 generalize hS:(PySem.Str.ofString "abcdefghijklmnopqrstuvwxyz0123456789")=S;have hat:∀k:Nat,k<36->atI S.cps.toList (k:Int)=some (al k):=hS▸Ec;have hSl:S.length<=Hs:=hS▸aJ (by decide +kernel);have h1:=dJ c 57 (show(0:Int)<10 by decide);have h2:=dJ c 58 (show(0:Int)<1+bJ c 57 10 by omega);have h3:=dJ c 60 (show(0:Int)<26 by decide);refine⟨_,rfl,_,57,10,rfl,⟨by decide,by decide⟩,by decide,_,_,rfl,rfl,?_⟩;dsimp only[bB];have e60:bJ c 60 26=((bJ c 60 26).toNat:Int):=by omega
 refine⟨_,rfl,_,rfl,_,60,26,rfl,⟨by decide,by decide⟩,by decide,_,_,al (bJ c 60 26).toNat,rfl,rfl,hSl,(by rw[e60];exact hat _ (by omega)),rfl,_,rfl,_,_,rfl,rfl,_,rfl,by omega,by omega,lS (λi ys G=>G=H/\ys=(((IL i).map λ(k:Nat)=>al (bJ c (61+(k:Int)) 36).toNat).map λd=>tx [d]).map V.str) ⟨rfl,rfl⟩ ?_ ?_ ?_⟩
 .rintro i ys G hi ⟨_,rfl⟩;simp only[GT,Il];exact aB (by omega)
 .rintro i ys G hi ⟨rfl,rfl⟩;refine eI ?_;have h4:=dJ c (61+(i:Int)) (show(0:Int)<36 by decide);have e4:bJ c (61+(i:Int)) 36=((bJ c (61+(i:Int)) 36).toNat:Int):=by omega
  refine⟨_,rfl,_,rfl,_,rfl,_,_,rfl,rfl,c,61+(i:Int),36,(by rw[Ln];rfl),⟨by omega,by omega⟩,by decide,_,_,al (bJ c (61+(i:Int)) 36).toNat,rfl,rfl,hSl,(by rw[e4];exact hat _ (by omega)),rfl,?_⟩;rw[Kb,Hc,Hc,Hc];rfl
 rintro ys G ⟨rfl,rfl⟩ p hp;have en:(1+bJ c 57 10-1).toNat=(bJ c 57 10).toNat:=by omega
 rw[en];have hb:(al (bJ c 60 26).toNat::((IL (bJ c 57 10).toNat).map λ(k:Nat)=>al (bJ c (61+(k:Int)) 36).toNat))=(iU c).map al:=by
  unfold iU;rw[Hj,II];rfl
 have bl:(iU c).length=1+(bJ c 57 10).toNat:=by unfold iU;simp only[GU,GT,Il];omega
 refine⟨_,_,_,rfl,rfl,SqL.of ac,by decide,by simp only[vF,GT,Il];omega,_,_,rfl,rfl,(by rw[ej1,bf,bf];simp only[GT,Il,GU,Hk];exact HM (aB (by omega))),?_⟩;dsimp only[bB];rw[ej1,eJ,List.singleton_append,hb];have s1:=af hp (.lst ((((IL (bJ c 57 10).toNat).map λ(k:Nat)=>al (bJ c (61+(k:Int)) 36).toNat).map λd=>tx [d]).map V.str));generalize upd G p _=G1 at s1⊢;refine⟨_,rfl,_,rfl,c,58,1+bJ c 57 10,rfl,⟨by decide,by decide⟩,by omega,_,_,rfl,rfl,?_⟩;dsimp only[bB];have ea:1+bJ c 58 (1+bJ c 57 10)=((mf c:Nat):Int):=by unfold mf;omega
 rw[ea];have la:mf c<=(iU c).length:=(Ah c).hi;have l10:=(Ah c).len;have q1:(j:Int)/36%36=((j/36%36:Nat):Int):=by omega
 have q2:(j:Int)%36=((j%36:Nat):Int):=by omega
 have sl1:Txt.slice (tx ((iU c).map al)) none (some ((mf c:Nat):Int))=tx (((iU c).take (mf c)).map al):=by rw[fc,Tl.cut_to,List.map_take]
 have sl2:Txt.slice (tx ((iU c).map al)) (some ((mf c:Nat):Int)) none=tx (((iU c).drop (mf c)).map al):=by rw[fc,Tl.cut_from,List.map_drop]
 have hla:((iU c).map al).length<=10:=by rw[GT];exact l10
 have LN:(tx ((iU c).map al)).length<=Hs:=by rw[bf];exact HM (aB (by omega))
 refine⟨_,rfl,_,rfl,_,rfl,_,rfl,LN,_,rfl,_,rfl,_,_,rfl,rfl,⟨by decide,by decide⟩,_,_,rfl,rfl,(by (first|decide|(show(0:Int)<_;first|decide|omega))),_,_,al (j/36%36),rfl,rfl,hSl,(by rw[q1];exact hat _ (KP _ (by decide))),_,_,rfl,rfl,(by rw[sl1,bf];simp only[GT,HD];exact HM (aB (by show min _ _+1<=1000;omega))),_,rfl,_,rfl,_,_,rfl,rfl,(by (first|decide|(show(0:Int)<_;first|decide|omega))),_,_,al (j%36),rfl,rfl,hSl,(by rw[q2];exact hat _ (KP _ (by decide))),_,_,rfl,rfl,?_,_,rfl,_,rfl,_,rfl,_,rfl,LN,_,_,rfl,rfl,?_,?_⟩
 .rw[sl1];show(tx _++tx [_]).length+1<=_;rw[eJ,bf];simp only[GX,GT,HD,GU,Hk];exact HM (aB (by omega))
 .rw[sl1,sl2];show((tx _++tx [_])++tx [_]).length+_<=_;rw[eJ,eJ,bf,bf];simp only[GX,GT,HD,Jt,GU,Hk];exact HM (aB (by omega))
 .rw[sl1,sl2];show Q (.str (((tx _++tx [_])++tx [_])++tx _)) G1;rw[eJ,eJ,eJ];have:=q G1 s1;unfold gZ nmB at this;rw[Hc,Hc,Hc]at this;exact this
def Ai:List Nat:=[33,34,35,36,38,39,40,41,42,43,44,45,46,47,48,49,50,51,52,53,54,55,56,57,58,59,60,61,62,63,64,65,66,67,68,69,70,71,72,73,74,75,76,77,78,79,80,81,82,83,84,85,86,87,88,89,90,91,92,93,94,95,96,97,98,99,100,101,102,103,104,105,106,107,108,109,110,111,112,113,114,115,116,117,118,119,120,121,122,123,124,125,126]
def o_(c k:Int):Nat:=Ai.getD (bJ c k 93).toNat 0
theorem Fn:∀k:Nat,k<93->32<Ai.getD k 0/\Ai.getD k 0<127:=by decide +kernel
theorem BN(c k:Int):32<o_ c k/\o_ c k<127:=by
 have:=dJ c k (show(0:Int)<93 by decide);exact Fn _ (by omega)
def yp:Sp:=λvs H Q _=>∃c k:Int,vs=[.int c,.int k]/\(0<=k/\k<=100000)/\Q (.str (tx [o_ c k])) H
theorem rM:aN ["cell","k","some"] ["cell","k"] (au nW):=by walk_at "c"
theorem yq(T:Txt P w K mg a):bi P w K mg base CX0 2 a.oF a.mJ ["cell","k"] yp:=by
 refine T.oq.fn.ok rM (λvs H Q E h=>?_) (λcdv A outer s H vs Q E hr h=>?_)
 .obtain⟨c,k,rfl,_⟩:=h;rfl
 obtain⟨c,k,rfl,hk,q⟩:=h;refine⟨_,(ag (ay (i:=2) rM.nd rfl (Hh rfl) am)
   (ai (aP (aS eV (pv 2) (aC T.bz (bv T) (hr.mono (by decide)) rfl (aa (pv 0) (aa (pv 1) (aa ah ae)))) (λ_ _=>rfl))))),?_⟩
 have b:=dJ c k (show(0:Int)<93 by decide);obtain⟨d,hd⟩:=Int.eq_ofNat_of_zero_le b.1;have e:∀j:Nat,j<93->atI (PySem.Str.ofString "!\"#$&'()*+,-./0123456789:;<=>?@ABCDEFGHIJKLMNOPQRSTUVWXYZ[\\]^_`abcdefghijklmnopqrstuvwxyz{|}~").cps.toList (j:Int)=some (Ai.getD j 0):=by decide +kernel
 refine⟨_,rfl,_,rfl,_,rfl,c,k,93,rfl,hk,by decide,_,_,o_ c k,rfl,rfl,aJ (by decide +kernel),?_,q⟩;rw[hd];have:=e d (by omega);rw[this];unfold o_;rw[hd];rfl

def plP:List (List Nat):=[[46,112,97,103,101],[61],[61,61],[61,61,61],[35],[38,88],[33],[33,33],[91,97,98],[124],[93],[36,49],[126],[64]]
theorem Fo:∀w∈plP,w≠[]/\w.length<=60/\∀d∈w,33<=d/\d<127:=by decide
theorem cP:[V.str (PySem.Str.ofString ".page"),V.str (PySem.Str.ofString "="),V.str (PySem.Str.ofString "=="),V.str (PySem.Str.ofString "==="),V.str (PySem.Str.ofString "#"),V.str (PySem.Str.ofString "&X"),V.str (PySem.Str.ofString "!"),V.str (PySem.Str.ofString "!!"),V.str (PySem.Str.ofString "[ab"),V.str (PySem.Str.ofString "|"),V.str (PySem.Str.ofString "]"),V.str (PySem.Str.ofString "$1"),V.str (PySem.Str.ofString "~"),V.str (PySem.Str.ofString "@")]=(plP.map tx).map V.str:=by decide +kernel

def wG:Sp:=λvs H Q _=>∃c:Int,vs=[.int c]/\∀l H',C2 l->ak H H'->Q (.str (tx l)) H'
theorem qF:aN ["cell","some"] ["cell"] (au l7):=by walk_at "c"
theorem wH(T:Txt P w K mg a):bi P w K mg base CX0 3 a.mw a.kW ["cell"] wG:=by
 refine T.mo.fn.ok qF (λvs H Q E h=>?_) (λcdv A outer s H vs Q E hr h=>?_)
 .obtain⟨c,rfl,_⟩:=h;rfl
 obtain⟨c,rfl,q⟩:=h;refine⟨_,(@ag _ _ _ _ _ (@Dm _ 1 _ _ _ _ _ _ qF.nd rfl (Hh rfl) (CL.str (CL.str (CL.str (CL.str (CL.str (CL.str (CL.str (CL.str (CL.str (CL.str (CL.str (CL.str (CL.str (CL.str CL.nil)))))))))))))) (by first|exact .inl rfl|exact .inr rfl))
   (@ag _ _ _ _ _ (@aR _ _ _ _ _ _ _ _ (ao a_ (aC T.bz (bv T) (hr.mono (by decide)) rfl (@aa _ _ _ _ _ (pv 0) (@aa _ _ _ _ _ ah (@aa _ _ _ _ _ ah ae (by rfl)) (by rfl)) (by rfl))) ah (nomark _)) (@ai _ _ _ (@aP _ _ _ _ (@aS _ _ _ _ _ _ _ bS (pv 1) (aC T.bz (bv T) (hr.mono (by decide)) rfl (@aa _ _ _ _ _ (pv 0) (@aa _ _ _ _ _ ah (@aa _ _ _ _ _ ah ae (by rfl)) (by rfl)) (by rfl))) (λ_ _=>rfl)))) aM)
   (@ai _ _ _ (@aP _ _ _ _ (cp PySem.F.plainAttrs_str PySem.F.slot_str_join PySem.F.type_str_join oW am (@aa _ _ _ _ _ (gW rfl (fb (caps:=["cell"]) (js:=[0]) (cap:=⟨⟨rfl,.inl rfl,rfl,.inl rfl⟩,trivial⟩)) (qX rfl T.gv (@aa _ _ _ _ _ (aK bZ ah (aC T.bz (bv T) (hr.mono (by decide)) rfl (@aa _ _ _ _ _ (pv 0) (@aa _ _ _ _ _ ah (@aa _ _ _ _ _ ah ae (by rfl)) (by rfl)) (by rfl)))) ae (by rfl))) (λ_ _ _ _=>dY) (λ_ _ _ _=>(aC T.oq (yq T) (hr.mono (by decide)) rfl (@aa _ _ _ _ _ (pv 1) (@aa _ _ _ _ _ (aK bZ ah (pv 0)) ae (by rfl)) (by rfl))))) ae (by rfl))))))),?_⟩
 refine⟨aJ (by simp),λp1 hp1=>?_⟩;have s1:=af hp1 (.lst [V.str (PySem.Str.ofString ".page"),V.str (PySem.Str.ofString "="),V.str (PySem.Str.ofString "=="),V.str (PySem.Str.ofString "==="),V.str (PySem.Str.ofString "#"),V.str (PySem.Str.ofString "&X"),V.str (PySem.Str.ofString "!"),V.str (PySem.Str.ofString "!!"),V.str (PySem.Str.ofString "[ab"),V.str (PySem.Str.ofString "|"),V.str (PySem.Str.ofString "]"),V.str (PySem.Str.ofString "$1"),V.str (PySem.Str.ofString "~"),V.str (PySem.Str.ofString "@")]);have k1:upd H p1 (.lst [V.str (PySem.Str.ofString ".page"),V.str (PySem.Str.ofString "="),V.str (PySem.Str.ofString "=="),V.str (PySem.Str.ofString "==="),V.str (PySem.Str.ofString "#"),V.str (PySem.Str.ofString "&X"),V.str (PySem.Str.ofString "!"),V.str (PySem.Str.ofString "!!"),V.str (PySem.Str.ofString "[ab"),V.str (PySem.Str.ofString "|"),V.str (PySem.Str.ofString "]"),V.str (PySem.Str.ofString "$1"),V.str (PySem.Str.ofString "~"),V.str (PySem.Str.ofString "@")]) p1=some (.lst ((plP.map tx).map V.str)):=by rw[ac,cP]
 generalize upd H p1 (.lst [V.str (PySem.Str.ofString ".page"),V.str (PySem.Str.ofString "="),V.str (PySem.Str.ofString "=="),V.str (PySem.Str.ofString "==="),V.str (PySem.Str.ofString "#"),V.str (PySem.Str.ofString "&X"),V.str (PySem.Str.ofString "!"),V.str (PySem.Str.ofString "!!"),V.str (PySem.Str.ofString "[ab"),V.str (PySem.Str.ofString "|"),V.str (PySem.Str.ofString "]"),V.str (PySem.Str.ofString "$1"),V.str (PySem.Str.ofString "~"),V.str (PySem.Str.ofString "@")])=H1 at s1 k1⊢;refine⟨_,rfl,_,3,4,rfl,⟨by decide,by decide⟩,by decide,rfl,_,rfl,?_⟩;refine d_ (λ_=>?_) (λ_=>?_)
 .obtain⟨n,en,hn⟩:=ii c 4 (show 0<14 by decide);have en:bJ c 4 14=(n:Int):=en;obtain⟨w,hw⟩:∃w,plP[n]?=some w:=⟨plP[n],GZ hn⟩;obtain⟨o1,o2,o3⟩:=Fo w (Ha hw);exact⟨_,rfl,_,rfl,_,4,14,rfl,⟨by decide,by decide⟩,by decide,_,_,_,_,rfl,rfl,SqL.of k1,(by rw[en];exact dy (by rw[HA,HA,hw];rfl)),q w _ ⟨o1,o2,o3⟩ s1⟩
 dsimp only[dq];have h6:=dJ c 6 (show(0:Int)<5 by decide);refine⟨rfl,_,rfl,_,6,5,rfl,⟨by decide,by decide⟩,by decide,_,_,rfl,rfl,_,rfl,by omega,by omega,lS (λi ys G=>G=H1/\ys=(((IL i).map λ(k:Nat)=>o_ c (10+(k:Int))).map λd=>tx [d]).map V.str) ⟨rfl,rfl⟩ ?_ ?_ ?_⟩
 .rintro i ys G hi ⟨_,rfl⟩;simp only[GT,Il];exact aB (by omega)
 .rintro i ys G hi ⟨rfl,rfl⟩;refine eI ?_;refine⟨_,rfl,_,rfl,_,_,rfl,rfl,c,10+(i:Int),(by rw[Ln];rfl),⟨by omega,by omega⟩,rfl,?_⟩;rw[Kb,Hc,Hc,Hc];rfl
 rintro ys G ⟨rfl,rfl⟩ p hp;refine⟨_,_,_,rfl,rfl,SqL.of ac,by decide,by simp only[vF,GT,Il];omega,?_⟩;rw[ej1];refine q _ _ ⟨?_,?_,?_⟩ (s1.trans (af hp _))
 .intro z;have:=congrArg K1 z;simp only[GT,Il,Hk]at this;omega
 .simp only[GT,Il];omega
 .intro d hd;obtain⟨k,_,rfl⟩:=List.mem_map.mp hd;have:=BN c (10+(k:Int));omega
def BO:Sp:=λvs H Q _=>∃(f cell:Int) (k:Kw) (at_ marks feet:Nat),vs=[.int f,.str k.s,.int cell,.int (at_:Int),.int (marks:Int),.int (feet:Int)]/\k≠.entry/\∀p H' w,H p=none->ak H H'->H' p=some (.tup [.str w.1.s,.str (tx w.2)])->WdG (gZ f) k at_ marks feet w->Q (.ref p) H'
theorem rN:aN ["first","kind","cell","at","marks","feet","odd","faults"] ["first","kind","cell","at","marks","feet"] (au uk):=by walk_at "c"
theorem BP(T:Txt P w K mg a):bi P w K mg base CX0 4 a.uF a.sM ["first","kind","cell","at","marks","feet"] BO:=by
 refine T.uz.fn.ok rN (λvs H Q E h=>?_) (λcdv A outer s H vs Q E hr h=>?_)
 .obtain⟨f,cell,k,at_,marks,feet,rfl,_⟩:=h;rfl
 obtain⟨f,cell,k,at_,marks,feet,rfl,ke,q⟩:=h;refine⟨_,(ag (ay (i:=6) rN.nd rfl (Hh rfl) (aC T.bz (bv T) (hr.mono (by decide)) rfl (aa (pv 2) (aa ah (aa ah ae)))))
   (ag (ay (i:=7) rN.nd rfl (Hh rfl) (aC T.bz (bv T) (hr.mono (by decide)) rfl (aa (pv 0) (aa ah (aa ah ae)))))
   (ag (aR (PW.pt (jy (ao a_ (pv 1) am (nomark _)) (jy (PW.pt (cY (ao jz (pv 1) am (nomark _)) (cY (ao jz (pv 1) am (nomark _)) (cH (ao a_ (pv 4) ah (nomark _)))))) (jx (PW.pt (cY (ao a_ (pv 1) am (nomark _)) (cH (ao a_ (pv 5) ah (nomark _))))))))) (ai (aP (aY (aa am (aa (aC T.mo (wH T) (hr.mono (by decide)) rfl (aa (pv 2) ae)) ae))))) aM)
   (ag (aR (ao a_ (pv 1) am (nomark _)) (ag (aR (PW.pt (cY (ao a_ (pv 6) ah (nomark _)) (cY (ao j_ (pv 3) ah (nomark _)) (cH (ao a_ (aK kj (pv 7) ah) ah (nomark _)))))) (ai (aP (aY (aa (pv 1) (aa (aC T.f9 (ij T) (hr.mono (by decide)) rfl (aa (pv 0) (aa (aC T.bz (bv T) (hr.mono (by decide)) rfl (aa (pv 2) (aa ah (aa (pv 3) ae)))) ae))) ae))))) aM)
   (ai (aP (aY (aa (pv 1) (aa (aC T.f9 (ij T) (hr.mono (by decide)) rfl (aa (pv 0) (aa (pv 3) ae))) ae)))))) aM)
   (ag (aR (ao a_ (pv 1) am (nomark _)) (ag (aR (PW.pt (cY (ao a_ (pv 6) ah (nomark _)) (cH (ao a_ (aK kj (aK sQ (pv 7) ah) ah) ah (nomark _))))) (ai (aP (aY (aa (pv 1) (aa (aC T.f9 (ij T) (hr.mono (by decide)) rfl (aa (pv 0) (aa (aK bZ (pv 5) ah) ae))) ae))))) aM)
   (ai (aP (aY (aa (pv 1) (aa (aC T.f9 (ij T) (hr.mono (by decide)) rfl (aa (pv 0) (aa (aC T.bz (bv T) (hr.mono (by decide)) rfl (aa (pv 2) (aa ah (aa (pv 5) ae)))) ae))) ae)))))) aM)
   (ag (aR (PW.pt (cY (ao a_ (pv 6) ah (nomark _)) (cH (ao a_ (aK sQ (pv 7) ah) ah (nomark _))))) (ai (aP (aY (aa (pv 1) (aa (aC T.f9 (ij T) (hr.mono (by decide)) rfl (aa (pv 0) (aa (aK bZ (pv 4) ah) ae))) ae))))) aM)
   (ai (aP (aY (aa (pv 1) (aa (aC T.f9 (ij T) (hr.mono (by decide)) rfl (aa (pv 0) (aa (aC T.bz (bv T) (hr.mono (by decide)) rfl (aa (pv 2) (aa ah (aa (pv 4) ae)))) ae))) ae))))))))))),?_⟩
 refine⟨_,rfl,cell,12,7,rfl,⟨by decide,by decide⟩,by decide,?_⟩;dsimp only[bB];generalize bJ cell 12 7=od;refine⟨_,rfl,f,46,8,rfl,⟨by decide,by decide⟩,by decide,?_⟩;dsimp only[bB];generalize bJ f 46 8=fa;have plain:k≠.mark->∀l H2,C2 l->ak H H2->2<=Hs/\∀p,H2 p=none->Q (.ref p) (upd H2 p (.tup [.str (PySem.Str.ofString "plain"),.str (tx l)])):=λz l H2 ol s=>⟨le2,λp hp=>q p _ (.plain,l) (s.free hp) (s.trans (af hp _)) ac (.inr (.inl ⟨z,rfl,ol⟩))⟩;have fin:k≠.plain->∀(H2:Hp) (j:Nat),ak H H2->2<=Hs/\∀p,H2 p=none->Q (.ref p) (upd H2 p (.tup [.str k.s,.str (tx (gZ f j))])):=λz H2 j s=>⟨le2,λp hp=>q p _ (k,gZ f j) (s.free hp) (s.trans (af hp _)) ac (by
  by_cases hm:k=.mark
  .exact .inl ⟨hm,j,by rw[hm]⟩
  .exact .inr (.inr ⟨hm,z,rfl,j,rfl⟩))⟩
 refine⟨_,rfl,rfl,_,rfl,?_⟩;by_cases hp:k=.plain
 .rw[decide_eq_true (show V.str k.s=V.str (PySem.Str.ofString "plain") by rw[hp];rfl)];refine aQ ?_;refine aQ ?_;exact⟨_,rfl,cell,rfl,λl H2 ol s=>plain (by rw[hp];decide) l H2 ol s⟩
 rw[decide_eq_false (show ¬ (V.str k.s=V.str (PySem.Str.ofString "plain"))from λz=>hp (Kw.inj (b:=.plain) (V.str.inj z)))];have fin:=fin hp;refine av ?_;refine⟨_,rfl,rfl,_,rfl,?_⟩;by_cases hf:k=.foot
 .rw[decide_eq_true (show V.str k.s=V.str (PySem.Str.ofString "foot") by rw[hf];rfl)];have hm:k≠.mark:=by rw[hf];decide
  refine av ?_;refine av ?_;refine⟨_,rfl,rfl,_,rfl,?_⟩;rw[decide_eq_true (show V.str k.s=V.str (PySem.Str.ofString "foot") by rw[hf];rfl)];refine aQ ?_;refine⟨_,rfl,rfl,_,rfl,?_⟩;by_cases h0:feet=0
  .rw[h0,decide_eq_true (show V.int ((0:Nat):Int)=V.int 0 from rfl)];refine aQ ?_;exact⟨_,rfl,cell,rfl,λl H2 ol s=>plain hm l H2 ol s⟩
  rw[decide_eq_false (show ¬ (V.int ((feet:Nat):Int)=V.int 0)from λz=>h0 (by injection z with z;omega))];refine av ?_;dsimp only[dq];refine⟨_,rfl,rfl,_,rfl,?_⟩;rw[decide_eq_false (show ¬ (V.str k.s=V.str (PySem.Str.ofString "mark"))from λz=>hm (Kw.inj (b:=.mark) (V.str.inj z)))];refine av ?_;refine⟨_,rfl,rfl,_,rfl,?_⟩;rw[decide_eq_true (show V.str k.s=V.str (PySem.Str.ofString "foot") by rw[hf];rfl)];refine aQ ?_;refine⟨_,rfl,rfl,_,rfl,?_⟩;obtain⟨j,ej,_⟩:=ii cell 9 (show 0<feet by omega);cases decide (V.int od=V.int 1)with
  |false =>
   refine av ?_;refine av ?_;exact⟨_,rfl,_,rfl,_,rfl,_,rfl,cell,9,((feet:Nat):Int),rfl,⟨by decide,by decide⟩,by omega,f,j,by rw[ej];rfl,λH2 s=>fin H2 j s⟩
  |true =>
   refine aQ ?_;refine⟨_,rfl,_,_,rfl,rfl,⟨by decide,by decide⟩,_,_,rfl,rfl,(by (first|decide|(show(0:Int)<_;first|decide|omega))),rfl,_,rfl,?_⟩
   refine d_ (λ_=>?_) (λ_=>?_)
   .exact⟨_,rfl,_,rfl,_,rfl,_,_,rfl,rfl,f,feet+5,by rfl,λH2 s=>fin H2 (feet+5) s⟩
   .exact⟨_,rfl,_,rfl,_,rfl,_,rfl,cell,9,((feet:Nat):Int),rfl,⟨by decide,by decide⟩,by omega,f,j,by rw[ej];rfl,λH2 s=>fin H2 j s⟩
 rw[decide_eq_false (show ¬ (V.str k.s=V.str (PySem.Str.ofString "foot"))from λz=>hf (Kw.inj (b:=.foot) (V.str.inj z)))];refine aQ ?_;refine⟨_,rfl,rfl,_,rfl,?_⟩;by_cases hm:k=.mark
 .rw[decide_eq_true (show V.str k.s=V.str (PySem.Str.ofString "mark") by rw[hm];rfl)];refine av ?_;refine av ?_;refine⟨_,rfl,rfl,_,rfl,?_⟩;rw[decide_eq_false (show ¬ (V.str k.s=V.str (PySem.Str.ofString "foot"))from λz=>hf (Kw.inj (b:=.foot) (V.str.inj z)))];refine av ?_;refine av ?_;dsimp only[dq];refine⟨_,rfl,rfl,_,rfl,?_⟩;rw[decide_eq_true (show V.str k.s=V.str (PySem.Str.ofString "mark") by rw[hm];rfl)];refine aQ ?_;refine⟨_,rfl,rfl,_,rfl,?_⟩;cases decide (V.int od=V.int 1)with
  |false =>
   refine av ?_;refine av ?_;exact⟨_,rfl,_,rfl,_,rfl,f,at_,rfl,λH2 s=>fin H2 at_ s⟩
  |true =>
   refine aQ ?_;refine⟨_,rfl,_,_,rfl,rfl,_,rfl,?_⟩;by_cases ha:at_=0
   .rw[decide_eq_false (show ¬ ((0:Int)<((at_:Nat):Int)) by omega)];refine av ?_;refine av ?_;exact⟨_,rfl,_,rfl,_,rfl,f,at_,rfl,λH2 s=>fin H2 at_ s⟩
   .rw[decide_eq_true (show(0:Int)<((at_:Nat):Int) by omega)];refine aQ ?_;refine⟨_,rfl,_,_,rfl,rfl,(by (first|decide|(show(0:Int)<_;first|decide|omega))),rfl,_,rfl,?_⟩
    obtain⟨j,ej,_⟩:=ii cell 13 (show 0<at_ by omega);refine d_ (λ_=>?_) (λ_=>?_)
    .exact⟨_,rfl,_,rfl,_,rfl,_,rfl,cell,13,((at_:Nat):Int),rfl,⟨by decide,by decide⟩,by omega,f,j,by rw[ej];rfl,λH2 s=>fin H2 j s⟩
    .exact⟨_,rfl,_,rfl,_,rfl,f,at_,rfl,λH2 s=>fin H2 at_ s⟩
 rw[decide_eq_false (show ¬ (V.str k.s=V.str (PySem.Str.ofString "mark"))from λz=>hm (Kw.inj (b:=.mark) (V.str.inj z)))];refine aQ ?_;refine⟨_,rfl,rfl,_,rfl,?_⟩;by_cases h0:marks=0
 .rw[h0,decide_eq_true (show V.int ((0:Nat):Int)=V.int 0 from rfl)];refine aQ ?_;refine aQ ?_;exact⟨_,rfl,cell,rfl,λl H2 ol s=>plain hm l H2 ol s⟩
 rw[decide_eq_false (show ¬ (V.int ((marks:Nat):Int)=V.int 0)from λz=>h0 (by injection z with z;omega))];refine av ?_;refine⟨_,rfl,rfl,_,rfl,?_⟩;rw[decide_eq_false (show ¬ (V.str k.s=V.str (PySem.Str.ofString "foot"))from λz=>hf (Kw.inj (b:=.foot) (V.str.inj z)))];refine av ?_;refine av ?_;dsimp only[dq];refine⟨_,rfl,rfl,_,rfl,?_⟩;rw[decide_eq_false (show ¬ (V.str k.s=V.str (PySem.Str.ofString "mark"))from λz=>hm (Kw.inj (b:=.mark) (V.str.inj z)))];refine av ?_;refine⟨_,rfl,rfl,_,rfl,?_⟩;rw[decide_eq_false (show ¬ (V.str k.s=V.str (PySem.Str.ofString "foot"))from λz=>hf (Kw.inj (b:=.foot) (V.str.inj z)))];refine av ?_;refine⟨_,rfl,rfl,_,rfl,?_⟩;obtain⟨j,ej,_⟩:=ii cell 9 (show 0<marks by omega);cases decide (V.int od=V.int 1)with
 |false =>
  refine av ?_;refine av ?_;exact⟨_,rfl,_,rfl,_,rfl,_,rfl,cell,9,((marks:Nat):Int),rfl,⟨by decide,by decide⟩,by omega,f,j,by rw[ej];rfl,λH2 s=>fin H2 j s⟩
 |true =>
  refine aQ ?_;refine⟨_,rfl,_,_,rfl,rfl,⟨by decide,by decide⟩,rfl,_,rfl,?_⟩;refine d_ (λ_=>?_) (λ_=>?_)
  .exact⟨_,rfl,_,rfl,_,rfl,_,_,rfl,rfl,f,marks+5,by rfl,λH2 s=>fin H2 (marks+5) s⟩
  .exact⟨_,rfl,_,rfl,_,rfl,_,rfl,cell,9,((marks:Nat):Int),rfl,⟨by decide,by decide⟩,by omega,f,j,by rw[ej];rfl,λH2 s=>fin H2 j s⟩
def Aj(K:PySem.W.Frag):Sp:=λvs H Q _=>∃(ra:Addr) (f:Int) (rows:List dj) (rv:List V),vs=[.ref ra,.int f]/\H ra=some (.lst rv)/\aL (RrA H) rv rows/\rows.length<=62/\(∀r∈rows,r.2.length<=6/\∀w∈r.2,w.1≠.entry)/\∀p H' ns us,H p=none->ak H H'->H' p=some (.lst us)->aL (NnA H') us (ns++ug)->fA (gZ f) (dI rows) (ftN rows) 0 0 rows ns->Q (.ref p) H'
theorem b9:aN ["rows","first","marks","feet","named","at","hung","way","words","done","kind","cell","name"] ["rows","first"] (au rE):=by walk_at "c"
theorem Ak(T:Txt P w K mg a):bi P w K mg base CX0 5 a.sA a.qz ["rows","first"] (Aj K):=by
 refine T.si.fn.ok b9 (λvs H Q E h=>?_) (λcdv A outer s H vs Q E hr h=>?_)
 .obtain⟨ra,f,rows,rv,rfl,_⟩:=h;rfl
 obtain⟨ra,f,rows,rv,rfl,hra,al,rl,rok,q⟩:=h;have hu:=IJ (dB hr);refine⟨_,(@ag _ _ _ _ _ (ay (i:=2) b9.nd rfl (Hh rfl) (aV (CA rfl) rfl T.tG PyProof.Rows.boot_sum (aa (Bg rfl (fb (caps:=[]) (js:=[]) (cap:=trivial)) (bq (pv 0)) (λ_ _ _ _=>dY) (λ_ _ _ _=>(aV (r:=GC K) bN rfl T.cr PySem.boot_len (aa (gW rfl (fb (caps:=[]) (js:=[]) (cap:=trivial)) (CV (K:=K) rfl (pv 1)) (λ_ _ _ _=>(jW (ao a_ (aS (r:=nQ K) bM (pv 0) ah (λ_ _=>rfl)) am (nomark _)))) (λ_ _ _ _=>(pv 0))) ae)))) ae)))
   (@ag _ _ _ _ _ (ay (i:=3) b9.nd rfl (Hh rfl) (aV bN rfl T.cr PySem.boot_len (aa (Bg rfl (fb (caps:=[]) (js:=[]) (cap:=trivial)) (bq (pv 0)) (λ_ _ _ _=>(jW (ao a_ (pv 0) am (nomark _)))) (λ_ _ _ _=>(pv 0))) ae)))
   (@ag _ _ _ _ _ (ay (i:=4) b9.nd rfl (Hh rfl) (aU ae))
   (@ag _ _ _ _ _ (ay (i:=5) b9.nd rfl (Hh rfl) ah)
   (@ag _ _ _ _ _ (ay (i:=6) b9.nd rfl (Hh rfl) ah)
   (@ag _ _ _ _ _ (cg HS rfl (bq (pv 0)) (dP rfl (a9 (aO (i:=7) b9.nd rfl (Hh rfl)) (a9 (aO (i:=8) b9.nd rfl (Hh rfl)) c_))) (@ag _ _ _ _ _ (ay (i:=9) b9.nd rfl (Hh rfl) (aU ae))
   (@ag _ _ _ _ _ (cg HS rfl (bq (pv 8)) (dP rfl (a9 (aO (i:=10) b9.nd rfl (Hh rfl)) (a9 (aO (i:=11) b9.nd rfl (Hh rfl)) c_))) (@ag _ _ _ _ _ (bn (cp PySem.F.plainAttrs_list PySem.F.slot_list_append PySem.F.type_list_append b7 (pv 9) (aa (aC T.uz (BP T) (hr.mono (by decide)) rfl (aa (pv 1) (aa (pv 10) (aa (pv 11) (aa (pv 5) (aa (pv 2) (aa (pv 3) ae))))))) ae)))
   (ai (ay (i:=5) b9.nd rfl (Hh rfl) (aK bZ (pv 5) (ni AS rfl T.tE PyProof.Rows.boot_int (aa (eC a_ (pv 10) am (nomark _)) ae)))))))
   (@ag _ _ _ _ _ (ay (i:=12) b9.nd rfl (Hh rfl) am)
   (@ag _ _ _ _ _ (aR (ao a_ (pv 7) am (nomark _)) (@ag _ _ _ _ _ (ay (i:=12) b9.nd rfl (Hh rfl) (aC T.f9 (ij T) (hr.mono (by decide)) rfl (aa (pv 1) (aa (pv 6) ae))))
   (ai (ay (i:=6) b9.nd rfl (Hh rfl) (aK bZ (pv 6) ah)))) aM)
   (@ag _ _ _ _ _ (aR (PW.pt (cY (ao a_ (pv 7) am (nomark _)) (cH (ao (tZ hu) (pv 8) (aU ae) (nomark _))))) (ai (ay (i:=7) b9.nd rfl (Hh rfl) am)) aM)
   (ai (bn (cp PySem.F.plainAttrs_list PySem.F.slot_list_append PySem.F.type_list_append b7 (pv 4) (aa (aY (aa (pv 7) (aa (pv 12) (aa (pv 9) ae)))) ae))))))))))
   (ai (aP (aK d7 (pv 4) (aU (aa (aY (aa am (aa am (aa (aU ae) ae)))) (aa (aY (aa am (aa am (aa (aU (aa (aY (aa am (aa am ae))) ae)) ae)))) ae)))))))))))),?_⟩
 have lr:=al.len;refine(⟨_,rfl,ra,rfl,⟨_,SqL.of hra⟩,ud (K:=K) (a:=ra) (xs:=rv) (λi ys G=>ak H G/\ys=((rows.take i).map λr=>((mkN r.2:Nat):Int)).map V.int) ⟨ak.refl _,rfl⟩ (λi ys G _ z=>SqL.of (z.1 _ _ hra)) ?_ ?_ ?_⟩)
 .rintro i ys G hi ⟨_,rfl⟩;simp only[GT,HD];exact aB (by omega)
 .rintro i y ys G hy ⟨m,rfl⟩;obtain⟨⟨wy,ws⟩,hw,b,l,us,rfl,hb,hl,kc⟩:=al.getL hy;have lu:=kc.len;have r6:=(rok _ (Ha hw)).1;dsimp only at lu r6 kc;refine(⟨b,_,_,rfl,SqT.of (m _ _ hb),eI ?_⟩);refine(⟨_,rfl,l,rfl,⟨_,SqL.of (m _ _ hl)⟩,eD (K:=K) (a:=l) (xs:=us) (λj zs G'=>G=G'/\zs.length=mkN (ws.take j)) ⟨rfl,rfl⟩ (λj zs G' _ z=>by rw[<-z.1];exact SqL.of (m _ _ hl)) ?_ ?_ ?_⟩)
  .rintro j zs G' hj ⟨_,z⟩;have:mkN (ws.take j)<=(ws.take j).length:=IC _ _;rw[HD]at this;exact aB (by omega)
  .rintro j x zs G' hx ⟨rfl,z⟩;obtain⟨w,hw2,c,rfl,hc⟩:=kc.getL hx;have en:mkN (ws.take (j+1))=mkN (ws.take j)+b1 (decide (w.1=.mark)):=by rw[bb hw2,yh]
   refine(⟨_,rfl,_,_,_,_,rfl,rfl,SqT.of (m _ _ hc),rfl,rfl,_,rfl,?_⟩);by_cases hm:w.1=.mark
   .rw[decide_eq_true (show V.str w.1.s=V.str "mark" by rw[hm];rfl)];refine aQ ?_;refine(⟨_,rfl,rfl,?_⟩);rw[en,GX,z,decide_eq_true hm];rfl
   .rw[decide_eq_false (show ¬ (V.str w.1.s=V.str "mark")from λzz=>hm (Kw.inj (b:=.mark) (V.str.inj zz)))];refine av ?_;refine(⟨rfl,?_⟩);rw[en,z,decide_eq_false hm];rfl
  rintro zs G' ⟨rfl,z⟩ pz1 hpz1;rw[lu,Hu]at z;refine(⟨_,_,rfl,.inl (SqL.of ac),m.trans (af hpz1 _),?_⟩);rw[bb hw,Hc,Hc,z];rfl
 rintro ys G ⟨m,rfl⟩ pa hpa;rw[lr,Hu];refine(⟨pa,_,rfl,SqL.of ac,?_⟩);have eM:(rows.map λr=>((mkN r.2:Nat):Int)).sum=((dI rows:Nat):Int):=yj rows;dsimp only[bB];rw[eM];have s1:=m.trans (af hpa (.lst ((rows.map λr=>((mkN r.2:Nat):Int)).map V.int)));generalize upd G pa (.lst ((rows.map λr=>((mkN r.2:Nat):Int)).map V.int))=G1 at s1⊢;refine(⟨_,rfl,ra,rfl,⟨_,SqL.of (s1 _ _ hra)⟩,ud (K:=K) (a:=ra) (xs:=rv) (λi ys G=>G1=G/\ys.length=ftN (rows.take i)) ⟨rfl,rfl⟩ (λi ys G _ z=>by rw[<-z.1];exact SqL.of (s1 _ _ hra)) ?_ ?_ ?_⟩)
 .rintro i ys G hi ⟨_,z⟩;have:ftN (rows.take i)<=(rows.take i).length:=IC _ _;rw[HD]at this;exact aB (by omega)
 .rintro i y ys G hy ⟨rfl,z⟩;obtain⟨⟨wy,ws⟩,hw,b,l,us,rfl,hb,hl,kc⟩:=al.getL hy;have en:ftN (rows.take (i+1))=ftN (rows.take i)+b1 (decide (wy=.foot)):=by rw[bb hw,yi]
  refine(⟨b,_,_,rfl,SqT.of (s1 _ _ hb),?_⟩);refine(⟨_,rfl,rfl,_,rfl,?_⟩);rw[cw kg];by_cases hm:wy=.foot
  .rw[decide_eq_true (show wy.t=dN by rw[hm];rfl)];refine aQ ?_;refine(⟨_,rfl,rfl,?_⟩);rw[en,GX,z,decide_eq_true hm];rfl
  .rw[decide_eq_false (show ¬ (wy.t=dN)from λzz=>hm (Wy.inj (b:=.foot) zz))];refine av ?_;refine(⟨rfl,?_⟩);rw[en,z,decide_eq_false hm];rfl
 rintro ys G ⟨rfl,z⟩ pb hpb;rw[lr,Hu]at z;refine(⟨_,_,rfl,.inl (SqL.of ac),?_⟩);dsimp only[bB];rw[z];have s2:=s1.trans (af hpb (.lst ys));generalize upd G1 pb (.lst ys)=G2 at s2⊢;generalize hM:dI rows=M at *;generalize hF:ftN rows=F at *;refine⟨aJ (by simp),λpn hpn=>?_⟩;have hHpn:=s2.free hpn;have s3:=s2.trans (af hpn (.lst []));have k3:upd G2 pn (.lst []) pn=some (.lst []):=ac;generalize upd G2 pn (.lst [])=G3 at s3 k3⊢;refine⟨_,rfl,ra,rfl,⟨_,SqL.of (s3 _ _ hra)⟩,cm (K:=K) (a:=ra) (xs:=rv) (λi σ' G=>∃(v7 v8 v9 v10 v11 v12:Option V) (us:List V) (ns:List bD),σ'=[some (.ref ra),some (.int f),some (.int (M:Int)),some (.int (F:Int)),some (.ref pn),some (.int ((dI (rows.take i):Nat):Int)),some (.int ((ftN (rows.take i):Nat):Int)),v7,v8,v9,v10,v11,v12]/\ak H G/\G pn=some (.lst us)/\us.length=i/\aL (NnA (hid [pn] G)) us ns/\fA (gZ f) M F 0 0 (rows.take i) ns) ⟨none,none,none,none,none,none,[],[],rfl,s3,k3,rfl,trivial,trivial⟩ (λi σ' G _ g=>by obtain⟨_,_,_,_,_,_,_,_,_,m,_⟩:=g;exact SqL.of (m _ _ hra)) ?_ ?_⟩
 .rintro i y σ' G hy ⟨v7,v8,v9,v10,v11,v12,us,ns,rfl,m,gn,ul,nal,rr⟩;obtain⟨⟨wy,ws⟩,hw,b,l,cs,rfl,hb,hl,kc⟩:=al.getL hy;have hi:=(List.getElem?_eq_some_iff.mp hw).1;have lu:=kc.len;obtain⟨r6,rne⟩:=rok _ (Ha hw);dsimp only at lu r6 kc rne;refine⟨b,_,rfl,SqT.of (m _ _ hb),rfl,_,_,rfl,_,_,rfl,rfl,?_⟩;refine⟨aJ (by simp),λpd hpd=>?_⟩;have hHpd:=m.free hpd;have npd:pd≠pn:=λz=>by rw[z,gn]at hpd;cases hpd
  have m1:=m.trans (af hpd (.lst []));have kd1:upd G pd (.lst []) pd=some (.lst []):=ac;have gn1:=af hpd (.lst []) _ _ gn;have nal1:aL (NnA (hid [pn,pd] (upd G pd (.lst [])))) us ns:=nal.imp λ_ _=>NnA.mono (λb o z=>by
   obtain⟨c,z⟩:=gg.mp z;refine aZ (λw=>?_) (af hpd (.lst []) _ _ z);simp only[Ih,H_,or_false]at w c;rcases w with w|w
   .exact c w
   .rw[w,hpd]at z;cases z)
  generalize upd G pd (.lst [])=G4 at m1 kd1 gn1 nal1⊢;refine⟨_,rfl,l,rfl,⟨_,SqL.of (m1 _ _ hl)⟩,cm (K:=K) (a:=l) (xs:=cs) (λj σ' G'=>∃(v10 v11:Option V) (ds:List V) (dn:List NWd),σ'=[some (.ref ra),some (.int f),some (.int (M:Int)),some (.int (F:Int)),some (.ref pn),some (.int ((dI (rows.take i)+mkN (ws.take j):Nat):Int)),some (.int ((ftN (rows.take i):Nat):Int)),some (.str (tx wy.t)),some (.ref l),some (.ref pd),v10,v11,v12]/\ak H G'/\G' pn=some (.lst us)/\G' pd=some (.lst ds)/\aL (NnA (hid [pn,pd] G')) us ns/\b8 (hid [pn,pd] G') ds (wkS dn)/\WsR (gZ f) M F (0+dI (rows.take i)) (ws.take j) dn/\ds.length=j) ⟨v10,v11,[],[],rfl,m1,gn1,kd1,nal1,trivial,trivial,rfl⟩ (λj σ' G' _ g=>by obtain⟨_,_,_,_,_,m,_⟩:=g;exact SqL.of (m _ _ hl)) ?_ ?_⟩
  .rintro j x σ' G5 hx ⟨w10,w11,ds,dn,rfl,m5,gn5,kd5,nal5,wal,wr,dl⟩;obtain⟨⟨kd,cell⟩,hw2,c,rfl,hc⟩:=kc.getL hx;have hj:=(List.getElem?_eq_some_iff.mp hw2).1;have ke:=rne _ (Ha hw2);refine⟨c,_,rfl,SqT.of (m5 _ _ hc),rfl,_,_,rfl,_,_,rfl,rfl,?_⟩;refine⟨_,rfl,.inl ⟨rfl,_,SqL.of kd5⟩,_,rfl,_,rfl,_,rfl,_,rfl,_,rfl,_,rfl,f,cell,kd,dI (rows.take i)+mkN (ws.take j),M,F,rfl,ke,λpw G6 w hpw m6 k6 wg=>?_⟩;have np1:pw≠pn:=λz=>by rw[z,gn5]at hpw;cases hpw
   have np2:pw≠pd:=λz=>by rw[z,kd5]at hpw;cases hpw
   refine⟨_,_,_,rfl,rfl,m6 _ _ kd5,aB (by omega),?_⟩;have e:hid [pn,pd] (upd G6 pd (.lst (ds++[.ref pw])))=hid [pn,pd] G6:=br (by simp);refine⟨_,rfl,_,rfl,rfl,.inr ⟨_,rfl,_,_,rfl,rfl,?_⟩⟩;refine⟨some (.str kd.s),some (.int cell),ds++[.ref pw],dn++[w],?_,aW (m5.trans m6) hHpd,?_,ac,?_,?_,?_,by rw[GX,dl];rfl⟩
   .have en:mkN (ws.take (j+1))=mkN (ws.take j)+b1 (decide (kd=.mark)):=by rw[bb hw2,yh]
    have ev:(((dI (rows.take i)+mkN (ws.take j):Nat):Int)+(if decide (V.str kd.s=V.str (PySem.Str.ofString "mark"))=true then 1 else 0))=((dI (rows.take i)+mkN (ws.take (j+1)):Nat):Int):=by
     rw[en];by_cases hm:kd=.mark
     .rw[if_pos (decide_eq_true (show V.str kd.s=V.str (PySem.Str.ofString "mark") by rw[hm];rfl)),decide_eq_true hm];show _=((_+(_+1):Nat):Int);omega
     .rw[if_neg (show ¬ (decide (V.str kd.s=V.str (PySem.Str.ofString "mark"))=true)from λz=>hm (Kw.inj (b:=.mark) (V.str.inj (of_decide_eq_true z)))),decide_eq_false hm];show _=((_+(_+0):Nat):Int);omega
    rw[<-ev];rfl
   .rw[aj (HW npd)];exact m6 _ _ gn5
   .rw[e];exact nal5.imp λ_ _=>NnA.mono (bj m6)
   .rw[e];unfold wkS;rw[Hc];exact(b8.mono (bj m6) wal).snoc ⟨pw,rfl,aZ (by simp[np1,np2]) k6⟩
   .rw[bb hw2];refine wr.snoc ?_;rw[Ki];exact wg
  rintro σ' G5 ⟨w10,w11,ds,dn,rfl,m5,gn5,kd5,nal5,wal,wr,dl⟩;rw[lu]at dl;rw[lu,Hu]at wr;rw[lu,Hu];have m5':ak (hid [pn,pd] G5) (hid [pn] G5):=λb o z=>by
   obtain⟨c,z⟩:=gg.mp z;exact aZ (λw=>c (by simp at w⊢;exact .inl w)) z
  have nal6:aL (NnA (hid [pn] G5)) us ns:=nal5.imp λ_ _=>NnA.mono m5';have lsd:cZ (hid [pn] G5) pd (wkS dn):=⟨ds,aZ (by simpa using npd) kd5,b8.mono m5' wal⟩;have eH:ftN (rows.take (i+1))=ftN (rows.take i)+b1 (decide (wy=.foot)):=by rw[bb hw,yi]
  have eA:dI (rows.take (i+1))=dI (rows.take i)+mkN ws:=by rw[bb hw,BG]
  rw[<-eA];dsimp only;refine dH (λσ' G'=>σ'=[some (.ref ra),some (.int f),some (.int (M:Int)),some (.int (F:Int)),some (.ref pn),some (.int ((dI (rows.take (i+1)):Nat):Int)),some (.int ((ftN (rows.take i):Nat):Int)),some (.str (tx wy.t)),some (.ref l),some (.ref pd),w10,w11,some (.str (PySem.Str.ofString ""))]/\G5=G') ?_ (λkey=>key [some (.ref ra),some (.int f),some (.int (M:Int)),some (.int (F:Int)),some (.ref pn),some (.int ((dI (rows.take (i+1)):Nat):Int)),some (.int ((ftN (rows.take i):Nat):Int)),some (.str (tx wy.t)),some (.ref l),some (.ref pd),w10,w11,some (.str (PySem.Str.ofString ""))] G5 ⟨rfl,rfl⟩);rintro σ' G5' ⟨rfl,rfl⟩;refine dH (λσ' G'=>σ'=[some (.ref ra),some (.int f),some (.int (M:Int)),some (.int (F:Int)),some (.ref pn),some (.int ((dI (rows.take (i+1)):Nat):Int)),some (.int ((ftN (rows.take (i+1)):Nat):Int)),some (.str (tx wy.t)),some (.ref l),some (.ref pd),w10,w11,some (.str (tx (if wy=.foot then gZ f (ftN (rows.take i))else[])))]/\ak G5 G') ?_ (λkey=>?_)
  .rintro σ' G6 ⟨rfl,m6⟩;refine dH (λσ' G'=>σ'=[some (.ref ra),some (.int f),some (.int (M:Int)),some (.int (F:Int)),some (.ref pn),some (.int ((dI (rows.take (i+1)):Nat):Int)),some (.int ((ftN (rows.take (i+1)):Nat):Int)),some (.str (tx (if wy=.words/\ws=[]then Wy.empty else wy).t)),some (.ref l),some (.ref pd),w10,w11,some (.str (tx (if wy=.foot then gZ f (ftN (rows.take i))else[])))]/\ak G5 G') ?_ (λkey=>?_)
   .rintro σ' G7 ⟨rfl,m7⟩;refine⟨_,rfl,.inl ⟨rfl,_,SqL.of (m7 _ _ gn5)⟩,_,rfl,_,rfl,_,rfl,le3,λpt hpt=>?_⟩;have m8:=m7.trans (af hpt (.tup [.str (tx (if wy=.words/\ws=[]then Wy.empty else wy).t),.str (tx (if wy=.foot then gZ f (ftN (rows.take i))else[])),.ref pd]));have npt:pt≠pn:=λz=>by rw[z,m7 _ _ gn5]at hpt;cases hpt
    refine⟨_,_,_,rfl,rfl,m8 _ _ gn5,aB (by omega),?_⟩;refine⟨_,_,_,_,_,_,us++[.ref pt],ns++[(if wy=.words/\ws=[]then Wy.empty else wy,if wy=.foot then gZ f (ftN (rows.take i))else[],dn)],rfl,aW (m5.trans m8) hHpn,ac,by rw[GX,ul];rfl,?_,?_⟩
    .rw[br (by simp)];exact(nal6.imp λ_ _=>NnA.mono (bj m8)).snoc ⟨pt,pd,rfl,aZ (by simpa using npt) ac,lsd.mono (bj m8)⟩
    .rw[bb hw];exact rr.snoc ⟨rfl,by rw[Ki],wr⟩
   .refine⟨_,rfl,rfl,_,rfl,?_⟩;rw[cw jJ];by_cases h1:wy=.words
    .rw[decide_eq_true (show wy.t=[119,111,114,100,115] by rw[h1];rfl)];refine aQ ?_;refine⟨_,rfl,aJ (by simp),λp4 hp4=>?_⟩;have m7:=m6.trans (af hp4 (.lst []));refine⟨_,_,_,rfl,rfl,SqL.of ((m5.trans m7) _ _ hl),SqL.of ac,_,rfl,?_⟩;refine d_ (λc2=>?_) (λc2=>?_)
     .have e0:ws=[]:=by
       cases ws with
       |nil=>rfl
       |cons _ _=>cases cs with
        |nil=>cases lu
        |cons _ _=>cases c2
      exact key _ _ ⟨by rw[show(if wy=.words/\ws=[]then Wy.empty else wy)=.empty from if_pos ⟨h1,e0⟩];exact congrArg (λz=>[some (.ref ra),some (.int f),some (.int (M:Int)),some (.int (F:Int)),some (.ref pn),some (.int ((dI (rows.take (i+1)):Nat):Int)),some (.int ((ftN (rows.take (i+1)):Nat):Int)),some (V.str z),some (.ref l),some (.ref pd),w10,w11,some (.str (tx (if wy=.foot then gZ f (ftN (rows.take i))else[])))]) kM,m7⟩
     .have e0:ws≠[]:=λz=>by
       rw[z]at lu;rw[List.length_eq_zero_iff.mp lu]at c2;exact c2 rfl
      exact key _ _ ⟨by rw[show(if wy=.words/\ws=[]then Wy.empty else wy)=wy from if_neg (λz=>e0 z.2)],m7⟩
    .rw[decide_eq_false (show ¬ (wy.t=[119,111,114,100,115])from λz=>h1 (Wy.inj (b:=.words) z))];refine av ?_;refine av ?_;exact key _ _ ⟨by rw[show(if wy=.words/\ws=[]then Wy.empty else wy)=wy from if_neg (λz=>h1 z.1)],m6⟩
  .refine⟨_,rfl,rfl,_,rfl,?_⟩;rw[cw kg];by_cases hf:wy=.foot
   .rw[decide_eq_true (show wy.t=dN by rw[hf];rfl)];refine aQ ?_;refine⟨_,rfl,_,rfl,f,ftN (rows.take i),rfl,λG6 m6=>?_⟩;refine⟨_,rfl,_,_,rfl,rfl,?_⟩;refine key _ _ ⟨?_,m6⟩;rw[eH,decide_eq_true hf,if_pos hf];rfl
   .rw[decide_eq_false (show ¬ (wy.t=dN)from λz=>hf (Wy.inj (b:=.foot) z))];refine av ?_;refine key _ _ ⟨?_,ak.refl _⟩;rw[eH,decide_eq_false hf,if_neg hf];exact congrArg (λz=>[some (.ref ra),some (.int f),some (.int (M:Int)),some (.int (F:Int)),some (.ref pn),some (.int ((dI (rows.take (i+1)):Nat):Int)),some (.int ((ftN (rows.take i):Nat):Int)),some (.str (tx wy.t)),some (.ref l),some (.ref pd),w10,w11,some (V.str z)]) kM
 rintro σ' G ⟨v7,v8,v9,v10,v11,v12,us,ns,rfl,m,gn,ul,nal,rr⟩;rw[lr,Hu]at rr;have nal':aL (NnA G) us ns:=nal.imp λ_ _=>NnA.mono bT;refine⟨_,rfl,aJ (by simp),λp5 hp5=>?_⟩;have t5:=af hp5 (.lst []);have k5:upd G p5 (.lst []) p5=some (.lst []):=ac;generalize upd G p5 (.lst [])=G5 at t5 k5⊢;refine⟨le3,λp6 hp6=>?_⟩;have t6:=af hp6 (.tup [.str (PySem.Str.ofString ""),.str (PySem.Str.ofString ""),.ref p5]);have k6:upd G5 p6 (.tup [.str (PySem.Str.ofString ""),.str (PySem.Str.ofString ""),.ref p5]) p6=some (.tup [.str (tx []),.str (tx []),.ref p5]):=by rw[ac,kM]
 generalize upd G5 p6 (.tup [.str (PySem.Str.ofString ""),.str (PySem.Str.ofString ""),.ref p5])=G6 at t6 k6⊢;refine⟨le2,λp7 hp7=>?_⟩;have t7:=af hp7 (.tup [.str (PySem.Str.ofString "plain"),.str (PySem.Str.ofString "end")]);have k7:upd G6 p7 (.tup [.str (PySem.Str.ofString "plain"),.str (PySem.Str.ofString "end")]) p7=some (.tup [.str (Kw.plain).s,.str (tx [101,110,100])]):=by rw[ac,F7];rfl
 generalize upd G6 p7 (.tup [.str (PySem.Str.ofString "plain"),.str (PySem.Str.ofString "end")])=G7 at t7 k7⊢;refine⟨le1,λp8 hp8=>?_⟩;have t8:=af hp8 (.lst [.ref p7]);have k8:upd G7 p8 (.lst [.ref p7]) p8=some (.lst [.ref p7]):=ac;generalize upd G7 p8 (.lst [.ref p7])=G8 at t8 k8⊢;refine⟨le3,λp9 hp9=>?_⟩;have t9:=af hp9 (.tup [.str (PySem.Str.ofString "words"),.str (PySem.Str.ofString ""),.ref p8]);have k9:upd G8 p9 (.tup [.str (PySem.Str.ofString "words"),.str (PySem.Str.ofString ""),.ref p8]) p9=some (.tup [.str (tx Wy.words.t),.str (tx []),.ref p8]):=by rw[ac,kM,jJ];rfl
 generalize upd G8 p9 (.tup [.str (PySem.Str.ofString "words"),.str (PySem.Str.ofString ""),.ref p8])=G9 at t9 k9⊢;refine⟨le2,λp10 hp10=>?_⟩;have t10:=af hp10 (.lst [.ref p6,.ref p9]);have k10:upd G9 p10 (.lst [.ref p6,.ref p9]) p10=some (.lst [.ref p6,.ref p9]):=ac;generalize upd G9 p10 (.lst [.ref p6,.ref p9])=G10 at t10 k10⊢;have t510:=t5.trans (t6.trans (t7.trans (t8.trans (t9.trans t10))));refine⟨_,_,_,_,rfl,rfl,t510 _ _ gn,k10,(by show us.length+2<=_;exact HM (aB (by omega))),λp11 hp11=>?_⟩;have t11:=af hp11 (.lst (us++[.ref p6,.ref p9]));refine q p11 _ ns _ ((m.trans t510).free hp11) ((m.trans t510).trans t11) ac ?_ rr;refine(nal'.imp λ_ _=>NnA.mono (t510.trans t11)).app ⟨⟨p6,p5,rfl,?_,[],?_,trivial⟩,⟨p9,p8,rfl,?_,[.ref p7],?_,⟨p7,rfl,?_⟩,trivial⟩,trivial⟩
 .exact((t7.trans (t8.trans (t9.trans t10))).trans t11) _ _ k6
 .exact((t6.trans (t7.trans (t8.trans (t9.trans t10)))).trans t11) _ _ k5
 .exact(t10.trans t11) _ _ k9
 .exact((t9.trans t10).trans t11) _ _ k8
 .exact((t8.trans (t9.trans t10)).trans t11) _ _ k7
def y0(K:PySem.W.Frag):Sp:=λvs H Q _=>∃(na ta:Addr) (nv tv:List V) (named:List bD) (tt:List Ttl),vs=[.ref na,.ref ta]/\H na=some (.lst nv)/\aL (NnA H) nv named/\H ta=some (.lst tv)/\aL (TtA H) tv tt/\named.length<=200/\tt.length<=63/\(∀r∈named,r.2.2.length<=129)/\(∀t∈tt,t.2.length<=129)/\∀p H' us,H p=none->ak H H'->H' p=some (.lst us)->aL (SwA H') us (eX tt 0 named)->Q (.ref p) H'
theorem eg:aN ["named","titles","stream","heads","way","name","words","k"] ["named","titles"] (au pU):=by walk_at "c"
theorem tQ(T:Txt P w K mg a):bi P w K mg base CX0 1 a.qr a.oN ["named","titles"] (y0 K):=by
 refine T.lN.fn.ok eg (λvs H Q E h=>?_) (λcdv A outer s H vs Q E hr h=>?_)
 .obtain⟨na,ta,nv,tv,named,tt,rfl,_⟩:=h;rfl
 obtain⟨na,ta,nv,tv,named,tt,rfl,hna,nal,hta,tal,nl,tl,nw,tw,q⟩:=h;refine⟨_,(ag (ay (i:=2) eg.nd rfl (Hh rfl) (aU ae))
   (ag (ay (i:=3) eg.nd rfl (Hh rfl) ah)
   (ag (cg HS rfl (bq (pv 0)) (dP rfl (a9 (aO (i:=4) eg.nd rfl (Hh rfl)) (a9 (aO (i:=5) eg.nd rfl (Hh rfl)) (a9 (aO (i:=6) eg.nd rfl (Hh rfl)) c_)))) (ag (aR (ao a_ (pv 4) am (nomark _)) (ai (bn (cp PySem.F.plainAttrs_list PySem.F.slot_list_extend PySem.F.type_list_extend ky (pv 2) (aa (pv 6) ae)))) aM)
   (ag (aR (PW.pt (cY (ao jz (pv 4) am (nomark _)) (cH (ao a_ (aS eV (pv 4) ah (λ_ _=>rfl)) am (nomark _))))) (ag (bn (cp PySem.F.plainAttrs_list PySem.F.slot_list_append PySem.F.type_list_append b7 (pv 2) (aa (aY (aa am (aa (pv 3) ae))) ae)))
   (ag (bn (cp PySem.F.plainAttrs_list PySem.F.slot_list_extend PySem.F.type_list_extend ky (pv 2) (aa (pv 6) ae)))
   (ai (ay (i:=3) eg.nd rfl (Hh rfl) (aK bZ (pv 3) ah))))) aM)
   (ai (aR (ao a_ (pv 4) am (nomark _)) (ai (cg HS rfl (qX rfl T.gv (aa (aV bN rfl T.cr PySem.boot_len (aa (pv 1) ae)) ae)) (aO (i:=7) eg.nd rfl (Hh rfl)) (ag (bn (cp PySem.F.plainAttrs_list PySem.F.slot_list_append PySem.F.type_list_append b7 (pv 2) (aa (aY (aa am (aa (pv 7) ae))) ae)))
   (ag (bn (cp PySem.F.plainAttrs_list PySem.F.slot_list_extend PySem.F.type_list_extend ky (pv 2) (aa (gW rfl (fb (caps:=[]) (js:=[]) (cap:=trivial)) (bq (aS bM (aS bS (pv 1) (pv 7) (λ_ _=>rfl)) ah (λ_ _=>rfl))) (λ_ _ _ _=>(jW (ao jz (aS (r:=nQ K) bM (pv 0) ah (λ_ _=>rfl)) am (nomark _)))) (λ_ _ _ _=>(pv 0))) ae)))
   (ai (bn (cp PySem.F.plainAttrs_list PySem.F.slot_list_append PySem.F.type_list_append b7 (pv 2) (aa (aY (aa am (aa (pv 7) ae))) ae)))))))) aM)))))
   (ai (aP (pv 2)))))),?_⟩
 have ln:=nal.len;have lt:=tal.len;refine(⟨aJ (by simp),λp1 hp1=>?_⟩);have s1:=af hp1 (.lst []);have k1:upd H p1 (.lst []) p1=some (.lst []):=ac;generalize upd H p1 (.lst [])=H1 at s1 k1⊢;refine(⟨_,rfl,na,rfl,⟨_,SqL.of (s1 _ _ hna)⟩,cm (K:=K) (a:=na) (xs:=nv) (λi σ' G=>∃(h:Nat) (v4 v5 v6 v7:Option V) (us:List V) (ss:List Sw),σ'=[some (.ref na),some (.ref ta),some (.ref p1),some (.int (h:Int)),v4,v5,v6,v7]/\ak H G/\G p1=some (.lst us)/\aL (SwA (hid [p1] G)) us ss/\eX tt 0 named=ss++eX tt h (named.drop i)/\us.length<=9000*i) ⟨0,none,none,none,none,[],[],rfl,s1,k1,trivial,rfl,HZ _⟩ (λi σ' G _ g=>by obtain⟨_,_,_,_,_,_,_,_,m,_⟩:=g;exact SqL.of (m _ _ hna)) ?_ ?_⟩)
 .rintro i y σ' G hy ⟨h,v4,v5,v6,v7,us,ss,rfl,m,g1,sal,es,ul⟩;obtain⟨⟨wy,nm,ws⟩,hn,b,l,rfl,hb,hl⟩:=nal.getL hy;have hi:=(List.getElem?_eq_some_iff.mp hn).1;have wl:=nw _ (Ha hn);dsimp only at hb hl wl;have ed:named.drop i=(wy,nm,ws)::named.drop (i+1):=by
   obtain⟨hi,e⟩:=List.getElem?_eq_some_iff.mp hn;rw[Ia hi,e]
  rw[ed]at es;have es:eX tt 0 named=ss++(gY tt h (wy,nm,ws)++eX tt (h+hB wy.hd) (named.drop (i+1))):=es;obtain⟨cs,l1,l2⟩:=hl;have lc:=l2.len;unfold wkS at lc;rw[GT]at lc;have nlp:l≠p1:=λz=>by rw[z,hp1]at l1;cases l1
  have hidO:∀{G'},ak H G'->ak H (hid [p1] G'):=λ{G'} m'=>jr m' (λb hb=>by rw[List.mem_singleton.mp hb];exact hp1);have csw:∀{G'},ak H G'->aL (SwA (hid [p1] G')) cs (ws.map .w):=λ{G'} m'=>(Ds l2).imp λ_ _=>SwA.mono (hidO m');have ext:∀(G':Hp) (us':List V) (ss':List Sw),ak H G'->aL (SwA (hid [p1] G')) us' ss'->aL (SwA (hid [p1] (upd G' p1 (.lst (us'++cs))))) (us'++cs) (ss'++ws.map .w):=λG' us' ss' m' a'=>by rw[br (by simp)];exact a'.app (csw m')
  refine(⟨b,_,rfl,SqT.of (m _ _ hb),rfl,_,_,rfl,_,_,rfl,_,_,rfl,rfl,?_⟩);refine dH (λσ' G'=>∃(us':List V) (ss':List Sw),σ'=[some (.ref na),some (.ref ta),some (.ref p1),some (.int (h:Int)),some (.str (tx wy.t)),some (.str (tx nm)),some (.ref l),v7]/\ak H G'/\G' p1=some (.lst us')/\aL (SwA (hid [p1] G')) us' ss'/\ss'=ss++(if wy=.words then ws.map .w else[])/\us'.length<=9000*i+129) ?_ (λkey=>?_)
  .rintro σ' G2 ⟨us2,ss2,rfl,m2,g2,sal2,es2,ul2⟩;refine dH (λσ' G'=>∃(us':List V) (ss':List Sw),σ'=[some (.ref na),some (.ref ta),some (.ref p1),some (.int ((h+hB wy.hd:Nat):Int)),some (.str (tx wy.t)),some (.str (tx nm)),some (.ref l),v7]/\ak H G'/\G' p1=some (.lst us')/\aL (SwA (hid [p1] G')) us' ss'/\ss'=ss++(if wy=.words then ws.map .w else if wy.hd=true then .head h::ws.map .w else[])/\us'.length<=9000*i+300) ?_ (λkey=>?_)
   .rintro σ' G3 ⟨us3,ss3,rfl,m3,g3,sal3,es3,ul3⟩;refine(⟨_,rfl,rfl,_,rfl,?_⟩);rw[cw Ab];by_cases hL:wy=.lst
    .rw[decide_eq_true (show wy.t=nC by rw[hL];rfl)];refine aQ ?_;subst hL;have es3:ss3=ss:=by rw[es3];exact HU _
     subst es3;refine(⟨_,rfl,_,_,rfl,.inl (SqL.of (m3 _ _ hta)),_,rfl,(by omega),(by omega),ng (λj σ' G'=>∃(v7:Option V) (us':List V),σ'=[some (.ref na),some (.ref ta),some (.ref p1),some (.int ((h+hB (Wy.lst).hd:Nat):Int)),some (.str (tx (Wy.lst).t)),some (.str (tx nm)),some (.ref l),v7]/\ak H G'/\G' p1=some (.lst us')/\aL (SwA (hid [p1] G')) us' (ss3++fI tt j)/\us'.length<=9000*i+300+131*j) ?_ ?_ ?_⟩)
     .refine(⟨_,us3,rfl,m3,g3,?_,by omega⟩);rw[show fI tt 0=[]from rfl,HU];exact sal3
     .rintro j σ' G4 hj ⟨w7,us4,rfl,m4,g4,sal4,ul4⟩;rw[Ln];have hjt:j<tt.length:=by simp at hj;omega
      obtain⟨t,ht⟩:∃t,tt[j]?=some t:=⟨tt[j],GZ hjt⟩;obtain⟨v,hv,tb,tl',rfl,htb,c5,c51,c52⟩:=tal.getR ht;have tw5:=tw t (Ha ht);have lc5:=c52.len;unfold wkS at lc5;rw[GT]at lc5;refine(⟨_,rfl,.inl ⟨rfl,_,SqL.of g4⟩,_,rfl,le2,λp2 hp2=>?_⟩);have m5:=af hp2 (.tup [.str (PySem.Str.ofString "entry"),.int (j:Int)]);have np2:p2≠p1:=λz=>by rw[z,g4]at hp2;cases hp2
      refine(⟨_,_,_,rfl,rfl,m5 _ _ g4,Hq (show us4.length<=2000000 by omega) (by decide),?_⟩);have m6:=aW (o:=.lst (us4++[.ref p2])) (m4.trans m5) hp1;have k6:upd (upd G4 p2 (.tup [.str (PySem.Str.ofString "entry"),.int (j:Int)])) p1 (.lst (us4++[.ref p2])) p1=some (.lst (us4++[.ref p2])):=ac;have a6:aL (SwA (hid [p1] (upd (upd G4 p2 (.tup [.str (PySem.Str.ofString "entry"),.int (j:Int)])) p1 (.lst (us4++[.ref p2]))))) (us4++[.ref p2]) (ss3++fI tt j++[.entry j]):=by
       rw[br (by simp)];exact(sal4.imp λ_ _=>SwA.mono (bj m5)).snoc ⟨p2,rfl,aZ (by simpa using np2) ac⟩
      generalize upd (upd G4 p2 (.tup [.str (PySem.Str.ofString "entry"),.int (j:Int)])) p1 (.lst (us4++[.ref p2]))=G6 at m6 k6 a6⊢;refine(⟨_,rfl,.inl ⟨rfl,_,SqL.of k6⟩,_,rfl,_,rfl,_,_,_,_,rfl,rfl,SqL.of (m6 _ _ hta),dy hv,_,_,_,_,rfl,rfl,SqT.of (m6 _ _ htb),rfl,tl',rfl,⟨_,SqL.of (m6 _ _ c51)⟩,eD (K:=K) (a:=tl') (xs:=c5) (λi ys G'=>G6=G'/\ys.length<=i/\aL (SwA H) ys (ttW (t.1,t.2.take i))) ⟨rfl,G_ _,trivial⟩ (λi ys G' _ z=>by rw[<-z.1];exact SqL.of (m6 _ _ c51)) ?_ ?_ ?_⟩)
      .rintro i' ys G' hi' ⟨_,z,_⟩;exact aB (by omega)
      .rintro i' y' ys G' hy' ⟨rfl,z,az⟩;obtain⟨w',hw',wb,rfl,hwb⟩:=c52.getL hy';unfold wkS at hw';rw[HA]at hw';obtain⟨d,hd,rfl⟩:=Option.map_eq_some_iff.mp hw';have en:ttW (t.1,t.2.take (i'+1))=ttW (t.1,t.2.take i')++ttW (t.1,[d]):=by
        unfold ttW;dsimp only;rw[bb hd,IH,Hc]
       refine(⟨_,rfl,_,_,_,_,rfl,rfl,SqT.of (m6 _ _ hwb),rfl,rfl,_,rfl,?_⟩);by_cases hm:d.1=.mark
       .rw[decide_eq_true (show V.str (rC d).1.s=V.str "mark" by show V.str d.1.s=_;rw[hm];rfl)];refine av ?_;refine(⟨rfl,by omega,?_⟩);rw[en,show ttW (t.1,[d])=[]from by unfold ttW;simp[hm],HU];exact az
       .rw[decide_eq_false (show ¬ (V.str (rC d).1.s=V.str "mark")from λzz=>hm (Kw.inj (b:=.mark) (V.str.inj zz)))];refine aQ ?_;refine(⟨_,rfl,rfl,by rw[GX];simp only[GU,Hk];omega,?_⟩);rw[en,show ttW (t.1,[d])=[.w d]from by unfold ttW;simp[hm]];exact az.snoc ⟨wb,rfl,hwb⟩
      rintro ys G' ⟨rfl,zl,az⟩ p3 hp3;rw[lc5,Hu]at az;have m7:=af hp3 (.lst ys);have np3:p3≠p1:=λz=>by rw[z,k6]at hp3;cases hp3
      refine(⟨_,_,_,_,rfl,rfl,m7 _ _ k6,ac,HM (Hq (show(us4++[V.ref p2]).length+ys.length<=3000000 by rw[GX];simp only[GU,Hk];omega) (by decide)),?_⟩);have m8:=aW (o:=.lst (us4++[.ref p2]++ys)) (m6.trans m7) hp1;have k8:upd (upd G6 p3 (.lst ys)) p1 (.lst (us4++[.ref p2]++ys)) p1=some (.lst (us4++[.ref p2]++ys)):=ac;have a8:aL (SwA (hid [p1] (upd (upd G6 p3 (.lst ys)) p1 (.lst (us4++[.ref p2]++ys))))) (us4++[.ref p2]++ys) (ss3++fI tt j++[.entry j]++ttW t):=by
       rw[br (by simp)];exact(a6.imp λ_ _=>SwA.mono (bj m7)).app (az.imp λ_ _=>SwA.mono (hidO (m6.trans m7)))
      generalize upd (upd G6 p3 (.lst ys)) p1 (.lst (us4++[.ref p2]++ys))=G8 at m8 k8 a8⊢;refine(⟨_,rfl,.inl ⟨rfl,_,SqL.of k8⟩,_,rfl,le2,λp5 hp5=>?_⟩);have m9:=af hp5 (.tup [.str (PySem.Str.ofString "goal"),.int (j:Int)]);have np5:p5≠p1:=λz=>by rw[z,k8]at hp5;cases hp5
      refine(⟨_,_,_,rfl,rfl,m9 _ _ k8,Hq (show(us4++[V.ref p2]++ys).length<=3000000 by simp only[GX,GU,Hk];omega) (by decide),?_⟩);refine(⟨_,us4++[.ref p2]++ys++[.ref p5],rfl,aW (m8.trans m9) hp1,ac,?_,by simp only[GX,GU,Hk];omega⟩);rw[br (by simp),show ss3++fI tt (j+1)=ss3++fI tt j++[.entry j]++ttW t++[.goal j]from by
       unfold fI;rw[Kb,Jy];simp[pS,HE,ht]]
      exact(a8.imp λ_ _=>SwA.mono (bj m9)).snoc ⟨p5,rfl,aZ (by simpa using np5) ac⟩
     .rintro σ' G4 ⟨w7,us4,rfl,m4,g4,sal4,ul4⟩;rw[show I_ ((tv.length:Nat):Int)=tt.length by rw[lt];exact Jq _]at sal4 ul4;refine(⟨h+hB (Wy.lst).hd,_,_,_,_,us4,_,rfl,m4,g4,sal4,?_,by omega⟩);rw[es,HL];rfl
    .rw[decide_eq_false (show ¬ (wy.t=nC)from λz=>hL (Wy.inj (b:=.lst) z))];refine av ?_;refine(⟨h+hB wy.hd,_,_,_,_,us3,ss3,rfl,m3,g3,sal3,?_,by omega⟩);rw[es,es3];unfold gY;dsimp only;rw[if_neg hL,HL]
   .refine(⟨_,rfl,rfl,_,rfl,?_⟩);rw[show(!decide (V.str (tx wy.t)=V.str (PySem.Str.ofString ""))) = !decide (wy=.empty)from by
     rw[cw kM];cases wy<;>decide]
    by_cases he:wy=.empty
    .rw[decide_eq_true he];refine av ?_;refine av ?_;refine key _ _ ⟨us2,ss2,by rw[he];rfl,m2,g2,sal2,?_,by omega⟩;rw[es2,he];rfl
    .rw[decide_eq_false he];refine aQ ?_;obtain⟨c,u,ec,hc⟩:∃c u,wy.t=c::u/\decide (c=61)=wy.hd:=by
      cases wy<;>first|exact⟨_,_,rfl,rfl⟩|exact absurd rfl he
     refine(⟨_,rfl,_,_,c,rfl,rfl,(by rw[bf];cases wy<;>exact aJ (by decide)),(by rw[ec];exact iJ _ _),rfl,_,rfl,?_⟩)
     rw[cw cH1,show decide ([c]=[61])=wy.hd from by rw[<-hc];simp];cases hh:wy.hd with
     |false =>
      refine av ?_;refine key _ _ ⟨us2,ss2,by simp[hB,hh],m2,g2,sal2,?_,by omega⟩;rw[es2];simp[hh]
     |true =>
      refine aQ ?_;have nwd:wy≠.words:=λz=>by rw[z]at hh;cases hh
      refine(⟨_,rfl,.inl ⟨rfl,_,SqL.of g2⟩,_,rfl,le2,λp4 hp4=>?_⟩);have m4:=af hp4 (.tup [.str (PySem.Str.ofString "head"),.int (h:Int)]);have np4:p4≠p1:=λz=>by rw[z,g2]at hp4;cases hp4
      refine(⟨_,_,_,rfl,rfl,m4 _ _ g2,Hq (show us2.length<=2000000 by omega) (by decide),?_⟩);have m5:=aW (o:=.lst (us2++[.ref p4])) (m2.trans m4) hp1;have k5:upd (upd G2 p4 (.tup [.str (PySem.Str.ofString "head"),.int (h:Int)])) p1 (.lst (us2++[.ref p4])) p1=some (.lst (us2++[.ref p4])):=ac;have a5:aL (SwA (hid [p1] (upd (upd G2 p4 (.tup [.str (PySem.Str.ofString "head"),.int (h:Int)])) p1 (.lst (us2++[.ref p4]))))) (us2++[.ref p4]) (ss2++[.head h]):=by
       rw[br (by simp)];exact(sal2.imp λ_ _=>SwA.mono (bj m4)).snoc ⟨p4,rfl,aZ (by simpa using np4) ac⟩
      generalize upd (upd G2 p4 (.tup [.str (PySem.Str.ofString "head"),.int (h:Int)])) p1 (.lst (us2++[.ref p4]))=G5 at m5 k5 a5⊢;refine(⟨_,rfl,.inl ⟨rfl,_,SqL.of k5⟩,_,rfl,_,_,_,_,rfl,rfl,k5,m5 _ _ l1,HM (Hq (show(us2++[V.ref p4]).length+cs.length<=3000000 by rw[GX];simp only[GU,Hk];omega) (by decide)),?_⟩);refine(⟨_,rfl,_,_,rfl,rfl,?_⟩);refine key _ _ ⟨us2++[.ref p4]++cs,_,by simp[hB,hh],aW m5 hp1,ac,ext G5 _ _ m5 a5,?_,by simp only[GX,GU,Hk];omega⟩;rw[es2];simp[nwd,hh]
  .refine(⟨_,rfl,rfl,_,rfl,?_⟩);rw[cw jJ];by_cases hw:wy=.words
   .rw[decide_eq_true (show wy.t=[119,111,114,100,115] by rw[hw];rfl)];refine aQ ?_;refine(⟨_,rfl,.inl ⟨rfl,_,SqL.of g1⟩,_,rfl,_,_,_,_,rfl,rfl,g1,m _ _ l1,HM (Hq (show us.length+cs.length<=3000000 by omega) (by decide)),?_⟩);refine key _ _ ⟨us++cs,_,rfl,aW m hp1,ac,ext G _ _ m sal,by rw[if_pos hw],by rw[GX];omega⟩
   .rw[decide_eq_false (show ¬ (wy.t=[119,111,114,100,115])from λz=>hw (Wy.inj (b:=.words) z))];refine av ?_;exact key _ _ ⟨us,ss,rfl,m,g1,sal,by rw[if_neg hw,HU],by omega⟩
 rintro σ' G ⟨h,v4,v5,v6,v7,us,ss,rfl,m,g1,sal,es,ul⟩;rw[ln,IS]at es;have es:eX tt 0 named=ss:=by rw[es];exact HU _
 exact(⟨_,rfl,q p1 G us hp1 m g1 (by rw[es];exact sal.imp λ_ _=>SwA.mono bT)⟩)

def gC:Wy->Nat
 |.h1=>1|.h2=>2|.h3=>3|_=>0
def bO:Nat×Nat×Nat->List bD->List Ttl
 |_,[]=>[]
 |c,r::rs=>if r.1.hd=true then(eK (bG c (gC r.1:Int)) (gC r.1:Int),r.2.2)::bO (bG c (gC r.1:Int)) rs else bO c rs
def yr(c:Nat×Nat×Nat):List V:=[.int 0,.int (c.1:Int),.int (c.2.1:Int),.int (c.2.2:Int)]
theorem tm{n:Nat}(h:n<=300):((n:Int)).natAbs.log2<1920:=by
 have:∀m:Nat,m<=300->((m:Int)).natAbs.log2<1920:=by decide +kernel
 exact this n h

def y3(K:PySem.W.Frag):Sp:=λvs H Q _=>∃(na:Addr) (nv:List V) (named:List bD),vs=[.ref na]/\H na=some (.lst nv)/\aL (NnA H) nv named/\named.length<=200/\∀p H' us,H p=none->ak H H'->H' p=some (.lst us)->aL (TtA H') us (bO (0,0,0) named)->Q (.ref p) H'
theorem eo:aN ["named","counters","titles","way","name","words","k","number"] ["named"] (au pV):=by walk_at "c"
theorem tR(T:Txt P w K mg a):bi P w K mg base CX0 1 a.qt a.oO ["named"] (y3 K):=by
 refine T.lO.fn.ok eo (λvs H Q E h=>?_) (λcdv A outer s H vs Q E hr h=>?_)
 .obtain⟨na,nv,named,rfl,_⟩:=h;rfl
 obtain⟨na,nv,named,rfl,hna,nal,nl,q⟩:=h;refine⟨_,(ag (ay (i:=1) eo.nd rfl (Or.inr rfl) (aU (aa ah (aa ah (aa ah (aa ah ae))))))
   (ag (ay (i:=2) eo.nd rfl (Hh rfl) (aU ae))
   (ag (cg HS rfl (bq (pv 0)) (dP rfl (a9 (aO (i:=3) eo.nd rfl (Hh rfl)) (a9 (aO (i:=4) eo.nd rfl (Hh rfl)) (a9 (aO (i:=5) eo.nd rfl (Hh rfl)) c_)))) (ai (aR (PW.pt (cY (ao jz (pv 3) am (nomark _)) (cH (ao a_ (aS eV (pv 3) ah (λ_ _=>rfl)) am (nomark _))))) (ag (xC (aK bZ (aS bS (pv 1) (aV dt rfl T.cr PySem.boot_len (aa (pv 3) ae)) (λ_ _=>rfl)) ah) (xB (pv 1) (aV dt rfl T.cr PySem.boot_len (aa (pv 3) ae)) tW))
   (ag (cg HS rfl (vQ rfl T.gv (aa (aK bZ (aV dt rfl T.cr PySem.boot_len (aa (pv 3) ae)) ah) (aa ah ae))) (aO (i:=6) eo.nd rfl (Hh rfl)) (ai (xC ah (xB (pv 1) (pv 6) tW))))
   (ag (ay (i:=7) eo.nd rfl (Hh rfl) (cp PySem.F.plainAttrs_str PySem.F.slot_str_join PySem.F.type_str_join oW am (aa (gW rfl (fb (caps:=["counters"]) (js:=[1]) (cap:=⟨⟨rfl,.inl rfl,rfl,.inl rfl⟩,trivial⟩)) (vQ rfl T.gv (aa ah (aa (aK bZ (aV dt rfl T.cr PySem.boot_len (aa (pv 3) ae)) ah) ae))) (λ_ _ _ _=>dY) (λ_ _ _ _=>(ni q8 rfl T.qE PyProof.Rows.boot_str (aa (aS (r:=EN K) bS (pv 1) (pv 0) (λ_ _=>rfl)) ae)))) ae)))
   (ai (bn (cp PySem.F.plainAttrs_list PySem.F.slot_list_append PySem.F.type_list_append b7 (pv 2) (aa (aY (aa (pv 7) (aa (pv 5) ae))) ae))))))) aM)))
   (ai (aP (pv 2)))))),?_⟩
 have ln:=nal.len;refine⟨le4,λp1 hp1=>?_⟩;have s1:=af hp1 (.lst [V.int 0,.int 0,.int 0,.int 0]);have k1:upd H p1 (.lst [V.int 0,.int 0,.int 0,.int 0]) p1=some (.lst (yr (0,0,0))):=ac;generalize upd H p1 (.lst [V.int 0,.int 0,.int 0,.int 0])=H1 at s1 k1⊢;refine⟨aJ (by simp),λp2 hp2=>?_⟩;have hp2':=s1.free hp2;have n12:p1≠p2:=λz=>by rw[z]at k1;rw[k1]at hp2;cases hp2
 have s2:=s1.trans (af hp2 (.lst []));have k1':=af hp2 (.lst []) _ _ k1;have k2:upd H1 p2 (.lst []) p2=some (.lst []):=ac;generalize upd H1 p2 (.lst [])=H2 at s2 k1' k2⊢;refine⟨_,rfl,na,rfl,⟨_,SqL.of (s2 _ _ hna)⟩,cm (K:=K) (a:=na) (xs:=nv) (λi σ' G=>∃(c1 c2 c3:Nat) (v3 v4 v5 v6 v7:Option V) (us:List V) (tt:List Ttl),σ'=[some (.ref na),some (.ref p1),some (.ref p2),v3,v4,v5,v6,v7]/\ak H G/\G p1=some (.lst (yr (c1,c2,c3)))/\G p2=some (.lst us)/\aL (TtA (hid [p1,p2] G)) us tt/\bO (0,0,0) named=tt++bO (c1,c2,c3) (named.drop i)/\us.length<=i/\c1<=i/\c2<=i/\c3<=i) ⟨0,0,0,none,none,none,none,none,[],[],rfl,s2,k1',k2,trivial,rfl,HZ _,HZ _,HZ _,HZ _⟩ (λi σ' G _ g=>by obtain⟨_,_,_,_,_,_,_,_,_,_,_,m,_⟩:=g;exact SqL.of (m _ _ hna)) ?_ ?_⟩
 .rintro i y σ' G hy ⟨c1,c2,c3,v3,v4,v5,v6,v7,us,tt,rfl,m,g1,g2,tal,et,ul,b1,b2,b3⟩;obtain⟨⟨wy,nm,ws⟩,hn,b,l,rfl,hb,hl⟩:=nal.getL hy;have hi:=(List.getElem?_eq_some_iff.mp hn).1;dsimp only at hb hl;have ed:named.drop i=(wy,nm,ws)::named.drop (i+1):=by
   obtain⟨hi,e⟩:=List.getElem?_eq_some_iff.mp hn;rw[Ia hi,e]
  rw[ed]at et;refine⟨b,_,rfl,SqT.of (m _ _ hb),rfl,_,_,rfl,_,_,rfl,_,_,rfl,rfl,?_⟩;refine⟨_,rfl,rfl,_,rfl,?_⟩;have skip:wy.hd=false->∃(c1' c2' c3':Nat) (v3 v4 v5 v6 v7:Option V) (us':List V) (tt':List Ttl),[some (.ref na),some (.ref p1),some (.ref p2),some (.str (tx wy.t)),some (.str (tx nm)),some (.ref l),v6,v7]=[some (.ref na),some (.ref p1),some (.ref p2),v3,v4,v5,v6,v7]/\True->True:=λ_=>⟨0,0,0,none,none,none,none,none,[],[],λ_=>trivial⟩;rw[show(!decide (V.str (tx wy.t)=V.str (PySem.Str.ofString ""))) = !decide (wy=.empty)from by
   rw[cw kM];cases wy<;>decide]
  by_cases he:wy=.empty
  .rw[decide_eq_true he];refine av ?_;refine av ?_;refine⟨c1,c2,c3,_,_,_,_,_,us,tt,rfl,m,g1,g2,tal,?_,by omega,by omega,by omega,by omega⟩;rw[et,he];rfl
  .rw[decide_eq_false he];refine aQ ?_;obtain⟨c,u,ec,hc⟩:∃c u,wy.t=c::u/\decide (c=61)=wy.hd:=by
    cases wy<;>first|exact⟨_,_,rfl,rfl⟩|exact absurd rfl he
   refine⟨_,rfl,_,_,c,rfl,rfl,(by rw[bf];cases wy<;>exact aJ (by decide)),(by rw[ec];exact iJ _ _),rfl,_,rfl,?_⟩
   rw[cw cH1,show decide ([c]=[61])=wy.hd from by rw[<-hc];simp];have no:wy.hd=false->bO (0,0,0) named=tt++bO (c1,c2,c3) (named.drop (i+1)):=λhh=>by
    rw[et];show tt++(if wy.hd=true then _ else _)=_;rw[if_neg (by rw[hh];decide)]
   cases wy with
   |words =>
    refine av ?_;exact⟨c1,c2,c3,_,_,_,_,_,us,tt,rfl,m,g1,g2,tal,no rfl,by omega,by omega,by omega,by omega⟩
   |page =>
    refine av ?_;exact⟨c1,c2,c3,_,_,_,_,_,us,tt,rfl,m,g1,g2,tal,no rfl,by omega,by omega,by omega,by omega⟩
   |odd =>
    refine av ?_;exact⟨c1,c2,c3,_,_,_,_,_,us,tt,rfl,m,g1,g2,tal,no rfl,by omega,by omega,by omega,by omega⟩
   |lst =>
    refine av ?_;exact⟨c1,c2,c3,_,_,_,_,_,us,tt,rfl,m,g1,g2,tal,no rfl,by omega,by omega,by omega,by omega⟩
   |foot =>
    refine av ?_;exact⟨c1,c2,c3,_,_,_,_,_,us,tt,rfl,m,g1,g2,tal,no rfl,by omega,by omega,by omega,by omega⟩
   |empty=>exact absurd rfl he
   |h1 =>
    refine aQ ?_;refine⟨_,rfl,_,rfl,_,rfl,aJ (by decide),_,_,_,_,rfl,rfl,SqL.of g1,rfl,_,_,rfl,rfl,_,rfl,_,rfl,_,rfl,aJ (by decide),_,_,_,_,rfl,rfl,g1,rfl,?_⟩;have m2:=aW (o:=.lst [V.int 0,.int (((c1:Nat):Int)+1),.int ((c2:Nat):Int),.int ((c3:Nat):Int)]) m hp1;have g2':upd G p1 (.lst [V.int 0,.int (((c1:Nat):Int)+1),.int ((c2:Nat):Int),.int ((c3:Nat):Int)]) p1=some (.lst [V.int 0,.int (((c1:Nat):Int)+1),.int ((c2:Nat):Int),.int ((c3:Nat):Int)]):=ac;have g3':upd G p1 (.lst [V.int 0,.int (((c1:Nat):Int)+1),.int ((c2:Nat):Int),.int ((c3:Nat):Int)]) p2=some (.lst us):=by rw[aj (HW n12)];exact g2
    have a3:aL (TtA (hid [p1,p2] (upd G p1 (.lst [V.int 0,.int (((c1:Nat):Int)+1),.int ((c2:Nat):Int),.int ((c3:Nat):Int)])))) us tt:=by rw[br (by simp)];exact tal
    refine⟨_,rfl,_,rfl,aJ (by decide),_,_,rfl,rfl,_,_,rfl,⟨by decide,by decide,by decide,by decide⟩,ng (λj σ' G'=>∃v6',σ'=[some (.ref na),some (.ref p1),some (.ref p2),some (.str (tx (Wy.h1).t)),some (.str (tx nm)),some (.ref l),v6',v7]/\ak H G'/\G' p1=some (.lst [V.int 0,.int ((c1+1:Nat):Int),.int (if 1<=j then 0 else((c2:Nat):Int)),.int (if 2<=j then 0 else((c3:Nat):Int))])/\G' p2=some (.lst us)/\aL (TtA (hid [p1,p2] G')) us tt) ?_ ?_ ?_⟩
    .exact⟨_,rfl,m2,g2',g3',a3⟩
    .rintro j σ' G' hj ⟨w6,rfl,m3,g31,g32,a3'⟩;rcases(show j=0\/j=1 by have:(I_ (4-((((tx (Wy.h1).t).length:Nat):Int)+1)))=2:=rfl;omega)with rfl|rfl
     .refine⟨_,rfl,_,rfl,_,_,_,_,rfl,rfl,g31,rfl,?_⟩;refine⟨_,rfl,aW m3 hp1,by rw[ac];rfl,by rw[aj (HW n12)];exact g32,by rw[br (by simp)];exact a3'⟩
     .refine⟨_,rfl,_,rfl,_,_,_,_,rfl,rfl,g31,rfl,?_⟩;refine⟨_,rfl,aW m3 hp1,by rw[ac];rfl,by rw[aj (HW n12)];exact g32,by rw[br (by simp)];exact a3'⟩
    .rintro σ' G' ⟨w6,rfl,m3,g31,g32,a3'⟩;have g31:G' p1=some (.lst (yr (c1+1,0,0))):=g31;refine⟨rfl,_,rfl,_,rfl,aJ (by decide),_,_,rfl,rfl,_,_,rfl,⟨by decide,by decide,by decide,by decide⟩,lS (λi ys G2=>G'=G2/\ys=(([aX (c1+1)].take i).map tx).map V.str) ⟨rfl,rfl⟩ ?_ ?_ ?_⟩
     .rintro i' ys G2 hi' ⟨_,rfl⟩;exact aB (by simp only[GT,HD,GU,Hk];omega)
     .rintro i' ys G2 hi' ⟨rfl,rfl⟩;refine eI ?_;rcases(show i'=0 by have:(I_ (((((tx (Wy.h1).t).length:Nat):Int)+1)-1))=1:=rfl;omega)with rfl
      .refine⟨_,rfl,_,rfl,_,_,_,_,rfl,rfl,SqL.of g31,rfl,_,rfl,tm (n:=c1+1) (by omega),rfl,?_⟩;rw[jk];rfl
     rintro ys G2 ⟨rfl,ey⟩ p3 hp3;have ey:ys=([aX (c1+1)].map tx).map V.str:=ey;subst ey;have m4:=af hp3 (.lst (([aX (c1+1)].map tx).map V.str));refine⟨_,_,_,rfl,rfl,SqL.of ac,by decide,?_,?_⟩
     .have h1:=lZ [aX (c1+1)] λt ht=>by
       simp only[Ih,H_,or_false]at ht;rcases ht with rfl<;>exact Ho (jY 3 _ (by omega)) (by decide)
      simp only[GT,GU,Hk];exact Ho (J6 h1 _) (by show 61*1+1<=1048576;decide)
     .have ej:Txt.join (PySem.Str.ofString ".") ([aX (c1+1)].map tx)=tx (eK (bG (c1,c2,c3) (1:Int)) (1:Int)):=by
       rw[show(PySem.Str.ofString ".")=tx [46] by decide +kernel,jX];rfl
      refine⟨_,rfl,.inl ⟨rfl,_,SqL.of (m4 _ _ g32)⟩,_,rfl,_,rfl,le2,λpt hpt=>?_⟩;have m5:=af hpt (.tup [.str (Txt.join (PySem.Str.ofString ".") ([aX (c1+1)].map tx)),.ref l]);have q1:=m4 _ _ g31;have q2:=m4 _ _ g32;have k5:upd (upd G' p3 (.lst (([aX (c1+1)].map tx).map V.str))) pt (.tup [.str (Txt.join (PySem.Str.ofString ".") ([aX (c1+1)].map tx)),.ref l]) pt=some (.tup [.str (tx (eK (bG (c1,c2,c3) (1:Int)) (1:Int))),.ref l]):=by rw[ac,ej]
      have np:pt∉[p1,p2]:=λz=>by
       rcases List.mem_cons.mp z with z|z
       .rw[z,q1]at hpt;cases hpt
       .rw[List.mem_singleton.mp z,q2]at hpt;cases hpt
      have m45:=m4.trans m5;have mz:=m3.trans m45;have hz:ak H (hid [p1,p2] _):=jr mz λb hb=>by
       rcases List.mem_cons.mp hb with rfl|hb
       .exact hp1
       .rw[List.mem_singleton.mp hb];exact hp2'
      have q1:=m5 _ _ q1;have q2:=m5 _ _ q2;generalize upd (upd G' p3 (.lst (([aX (c1+1)].map tx).map V.str))) pt (.tup [.str (Txt.join (PySem.Str.ofString ".") ([aX (c1+1)].map tx)),.ref l])=G5 at k5 m45 mz hz q1 q2⊢;refine⟨_,_,_,rfl,rfl,q2,aB (by omega),?_⟩;refine⟨c1+1,0,0,_,_,_,_,_,us++[.ref pt],tt++[(eK (bG (c1,c2,c3) (1:Int)) (1:Int),ws)],rfl,aW mz hp2',by rw[aj n12];exact q1,ac,?_,?_,by rw[GX];simp only[GU,Hk];omega,by omega,by omega,by omega⟩
      .rw[br (by simp)];exact(a3'.imp λ_ _=>TtA.mono (bj m45)).snoc ⟨pt,l,rfl,aZ np k5,hl.mono hz⟩
      .rw[et,HL];rfl
   |h2 =>
    refine aQ ?_;refine⟨_,rfl,_,rfl,_,rfl,aJ (by decide),_,_,_,_,rfl,rfl,SqL.of g1,rfl,_,_,rfl,rfl,_,rfl,_,rfl,_,rfl,aJ (by decide),_,_,_,_,rfl,rfl,g1,rfl,?_⟩;have m2:=aW (o:=.lst [V.int 0,.int ((c1:Nat):Int),.int (((c2:Nat):Int)+1),.int ((c3:Nat):Int)]) m hp1;have g2':upd G p1 (.lst [V.int 0,.int ((c1:Nat):Int),.int (((c2:Nat):Int)+1),.int ((c3:Nat):Int)]) p1=some (.lst [V.int 0,.int ((c1:Nat):Int),.int (((c2:Nat):Int)+1),.int ((c3:Nat):Int)]):=ac;have g3':upd G p1 (.lst [V.int 0,.int ((c1:Nat):Int),.int (((c2:Nat):Int)+1),.int ((c3:Nat):Int)]) p2=some (.lst us):=by rw[aj (HW n12)];exact g2
    have a3:aL (TtA (hid [p1,p2] (upd G p1 (.lst [V.int 0,.int ((c1:Nat):Int),.int (((c2:Nat):Int)+1),.int ((c3:Nat):Int)])))) us tt:=by rw[br (by simp)];exact tal
    refine⟨_,rfl,_,rfl,aJ (by decide),_,_,rfl,rfl,_,_,rfl,⟨by decide,by decide,by decide,by decide⟩,ng (λj σ' G'=>∃v6',σ'=[some (.ref na),some (.ref p1),some (.ref p2),some (.str (tx (Wy.h2).t)),some (.str (tx nm)),some (.ref l),v6',v7]/\ak H G'/\G' p1=some (.lst [V.int 0,.int ((c1:Nat):Int),.int ((c2+1:Nat):Int),.int (if 1<=j then 0 else((c3:Nat):Int))])/\G' p2=some (.lst us)/\aL (TtA (hid [p1,p2] G')) us tt) ?_ ?_ ?_⟩
    .exact⟨_,rfl,m2,g2',g3',a3⟩
    .rintro j σ' G' hj ⟨w6,rfl,m3,g31,g32,a3'⟩;obtain rfl:j=0:=by have:(I_ (4-((((tx (Wy.h2).t).length:Nat):Int)+1)))=1:=rfl;omega
     refine⟨_,rfl,_,rfl,_,_,_,_,rfl,rfl,g31,rfl,?_⟩;refine⟨_,rfl,aW m3 hp1,by rw[ac];rfl,by rw[aj (HW n12)];exact g32,by rw[br (by simp)];exact a3'⟩
    .rintro σ' G' ⟨w6,rfl,m3,g31,g32,a3'⟩;have g31:G' p1=some (.lst (yr (c1,c2+1,0))):=g31;refine⟨rfl,_,rfl,_,rfl,aJ (by decide),_,_,rfl,rfl,_,_,rfl,⟨by decide,by decide,by decide,by decide⟩,lS (λi ys G2=>G'=G2/\ys=(([aX (c1),aX (c2+1)].take i).map tx).map V.str) ⟨rfl,rfl⟩ ?_ ?_ ?_⟩
     .rintro i' ys G2 hi' ⟨_,rfl⟩;exact aB (by simp only[GT,HD,GU,Hk];omega)
     .rintro i' ys G2 hi' ⟨rfl,rfl⟩;refine eI ?_;rcases(show i'=0\/i'=1 by have:(I_ (((((tx (Wy.h2).t).length:Nat):Int)+1)-1))=2:=rfl;omega)with rfl|rfl
      .refine⟨_,rfl,_,rfl,_,_,_,_,rfl,rfl,SqL.of g31,rfl,_,rfl,tm (n:=c1) (by omega),rfl,?_⟩;rw[jk];rfl
      .refine⟨_,rfl,_,rfl,_,_,_,_,rfl,rfl,SqL.of g31,rfl,_,rfl,tm (n:=c2+1) (by omega),rfl,?_⟩;rw[jk];rfl
     rintro ys G2 ⟨rfl,ey⟩ p3 hp3;have ey:ys=([aX (c1),aX (c2+1)].map tx).map V.str:=ey;subst ey;have m4:=af hp3 (.lst (([aX (c1),aX (c2+1)].map tx).map V.str));refine⟨_,_,_,rfl,rfl,SqL.of ac,by decide,?_,?_⟩
     .have h1:=lZ [aX (c1),aX (c2+1)] λt ht=>by
       simp only[Ih,H_,or_false]at ht;rcases ht with rfl|rfl<;>exact Ho (jY 3 _ (by omega)) (by decide)
      simp only[GT,GU,Hk];exact Ho (J6 h1 _) (by show 61*2+2<=1048576;decide)
     .have ej:Txt.join (PySem.Str.ofString ".") ([aX (c1),aX (c2+1)].map tx)=tx (eK (bG (c1,c2,c3) (2:Int)) (2:Int)):=by
       rw[show(PySem.Str.ofString ".")=tx [46] by decide +kernel,jX];rfl
      refine⟨_,rfl,.inl ⟨rfl,_,SqL.of (m4 _ _ g32)⟩,_,rfl,_,rfl,le2,λpt hpt=>?_⟩;have m5:=af hpt (.tup [.str (Txt.join (PySem.Str.ofString ".") ([aX (c1),aX (c2+1)].map tx)),.ref l]);have q1:=m4 _ _ g31;have q2:=m4 _ _ g32;have k5:upd (upd G' p3 (.lst (([aX (c1),aX (c2+1)].map tx).map V.str))) pt (.tup [.str (Txt.join (PySem.Str.ofString ".") ([aX (c1),aX (c2+1)].map tx)),.ref l]) pt=some (.tup [.str (tx (eK (bG (c1,c2,c3) (2:Int)) (2:Int))),.ref l]):=by rw[ac,ej]
      have np:pt∉[p1,p2]:=λz=>by
       rcases List.mem_cons.mp z with z|z
       .rw[z,q1]at hpt;cases hpt
       .rw[List.mem_singleton.mp z,q2]at hpt;cases hpt
      have m45:=m4.trans m5;have mz:=m3.trans m45;have hz:ak H (hid [p1,p2] _):=jr mz λb hb=>by
       rcases List.mem_cons.mp hb with rfl|hb
       .exact hp1
       .rw[List.mem_singleton.mp hb];exact hp2'
      have q1:=m5 _ _ q1;have q2:=m5 _ _ q2;generalize upd (upd G' p3 (.lst (([aX (c1),aX (c2+1)].map tx).map V.str))) pt (.tup [.str (Txt.join (PySem.Str.ofString ".") ([aX (c1),aX (c2+1)].map tx)),.ref l])=G5 at k5 m45 mz hz q1 q2⊢;refine⟨_,_,_,rfl,rfl,q2,aB (by omega),?_⟩;refine⟨c1,c2+1,0,_,_,_,_,_,us++[.ref pt],tt++[(eK (bG (c1,c2,c3) (2:Int)) (2:Int),ws)],rfl,aW mz hp2',by rw[aj n12];exact q1,ac,?_,?_,by rw[GX];simp only[GU,Hk];omega,by omega,by omega,by omega⟩
      .rw[br (by simp)];exact(a3'.imp λ_ _=>TtA.mono (bj m45)).snoc ⟨pt,l,rfl,aZ np k5,hl.mono hz⟩
      .rw[et,HL];rfl
   |h3 =>
    refine aQ ?_;refine⟨_,rfl,_,rfl,_,rfl,aJ (by decide),_,_,_,_,rfl,rfl,SqL.of g1,rfl,_,_,rfl,rfl,_,rfl,_,rfl,_,rfl,aJ (by decide),_,_,_,_,rfl,rfl,g1,rfl,?_⟩;have m2:=aW (o:=.lst [V.int 0,.int ((c1:Nat):Int),.int ((c2:Nat):Int),.int (((c3:Nat):Int)+1)]) m hp1;have g2':upd G p1 (.lst [V.int 0,.int ((c1:Nat):Int),.int ((c2:Nat):Int),.int (((c3:Nat):Int)+1)]) p1=some (.lst [V.int 0,.int ((c1:Nat):Int),.int ((c2:Nat):Int),.int (((c3:Nat):Int)+1)]):=ac;have g3':upd G p1 (.lst [V.int 0,.int ((c1:Nat):Int),.int ((c2:Nat):Int),.int (((c3:Nat):Int)+1)]) p2=some (.lst us):=by rw[aj (HW n12)];exact g2
    have a3:aL (TtA (hid [p1,p2] (upd G p1 (.lst [V.int 0,.int ((c1:Nat):Int),.int ((c2:Nat):Int),.int (((c3:Nat):Int)+1)])))) us tt:=by rw[br (by simp)];exact tal
    refine⟨_,rfl,_,rfl,aJ (by decide),_,_,rfl,rfl,_,_,rfl,⟨by decide,by decide,by decide,by decide⟩,ng (λj σ' G'=>∃v6',σ'=[some (.ref na),some (.ref p1),some (.ref p2),some (.str (tx (Wy.h3).t)),some (.str (tx nm)),some (.ref l),v6',v7]/\ak H G'/\G' p1=some (.lst [V.int 0,.int ((c1:Nat):Int),.int ((c2:Nat):Int),.int ((c3+1:Nat):Int)])/\G' p2=some (.lst us)/\aL (TtA (hid [p1,p2] G')) us tt) ?_ ?_ ?_⟩
    .exact⟨_,rfl,m2,g2',g3',a3⟩
    .rintro j σ' G' hj ⟨w6,rfl,m3,g31,g32,a3'⟩;exact absurd hj (by have:(I_ (4-((((tx (Wy.h3).t).length:Nat):Int)+1)))=0:=rfl;omega)
    .rintro σ' G' ⟨w6,rfl,m3,g31,g32,a3'⟩;have g31:G' p1=some (.lst (yr (c1,c2,c3+1))):=g31;refine⟨rfl,_,rfl,_,rfl,aJ (by decide),_,_,rfl,rfl,_,_,rfl,⟨by decide,by decide,by decide,by decide⟩,lS (λi ys G2=>G'=G2/\ys=(([aX (c1),aX (c2),aX (c3+1)].take i).map tx).map V.str) ⟨rfl,rfl⟩ ?_ ?_ ?_⟩
     .rintro i' ys G2 hi' ⟨_,rfl⟩;exact aB (by simp only[GT,HD,GU,Hk];omega)
     .rintro i' ys G2 hi' ⟨rfl,rfl⟩;refine eI ?_;rcases(show i'=0\/i'=1\/i'=2 by have:(I_ (((((tx (Wy.h3).t).length:Nat):Int)+1)-1))=3:=rfl;omega)with rfl|rfl|rfl
      .refine⟨_,rfl,_,rfl,_,_,_,_,rfl,rfl,SqL.of g31,rfl,_,rfl,tm (n:=c1) (by omega),rfl,?_⟩;rw[jk];rfl
      .refine⟨_,rfl,_,rfl,_,_,_,_,rfl,rfl,SqL.of g31,rfl,_,rfl,tm (n:=c2) (by omega),rfl,?_⟩;rw[jk];rfl
      .refine⟨_,rfl,_,rfl,_,_,_,_,rfl,rfl,SqL.of g31,rfl,_,rfl,tm (n:=c3+1) (by omega),rfl,?_⟩;rw[jk];rfl
     rintro ys G2 ⟨rfl,ey⟩ p3 hp3;have ey:ys=([aX (c1),aX (c2),aX (c3+1)].map tx).map V.str:=ey;subst ey;have m4:=af hp3 (.lst (([aX (c1),aX (c2),aX (c3+1)].map tx).map V.str));refine⟨_,_,_,rfl,rfl,SqL.of ac,by decide,?_,?_⟩
     .have h1:=lZ [aX (c1),aX (c2),aX (c3+1)] λt ht=>by
       simp only[Ih,H_,or_false]at ht;rcases ht with rfl|rfl|rfl<;>exact Ho (jY 3 _ (by omega)) (by decide)
      simp only[GT,GU,Hk];exact Ho (J6 h1 _) (by show 61*3+3<=1048576;decide)
     .have ej:Txt.join (PySem.Str.ofString ".") ([aX (c1),aX (c2),aX (c3+1)].map tx)=tx (eK (bG (c1,c2,c3) (3:Int)) (3:Int)):=by
       rw[show(PySem.Str.ofString ".")=tx [46] by decide +kernel,jX];rfl
      refine⟨_,rfl,.inl ⟨rfl,_,SqL.of (m4 _ _ g32)⟩,_,rfl,_,rfl,le2,λpt hpt=>?_⟩;have m5:=af hpt (.tup [.str (Txt.join (PySem.Str.ofString ".") ([aX (c1),aX (c2),aX (c3+1)].map tx)),.ref l]);have q1:=m4 _ _ g31;have q2:=m4 _ _ g32;have k5:upd (upd G' p3 (.lst (([aX (c1),aX (c2),aX (c3+1)].map tx).map V.str))) pt (.tup [.str (Txt.join (PySem.Str.ofString ".") ([aX (c1),aX (c2),aX (c3+1)].map tx)),.ref l]) pt=some (.tup [.str (tx (eK (bG (c1,c2,c3) (3:Int)) (3:Int))),.ref l]):=by rw[ac,ej]
      have np:pt∉[p1,p2]:=λz=>by
       rcases List.mem_cons.mp z with z|z
       .rw[z,q1]at hpt;cases hpt
       .rw[List.mem_singleton.mp z,q2]at hpt;cases hpt
      have m45:=m4.trans m5;have mz:=m3.trans m45;have hz:ak H (hid [p1,p2] _):=jr mz λb hb=>by
       rcases List.mem_cons.mp hb with rfl|hb
       .exact hp1
       .rw[List.mem_singleton.mp hb];exact hp2'
      have q1:=m5 _ _ q1;have q2:=m5 _ _ q2;generalize upd (upd G' p3 (.lst (([aX (c1),aX (c2),aX (c3+1)].map tx).map V.str))) pt (.tup [.str (Txt.join (PySem.Str.ofString ".") ([aX (c1),aX (c2),aX (c3+1)].map tx)),.ref l])=G5 at k5 m45 mz hz q1 q2⊢;refine⟨_,_,_,rfl,rfl,q2,aB (by omega),?_⟩;refine⟨c1,c2,c3+1,_,_,_,_,_,us++[.ref pt],tt++[(eK (bG (c1,c2,c3) (3:Int)) (3:Int),ws)],rfl,aW mz hp2',by rw[aj n12];exact q1,ac,?_,?_,by rw[GX];simp only[GU,Hk];omega,by omega,by omega,by omega⟩
      .rw[br (by simp)];exact(a3'.imp λ_ _=>TtA.mono (bj m45)).snoc ⟨pt,l,rfl,aZ np k5,hl.mono hz⟩
      .rw[et,HL];rfl
 rintro σ' G ⟨c1,c2,c3,v3,v4,v5,v6,v7,us,tt,rfl,m,g1,g2,tal,et,ul,b1,b2,b3⟩;rw[ln,IS]at et;have et:bO (0,0,0) named=tt:=by rw[et];exact HU _
 exact⟨_,rfl,q p2 G us hp2' m g2 (by rw[et];exact tal.imp λ_ _=>TtA.mono bT)⟩
theorem BQ{tt:List Ttl}(ht:∀t∈tt,t.2.length<=129)(k:Nat):(pS tt k).length<=131:=by
 have:(ttW (tt.getD k ([],[]))).length<=129:=by
  unfold ttW;rw[GT];refine Ho (IC _ _) ?_;rw[HE];cases e:tt[k]? with
  |none=>exact HZ _
  |some t=>exact ht t (Ha e)
 unfold pS;rw[GU,GX];simp only[GU,Hk];omega
theorem yt{α:Type}{f:Nat->List α}{m:Nat}(h:∀k,(f k).length<=m):∀l:List Nat,(l.flatMap f).length<=m*l.length
 |[]=>G_ _
 |a::l=>by
  have h1:=h a;have h2:=yt h l;rw[IK,GX,GU,Nat.mul_succ];omega
theorem yu{tt:List Ttl}(ht:∀t∈tt,t.2.length<=129)(hl:tt.length<=63):∀{rows:List bD} {h:Nat},(∀r∈rows,r.2.2.length<=129)->(eX tt h rows).length<=8300*rows.length
 |[],_,_=>G_ _
 |r::rows,h,hr=>by
  have h1:=hr r He;have h2:=yu ht hl (rows:=rows) (h:=h+hB r.1.hd) λx hx=>hr x (Hb _ hx);show(gY tt h r++eX tt (h+hB r.1.hd) rows).length<=_;rw[GX,GU,Nat.mul_succ];have:(gY tt h r).length<=8300:=by
   unfold gY
   split
   .rw[GT];omega
   .split
    .rw[GU,GT];omega
    .split
     .have:=yt (BQ ht) (IL tt.length);rw[Il]at this;unfold fI;omega
     .exact HZ _
  omega

def iV(ks:List Nat):List bD:=ks.map λk=>(.words,[],Hd k (.plain,[97]))
def C8(named out:List bD):Prop:=out=named\/∃ks:List Nat,(∀k∈ks,1<=k/\k<=100)/\ks.length<=5/\ks.sum<=402/\(out=iV ks++[(.empty,[],[])]++named\/out=named++iV ks)
theorem yv{α:Type}{P:V->α->Prop}{v:V}{w:α}(h:P v w):∀k:Nat,aL P (Hd k v) (Hd k w)
 |0=>trivial
 |k+1=>⟨h,yv h k⟩
theorem Eh{α:Type}(x:α)(n:Nat):(Hd n [x]).flatten=Hd n x:=by
 induction n with
 |zero=>rfl
 |succ n ih=>rw[Io,Jb,ih];rfl
theorem cA1:(PySem.Str.ofString "a")=tx [97]:=by decide +kernel

def y4(K:PySem.W.Frag):Sp:=λvs H Q _=>∃(na:Addr) (f:Int) (nv:List V) (named:List bD),vs=[.ref na,.int f]/\H na=some (.lst nv)/\aL (NnA H) nv named/\named.length<=100/\(∀r∈named,r.2.2.length<=129)/\(bO (0,0,0) named).length<=63/\(∀t∈bO (0,0,0) named,t.2.length<=129)/\∀p H' us out,ak H H'->H' p=some (.lst us)->aL (NnA H') us out->C8 named out->Q (.ref p) H'
theorem gr:aN ["named","first","stream","many","pads","way"] ["named","first"] (au pW):=by walk_at "c"
theorem y6(T:Txt P w K mg a):bi P w K mg base CX0 2 a.qp a.oK ["named","first"] (y4 K):=by
 refine T.ql.fn.ok gr (λvs H Q E h=>?_) (λcdv A outer s H vs Q E hr h=>?_)
 .obtain⟨na,f,nv,named,rfl,_⟩:=h;rfl
 obtain⟨na,f,nv,named,rfl,hna,nal,nl,rl,tl63,tw,q⟩:=h;have hu:=IJ (dB hr);refine⟨_,(ag (ay (i:=2) gr.nd rfl (Hh rfl) (aC T.lN (tQ T) (hr.mono (by decide)) rfl (aa (pv 0) (aa (aC T.lO (tR T) (hr.mono (by decide)) rfl (aa (pv 0) ae)) ae))))
   (ag (ay (i:=3) gr.nd rfl (Hh rfl) (aK ki (aK bZ ah (aC T.bz (bv T) (hr.mono (by decide)) rfl (aa (pv 1) (aa ah (aa ah ae))))) (aV bN rfl T.cr PySem.boot_len (aa (gW rfl (fb (caps:=[]) (js:=[]) (cap:=trivial)) (bq (pv 2)) (λ_ _ _ _=>(jW (ao jz (aS (r:=nQ K) bM (pv 0) ah (λ_ _=>rfl)) am (nomark _)))) (λ_ _ _ _=>(pv 0))) ae))))
   (ag (ay (i:=4) gr.nd rfl (Hh rfl) (aU ae))
   (ag (Cd HS (ao j_ (pv 3) ah (nomark _)) (ag (bn (cp PySem.F.plainAttrs_list PySem.F.slot_list_append PySem.F.type_list_append b7 (pv 4) (aa (aY (aa am (aa am (aa (aK xL (aU (aa (aY (aa am (aa am ae))) ae)) (aV (AR rfl) rfl T.tF PyProof.Rows.boot_min (aa (pv 3) (aa ah ae)))) ae)))) ae)))
   (ai (ay (i:=3) gr.nd rfl (Hh rfl) (aK ki (pv 3) ah)))))
   (ag (ay (i:=5) gr.nd rfl (Hh rfl) (aC T.bz (bv T) (hr.mono (by decide)) rfl (aa (pv 1) (aa ah (aa ah ae)))))
   (ag (aR (ao a_ (pv 5) ah (nomark _)) (ai (aP (aK d7 (aK d7 (pv 4) (aU (aa (aY (aa am (aa am (aa (aU ae) ae)))) ae))) (pv 0)))) aM)
   (ag (aR (ao a_ (pv 5) ah (nomark _)) (ai (aP (aK d7 (pv 0) (pv 4)))) aM)
   (ai (aP (pv 0)))))))))),?_⟩
 have ln:=nal.len;have sl:=yu (h:=0) tw tl63 rl;refine⟨_,rfl,_,rfl,na,nv,named,rfl,hna,nal,by omega,λpt H6 tv hpt s6 kt tal=>⟨na,pt,nv,tv,named,bO (0,0,0) named,rfl,s6 _ _ hna,nal.imp λ_ _=>NnA.mono s6,kt,tal,by omega,tl63,rl,tw,λps H7 sv hps s7 ks sal=>?_⟩⟩;dsimp only[bB];have lsv:=sal.len;generalize eX (bO (0,0,0) named) 0 named=st at *;have d4:=dJ f 44 (show(0:Int)<4 by decide);refine⟨_,rfl,f,44,4,rfl,⟨by decide,by decide⟩,by decide,_,_,rfl,rfl,_,rfl,ps,rfl,⟨_,SqL.of ks⟩,eD (K:=K) (a:=ps) (xs:=sv) (λi zs F=>H7=F/\zs.length<=i) ⟨rfl,G_ _⟩ (λi zs F _ z=>by rw[<-z.1];exact SqL.of ks) ?_ ?_ ?_⟩
 .rintro i zs F hi ⟨_,z⟩;exact Hq (show zs.length<=1000000 by omega) (by decide)
 .rintro i y' zs F hy ⟨rfl,zl⟩;obtain⟨s,hs',b,rfl,hb⟩:=sal.getL hy;refine⟨_,rfl,_,_,_,_,rfl,rfl,SqT.of hb,rfl,rfl,_,rfl,?_⟩;refine d_ (λ_=>?_) (λ_=>?_)
  .exact⟨_,rfl,rfl,by rw[GX];simp only[GU,Hk];omega⟩
  .exact⟨rfl,by omega⟩
 rintro zs F ⟨rfl,zl⟩ p9 hp9;have c9:=af hp9 (.lst zs);have k9:upd H7 p9 (.lst zs) p9=some (.lst zs):=ac;generalize upd H7 p9 (.lst zs)=H8 at c9 k9⊢;refine⟨_,_,rfl,.inl (SqL.of k9),_,_,rfl,rfl,?_⟩;dsimp only[bB];have hm:399+bJ f 44 4-(zs.length:Int)<=402:=by omega
 generalize 399+bJ f 44 4-(zs.length:Int)=M at hm;refine⟨aJ (by simp),λp1 hp1=>?_⟩;have m0:=(s6.trans s7).trans (c9.trans (af hp1 (.lst [])));have n1:H p1=none:=((s6.trans s7).trans c9).free hp1;have k1:upd H8 p1 (.lst []) p1=some (.lst []):=ac;generalize upd H8 p1 (.lst [])=H9 at m0 k1⊢;dsimp only[bB];refine dH (λσ' G=>∃(m:Int) (us:List V) (ks:List Nat),σ'=[some (.ref na),some (.int f),some (.ref ps),some (.int m),some (.ref p1),none]/\ak H G/\G p1=some (.lst us)/\aL (NnA (hid [p1] G)) us (iV ks)/\(∀k∈ks,1<=k/\k<=100)/\ks.length<=5/\ks.sum<=402) ?_ (λkey=>?_)
 .rintro σ' G ⟨m,us,ks,rfl,mG,g1,ual,k100,k5,k402⟩;have lu:=ual.len;have lp:(iV ks).length=ks.length:=by unfold iV;rw[GT]
  have ualG:aL (NnA G) us (iV ks):=ual.imp λ_ _=>NnA.mono bT;have nalG:aL (NnA G) nv named:=nal.imp λ_ _=>NnA.mono mG;refine⟨_,rfl,f,45,4,rfl,⟨by decide,by decide⟩,by decide,?_⟩;dsimp only[bB];refine⟨_,rfl,rfl,_,rfl,?_⟩;refine d_ (λ_=>?_) (λ_=>?_)
  .refine⟨_,rfl,aJ (by simp),λq2 h2=>?_⟩;have e2:=af h2 (.lst []);have f2:upd G q2 (.lst []) q2=some (.lst []):=ac;generalize upd G q2 (.lst [])=F2 at e2 f2⊢;refine⟨le3,λq3 h3=>?_⟩;have e3:=af h3 (.tup [V.str (PySem.Str.ofString ""),V.str (PySem.Str.ofString ""),V.ref q2]);have f3:upd F2 q3 (.tup [V.str (PySem.Str.ofString ""),V.str (PySem.Str.ofString ""),V.ref q2]) q3=some (.tup [V.str (tx []),V.str (tx []),V.ref q2]):=by rw[ac,kM]
   have f2:=e3 _ _ f2;generalize upd F2 q3 (.tup [V.str (PySem.Str.ofString ""),V.str (PySem.Str.ofString ""),V.ref q2])=F3 at e3 f3 f2⊢;refine⟨le1,λq4 h4=>?_⟩;have e4:=af h4 (.lst [V.ref q3]);have f4:upd F3 q4 (.lst [V.ref q3]) q4=some (.lst [V.ref q3]):=ac;have f3:=e4 _ _ f3;have f2:=e4 _ _ f2;have e24:=e2.trans (e3.trans e4);generalize upd F3 q4 (.lst [V.ref q3])=F4 at e4 f4 f3 f2 e24⊢;refine⟨_,_,_,_,rfl,rfl,e24 _ _ g1,f4,aJ (by simp;omega),λq5 h5=>?_⟩;have e5:=af h5 (.lst (us++[V.ref q3]));have f5:upd F4 q5 (.lst (us++[V.ref q3])) q5=some (.lst (us++[V.ref q3])):=ac;generalize upd F4 q5 (.lst (us++[V.ref q3]))=F5 at e5 f5⊢;refine⟨_,rfl,_,_,_,_,rfl,rfl,f5,(e24.trans e5) _ _ (mG _ _ hna),aJ (by simp;omega),λq6 h6=>?_⟩;have e6:=e5.trans (af h6 (.lst (us++[V.ref q3]++nv)));refine q q6 _ _ (iV ks++[(.empty,[],[])]++named) (mG.trans (e24.trans e6)) ac ?_ (.inr ⟨ks,k100,k5,k402,.inl rfl⟩);refine aL.app (aL.snoc (ualG.imp λ_ _=>NnA.mono (e24.trans e6)) ⟨q3,q2,rfl,e6 _ _ f3,[],e6 _ _ f2,trivial⟩) (nalG.imp λ_ _=>NnA.mono (e24.trans e6))
  .dsimp only[dq];refine⟨_,rfl,rfl,_,rfl,?_⟩;refine d_ (λ_=>?_) (λ_=>?_)
   .refine⟨_,rfl,_,rfl,_,_,_,_,rfl,rfl,mG _ _ hna,g1,aJ (by omega),λq7 h7=>?_⟩;have e7:=af h7 (.lst (nv++us));refine q q7 _ _ (named++iV ks) (mG.trans e7) ac ?_ (.inr ⟨ks,k100,k5,k402,.inr rfl⟩);exact aL.app (nalG.imp λ_ _=>NnA.mono e7) (ualG.imp λ_ _=>NnA.mono e7)
   .exact⟨_,rfl,q na G nv named mG (mG _ _ hna) nalG (.inl rfl)⟩
 .refine⟨λn σ' G=>∃(m:Int) (us:List V) (ks:List Nat),σ'=[some (.ref na),some (.int f),some (.ref ps),some (.int m),some (.ref p1),none]/\ak H G/\G p1=some (.lst us)/\aL (NnA (hid [p1] G)) us (iV ks)/\(∀k∈ks,1<=k/\k<=100)/\(ks.length:Int)*100+m=M/\(0<m->(ks.sum:Int)+m=M)/\ks.sum<=402/\ks.length<=5/\n=m.toNat,⟨_,M,[],[],rfl,m0,k1,trivial,(λk hk=>by cases hk),by simp,λ_=>by simp,by decide,by decide,rfl⟩,?_⟩;rintro n σ' G ⟨m,us,ks,rfl,mG,g1,ual,k100,kl,ksm,k402,k5,rfl⟩;have lu:=ual.len;have lp:(iV ks).length=ks.length:=by unfold iV;rw[GT]
  refine⟨_,rfl,_,_,rfl,rfl,_,rfl,?_⟩;by_cases c:0<m
  .rw[decide_eq_true c];refine aQ ?_;refine⟨λσ' G=>∃n',n'<m.toNat/\∃(m:Int) (us:List V) (ks:List Nat),σ'=[some (.ref na),some (.int f),some (.ref ps),some (.int m),some (.ref p1),none]/\ak H G/\G p1=some (.lst us)/\aL (NnA (hid [p1] G)) us (iV ks)/\(∀k∈ks,1<=k/\k<=100)/\(ks.length:Int)*100+m=M/\(0<m->(ks.sum:Int)+m=M)/\ks.sum<=402/\ks.length<=5/\n'=m.toNat,λ_ _ h=>h,?_⟩;refine⟨_,rfl,.inl ⟨rfl,_,SqL.of g1⟩,le2,λq2 h2=>?_⟩;have e2:=af h2 (.tup [V.str (PySem.Str.ofString "plain"),V.str (PySem.Str.ofString "a")]);have f2:upd G q2 (.tup [V.str (PySem.Str.ofString "plain"),V.str (PySem.Str.ofString "a")]) q2=some (.tup [V.str Kw.plain.s,V.str (tx [97])]):=by rw[ac,cA1];rfl
   have g2:=e2 _ _ g1;generalize upd G q2 (.tup [V.str (PySem.Str.ofString "plain"),V.str (PySem.Str.ofString "a")])=F2 at e2 f2 g2⊢;refine⟨le1,λq3 h3=>?_⟩;have e3:=af h3 (.lst [V.ref q2]);have f3:upd F2 q3 (.lst [V.ref q2]) q3=some (.lst [V.ref q2]):=ac;have f2:=e3 _ _ f2;have g2:=e3 _ _ g2;generalize upd F2 q3 (.lst [V.ref q2])=F3 at e3 f3 f2 g2⊢;obtain⟨k,ek,kk1,kk2,kk3,kk4⟩:∃k:Nat,(if 100<m then 100 else m)=(k:Int)/\1<=k/\k<=100/\(100<m->k=100)/\(k:Int)<=m:=by
    by_cases z:100<m
    .exact⟨100,by rw[if_pos z];rfl,by decide,by decide,λ_=>rfl,by omega⟩
    .exact⟨m.toNat,by rw[if_neg z];omega,by omega,by omega,λy=>absurd y z,by omega⟩
   refine⟨_,rfl,_,_,rfl,_,_,_,rfl,rfl,f3,(by omega),(by omega),(by rw[ek,Jq];exact HM (aB (by simp;omega))),λq4 h4=>?_⟩;rw[ek,Jq,Eh];have e4:=af h4 (.lst (Hd k (V.ref q2)));have f4:upd F3 q4 (.lst (Hd k (V.ref q2))) q4=some (.lst (Hd k (V.ref q2))):=ac;have f2:=e4 _ _ f2;have g2:=e4 _ _ g2;generalize upd F3 q4 (.lst (Hd k (V.ref q2)))=F4 at e4 f4 f2 g2⊢;refine⟨le3,λq5 h5=>?_⟩;have e5:=af h5 (.tup [V.str (PySem.Str.ofString "words"),V.str (PySem.Str.ofString ""),V.ref q4]);have f5:upd F4 q5 (.tup [V.str (PySem.Str.ofString "words"),V.str (PySem.Str.ofString ""),V.ref q4]) q5=some (.tup [V.str (tx (Wy.words).t),V.str (tx []),V.ref q4]):=by rw[ac,kM,jJ];rfl
   have f4:=e5 _ _ f4;have f2:=e5 _ _ f2;have g2:=e5 _ _ g2;have e25:=e2.trans (e3.trans (e4.trans e5));generalize upd F4 q5 (.tup [V.str (PySem.Str.ofString "words"),V.str (PySem.Str.ofString ""),V.ref q4])=F5 at e5 f5 f4 f2 g2 e25⊢;refine⟨_,_,_,rfl,rfl,g2,aB (by omega),?_⟩;have nq4:q4≠p1:=λz=>by rw[z,(e2.trans e3) _ _ g1]at h4;cases h4
   have nh:∀b:Addr,(∃u,F5 b=some (.tup u))->b∉[p1]:=λb hb z=>by
    obtain⟨u,hu⟩:=hb;rw[List.mem_singleton.mp z,g2]at hu;cases hu
   refine⟨_,rfl,_,_,rfl,rfl,(m-100).toNat,by omega,m-100,us++[.ref q5],ks++[k],rfl,aW (mG.trans e25) n1,ac,?_,λx hx=>?_,?_,λz=>?_,?_,?_,rfl⟩
   .rw[br (by simp),show iV (ks++[k])=iV ks++[(.words,[],Hd k (.plain,[97]))] by unfold iV;rw[Hc];rfl];refine aL.snoc (ual.imp λ_ _=>NnA.mono (bj e25)) ⟨q5,q4,rfl,aZ (nh q5 ⟨_,f5⟩) f5,Hd k (V.ref q2),aZ (by simpa using nq4) f4,?_⟩;show aL (WkA (hid [p1] F5)) _ ((Hd k ((.plain,[97]):NWd)).map rC);rw[List.map_replicate];exact yv ⟨q2,rfl,aZ (nh q2 ⟨_,f2⟩) f2⟩ k
   .rcases List.mem_append.mp hx with hx|hx
    .exact k100 x hx
    .rw[List.mem_singleton.mp hx];exact⟨kk1,kk2⟩
   .rw[GX];simp only[GU,Hk];omega
   .have:=ksm c;rw[I0];simp only[Im,Lo];have:=kk3 (by omega);omega
   .have:=ksm c;rw[I0];simp only[Im,Lo];omega
   .rw[GX];simp only[GU,Hk];omega
  .rw[decide_eq_false c];refine av ?_;exact key _ _ ⟨m,us,ks,rfl,mG,g1,ual,k100,k5,k402⟩
def wI:Sp:=λvs H Q _=>∃n:Nat,vs=[.int (n:Int)]/\n<10^100/\Q (.str (tx (aX n))) H
theorem wJ:aN ["number"] ["number"] (au l8):=by walk_at "c"
theorem qG(T:Txt P w K mg a):bi P w K mg base CX0 1 a.mv a.kU ["number"] wI:=by
 refine T.jN.fn.ok wJ (λvs H Q E h=>?_) (λcdv A outer s H vs Q E hr h=>?_)
 .obtain⟨n,rfl,_⟩:=h;rfl
 obtain⟨n,rfl,hn,q⟩:=h;refine⟨_,(ai (aP (ni q8 rfl T.qE PyProof.Rows.boot_str (aa (pv 0) ae)))),?_⟩;refine⟨_,rfl,_,rfl,Bc hn,?_⟩;have e:=jk n;exact Eq.mpr (congrArg (λz=>Q (.str z) H) e) q
def wK(K:PySem.W.Frag):Sp:=λvs H Q _=>∃(la:Addr) (ls:List Int),vs=[.ref la]/\SqL K H la (ls.map V.int)/\C6 ls/\ls.length<=63/\∀p H',H p=none->ak H H'->H' p=some (.lst (((fJ ls ls.length).map tx).map V.str))->Q (.ref p) H'
theorem gj:aN ["levels","counters","numbers","level"] ["levels"] (au l9):=by walk_at "c"
theorem wL(T:Txt P w K mg a):bi P w K mg base CX0 2 a.mx a.kX ["levels"] (wK K):=by
 refine T.mq.fn.ok gj (λvs H Q E h=>?_) (λcdv A outer s H vs Q E hr h=>?_)
 .obtain⟨la,ls,rfl,_⟩:=h;rfl
 obtain⟨la,ls,rfl,hL,l123,h63,q⟩:=h;refine⟨_,(ag (ay (i:=1) gj.nd rfl (Hh rfl) (aU (aa ah (aa ah (aa ah ae)))))
   (ag (ay (i:=2) gj.nd rfl (Hh rfl) (aU ae))
   (ag (cg HS rfl (bq (pv 0)) (aO (i:=3) gj.nd rfl (Hh rfl)) (ag (ay (i:=1) gj.nd rfl (Hh rfl) (aK d7 (aK d7 (dF oU (pv 1) eS (dX (aK ki (pv 3) ah))) (aU (aa (aK bZ (aS bS (pv 1) (aK ki (pv 3) ah) (λ_ _=>rfl)) ah) ae))) (aK xL (aU (aa ah ae)) (aK ki ah (pv 3)))))
   (ai (bn (cp PySem.F.plainAttrs_list PySem.F.slot_list_append PySem.F.type_list_append b7 (pv 2) (aa (cp PySem.F.plainAttrs_str PySem.F.slot_str_join PySem.F.type_str_join oW am (aa (gW rfl (fb (caps:=[]) (js:=[]) (cap:=trivial)) (bq (dF oU (pv 1) eS (dX (pv 3)))) (λ_ _ _ _=>dY) (λ_ _ _ _=>(aC T.jN (qG T) (hr.mono (by decide)) rfl (aa (pv 0) ae)))) ae)) ae))))))
   (ai (aP (pv 2)))))),?_⟩
 refine⟨aJ (by decide),λp1 hp1=>?_⟩;refine⟨HZ _,λp2 hp2=>?_⟩;have s1:=af hp1 (.lst (vG (0,0,0)));have hr:H p2=none:=s1.free hp2;have s2:=s1.trans (af hp2 (.lst []));refine⟨_,rfl,_,rfl,⟨_,s2.seq hL⟩,cm (K:=K) (a:=la) (xs:=ls.map V.int) (λi σ H2=>ak H H2/\∃(pc:Addr) (v:Option V),σ=[some (.ref la),some (.ref pc),some (.ref p2),v]/\H2 pc=some (.lst (vG (ctr (ls.take i))))/\H2 p2=some (.lst (((fJ ls i).map tx).map V.str)))
  ⟨s2,p1,none,rfl,(af hp2 _) _ _ ac,ac⟩ (λi σ H2 _ h2=>h2.1.seq hL) ?_ ?_⟩
 .rintro i y σ H2 hi ⟨sH,pc,v,rfl,hc,hn⟩;obtain⟨z,rfl,ez⟩:=Eg hi;have i63:i<63:=by
   have:=(List.getElem?_eq_some_iff.mp ez).1;omega
  have bc:=BH (ls.take (i+1));have nl:=pT ls i;rw[HD]at bc;rw[BI ez];rw[C7 ez]at bc⊢;generalize ctr (ls.take i)=c at hc bc⊢;generalize fJ ls i=ts at hn nl⊢;obtain⟨pre,k,cs,e1,e2,e3,l1,l2,l3,l4,e4,l5,cs63,e5⟩:=lev (l123 z (Ha ez)) c (m:=63) (by omega) (by omega) (by omega);rw[<-e5];rw[<-e3]at e4⊢;refine⟨_,rfl,_,rfl,_,_,rfl,rfl,_,rfl,_,_,rfl,SqL.of hc,λp3 hp3=>?_⟩;rw[e1];have s3:=af hp3 (.lst pre);refine⟨_,rfl,_,rfl,_,_,rfl,rfl,_,_,_,_,rfl,rfl,s3.seq (SqL.of hc),e2,_,_,rfl,rfl,le1,λp4 hp4=>?_⟩;refine⟨_,_,pre,[V.int (k+1)],rfl,rfl,(af hp4 _) _ _ ac,ac,aJ (by simp;omega),λp5 hp5=>?_⟩;refine⟨le1,λp6 hp6=>?_⟩;refine⟨_,rfl,_,_,rfl,rfl,_,_,[V.int 0],rfl,rfl,ac,(by omega),(by omega),aJ (by simp;omega),λp7 hp7=>?_⟩;refine⟨_,_,pre++[V.int (k+1)],(Hd (3-z).toNat [V.int 0]).flatten,rfl,rfl,(af hp7 _) _ _ ((af hp6 _) _ _ ac),ac,aJ (by rw[zj];simp;omega),λp8 hp8=>?_⟩;have h28:H2 p8=none:=(s3.trans ((af hp4 _).trans ((af hp5 _).trans ((af hp6 _).trans (af hp7 _))))).free hp8;have s8:=s3.trans ((af hp4 (.lst [V.int (k+1)])).trans ((af hp5 (.lst (pre++[V.int (k+1)]))).trans ((af hp6 (.lst [V.int 0])).trans ((af hp7 (.lst (Hd (3-z).toNat [V.int 0]).flatten)).trans (af hp8 (.lst (pre++[V.int (k+1)]++(Hd (3-z).toNat [V.int 0]).flatten)))))));have hc8:=ac (H:=(upd (upd (upd (upd (upd H2 p3 (.lst pre)) p4 (.lst [V.int (k+1)])) p5 (.lst (pre++[V.int (k+1)]))) p6 (.lst [V.int 0])) p7 (.lst (Hd (3-z).toNat [V.int 0]).flatten))) (a:=p8) (o:=.lst (pre++[V.int (k+1)]++(Hd (3-z).toNat [V.int 0]).flatten));generalize upd (upd (upd (upd (upd (upd H2 p3 (.lst pre)) p4 (.lst [V.int (k+1)])) p5 (.lst (pre++[V.int (k+1)]))) p6 (.lst [V.int 0])) p7 (.lst (Hd (3-z).toNat [V.int 0]).flatten)) p8 (.lst (pre++[V.int (k+1)]++(Hd (3-z).toNat [V.int 0]).flatten))=H8 at s8 hc8⊢;generalize pre++[V.int (k+1)]++(Hd (3-z).toNat [V.int 0]).flatten=cv at hc8 e4⊢;have hn8:=s8 _ _ hn;refine⟨_,rfl,.inl ⟨rfl,_,SqL.of hn8⟩,rfl,_,rfl,_,rfl,_,rfl,_,_,rfl,SqL.of hc8,λp9 hp9=>?_⟩;rw[e4];have s9:=af hp9 (.lst (cs.map nV));refine⟨_,rfl,⟨_,SqL.of ac⟩,eD (K:=K) (a:=p9) (xs:=cs.map nV) (λi ys H3=>H3=upd H8 p9 (.lst (cs.map nV))/\ys=(((cs.take i).map aX).map tx).map V.str) ⟨rfl,rfl⟩ (λi ys H3 _ h3=>by rw[h3.1];exact SqL.of ac) ?_ ?_ ?_⟩
  .rintro j ys H3 hj ⟨_,rfl⟩;rw[GT,GT,GT,HD];exact Hx (show _<1000 by omega) (aJ (G_ _))
  .rintro j y ys H3 hj ⟨rfl,rfl⟩;obtain⟨n,rfl,en⟩:=Fm hj;refine eI ?_;refine⟨_,rfl,n,rfl,GN (cs63 n (Ha en)),rfl,?_⟩;rw[bb en];simp only[Hc,Hj,Kg]
  .rintro ys H3 ⟨rfl,rfl⟩ p hp;rw[GT,Hu];have s10:=af hp (.lst (((cs.map aX).map tx).map V.str));have hsum:=yl cs cs63;have hn10:=s10 _ _ (s9 _ _ hn8);refine⟨_,p,(cs.map aX).map tx,rfl,rfl,SqL.of ac,(by decide),(by rw[GT,GT];omega),_,_,_,rfl,rfl,hn10,?_,?_⟩
   .rw[GT,GT];exact Hx (show _<1000 by omega) (aJ (G_ _))
   .have st:=sH.trans (s8.trans (s9.trans s10));have nc:p8≠p2:=λz=>cB hn h28 z.symm;refine⟨st.put hr,p8,_,rfl,?_,?_⟩
    .rw[aj nc];exact s10 _ _ (s9 _ _ hc8)
    .rw[ac,GM,jX];simp only[Hc,Hj,Kg]
 .rintro σ H2 ⟨sH,pc,v,rfl,hc,hn⟩;rw[GT]at hn;exact⟨_,rfl,q p2 _ hr sH hn⟩

theorem fK{F:Hp}{x C dx:Addr}{L:List (Str×V)}{n:Nat}(f:Str)(v:V)(k:F x=some (.ins C dx L))(l:L.length<=n):∃F' L',upd F x (.ins C dx (bR f v L))=F'/\bR f v L=L'/\L'.length<=n+1/\F' x=some (.ins C dx L')/\FrX F F' x:=⟨_,_,rfl,rfl,Ho x8 (Nat.succ_le_succ l),ac,FrX.refl.at⟩
theorem pe{F:Hp}{p:Addr}(o:HO)(h:F p=none):∃F',upd F p o=F'/\F' p=some o/\ak F F':=⟨_,rfl,ac,af h _⟩
theorem j6{H H1 H2:Hp}{x:Addr}(f:FrX H H1 x)(g:FrX H1 H2 x):FrX H H2 x:=λb u n h=>g b u n (f b u n h)
theorem eG{F:Hp}{p q:Addr}{o:HO}(a:F p=some o)(h:F q=none):p≠q:=λz=>by rw[z,h]at a;cases a

def HtA(F:Hp)(v:V)(h:Nat×List Wk):Prop:=∃a l,v=.ref a/\F a=some (.tup [.str "head",.int (h.1:Int),.ref l])/\cZ F l h.2
def d3(hs:List (Nat×List Wk)):List Int:=hs.map λh=>(h.1:Int)
def fY(hs:List (Nat×List Wk))(feet:List (Str×List Wk)):Sc:=⟨(fJ (d3 hs) (d3 hs).length).map tx,hs.map (·.2),feet⟩

def vH(C:Addr):Sp:=λvs H Q _=>∃(x dx hl fa:Addr) (hv:List V) (hs:List (Nat×List Wk)) (kvs:List (Key×V)) (feet:List (Str×List Wk)),vs=[.ref x,.ref hl,.ref fa]/\H x=some (.ins C dx [])/\H hl=some (.lst hv)/\aL (HtA H) hv hs/\H fa=some (.dK kvs)/\FtA H kvs feet/\C6 (d3 hs)/\hs.length<=63/\∀H' A,A.x=x->FrX H H' x->StA C (hid A.os H') H' A (fY hs feet) ss0->(H A.wa=none/\H A.ma=none/\H A.ha=none)->Q .non H'
theorem vI:aN ["self","all_heads","feet"] ["self","all_heads","feet"] (au kO):=by walk_at "c"
theorem vJ(T:Txt P w K mg a):bi P w K mg base CX0 3 a.kT a.j9 ["self","all_heads","feet"] (vH a.aI):=by
 refine T.kR.fn.ok vI (λvs H Q E h=>?_) (λcdv A outer s H vs Q E hr h=>?_)
 .obtain⟨x,dx,hl,fa,hv,hs,kvs,feet,rfl,_⟩:=h;rfl
 obtain⟨x,dx,hl,fa,hv,hs,kvs,feet,rfl,hx,hh,ha,hf,hft,lv,hsl,q⟩:=h;refine⟨_,(ag (db (pv 0) (aC T.mq (wL T) (hr.mono (by decide)) rfl (aa (gW rfl (fb (caps:=[]) (js:=[]) (cap:=trivial)) (bq (pv 1)) (λ_ _ _ _=>dY) (λ_ _ _ _=>(aS (r:=nQ K) bM (pv 0) ah (λ_ _=>rfl)))) ae)) rfl)
   (ag (db (pv 0) (gW rfl (fb (caps:=[]) (js:=[]) (cap:=trivial)) (bq (pv 1)) (λ_ _ _ _=>dY) (λ_ _ _ _=>(aS (r:=nQ K) bM (pv 0) ah (λ_ _=>rfl)))) rfl)
   (ag (db (pv 0) (pv 2) rfl)
   (ag (db (pv 0) ah rfl)
   (ag (db (pv 0) (aU ae) rfl)
   (ag (db (pv 0) pJ rfl)
   (ag (db (pv 0) (aU ae) rfl)
   (ag (db (pv 0) ah rfl)
   (ai (db (pv 0) d9 rfl)))))))))),?_⟩
 have lh:=ha.len;have k:=hx;have f:FrX H H x:=FrX.refl;have l:([]:List (Str×V)).length<=0:=G_ _;refine⟨_,rfl,hl,rfl,⟨_,SqL.of hh⟩,eD (K:=K) (a:=hl) (xs:=hv) (λi ys G'=>H=G'/\ys=((d3 hs).take i).map V.int) ⟨rfl,rfl⟩ (λi ys G' _ z=>by rw[<-z.1];exact SqL.of hh) ?_ ?_ ?_⟩
 .rintro i ys G' hi ⟨_,z⟩;rw[z,GT,HD];exact aB (by unfold d3;rw[GT];omega)
 .rintro i y ys G' hy ⟨rfl,z⟩;obtain⟨h,hw,b,l,rfl,hb,_⟩:=ha.getL hy;refine eI ?_;refine⟨_,rfl,_,_,_,_,rfl,rfl,SqT.of hb,rfl,rfl,?_⟩;rw[z,bb (l:=d3 hs) (x:=(h.1:Int)) (by unfold d3;rw[HA,hw];rfl),Hc];rfl
 rintro ys G' ⟨rfl,z⟩ q1 hq1;rw[lh,show hs.length=(d3 hs).length from by unfold d3;rw[GT],Hu]at z;have sq:=af hq1 (.lst ys);refine⟨q1,d3 hs,rfl,SqL.of (by rw[<-z];exact ac),lv,(by unfold d3;rw[GT];exact hsl),λna Hn hna sna kna=>?_⟩;have sn:=sq.trans sna;have kn:Hn na=some (.lst ((fY hs feet).nums.map V.str)):=kna;have hna':H na=none:=sq.free hna;clear sna kna sq;have e0:=f.free k hna';have f:=f.same sn;have k:=sn _ _ k;have a0:=kn;have d0:na≠x:=λz=>by rw[z,k]at a0;cases a0
 refine⟨_,rfl,_,_,_,_,rfl,k,T.aD.cl,T.fC,Hq l (by decide),?_⟩;obtain⟨H2,L0,eH,g0,l,k,r⟩:=fK "numbers" (V.ref na) k l;rw[eH];have f:=j6 f r;have a0:=r _ _ d0 a0;have hhn:H2 hl=some (.lst hv):=f.get hh (by intro z;rw[z,hx]at hh;cases hh);refine⟨_,rfl,hl,rfl,⟨_,SqL.of hhn⟩,eD (K:=K) (a:=hl) (xs:=hv) (λi ys G'=>H2=G'/\ys.length=i/\aL (TlA H) ys ((hs.take i).map (·.2))) ⟨rfl,rfl,trivial⟩ (λi ys G' _ z=>by rw[<-z.1];exact SqL.of hhn) ?_ ?_ ?_⟩
 .rintro i ys G' hi ⟨_,z,_⟩;rw[z];exact aB (by omega)
 .rintro i y ys G' hy ⟨rfl,z,al⟩;obtain⟨h,hw,b,l,rfl,hb,hb2⟩:=ha.getL hy;refine eI ?_;refine⟨_,rfl,_,_,_,_,rfl,rfl,SqT.of (f.get hb (by intro z;rw[z,hx]at hb;cases hb)),rfl,rfl,(by rw[GX,z];rfl),?_⟩;rw[bb hw,Hc];exact al.snoc ⟨l,rfl,hb2⟩
 rintro ys G' ⟨rfl,z,al⟩ q2 hq2;rw[lh,Hu]at al;have st:=af hq2 (.lst ys);have kt:upd H2 q2 (.lst ys) q2=some (.lst ys):=ac;generalize upd H2 q2 (.lst ys)=Ht at st kt⊢;have e1:=f.free k hq2;have d0_1:na≠q2:=eG a0 hq2;have f:=f.same st;have k:=st _ _ k;have a0:=st _ _ a0;have a1:=kt;have d1:q2≠x:=λz=>by rw[z,k]at a1;cases a1
 refine⟨_,rfl,_,_,_,_,rfl,k,T.aD.cl,T.gf,Hq l (by decide),?_⟩;obtain⟨H4,L1,eH,g1,l,k,r⟩:=fK "titles" (V.ref q2) k l;rw[eH];have f:=j6 f r;have a0:=r _ _ d0 a0;have a1:=r _ _ d1 a1;refine⟨_,rfl,_,rfl,_,_,_,_,rfl,k,T.aD.cl,T.fS,Hq l (by decide),?_⟩;obtain⟨H5,L2,eH,g2,l,k,r⟩:=fK "feet" (V.ref fa) k l;rw[eH];have f:=j6 f r;have a0:=r _ _ d0 a0;have a1:=r _ _ d1 a1;refine⟨_,rfl,_,_,_,_,rfl,k,T.aD.cl,T.dW,Hq l (by decide),?_⟩;obtain⟨H6,L3,eH,g3,l,k,r⟩:=fK "feet_set" (V.int 0) k l;rw[eH];have f:=j6 f r;have a0:=r _ _ d0 a0;have a1:=r _ _ d1 a1;refine⟨aJ (by simp),λp4 hp4=>?_⟩;obtain⟨H7,eH,b4,w4⟩:=pe (.lst []) hp4;rw[eH];have e4:=f.free k hp4;have d0_4:na≠p4:=eG a0 hp4;have d1_4:q2≠p4:=eG a1 hp4;have f:=f.same w4;have k:=w4 _ _ k;have a0:=w4 _ _ a0;have a1:=w4 _ _ a1;have a4:=b4;have d4:p4≠x:=λz=>by rw[z,k]at a4;cases a4
 refine⟨_,rfl,_,_,_,_,rfl,k,T.aD.cl,T.cE,Hq l (by decide),?_⟩;obtain⟨H8,L4,eH,g4,l,k,r⟩:=fK "words" (V.ref p4) k l;rw[eH];have f:=j6 f r;have a0:=r _ _ d0 a0;have a1:=r _ _ d1 a1;have a4:=r _ _ d4 a4;intro p5 hp5;obtain⟨H9,eH,b5,w5⟩:=pe (.dK []) hp5;rw[eH];have e5:=f.free k hp5;have d0_5:na≠p5:=eG a0 hp5;have d1_5:q2≠p5:=eG a1 hp5;have d4_5:p4≠p5:=eG a4 hp5;have f:=f.same w5;have k:=w5 _ _ k;have a0:=w5 _ _ a0;have a1:=w5 _ _ a1;have a4:=w5 _ _ a4;have a5:=b5;have d5:p5≠x:=λz=>by rw[z,k]at a5;cases a5
 refine⟨_,rfl,_,_,_,_,rfl,k,T.aD.cl,T.cC,Hq l (by decide),?_⟩;obtain⟨H10,L5,eH,g5,l,k,r⟩:=fK "marks" (V.ref p5) k l;rw[eH];have f:=j6 f r;have a0:=r _ _ d0 a0;have a1:=r _ _ d1 a1;have a4:=r _ _ d4 a4;have a5:=r _ _ d5 a5;refine⟨aJ (by simp),λp6 hp6=>?_⟩;obtain⟨H11,eH,b6,w6⟩:=pe (.lst []) hp6;rw[eH];have e6:=f.free k hp6;have d0_6:na≠p6:=eG a0 hp6;have d1_6:q2≠p6:=eG a1 hp6;have d4_6:p4≠p6:=eG a4 hp6;have d5_6:p5≠p6:=eG a5 hp6;have f:=f.same w6;have k:=w6 _ _ k;have a0:=w6 _ _ a0;have a1:=w6 _ _ a1;have a4:=w6 _ _ a4;have a5:=w6 _ _ a5;have a6:=b6;have d6:p6≠x:=λz=>by rw[z,k]at a6;cases a6
 refine⟨_,rfl,_,_,_,_,rfl,k,T.aD.cl,T.dw,Hq l (by decide),?_⟩;obtain⟨H12,L6,eH,g6,l,k,r⟩:=fK "heads" (V.ref p6) k l;rw[eH];have f:=j6 f r;have a0:=r _ _ d0 a0;have a1:=r _ _ d1 a1;have a4:=r _ _ d4 a4;have a5:=r _ _ d5 a5;have a6:=r _ _ d6 a6;refine⟨_,rfl,_,_,_,_,rfl,k,T.aD.cl,T.cW,Hq l (by decide),?_⟩;obtain⟨H13,L7,eH,g7,l,k,r⟩:=fK "leap" (V.int 0) k l;rw[eH];have f:=j6 f r;have a0:=r _ _ d0 a0;have a1:=r _ _ d1 a1;have a4:=r _ _ d4 a4;have a5:=r _ _ d5 a5;have a6:=r _ _ d6 a6;refine⟨_,rfl,_,_,_,_,rfl,k,T.aD.cl,T.di,Hq l (by decide),?_⟩;obtain⟨H14,L8,eH,g8,l,k,r⟩:=fK "behind_head" (V.bl false) k l;rw[eH];have f:=j6 f r;have a0:=r _ _ d0 a0;have a1:=r _ _ d1 a1;have a4:=r _ _ d4 a4;have a5:=r _ _ d5 a5;have a6:=r _ _ d6 a6;have eL:L8=fsS ⟨x,dx,na,q2,fa,p4,p5,p6⟩ 0 0 false:=by rw[<-g8,<-g7,<-g6,<-g5,<-g4,<-g3,<-g2,<-g1,<-g0];exact D9 ⟨x,dx,na,q2,fa,p4,p5,p6⟩
 rw[eL]at k;have nfx:fa≠x:=λz=>by rw[z,hx]at hf;cases hf
 have hid':∀b u,b≠x->b≠p4->b≠p5->b≠p6->H b=some u->hid [x,p4,p5,p6] H14 b=some u:=λb u n1 n2 n3 n4 h=>aZ (by simp[n1,n2,n3,n4]) (f b u n1 h);have inH:∀b u,H b=some u->b≠x->hid [x,p4,p5,p6] H14 b=some u:=λb u h n1=>hid' b u n1 (λz=>by rw[z,e4]at h;cases h) (λz=>by rw[z,e5]at h;cases h) (λz=>by rw[z,e6]at h;cases h) h;have tupX:∀{b us},H b=some (.tup us)->hid [x,p4,p5,p6] H14 b=some (.tup us):=λ{b us} h=>inH b _ h (λz=>by rw[z,hx]at h;cases h);have lstX:∀{b us},H b=some (.lst us)->hid [x,p4,p5,p6] H14 b=some (.lst us):=λ{b us} h=>inH b _ h (λz=>by rw[z,hx]at h;cases h);have lsX:∀{l ws},cZ H l ws->cZ (hid [x,p4,p5,p6] H14) l ws:=λ{l ws} ⟨us,h1,h2⟩=>⟨us,lstX h1,h2.imp λv w ⟨b,z1,z2⟩=>⟨b,z1,tupX z2⟩⟩;refine q _ ⟨x,dx,na,q2,fa,p4,p5,p6⟩ rfl f ⟨bT,k,⟨?_,⟨ys,?_,?_⟩,⟨kvs,?_,?_⟩⟩,?_,d4_6,⟨[],a4,trivial⟩,a5,⟨[],a6,trivial⟩⟩ ⟨e4,e5,e6⟩
 .exact aZ (by simp[Sad.os,d0,d0_4,d0_5,d0_6]) a0
 .exact aZ (by simp[Sad.os,d1,d1_4,d1_5,d1_6]) a1
 .exact al.imp λv w ⟨l,z1,z2⟩=>⟨l,z1,lsX z2⟩
 .exact inH fa _ hf nfx
 .exact ftX (λl ws h=>lsX h) hft
 .intro b hb;unfold hid;rw[if_pos hb]
def ph(cls:Xc->Addr)(C:Addr):Sp:=λvs H Q E=>∃(A:Sad) (G:Hp) (c:Sc) (σ:Ss),vs=[.ref A.x]/\StA C G H A c σ/\kL c/\uc c σ/\σ.ws.length<=400/\(∀e,fH c σ=some e->∀H',ak G H'->E (.ref (cls e)) none H')/\(fH c σ=none->∀H',ak H H'->StA C G H' A c σ->Q .non H')
theorem ca:aN ["self","name","k","words","text","kind","rest"] ["self"] (au fX):=by walk_at "c"
theorem pi(T:Txt P w K mg a):bi P w K mg base (CXe P w) 1 a.f_ a.fN ["self"] (ph (j0 a.aH a.aE a.aA a.aF) a.aI):=by
 have dO:=T.dO;obtain⟨dO,k_POINTING⟩:=dO;refine T.f8.fn.okE ca (λvs H Q E h=>?_) (λcdv A outer s H vs Q E hr h=>?_)
 .obtain⟨A,G,c,σ,rfl,_⟩:=h;rfl
 obtain⟨A,G,c,σ,rfl,S,so,ss,wl,qe,q⟩:=h;refine⟨_,(ag (zu Jc rfl (CN (bu (pv 0) rfl)) (dP rfl (a9 (aO (i:=1) ca.nd rfl (Hh rfl)) (a9 (aO (i:=2) ca.nd rfl (Hh rfl)) c_))) (ai (aR (ao a_ (pv 2) (aV bN rfl T.cr PySem.boot_len (aa (bu (pv 0) rfl) ae)) (nomark _)) (ai (lV rfl oX T.qD rfl (aa (oY (eE kA (eE (sW (pv 1)) (eE kA rj)))) ae))) aM)))
   (ag (zV (k:=3) rfl (fb (caps:=[]) (js:=[]) (cap:=trivial)) (bq (bu (pv 0) rfl)) (λ_ _ _ _=>dY) (λ_ _ _ _=>(aS (r:=nQ K) bM (pv 0) ah (λ_ _=>rfl))) ca.nd rfl rfl)
   (ag (zu Jc rfl (D2 (bu (pv 0) rfl)) (aO (i:=4) ca.nd rfl (Hh rfl)) (ai (bn (cp PySem.F.plainAttrs_list PySem.F.slot_list_extend PySem.F.type_list_extend ky (pv 3) (aa (pv 4) ae)))))
   (ai (cg Jc rfl (bq (pv 3)) (dP rfl (a9 (aO (i:=5) ca.nd rfl (Hh rfl)) (a9 (aO (i:=6) ca.nd rfl (Hh rfl)) c_))) (ai (aR (PW.pt (cY (ao hU (pv 5) (bW (v:=.ref a.eZ) rfl dO rfl) (by with_unfolding_all rfl)) (cH (ao (je (dB hr)) (pv 6) (bu (pv 0) rfl) (by with_unfolding_all rfl))))) (ai (lV rfl oX T.qD rfl (aa (oY (eE kA (eE (sW (pv 6)) rj))) ae))) aM))))))),?_⟩
 obtain⟨wvs,w2,w3⟩:=S.words;have lw:=w3.len;obtain⟨n1,n2,n3,n4,n5⟩:=S.nes;refine⟨_,rfl,_,_,_,_,_,rfl,S.ins,T.aD.cl,T.cC,jm,A.ma,mkV σ.ms,rfl,S.marks,λhz o=>?_⟩;have kf:upd H A.ma (.frz o (.dK (mkV σ.ms))) A.ma=some (.frz o (.dK (mkV σ.ms))):=ac;have ix:upd H A.ma (.frz o (.dK (mkV σ.ms))) A.x=some (.ins a.aI A.dx (fsS A (σ.fs:Int) σ.lp σ.bh)):=by rw[aj n2];exact S.ins
 have iw:upd H A.ma (.frz o (.dK (mkV σ.ms))) A.wa=some (.lst wvs):=by rw[aj n4];exact w2
 have sg:ak G (upd H A.ma (.frz o (.dK (mkV σ.ms)))):=aW S.old (S.fr _ w_);have th:∀H2,ak (upd H A.ma (.frz o (.dK (mkV σ.ms)))) H2->ak H (upd H2 A.ma (.dK (mkV σ.ms))):=λH2 s=>Bt S.marks s;generalize upd H A.ma (.frz o (.dK (mkV σ.ms)))=Hf at kf ix iw sg th⊢;refine Bp hz (λi σ' H2=>∃(v1 v2:Option V),σ'=[some (.ref A.x),v1,v2,none,none,none,none]/\ak Hf H2/\∀m∈σ.ms.take i,m.2≠σ.ws.length) ?_ ?_ ?_ ?_
 .rintro i σ' H2 ⟨v1,v2,rfl,m,_⟩;exact m _ _ kf
 .exact⟨none,none,rfl,ak.refl _,by simp⟩
 .rintro i qv p σ' H2 hq ⟨v1,v2,rfl,m,no⟩ hp;have hq':=hq;unfold mkV at hq';rw[HA]at hq';obtain⟨⟨mn,mk_⟩,hm,rfl⟩:=Option.map_eq_some_iff.mp hq';obtain⟨ml,e1,e2,e3⟩:=ss.ms _ (Ha hm);dsimp only at e1;subst e1;have s1:=m.trans (af hp (.tup [.str (tx ml),.int (mk_:Int)]));refine⟨p,_,rfl,SqT.of ac,rfl,_,_,rfl,_,_,rfl,rfl,?_⟩;refine⟨_,rfl,_,rfl,_,_,_,_,_,rfl,s1 _ _ ix,T.aD.cl,T.cE,jl,_,_,rfl,.inl (SqL.of (s1 _ _ iw)),rfl,_,rfl,?_⟩;by_cases c1:mk_=σ.ws.length
  .rw[decide_eq_true (show V.int (mk_:Int)=V.int ((wvs.length:Nat):Int) by rw[c1,lw])];refine aQ ?_;refine⟨⟨trivial,⟨ml,rfl,by omega,e3⟩,trivial,trivial⟩,λz=>⟨le1,qe .nomark ?_ _ (sg.trans s1)⟩⟩;unfold fH;rw[if_pos];rw[Jv];exact⟨_,Ha hm,decide_eq_true c1⟩
  .rw[decide_eq_false (show ¬ (V.int (mk_:Int)=V.int ((wvs.length:Nat):Int))from λz=>c1 (by injection z with z;omega))];refine av ?_;refine⟨_,_,rfl,s1,?_⟩;rw[bb hm];intro x hx;rcases List.mem_append.mp hx with hx|hx
   .exact no x hx
   .rw[List.mem_singleton.mp hx];exact c1
 rintro σ' H2 ⟨v1,v2,rfl,m,no⟩;rw[zv,Hu]at no;have s0:=th H2 m;have S1:=S.same s0;generalize upd H2 A.ma (.dK (mkV σ.ms))=H3 at s0 S1⊢;obtain⟨wvs',w2',w3'⟩:=S1.words;have lw':=w3'.len;refine⟨_,rfl,_,_,_,_,_,rfl,S1.ins,T.aD.cl,T.cE,jl,A.wa,rfl,⟨_,SqL.of w2'⟩,eD (K:=K) (a:=A.wa) (xs:=wvs') (λi ys G'=>H3=G'/\ys.length=i/\b8 H3 ys ((σ.ws.take i).map (·.w))) ⟨rfl,rfl,trivial⟩ (λi ys G' _ z=>by rw[<-z.1];exact SqL.of w2') ?_ ?_ ?_⟩
 .rintro i ys G' hi ⟨_,z,_⟩;exact aB (by omega)
 .rintro i y ys G' hy ⟨rfl,zl,al⟩;obtain⟨tw,hw,ta,wa',fa',rfl,h1,h2,h3⟩:=w3'.getL hy;refine eI ?_;refine⟨_,rfl,_,_,_,_,rfl,rfl,SqT.of (bT _ _ h1),rfl,rfl,?_,?_⟩
  .rw[GX,zl];rfl
  .rw[bb hw,Hc];exact al.snoc (h2.mono bT)
 rintro ys G' ⟨rfl,zl,al⟩ pw hpw;rw[lw',Hu]at al;have s4:=af hpw (.lst ys);have k4:upd H3 pw (.lst ys) pw=some (.lst ys):=ac;have S4:=S1.same s4;have al4:=b8.mono s4 al;have fr:=S1.fresh hpw;have gpw:G pw=none:=S1.old.free hpw;generalize upd H3 pw (.lst ys)=H4 at s4 k4 S4 al4⊢;obtain⟨kvs,f1,f2⟩:=S4.cl.feet;have fl:=f2.len;have hfa:H4 A.fa=some (.dK kvs):=S4.old _ _ f1;have npf:pw≠A.fa:=λz=>by rw[z,f1]at gpw;cases gpw
 have nos:∀b∈A.os,b≠A.fa:=λb hb z=>by have:=S4.fr b hb;rw[z,f1]at this;cases this
 refine⟨_,rfl,_,_,_,_,_,rfl,S4.ins,T.aD.cl,T.fS,vA,A.fa,kvs,rfl,hfa,λhz2 o2=>?_⟩;have F1:∀b,b≠A.fa->upd H4 A.fa (.frz o2 (.dK kvs)) b=H4 b:=λb hb=>aj hb;have F2:upd H4 A.fa (.frz o2 (.dK kvs)) A.fa=some (.frz o2 (.dK kvs)):=ac;generalize upd H4 A.fa (.frz o2 (.dK kvs))=F at F1 F2⊢;refine CO hz2 (λi σ' H2=>∃(us:List V) (v4:Option V),σ'=[some (.ref A.x),v1,v2,some (.ref pw),v4,none,none]/\H2=upd F pw (.lst us)/\b8 H4 us (σ.ws.map (·.w)++(c.feet.take i).flatMap (·.2))/\us.length<=400+39*i) ?_ ?_ ?_ ?_
 .rintro i σ' H2 ⟨us,v4,rfl,rfl,_⟩;rw[aj (HW npf)];exact F2
 .refine⟨ys,none,rfl,(CT (by rw[F1 _ npf];exact k4)).symm,?_,by omega⟩;rw[Kr,List.flatMap_nil,HU];exact al4
 .rintro i ⟨fk,fv⟩ σ' H2 hq ⟨us,v4,rfl,rfl,al5,ul⟩;obtain⟨⟨fn,fw⟩,hf,e1,l,e2,l1,l2,l3⟩:=f2.get hq;dsimp only at e2;subst e2;have hi:=(List.getElem?_eq_some_iff.mp hq).1;have ff:=(so.fw _ (Ha hf)).1;dsimp only at ff;have ll:=l3.len;dsimp only at ll;have nl:l≠pw:=λz=>by rw[z,gpw]at l2;cases l2
  have nlf:l≠A.fa:=λz=>by rw[z,f1]at l2;cases l2
  have fle:=so.fl;refine⟨_,rfl,.inl ⟨rfl,_,SqL.of ac⟩,_,rfl,_,_,_,_,rfl,rfl,ac,(by rw[aj nl,F1 _ nlf];exact S4.old _ _ l2),HM (Hq (show us.length+l1.length<=10000 by omega) (by decide)),?_⟩;rw[Bs];refine⟨us++l1,_,rfl,rfl,?_,by rw[GX];omega⟩;rw[bb hf,Jy,<-HL];refine al5.app ?_;rw[show List.flatMap (λx:Str×List Wk=>x.2) [(fn,fw)]=fw from by simp];exact b8.mono S4.old l3
 rintro σ' H2 ⟨us,v4,rfl,rfl,al5,ul⟩;rw[fl,Hu]at al5;have T5:∀{b xs},H4 b=some (.tup xs)->upd (upd F pw (.lst us)) A.fa (.dK kvs) b=some (.tup xs):=λ{b xs} h=>by
  have b1:b≠A.fa:=λz=>by rw[z,hfa]at h;cases h
  have b2:b≠pw:=λz=>by rw[z,k4]at h;cases h
  rw[aj b1,aj b2,F1 _ b1];exact h
 have s5:ak H3 (upd (upd F pw (.lst us)) A.fa (.dK kvs)):=λb u h=>by
  have b2:b≠pw:=λz=>by rw[z,hpw]at h;cases h
  by_cases b1:b=A.fa
  .rw[b1,ac];have:=s4 _ _ h;rw[b1,hfa]at this;exact this
  .rw[aj b1,aj b2,F1 _ b1];exact s4 _ _ h
 have k5:upd (upd F pw (.lst us)) A.fa (.dK kvs) pw=some (.lst us):=by rw[aj npf];exact ac
 generalize upd (upd F pw (.lst us)) A.fa (.dK kvs)=H5 at T5 s5 k5⊢;have S5:=S1.same s5;have al6:b8 H5 us (σ.ws.map (·.w)++c.feet.flatMap (·.2)):=al5.imp λv w ⟨b,z1,z2⟩=>⟨b,z1,T5 z2⟩;have l6:=al6.len;have all:∀w∈σ.ws.map (·.w)++c.feet.flatMap (·.2),cT w.1=true->∃n:List Nat,n.length<=200/\(∀d∈n,d<127)/\w.2=.str (tx n):=λw hw hk=>by
  rcases List.mem_append.mp hw with hw|hw
  .obtain⟨t,ht,rfl⟩:=List.mem_map.mp hw;rcases(ss.ws t ht).1 with⟨z,_⟩|⟨z,_⟩|⟨_,h⟩
   .rw[z]at hk;cases hk
   .rw[z]at hk;cases hk
   .exact h
  .obtain⟨p,hp,hw⟩:=List.mem_flatMap.mp hw;rcases((so.fw p hp).2 w hw).1 with⟨_,h⟩|⟨z,_⟩
   .exact h
   .rw[z]at hk;cases hk
 have noA:(σ.ms.any λm=>m.2=σ.ws.length)=false:=by
  rw[Jp];intro m hm;simpa using no m hm
 refine⟨_,rfl,pw,rfl,⟨_,SqL.of k5⟩,cm (K:=K) (a:=pw) (xs:=us) (λi σ' H2=>∃(v5 v6:Option V),σ'=[some (.ref A.x),v1,v2,some (.ref pw),v4,v5,v6]/\H2=H5/\∀w∈(σ.ws.map (·.w)++c.feet.flatMap (·.2)).take i,jH σ w=false) ⟨none,none,rfl,rfl,by simp⟩ (λi σ' H2 _ g=>by obtain⟨_,_,_,rfl,_⟩:=g;exact SqL.of k5) ?_ ?_⟩
 .rintro i y σ' H2 hy ⟨v5,v6,rfl,rfl,nb⟩;obtain⟨⟨kd,vv⟩,hw,b,rfl,hb⟩:=al6.getL hy;have gw:=all _ (Ha hw);dsimp only at gw;have step:jH σ (kd,vv)=false->∀w∈(σ.ws.map (·.w)++c.feet.flatMap (·.2)).take (i+1),jH σ w=false:=λz=>by
   rw[bb hw];intro w hw;rcases List.mem_append.mp hw with hw|hw
   .exact nb w hw
   .rw[List.mem_singleton.mp hw];exact z
  refine⟨b,_,rfl,SqT.of hb,rfl,_,_,rfl,_,_,rfl,rfl,?_⟩;refine⟨_,rfl,_,_,rfl,.inr (k_POINTING _),rfl,rfl,_,rfl,?_⟩;rw[xa];by_cases hk:cT kd=true
  .rw[hk];refine aQ ?_;obtain⟨n,nl,nc,hn⟩:=gw hk
   .subst hn;refine⟨_,rfl,_,rfl,_,_,_,_,_,rfl,S5.ins,T.aD.cl,T.cC,jm,_,_,rfl,e_.k (k:=.inr (tx n)) S5.marks,_,rfl,?_⟩;rw[o7];cases hv:lkS (tx n) σ.ms with
    |none =>
     refine aQ ?_;refine⟨⟨trivial,⟨n,rfl,by omega,nc⟩,trivial⟩,λz=>⟨le1,qe .nomark ?_ _ S5.old⟩⟩;unfold fH;rw[if_neg (by rw[noA];decide),if_pos];rw[Jv];refine⟨_,Ha hw,?_⟩;show(cT kd&&(lkS (tx n) σ.ms).isNone)=true;rw[hk,hv];rfl
    |some k =>
     refine av ?_;refine⟨_,_,rfl,rfl,step ?_⟩;show(cT kd&&(lkS (tx n) σ.ms).isNone)=false;rw[hv];exact Kp _
  .rw[IG]at hk;rw[hk];refine av ?_;refine av ?_;refine⟨_,_,rfl,rfl,step ?_⟩;show(cT kd&&_)=false;rw[hk];rfl
 rintro σ' H2 ⟨v5,v6,rfl,rfl,nb⟩;rw[l6,Hu]at nb;refine q ?_ _ (s0.trans s5) S5;unfold fH;rw[if_neg (by rw[noA];decide),if_neg];rw[IG,Jp];intro w hw;rw[nb w hw];decide
def rO(cls:Xc->Addr)(C:Addr):Sp:=λvs H Q E=>∃(A:Sad) (G:Hp) (c:Sc) (σ:Ss) (n:List Nat),vs=[.ref A.x,.str (tx n)]/\StA C G H A c σ/\n.length<=200/\(∀d∈n,d<127)/\σ.ms.length<=1000000/\(∀e,fG σ (tx n)=.error e->∀H',ak G H'->E (.ref (cls e)) none H')/\∀σ' H',fG σ (tx n)=.ok σ'->StA C G H' A c σ'->Q .non H'
theorem rP:aN ["self","name"] ["self","name"] (au iP):=by walk_at "c"
theorem rQ(T:Txt P w K mg a):bi P w K mg base (CXe P w) 1 a.i9 a.iG ["self","name"] (rO (j0 a.aH a.aE a.aA a.aF) a.aI):=by
 refine T.i4.fn.okE rP (λvs H Q E h=>?_) (λcdv A outer s H vs Q E hr h=>?_)
 .obtain⟨A,G,c,σ,n,rfl,_⟩:=h;rfl
 obtain⟨A,G,c,σ,n,rfl,S,nl,nc,ml,qe,q⟩:=h;refine⟨_,(ag (aR (ao (pM (dB hr)) (pv 1) (bu (pv 0) rfl) (by with_unfolding_all rfl)) (ai (lV rfl oX T.vO rfl (aa (oY (eE kA (eE (sW (pv 1)) (eE kA rj)))) ae))) aM)
   (ai (sU (dB hr) (bu (pv 0) rfl) (pv 1) (aV bN rfl T.cr PySem.boot_len (aa (bu (pv 0) rfl) ae)) rfl))),?_⟩
 obtain⟨wvs,w2,w3⟩:=S.words;have lw:=w3.len;refine⟨_,rfl,_,rfl,_,_,_,_,_,rfl,S.ins,T.aD.cl,T.cC,jm,_,_,rfl,e_.k (k:=.inr (tx n)) S.marks,_,rfl,?_⟩;rw[o7];cases hv:lkS (tx n) σ.ms with
 |some k =>
  refine aQ ?_;exact⟨⟨trivial,⟨n,rfl,by omega,nc⟩,trivial,trivial⟩,λz=>⟨le1,qe .twice (by unfold fG;rw[hv];rfl) H S.old⟩⟩
 |none =>
  refine av ?_;dsimp only[dq];refine⟨_,rfl,_,_,_,_,_,rfl,S.ins,T.aD.cl,T.cE,jl,_,_,rfl,.inl (SqL.of w2),_,rfl,_,_,_,_,_,rfl,S.ins,T.aD.cl,T.cC,jm,_,rfl,_,_,rfl,rc.k (k:=.inr (tx n)) S.marks (by rw[zv];exact Hq ml (by decide)),?_⟩;rw[pI _ (by rw[o7,hv];rfl),lw,<-CQ];exact q _ _ (by unfold fG;rw[hv];rfl) (S.mark (tx n) σ.ws.length)
def qJ(cls:Xc->Addr)(C:Addr):Sp:=λvs H Q E=>∃(A:Sad) (G:Hp) (c:Sc) (σ:Ss) (n:List Nat),vs=[.ref A.x,.str (tx n)]/\StA C G H A c σ/\kL c/\n.length<=200/\(∀d∈n,d<127)/\σ.fs<=1000/\(∀e,hX c σ (tx n)=.error e->∀H',ak G H'->E (.ref (cls e)) none H')/\∀σ' f H' p,hX c σ (tx n)=.ok (σ',f)->StA C G H' A c σ'->H p=none->cZ H' p f->Q (.ref p) H'
theorem qK:aN ["self","name"] ["self","name"] (au hZ):=by walk_at "c"
theorem qL(T:Txt P w K mg a):bi P w K mg base (CXe P w) 2 a.iz a.gQ ["self","name"] (qJ (j0 a.aH a.aE a.aA a.aF) a.aI):=by
 refine T.io.fn.okE qK (λvs H Q E h=>?_) (λcdv A outer s H vs Q E hr h=>?_)
 .obtain⟨A,G,c,σ,n,rfl,_⟩:=h;rfl
 obtain⟨A,G,c,σ,n,rfl,S,so,nl,nc,ml,qe,q⟩:=h;refine⟨_,(ag (aR (ao (je (dB hr)) (pv 1) (bu (pv 0) rfl) (by with_unfolding_all rfl)) (ai (lV rfl oX T.uG rfl (aa (oY (eE kA (eE (sW (pv 1)) rj))) ae))) aM)
   (ag (db (pv 0) (aK bZ (bu (pv 0) rfl) ah) rfl)
   (ai (aP (aK d7 (aU (aa (aY (aa am (aa (aK dM (aK dM am (aC T.jN (qG T) (hr.mono (by decide)) rfl (aa (bu (pv 0) rfl) ae))) am) ae))) ae)) (sT (dB hr) (bu (pv 0) rfl) (pv 1) (λ_ _=>rfl))))))),?_⟩
 obtain⟨kvs,f2,f3⟩:=S.cl.feet;refine⟨_,rfl,_,rfl,_,_,_,_,_,rfl,S.ins,T.aD.cl,T.fS,vA,_,_,rfl,e_.k (k:=.inr (tx n)) (S.old _ _ f2),_,rfl,?_⟩;obtain⟨v1,v2⟩:=FtA.val (n:=tx n) f3;cases hv:lkS (tx n) c.feet with
 |none =>
  rw[v1 hv];refine aQ ?_;exact⟨⟨trivial,⟨n,rfl,by omega,nc⟩,trivial⟩,λz=>⟨le1,qe .nofoot (by unfold hX;rw[hv]) H S.old⟩⟩
 |some f =>
  obtain⟨l,e,hl⟩:=v2 f hv;rw[e];refine av ?_;dsimp only[dq];refine⟨_,rfl,_,_,_,_,_,rfl,S.ins,T.aD.cl,T.dW,tO,_,_,rfl,rfl,_,rfl,_,_,_,_,rfl,S.ins,T.aD.cl,T.dW,o6,?_⟩;rw[wF];have S1:StA a.aI G (upd H A.x (.ins a.aI A.dx (fsS A ((σ.fs:Int)+1) σ.lp σ.bh))) A c { σ with fs:=σ.fs+1 }:=S.flds (σ.fs+1) σ.lp σ.bh;have hfr:∀p,upd H A.x (.ins a.aI A.dx (fsS A ((σ.fs:Int)+1) σ.lp σ.bh)) p=none->H p=none:=λp hp=>by
   by_cases z:p=A.x
   .rw[z,ac]at hp;cases hp
   .rw[aj z]at hp;exact hp
  generalize upd H A.x (.ins a.aI A.dx (fsS A ((σ.fs:Int)+1) σ.lp σ.bh))=H1 at S1 hfr⊢;have cL:(PySem.Str.ofString "(")=tx [40]:=by decide +kernel
  have cR:(PySem.Str.ofString ")")=tx [41]:=by decide +kernel
  have fl:(aX (σ.fs+1)).length<=5:=jY 4 _ (by omega);refine⟨_,rfl,_,_,_,_,_,rfl,S1.ins,T.aD.cl,T.dW,tO,σ.fs+1,rfl,Hq (show σ.fs+1<=1001 by omega) (by decide +kernel),_,_,rfl,rfl,(by rw[cL,bf,bf];exact HM (aB (by simp only[GU,Hk];omega))),_,_,rfl,rfl,(by rw[cL,cR,eJ,bf,bf];exact HM (aB (by simp only[GX,GU,Hk];omega))),le2,λp1 hp1=>?_⟩;have s1:=af hp1 (.tup [.str "plain",.str (jF (σ.fs+1))]);have k1:upd H1 p1 (.tup [.str "plain",.str (jF (σ.fs+1))]) p1=some (.tup [.str "plain",.str (jF (σ.fs+1))]):=ac;have S2:=S1.same s1;refine⟨le1,λp2 hp2=>?_⟩;change upd H1 p1 (.tup [.str "plain",.str (jF (σ.fs+1))]) p2=none at hp2;have s2:=af hp2 (.lst [.ref p1]);have k2:upd (upd H1 p1 (.tup [.str "plain",.str (jF (σ.fs+1))])) p2 (.lst [.ref p1]) p2=some (.lst [.ref p1]):=ac;have k1':=s2 _ _ k1;have S3:=S2.same s2;have hfr3:=λ(p:Addr) hp=>hfr p ((s1.trans s2).free hp);obtain⟨fv,g1,g2⟩:=hl.mono S3.old;have lf:=g2.len;have ff:=(so.fw (tx n,f) (s_ hv)).1;have hg:e_ (upd (upd H1 p1 (.tup [.str "plain",.str (jF (σ.fs+1))])) p2 (.lst [.ref p1])) A.fa (kV (.inr (tx n))) (some (.ref l)):=by rw[<-e];exact e_.k (S3.old _ _ f2)
  refine⟨_,rfl,_,_,_,_,_,rfl,S3.ins,T.aD.cl,T.fS,vA,_,rfl,_,_,rfl,hg,_,_,_,_,rfl,rfl,k2,g1,(by show 1+fv.length<=_;rw[lf];exact HM (aB (by dsimp only at ff;omega))),λp3 hp3=>?_⟩;have s3:=af hp3 (.lst ([.ref p1]++fv));exact q { σ with fs:=σ.fs+1 } ((.plain,.str (jF (σ.fs+1)))::f) _ p3 (by unfold hX;rw[hv]) (S3.same s3) (hfr3 p3 hp3) ⟨_,ac,show b8 _ (.ref p1::fv) ((.plain,.str (jF (σ.fs+1)))::f)from⟨⟨p1,rfl,s3 _ _ k1'⟩,b8.mono s3 g2⟩⟩
def rR(cls:Xc->Addr)(C:Addr):Sp:=λvs H Q E=>∃(A:Sad) (G:Hp) (c:Sc) (σ:Ss) (lead:Int) (w:Addr) (wk:Wk),vs=[.ref A.x,.int lead,.ref w]/\StA C G H A c σ/\kL c/\WkA H (.ref w) wk/\GWk wk/\σ.ws.length<=400/\σ.fs<=σ.ws.length/\(∀e,du c σ lead wk=.error e->∀H',ak G H'->E (.ref (cls e)) none H')/\∀σ' H',du c σ lead wk=.ok σ'->StA C G H' A c σ'->Q .non H'
theorem dQ:aN ["self","lead","word","foot"] ["self","lead","word"] (au iQ):=by walk_at "c"
theorem rS(T:Txt P w K mg a):bi P w K mg base (CXe P w) 3 a.i_ a.iH ["self","lead","word"] (rR (j0 a.aH a.aE a.aA a.aF) a.aI):=by
 have bH:=T.bH;obtain⟨t_MOST_WORDS_books,bH⟩:=bH;refine T.i5.fn.okE dQ (λvs H Q E h=>?_) (λcdv A outer s H vs Q E hr h=>?_)
 .obtain⟨A,G,c,σ,lead,w,wk,rfl,_⟩:=h;rfl
 obtain⟨A,G,c,σ,lead,w,wk,rfl,S,so,hw,gw,wl,fl,qe,q⟩:=h;refine⟨_,(ag (ay (i:=3) dQ.nd rfl (Hh rfl) (aU ae))
   (ag (aR (ao a_ (aS bM (pv 2) ah (λ_ _=>rfl)) am (nomark _)) (ag (ay (i:=3) dQ.nd rfl (Hh rfl) (dC fE T.aD T.io (qL T) (hr.mono (by decide)) (pv 0) (aa (aS bM (pv 2) ah (λ_ _=>rfl)) ae)))
   (ai (ay (i:=2) dQ.nd rfl (Hh rfl) (aS bS (pv 3) ah (λ_ _=>rfl))))) aM)
   (ag (aR (ao a_ (aV bN rfl T.cr PySem.boot_len (aa (bu (pv 0) rfl) ae)) (bW (v:=.int 400) rfl bH ⟨_,rfl⟩) (nomark _)) (ai (lV rfl oX T.sN rfl (aa (oY (eE kA (eE (EX (bW (v:=.int 400) rfl bH ⟨_,rfl⟩)) (eE kA rj)))) ae))) aM)
   (ag (aR (ao j_ (bu (pv 0) rfl) ah (nomark _)) (ag (ay (i:=1) dQ.nd rfl (Hh rfl) (bu (pv 0) rfl))
   (ai (db (pv 0) ah rfl))) aM)
   (ai (bn (cp PySem.F.plainAttrs_list PySem.F.slot_list_append PySem.F.type_list_append b7 (bu (pv 0) rfl) (aa (aY (aa (pv 1) (aa (xA (bu (pv 0) rfl) (oR (eC Di (pv 1) ah (nomark _)))) (aa (pv 2) (aa (pv 3) ae))))) ae)))))))),?_⟩
 refine⟨aJ (by simp),λp1 hp1=>?_⟩;have n1:p1≠A.wa:=λz=>by obtain⟨_,w2,_⟩:=S.words;rw[z,w2]at hp1;cases hp1
 have n2:p1≠A.ha:=λz=>by obtain⟨_,w2,_⟩:=S.heads;rw[z,w2]at hp1;cases hp1
 have s1:=af hp1 (.lst []);have k1:upd H p1 (.lst []) p1=some (.lst []):=ac;have S1:=S.same s1;generalize upd H p1 (.lst [])=H1 at s1 k1 S1⊢;have hw1:=hw.mono s1;dsimp only[bB];refine dH (λσ' H'=>∃(w' p:Addr) (wk':Wk) (f:List Wk) (σ1:Ss),σ'=[some (.ref A.x),some (.int lead),some (.ref w'),some (.ref p)]/\StA a.aI G H' A c σ1/\WkA H' (.ref w') wk'/\cZ H' p f/\p≠A.wa/\p≠A.ha/\du c σ lead wk=jg σ1 lead wk' f/\σ1.ws=σ.ws) ?_ (λkey=>?_)
 .rintro σ' H2 ⟨w',p,wk',f,σ1,rfl,S2,hw2,hp2,m1,m2,e,ew⟩;obtain⟨wvs,w2,w3⟩:=S2.words;have lw:=w3.len;rw[ew]at lw;refine⟨_,rfl,_,_,_,_,_,rfl,S2.ins,T.aD.cl,T.cE,jl,_,_,rfl,.inl (SqL.of w2),rfl,_,rfl,?_⟩;refine d_ (λc1=>?_) (λc1=>?_)
  .have c2:wvs.length=400:=by have:=of_decide_eq_true c1;injection this with this;omega
   exact⟨⟨trivial,trivial,trivial,trivial⟩,λz=>⟨le1,qe .toolong (by rw[e];unfold jg;rw[ew,if_pos (by omega)]) H2 S2.old⟩⟩
  have c2:¬ (wvs.length=400):=λz=>c1 (decide_eq_true (by rw[z];rfl));dsimp only[dq];refine dH (λσ' H'=>σ'=[some (.ref A.x),some (.int (if 0<σ1.lp then σ1.lp else lead)),some (.ref w'),some (.ref p)]/\StA a.aI G H' A c { σ1 with lp:=if 0<σ1.lp then 0 else σ1.lp }/\WkA H' (.ref w') wk'/\cZ H' p f/\H' A.wa=some (.lst wvs)) ?_ (λkey=>?_)
  .rintro σ' H3 ⟨rfl,S3,hw3,hp3,w23⟩;generalize hld:(if 0<σ1.lp then σ1.lp else lead)=ld;have go:∀(b:Bool),b=(σ1.bh&&decide (ld<=2))->∀p2,H3 p2=none->StA a.aI G (upd (upd H3 p2 (.tup [.int ld,.bl b,.ref w',.ref p])) A.wa (.lst (wvs++[.ref p2]))) A c { σ1 with lp:=if 0<σ1.lp then 0 else σ1.lp,ws:=σ1.ws++[⟨ld,σ1.bh&&decide (ld<=2),wk',f⟩] }:=λb hb p2 hp2=>by
    have s3:=af hp2 (.tup [.int ld,.bl b,.ref w',.ref p]);exact(S3.same s3).word (t:=⟨ld,σ1.bh&&decide (ld<=2),wk',f⟩) (s3 _ _ w23) rfl (by rw[<-hb];exact ac) (hw3.mono s3) (hp3.mono s3) m1 m2
   have fin:du c σ lead wk=.ok { σ1 with lp:=if 0<σ1.lp then 0 else σ1.lp,ws:=σ1.ws++[⟨ld,σ1.bh&&decide (ld<=2),wk',f⟩] }:=by
    rw[e];unfold jg;rw[if_neg (by rw[ew];omega),hld]
   refine⟨_,rfl,_,_,_,_,_,rfl,S3.ins,T.aD.cl,T.cE,jl,.inl ⟨rfl,_,SqL.of w23⟩,_,rfl,_,rfl,_,_,_,_,_,rfl,S3.ins,T.aD.cl,T.di,o5,_,rfl,?_⟩;have wf:wvs.length<Hs:=aB (by omega);cases hb:σ1.bh with
   |true =>
    refine aQ ?_;refine⟨_,rfl,_,_,rfl,rfl,_,rfl,_,rfl,le4,λp2 hp2=>?_⟩;have s3:=af hp2 (.tup [.int ld,.bl (decide (ld<=2)),.ref w',.ref p]);refine⟨_,_,_,rfl,rfl,s3 _ _ w23,wf,?_⟩;exact q _ _ fin (go _ (by rw[hb];rfl) p2 hp2)
   |false =>
    refine av ?_;refine⟨_,rfl,_,rfl,le4,λp2 hp2=>?_⟩;have s3:=af hp2 (.tup [.int ld,.bl false,.ref w',.ref p]);refine⟨_,_,_,rfl,rfl,s3 _ _ w23,wf,?_⟩;exact q _ _ fin (go _ (by rw[hb];rfl) p2 hp2)
  .refine⟨_,rfl,_,_,_,_,_,rfl,S2.ins,T.aD.cl,T.cW,sZ,_,_,rfl,rfl,_,rfl,?_⟩;by_cases hl:0<σ1.lp
   .rw[decide_eq_true (show σ1.lp>0 from hl)];refine aQ ?_;refine⟨_,rfl,_,_,_,_,_,rfl,S2.ins,T.aD.cl,T.cW,sZ,?_⟩;refine⟨_,rfl,_,_,_,_,rfl,S2.ins,T.aD.cl,T.cW,o6,?_⟩;rw[rz];have S3:=S2.flds σ1.fs 0 σ1.bh;obtain⟨e1,e2,e3,e4,e5⟩:=S2.nes;have tup:∀{b us},H2 b=some (.tup us)->upd H2 A.x (.ins a.aI A.dx (fsS A (σ1.fs:Int) 0 σ1.bh)) b=some (.tup us):=λ{b us} h=>by rw[aj (λz=>S2.nt b (by rw[z];exact CS) us h)];exact h
    have lsx:∀{b us},H2 b=some (.lst us)->upd H2 A.x (.ins a.aI A.dx (fsS A (σ1.fs:Int) 0 σ1.bh)) b=some (.lst us):=λ{b us} h=>by rw[aj (λz=>by rw[z,S2.ins]at h;cases h)];exact h
    refine key _ _ ⟨by rw[if_pos hl];rfl,by rw[if_pos hl];exact S3,?_,?_,lsx w2⟩
    .obtain⟨b,z1,z2⟩:=hw2;exact⟨b,z1,tup z2⟩
    .obtain⟨us,z1,z2⟩:=hp2;exact⟨us,lsx z1,z2.imp λv w ⟨b,y1,y2⟩=>⟨b,y1,tup y2⟩⟩
   .rw[decide_eq_false (show ¬ (σ1.lp>0)from hl)];refine av ?_;refine key _ _ ⟨by rw[if_neg hl],by rw[if_neg hl];exact S2,hw2,hp2,w2⟩
 .obtain⟨wb,e1,hb⟩:=hw1;injection e1 with e1;subst e1;refine⟨_,rfl,_,_,_,_,rfl,rfl,SqT.of hb,rfl,rfl,_,rfl,?_⟩;by_cases hk:wk.1=.foot
  .rw[decide_eq_true (by rw[hk];rfl)];refine aQ ?_;obtain⟨_,n,nl,nc,hn⟩|⟨z,_⟩:=gw
   .rw[hn]at hb;refine⟨_,rfl,_,_,_,rfl,S1.ins,jn (by decide +kernel),_,rfl,_,_,_,_,rfl,rfl,SqT.of hb,rfl,?_⟩;have hr_:bp wk.2=tx n:=by rw[hn];rfl
    have ew:du c σ lead wk=(match hX c σ (tx n)with|.error x=>.error x|.ok (s',f)=>jg s' lead (f.headD wk) f):=by
     unfold du;rw[if_pos hk,hr_]
     first|done|(cases hX c σ (tx n)<;>rfl)
    refine⟨A,G,c,σ,n,rfl,S1,so,nl,nc,by omega,λe he H' s'=>qe e (by rw[ew,he]) H' s',λσ' f H2 p he S2 hp hf=>?_⟩;rw[he]at ew;dsimp only[bB];have hws:σ'.ws=σ.ws/\∃x r,f=x::r:=by
     unfold hX at he;cases hv:lkS (tx n) c.feet with
     |none=>rw[hv]at he;cases he
     |some g=>rw[hv]at he;cases he;exact⟨rfl,_,_,rfl⟩
    obtain⟨hws,x,r,rfl⟩:=hws;obtain⟨us,u1,u2⟩:=hf
    match us,u2 with
    |u::us,⟨⟨b,z1,z2⟩,u3⟩ =>
    subst z1;refine⟨_,rfl,_,_,_,_,rfl,rfl,SqL.of u1,iJ _ _,?_⟩;refine key _ _ ⟨b,p,x,x::r,σ',rfl,S2,⟨b,rfl,z2⟩,⟨_,u1,⟨b,rfl,z2⟩,u3⟩,?_,?_,ew,hws⟩
    .exact λz=>by obtain⟨_,w2,_⟩:=S1.words;rw[z,w2]at hp;cases hp
    .exact λz=>by obtain⟨_,w2,_⟩:=S1.heads;rw[z,w2]at hp;cases hp
   .rw[hk]at z;cases z
  .have nk:¬ (V.str wk.1.s=V.str "foot"):=λz=>hk (Kw.inj (b:=.foot) (V.str.inj z));rw[decide_eq_false nk];refine av ?_;refine key _ _ ⟨w,p1,wk,[],σ,rfl,S1,⟨w,rfl,hb⟩,⟨[],k1,trivial⟩,n1,n2,?_,rfl⟩;unfold du;rw[if_neg hk]
def tH(cls:Xc->Addr)(C:Addr):Sp:=λvs H Q E=>∃(A:Sad) (G:Hp) (c:Sc) (σ:Ss) (lead:Int) (la:Addr) (byh:Bool) (ws:List Wk),vs=[.ref A.x,.int lead,.ref la,.bl byh]/\StA C G H A c σ/\kL c/\cZ G la ws/\(∀w∈ws,GWk w)/\ws.length<=600/\Bd σ ws.length/\(∀e,bP c σ lead byh ws=.error e->∀H',ak G H'->E (.ref (cls e)) none H')/\∀σ' H',bP c σ lead byh ws=.ok σ'->StA C G H' A c σ'->Q .non H'
theorem iW:aN ["self","lead","words","by_head","word"] ["self","lead","words","by_head"] (au jo):=by walk_at "c"
theorem fB(T:Txt P w K mg a):bi P w K mg base (CXe P w) 4 a.jp a.ja ["self","lead","words","by_head"] (tH (j0 a.aH a.aE a.aA a.aF) a.aI):=by
 refine T.dL.fn.okE iW (λvs H Q E h=>?_) (λcdv A outer s H vs Q E hr h=>?_)
 .obtain⟨A,G,c,σ,lead,la,byh,ws,rfl,_⟩:=h;rfl
 obtain⟨A,G,c,σ,lead,la,byh,ws,rfl,S,so,hl,gw,wl,bd,qe,q⟩:=h;refine⟨_,(ai (cg Jc rfl (bq (pv 2)) (aO (i:=4) iW.nd rfl (Hh rfl)) (ai (aR (ao a_ (aS bM (pv 4) ah (λ_ _=>rfl)) am (nomark _)) (ai (bn (dC fE T.aD T.i4 (rQ T) (hr.mono (by decide)) (pv 0) (aa (aS bM (pv 4) ah (λ_ _=>rfl)) ae)))) (ag (bn (dC fE T.aD T.i5 (rS T) (hr.mono (by decide)) (pv 0) (aa (pv 1) (aa (pv 4) ae))))
   (ag (db (pv 0) (pv 3) rfl)
   (ai (ay (i:=1) iW.nd rfl (Hh rfl) ah)))))))),?_⟩
 obtain⟨us,l1,l2⟩:=hl;have lu:=l2.len;refine⟨_,rfl,la,rfl,⟨_,SqL.of (S.old _ _ l1)⟩,cm (K:=K) (a:=la) (xs:=us) (λi σ' H2=>∃(vw:Option V) (ld:Int) (σ1:Ss),σ'=[some (.ref A.x),some (.int ld),some (.ref la),some (.bl byh),vw]/\StA a.aI G H2 A c σ1/\bP c σ lead byh ws=bP c σ1 ld byh (ws.drop i)/\Bd σ1 (ws.length-i)) ⟨none,lead,σ,rfl,S,rfl,bd⟩ (λi σ' H2 _ g=>by obtain⟨_,_,_,_,S1,_⟩:=g;exact SqL.of (S1.old _ _ l1)) ?_ ?_⟩
 .rintro i y σ' H2 hy ⟨vw,ld,σ1,rfl,S1,er,b1⟩;obtain⟨w,hw,wb,rfl,hb⟩:=l2.getL hy;have hi:=(List.getElem?_eq_some_iff.mp hw).1;have gww:=gw w (Ha hw);have ed:ws.drop i=w::ws.drop (i+1):=by
   obtain⟨hi,e⟩:=List.getElem?_eq_some_iff.mp hw;rw[Ia hi,e]
  have hb2:=S1.old _ _ hb;rw[ed]at er;refine⟨_,rfl,_,_,_,_,rfl,rfl,SqT.of hb2,rfl,rfl,_,rfl,?_⟩;by_cases hk:w.1=.mark
  .rw[decide_eq_true (by rw[hk];rfl)];refine aQ ?_;have er2:bP c σ1 ld byh (w::ws.drop (i+1))=(match fG σ1 (bp w.2)with|.error x=>.error x|.ok s'=>bP c s' ld byh (ws.drop (i+1))):=by
    show(if w.1=.mark then _ else _)=_;rw[if_pos hk]
    first|done|(cases fG σ1 (bp w.2)<;>rfl)
   obtain⟨_,n,nl,nc,hn⟩|⟨z,_⟩:=gww
   .rw[hn]at hb2;have hr_:bp w.2=tx n:=by rw[hn];rfl
    rw[hr_]at er2;refine⟨_,rfl,_,_,_,rfl,S1.ins,jn (by decide +kernel),_,rfl,_,_,_,_,rfl,rfl,SqT.of hb2,rfl,?_⟩;refine⟨A,G,c,σ1,n,rfl,S1,nl,nc,(by have:=b1.ms;omega),λe he H' s'=>?_,λσ2 H3 he S2=>?_⟩
    .refine qe e ?_ H' s';rw[er,er2,he]
    .rw[he]at er2;have hs2:σ2.ws=σ1.ws/\σ2.fs=σ1.fs/\σ2.ms.length=σ1.ms.length+1:=by
      unfold fG at he;by_cases z:(lkS (tx n) σ1.ms).isSome=true
      .rw[if_pos z]at he;cases he
      .rw[if_neg z]at he;cases he;exact⟨rfl,rfl,by simp⟩
     exact⟨_,ld,σ2,rfl,S2,er.trans er2,⟨by rw[hs2.1];exact b1.ws,by rw[hs2.1,hs2.2.1];exact b1.fs,by rw[hs2.2.2];have:=b1.ms;omega⟩⟩
   .rw[hk]at z;cases z
  .have nk:¬ (V.str w.1.s=V.str "mark"):=λz=>hk (Kw.inj (b:=.mark) (V.str.inj z));rw[decide_eq_false nk];refine av ?_;have er2:bP c σ1 ld byh (w::ws.drop (i+1))=(match du c σ1 ld w with|.error x=>.error x|.ok s'=>bP c { s' with bh:=byh } 0 byh (ws.drop (i+1))):=by
    show(if w.1=.mark then _ else _)=_;rw[if_neg hk]
    first|done|(cases du c σ1 ld w<;>rfl)
   refine⟨_,rfl,_,_,_,rfl,S1.ins,jn (by decide +kernel),_,rfl,_,rfl,?_⟩;refine⟨A,G,c,σ1,ld,wb,w,rfl,S1,so,⟨wb,rfl,hb2⟩,gww,b1.ws,b1.fs,λe he H' s'=>qe e (by rw[er,er2,he]) H' s',λσ2 H3 he S2=>?_⟩;rw[he]at er2;have b2:=we he;refine⟨_,rfl,_,rfl,_,_,_,_,rfl,S2.ins,T.aD.cl,T.di,o6,?_⟩;rw[ua];exact⟨_,0,_,rfl,S2.flds σ2.fs σ2.lp byh,er.trans er2,⟨by show σ2.ws.length<=400;have:=b1.ws;omega,by show σ2.fs<=σ2.ws.length;have:=b1.fs;omega,by show σ2.ms.length+_<=_;rw[b2.2.2.2];have:=b1.ms;omega⟩⟩
 rintro σ' H2 ⟨vw,ld,σ1,rfl,S1,er,b1⟩;rw[lu,IS]at er;exact q _ _ er S1
def rT(cls:Xc->Addr)(C:Addr):Sp:=λvs H Q E=>∃(A:Sad) (G:Hp) (c:Sc) (σ:Ss) (k:Nat),vs=[.ref A.x,.int (k:Int)]/\StA C G H A c σ/\kL c/\k<c.nums.length/\σ.hs.length<=1000/\Bd σ 200/\(∀e,rm c σ k=.error e->∀H',ak G H'->E (.ref (cls e)) none H')/\∀σ' H',rm c σ k=.ok σ'->StA C G H' A c σ'->Q .non H'
theorem kD:aN ["self","k","number"] ["self","k"] (au iR):=by walk_at "c"
theorem rV(T:Txt P w K mg a):bi P w K mg base (CXe P w) 5 a.i7 a.iE ["self","k"] (rT (j0 a.aH a.aE a.aA a.aF) a.aI):=by
 refine T.iY.fn.okE kD (λvs H Q E h=>?_) (λcdv A outer s H vs Q E hr h=>?_)
 .obtain⟨A,G,c,σ,k,rfl,_⟩:=h;rfl
 obtain⟨A,G,c,σ,k,rfl,S,so,hk,hl,bd,qe,q⟩:=h;refine⟨_,(ag (ay (i:=2) kD.nd rfl (Hh rfl) (aS bS (bu (pv 0) rfl) (pv 1) (λ_ _=>rfl)))
   (ag (bn (cp PySem.F.plainAttrs_list PySem.F.slot_list_append PySem.F.type_list_append b7 (bu (pv 0) rfl) (aa (aY (aa (pv 2) (aa (aV bN rfl T.cr PySem.boot_len (aa (bu (pv 0) rfl) ae)) ae))) ae)))
   (ai (bn (dC fE T.aD T.dL (fB T) (hr.mono (by decide)) (pv 0) (aa ah (aa (aK d7 (aU (aa (aY (aa am (aa (pv 2) ae))) ae)) (aS bS (bu (pv 0) rfl) (pv 1) (λ_ _=>rfl))) (aa d9 ae)))))))),?_⟩
 obtain⟨nm,hnm⟩:∃nm,c.nums[k]?=some nm:=⟨c.nums[k],GZ hk⟩;obtain⟨tt,htt⟩:∃tt,c.titles[k]?=some tt:=⟨c.titles[k]'(by rw[so.tl];exact hk),GZ _⟩;have e1:c.nums.getD k Ir=nm:=by rw[HE,hnm];rfl
 have e2:c.titles.getD k []=tt:=by rw[HE,htt];rfl
 obtain⟨nl,hnl,nll⟩:=so.nl nm (Ha hnm);obtain⟨ttl,ttw⟩:=so.tw tt (Ha htt);refine⟨_,rfl,_,_,_,_,_,rfl,S.ins,T.aD.cl,T.fC,u5,_,rfl,_,_,_,_,rfl,rfl,SqL.of (S.old _ _ S.cl.nums),dy (j:=k) (by rw[HA,hnm];rfl),?_⟩;obtain⟨wvs,w2,w3⟩:=S.words;obtain⟨hvs,h2,h3⟩:=S.heads;have lw:=w3.len;have lh:=h3.len;refine⟨_,rfl,_,_,_,_,_,rfl,S.ins,T.aD.cl,T.dw,lW,.inl ⟨rfl,_,SqL.of h2⟩,_,rfl,_,rfl,_,_,_,_,_,rfl,S.ins,T.aD.cl,T.cE,jl,_,_,rfl,.inl (SqL.of w2),le2,λp1 hp1=>?_⟩;rw[lw];have s1:=af hp1 (.tup [.str nm,.int (σ.ws.length:Int)]);have S1:=S.same s1;have k1:upd H p1 (.tup [.str nm,.int (σ.ws.length:Int)]) p1=some (.tup [.str nm,.int (σ.ws.length:Int)]):=ac;have h2':=s1 _ _ h2;generalize upd H p1 (.tup [.str nm,.int (σ.ws.length:Int)])=H1 at s1 S1 k1 h2'⊢;refine⟨_,_,_,rfl,rfl,h2',aB (by omega),?_⟩;have S2:=S1.headp h2' k1;generalize upd H1 A.ha (.lst (hvs++[.ref p1]))=H2 at S2⊢;refine⟨_,rfl,_,_,_,rfl,S2.ins,jn (by decide +kernel),_,rfl,le2,λp2 hp2=>?_⟩;have s3:=af hp2 (.tup [.str "plain",.str nm]);have k3:upd H2 p2 (.tup [.str "plain",.str nm]) p2=some (.tup [.str "plain",.str nm]):=ac;have S3:=S2.same s3;change _ at k3;generalize upd H2 p2 (.tup [.str "plain",.str nm])=H3 at s3 k3 S3⊢;refine⟨le1,λp3 hp3=>?_⟩;have s4:=af hp3 (.lst [.ref p2]);have k4:upd H3 p3 (.lst [.ref p2]) p3=some (.lst [.ref p2]):=ac;have k4':=s4 _ _ k3;have S4:=S3.same s4;generalize upd H3 p3 (.lst [.ref p2])=H4 at s4 k4 k4' S4⊢;obtain⟨tvs,t1,t2⟩:=S4.cl.titles;obtain⟨v,hv,l,rfl,tl⟩:=t2.getR htt;obtain⟨us,u1,u2⟩:=tl.mono S4.old;have lu:=u2.len;refine⟨_,rfl,_,_,_,_,_,rfl,S4.ins,T.aD.cl,T.gf,wd,_,rfl,_,_,_,_,rfl,rfl,SqL.of (S4.old _ _ t1),dy hv,_,_,_,_,rfl,rfl,k4,u1,(by show 1+us.length<=_;rw[lu];exact HM (aB (by omega))),λp4 hp4=>?_⟩;have s5:=af hp4 (.lst ([.ref p2]++us));have k5:upd H4 p4 (.lst ([.ref p2]++us)) p4=some (.lst (.ref p2::us)):=ac;have k5':=s5 _ _ k4';have u2':=b8.mono s5 u2;have S5:=S4.same s5;have fr:=S4.fresh hp4;generalize upd H4 p4 (.lst ([.ref p2]++us))=H5 at s5 k5 k5' u2' S5⊢;have run:rm c σ k=bP c { σ with hs:=σ.hs++[(nm,σ.ws.length)] } 2 true ((.plain,.str nm)::tt):=by
  unfold rm;rw[e1,e2]
 refine⟨A,hid A.os H5,c,_,2,p4,true,(.plain,.str nm)::tt,rfl,S5.re,so,vB S5.nt fr ⟨_,k5,⟨p2,rfl,k5'⟩,u2'⟩,?_,?_,⟨bd.ws,bd.fs,?_⟩,λe he H' s'=>qe e (by rw[run];exact he) H' (S5.out.trans s'),λσ' H' he S'=>q σ' H' (by rw[run];exact he) (S'.base S5.out S.cl)⟩
 .intro w hw;rcases List.mem_cons.mp hw with rfl|hw
  .exact .inl ⟨(show Kw.plain≠Kw.entry by decide),nl,by omega,so.nc nl (by rw[<-hnl];exact Ha hnm),by rw[hnl]⟩
  .exact ttw w hw
 .simp only[GU];omega
 .simp only[GU];have:=bd.ms;show σ.ms.length+_<=_;omega
def rW(cls:Xc->Addr)(C:Addr):Sp:=λvs H Q E=>∃(A:Sad) (G:Hp) (c:Sc) (σ:Ss) ,vs=[.ref A.x]/\StA C G H A c σ/\kL c/\Bd σ 200/\(∀e,gh c σ 2 0 c.nums=.error e->∀H',ak G H'->E (.ref (cls e)) none H')/\∀σ' H',gh c σ 2 0 c.nums=.ok σ'->StA C G H' A c σ'->Q .non H'
theorem df:aN ["self","lead","k","number","title"] ["self"] (au iS):=by walk_at "c"
theorem rX(T:Txt P w K mg a):bi P w K mg base (CXe P w) 5 a.i8 a.iF ["self"] (rW (j0 a.aH a.aE a.aA a.aF) a.aI):=by
 refine T.iZ.fn.okE df (λvs H Q E h=>?_) (λcdv A outer s H vs Q E hr h=>?_)
 .obtain⟨A,G,c,σ,rfl,_⟩:=h;rfl
 obtain⟨A,G,c,σ,rfl,S,so,bd,qe,q⟩:=h;refine⟨_,(ag (ay (i:=1) df.nd rfl (Hh rfl) ah)
   (ai (cg Jc rfl (zp rfl T.fq (bu (pv 0) rfl)) (dP rfl (a9 (aO (i:=2) df.nd rfl (Hh rfl)) (a9 (aO (i:=3) df.nd rfl (Hh rfl)) c_))) (ag (zV (k:=4) rfl (fb (caps:=[]) (js:=[]) (cap:=trivial)) (bq (aS bS (bu (pv 0) rfl) (pv 2) (λ_ _=>rfl))) (λ_ _ _ _=>(jW (ao jz (aS (r:=nQ K) bM (pv 0) ah (λ_ _=>rfl)) am (nomark _)))) (λ_ _ _ _=>(pv 0)) df.nd rfl rfl)
   (ag (bn (dC fE T.aD T.dL (fB T) (hr.mono (by decide)) (pv 0) (aa (pv 1) (aa (aK d7 (aK d7 (aU (aa (aY (aa am (aa (pv 3) ae))) ae)) (pv 4)) (aU (aa (aY (aa am (aa (pv 2) ae))) ae))) (aa d9 ae)))))
   (ai (ay (i:=1) df.nd rfl (Hh rfl) ah))))))),?_⟩
 refine⟨_,rfl,_,_,_,_,_,rfl,S.ins,T.aD.cl,T.fC,u5,A.na,rfl,⟨_,SqL.of (S.old _ _ S.cl.nums)⟩,xV (K:=K) (a:=A.na) (xs:=c.nums.map V.str) (λi σ' H2=>∃(ld:Int) (v2 v3 v4:Option V) (σ1:Ss),σ'=[some (.ref A.x),some (.int ld),v2,v3,v4]/\StA a.aI G H2 A c σ1/\gh c σ 2 0 c.nums=gh c σ1 ld i (c.nums.drop i)/\Bd σ1 200) ?_ ?_ ?_ ?_⟩
 .exact⟨2,none,none,none,σ,rfl,S,rfl,bd⟩
 .rintro i σ' H2 _ ⟨ld,v2,v3,v4,σ1,rfl,S1,_⟩;exact SqL.of (S1.old _ _ S1.cl.nums)
 .rintro k y σ' H1 p0 hy ⟨ld,v2,v3,v4,σ1,rfl,S1,er,bd1⟩ hp0;rw[HA]at hy;obtain⟨nm,hnm,rfl⟩:=Option.map_eq_some_iff.mp hy;obtain⟨hk,ek⟩:=List.getElem?_eq_some_iff.mp hnm;have ed:c.nums.drop k=nm::c.nums.drop (k+1):=by rw[Ia hk,ek]
  obtain⟨tt,htt⟩:∃tt,c.titles[k]?=some tt:=⟨c.titles[k]'(by rw[so.tl];exact hk),GZ _⟩;have e2:c.titles.getD k []=tt:=by rw[HE,htt];rfl
  obtain⟨nl,hnl,nll⟩:=so.nl nm (Ha hnm);obtain⟨ttl,ttw⟩:=so.tw tt (Ha htt);rw[ed]at er;have s0:=af hp0 (.tup [.int (k:Int),.str nm]);have k0:upd H1 p0 (.tup [.int (k:Int),.str nm]) p0=some (.tup [.int (k:Int),.str nm]):=ac;have S2:=S1.same s0;generalize upd H1 p0 (.tup [.int (k:Int),.str nm])=H2 at s0 k0 S2⊢;refine⟨p0,_,rfl,SqT.of k0,rfl,_,_,rfl,_,_,rfl,rfl,?_⟩;obtain⟨tvs,t1,t2⟩:=S2.cl.titles;obtain⟨v,hv,l,rfl,tl⟩:=t2.getR htt;obtain⟨us,u1,u2⟩:=tl.mono S2.old;have lu:=u2.len;refine⟨_,rfl,_,_,_,_,_,rfl,S2.ins,T.aD.cl,T.gf,wd,_,rfl,_,_,_,_,rfl,rfl,SqL.of (S2.old _ _ t1),dy hv,l,rfl,⟨_,SqL.of u1⟩,eD (K:=K) (a:=l) (xs:=us) (λi ys G'=>H2=G'/\ys.length<=i/\b8 H2 ys (jG (tt.take i))) ⟨rfl,G_ _,trivial⟩ (λi ys G' _ z=>by rw[<-z.1];exact SqL.of u1) ?_ ?_ ?_⟩
  .rintro i ys G' hi ⟨_,z,_⟩;exact aB (by omega)
  .rintro i y ys G' hy ⟨rfl,zl,al⟩;obtain⟨w,hw,b,rfl,hb⟩:=u2.getL hy;have en:jG (tt.take (i+1))=jG (tt.take i)++jG [w]:=by
    rw[bb hw];unfold jG;rw[IH]
   refine⟨_,rfl,_,_,_,_,rfl,rfl,SqT.of hb,rfl,rfl,_,rfl,?_⟩;by_cases hm:w.1=.mark
   .rw[decide_eq_true (show V.str w.1.s=V.str "mark" by rw[hm];rfl)];refine av ?_;refine⟨rfl,by omega,?_⟩;rw[en,show jG [w]=[]from by unfold jG;simp[hm],HU];exact al
   .rw[decide_eq_false (show ¬ (V.str w.1.s=V.str "mark")from λz=>hm (Kw.inj (b:=.mark) (V.str.inj z)))];refine aQ ?_;refine⟨_,rfl,rfl,by rw[GX];simp only[GU,Hk];omega,?_⟩;rw[en,show jG [w]=[w]from by unfold jG;simp[hm]];exact al.snoc ⟨b,rfl,hb⟩
  rintro ys G' ⟨rfl,zl,al⟩ p1 hp1;rw[lu,Hu]at al;have ly:=al.len;have fk:(jG tt).length<=tt.length:=IC _ _;have s1:=af hp1 (.lst ys);have k1:upd H2 p1 (.lst ys) p1=some (.lst ys):=ac;have S3:=S2.same s1;have al1:=b8.mono s1 al;generalize upd H2 p1 (.lst ys)=H3 at s1 k1 S3 al1⊢;refine⟨_,rfl,_,_,_,rfl,S3.ins,jn (by decide +kernel),_,rfl,_,rfl,le2,λp2 hp2=>?_⟩;have s2:=af hp2 (.tup [.str "plain",.str nm]);have k2:upd H3 p2 (.tup [.str "plain",.str nm]) p2=some (.tup [.str "plain",.str nm]):=ac;have S4:=S3.same s2;have k1':=s2 _ _ k1;have al2:=b8.mono s2 al1;generalize upd H3 p2 (.tup [.str "plain",.str nm])=H4 at s2 k2 S4 k1' al2⊢;refine⟨le1,λp3 hp3=>?_⟩;have s3:=af hp3 (.lst [.ref p2]);have k3:upd H4 p3 (.lst [.ref p2]) p3=some (.lst [.ref p2]):=ac;have k2':=s3 _ _ k2;have k1':=s3 _ _ k1';have S5:=S4.same s3;have al3:=b8.mono s3 al2;generalize upd H4 p3 (.lst [.ref p2])=H5 at s3 k3 k2' k1' S5 al3⊢;refine⟨_,rfl,_,_,_,_,rfl,rfl,k3,k1',(by show 1+ys.length<=_;exact HM (aB (by omega))),λp4 hp4=>?_⟩;have s4:=af hp4 (.lst ([.ref p2]++ys));have k4:upd H5 p4 (.lst ([.ref p2]++ys)) p4=some (.lst ([.ref p2]++ys)):=ac;have k2':=s4 _ _ k2';have S6:=S5.same s4;have al4:=b8.mono s4 al3;generalize upd H5 p4 (.lst ([.ref p2]++ys))=H6 at s4 k4 k2' S6 al4⊢;refine⟨_,rfl,le2,λp5 hp5=>?_⟩;have s5:=af hp5 (.tup [.str "entry",.int (k:Int)]);have k5:upd H6 p5 (.tup [.str "entry",.int (k:Int)]) p5=some (.tup [.str "entry",.int (k:Int)]):=ac;have k2':=s5 _ _ k2';have k4':=s5 _ _ k4;have S7:=S6.same s5;have al5:=b8.mono s5 al4;generalize upd H6 p5 (.tup [.str "entry",.int (k:Int)])=H7 at s5 k5 k2' k4' S7 al5⊢;refine⟨le1,λp6 hp6=>?_⟩;have s6:=af hp6 (.lst [.ref p5]);have k6:upd H7 p6 (.lst [.ref p5]) p6=some (.lst [.ref p5]):=ac;have k2':=s6 _ _ k2';have k4':=s6 _ _ k4';have k5':=s6 _ _ k5;have S8:=S7.same s6;have al6:=b8.mono s6 al5;generalize upd H7 p6 (.lst [.ref p5])=H8 at s6 k6 k2' k4' k5' S8 al6⊢;refine⟨_,_,_,_,rfl,rfl,k4',k6,(by rw[GX];show(1+ys.length)+1<=_;exact HM (aB (by omega))),λp7 hp7=>?_⟩;have s7:=af hp7 (.lst ([.ref p2]++ys++[.ref p5]));have k7:upd H8 p7 (.lst ([.ref p2]++ys++[.ref p5])) p7=some (.lst (.ref p2::(ys++[.ref p5]))):=ac;have k2':=s7 _ _ k2';have k5':=s7 _ _ k5';have fr:=S8.fresh hp7;have S9:=S8.same s7;have al7:=b8.mono s7 al6;generalize upd H8 p7 (.lst ([.ref p2]++ys++[.ref p5]))=H9 at s7 k7 k2' k5' S9 al7⊢;have hws:dz c k nm=(.plain,.str nm)::(jG tt++[(.entry,.int (k:Int))]):=by unfold dz;rw[e2]
  have er2:gh c σ1 ld k (nm::c.nums.drop (k+1))=(match bP c σ1 ld false (dz c k nm)with|.error x=>.error x|.ok s'=>gh c s' 1 (k+1) (c.nums.drop (k+1))):=by
   show(match bP c σ1 ld false (dz c k nm)with|.error x=>_|.ok s'=>_)=_
   cases bP c σ1 ld false (dz c k nm)with
   |error x=>rfl
   |ok p=>rfl
  refine⟨A,hid A.os H9,c,σ1,ld,p7,false,dz c k nm,rfl,S9.re,so,?_,?_,?_,⟨bd1.ws,bd1.fs,?_⟩,λe he H' s'=>qe e (by rw[er,er2,he]) H' (S9.out.trans s'),λσ2 H' he S'=>?_⟩
  .rw[hws];exact vB S9.nt fr ⟨_,k7,⟨p2,rfl,k2'⟩,al7.snoc ⟨p5,rfl,k5'⟩⟩
  .rw[hws];intro w hw;rcases List.mem_cons.mp hw with rfl|hw
   .exact .inl ⟨(show Kw.plain≠Kw.entry by decide),nl,by omega,so.nc nl (by rw[<-hnl];exact Ha hnm),by rw[hnl]⟩
   .rcases List.mem_append.mp hw with hw|hw
    .exact ttw w (List.mem_filter.mp hw).1
    .rw[List.mem_singleton.mp hw];exact .inr ⟨rfl,k,rfl⟩
  .rw[hws];simp only[GU,GX,Hk];omega
  .rw[hws];simp only[GU,GX,Hk];have:=bd1.ms;omega
  .rw[he]at er2;refine⟨1,_,_,_,σ2,rfl,S'.base S9.out S.cl,er.trans er2,?_⟩;have h1:=ub (hm:=?_) he
   .exact⟨h1.1 bd1.ws,h1.2.1 bd1.fs,by rw[h1.2.2];exact bd1.ms⟩
   .rw[hws];intro w hw;rcases List.mem_cons.mp hw with rfl|hw
    .show Kw.plain≠Kw.mark;decide
    .rcases List.mem_append.mp hw with hw|hw
     .simpa using(List.mem_filter.mp hw).2
     .rw[List.mem_singleton.mp hw];show Kw.entry≠Kw.mark;decide
 rintro σ' H2 ⟨ld,v2,v3,v4,σ1,rfl,S1,er,_⟩;rw[GT,IS]at er;exact q _ _ er S1

def GO(c:Sc)(σ:Ss):Tg->Prop
 |.head _ _=>σ.hs.length<c.nums.length
 |.par ws=>(∀w∈ws,GWk w)/\ws.length<=600
 |_=>True
def qM(cls:Xc->Addr)(C:Addr):Sp:=λvs H Q E=>∃(A:Sad) (G:Hp) (c:Sc) (σ:Ss) (v:V) (t:Tg),vs=[.ref A.x,v]/\StA C G H A c σ/\kL c/\TgA G v t/\GO c σ t/\σ.hs.length<=1000/\Bd σ 600/\(∀e,iL c σ t=.error e->∀H',ak G H'->E (.ref (cls e)) none H')/\∀σ' H',iL c σ t=.ok σ'->StA C G H' A c σ'->Q .non H'
theorem jQ:aN ["self","thing","kind"] ["self","thing"] (au h_):=by walk_at "c"
theorem qN(T:Txt P w K mg a):bi P w K mg base (CXe P w) 6 a.iC a.gT ["self","thing"] (qM (j0 a.aH a.aE a.aA a.aF) a.aI):=by
 have fQ:=T.fQ;obtain⟨fQ,k_LEAPS⟩:=fQ;refine T.iq.fn.okE jQ (λvs H Q E h=>?_) (λcdv A outer s H vs Q E hr h=>?_)
 .obtain⟨A,G,c,σ,v,t,rfl,_⟩:=h;rfl
 obtain⟨A,G,c,σ,v,t,rfl,S,so,tg,ok,hl,bd,qe,q⟩:=h;refine⟨_,(ag (ay (i:=2) jQ.nd rfl (Hh rfl) (aS bM (pv 1) ah (λ_ _=>rfl)))
   (ai (aR (ao v_ (pv 2) (bW (v:=.ref a.dg) rfl fQ rfl) (by with_unfolding_all rfl)) (ai (db (pv 0) (aV (q0 rfl) rfl T.nO JQ (aa (bu (pv 0) rfl) (aa (xU (bW (v:=.ref a.dg) rfl fQ rfl) (pv 2) (λ_ _=>rfl)) ae))) rfl)) (ai (aR (ao a_ (pv 2) am (nomark _)) (ai (bn (dC fE T.aD T.iY (rV T) (hr.mono (by decide)) (pv 0) (aa (aV bN rfl T.cr PySem.boot_len (aa (bu (pv 0) rfl) ae)) ae)))) (ai (aR (ao a_ (pv 2) am (nomark _)) (ai (bn (xZ fE T.aD T.iZ (rX T) (hr.mono (by decide)) (pv 0) ))) (ai (aR (lQ (bu (pv 0) rfl) (λ_=>rfl)) (ai (bn (dC fE T.aD T.dL (fB T) (hr.mono (by decide)) (pv 0) (aa ah (aa (aS bM (pv 1) ah (λ_ _=>rfl)) (aa d9 ae)))))) (ai (bn (dC fE T.aD T.dL (fB T) (hr.mono (by decide)) (pv 0) (aa ah (aa (aS bM (pv 1) ah (λ_ _=>rfl)) (aa d9 ae))))))))))))))),?_⟩
 have bd2:Bd σ 200:=⟨bd.ws,bd.fs,by have:=bd.ms;omega⟩;have L1:cX gX (.inr "page")=some (.int 3):=rfl;have L2:cX gX (.inr "odd")=some (.int 4):=by
  unfold gX;rw[dG (λz=>by injection z with z;exact absurd z (by decide +kernel)),jV rfl]
 have L0:∀s:Str,¬ (s = "page")->¬ (s = "odd")->cX gX (.inr s)=none:=λs h1 h2=>by
  unfold gX;rw[dG (λz=>h1 (by injection z with z;exact z.symm)),dG (λz=>h2 (by injection z with z;exact z.symm))];rfl
 have put:∀n:Int,StA a.aI G (upd H A.x (.ins a.aI A.dx (fsS A (σ.fs:Int) (if n>σ.lp then n else σ.lp) σ.bh))) A c { σ with lp:=if σ.lp<n then n else σ.lp }:=λn=>S.flds σ.fs (if n>σ.lp then n else σ.lp) σ.bh;cases t with
 |page =>
  obtain⟨b,rfl,hb⟩:=tg;refine⟨_,rfl,_,_,_,_,rfl,rfl,SqT.of (S.old _ _ hb),rfl,?_⟩;refine⟨_,rfl,a.dg,gX,.inr "page",rfl,k_LEAPS,rfl,_,rfl,?_⟩;rw[L1];refine aQ ?_;refine⟨_,rfl,_,_,_,_,_,rfl,S.ins,T.aD.cl,T.cW,sZ,_,rfl,a.dg,gX,.inr "page",_,rfl,k_LEAPS,rfl,L1,_,_,rfl,_,rfl,_,_,_,_,rfl,S.ins,T.aD.cl,T.cW,o6,?_⟩;rw[rz];exact q _ _ rfl (put 3)
 |odd =>
  obtain⟨b,rfl,hb⟩:=tg;refine⟨_,rfl,_,_,_,_,rfl,rfl,SqT.of (S.old _ _ hb),rfl,?_⟩;refine⟨_,rfl,a.dg,gX,.inr "odd",rfl,k_LEAPS,rfl,_,rfl,?_⟩;rw[L2];refine aQ ?_;refine⟨_,rfl,_,_,_,_,_,rfl,S.ins,T.aD.cl,T.cW,sZ,_,rfl,a.dg,gX,.inr "odd",_,rfl,k_LEAPS,rfl,L2,_,_,rfl,_,rfl,_,_,_,_,rfl,S.ins,T.aD.cl,T.cW,o6,?_⟩;rw[rz];exact q _ _ rfl (put 4)
 |lst =>
  obtain⟨b,rfl,hb⟩:=tg;refine⟨_,rfl,_,_,_,_,rfl,rfl,SqT.of (S.old _ _ hb),rfl,?_⟩;refine⟨_,rfl,a.dg,gX,.inr "list",rfl,k_LEAPS,rfl,_,rfl,?_⟩;rw[L0 _ (by decide +kernel) (by decide +kernel)];refine av ?_;refine⟨_,rfl,rfl,_,rfl,?_⟩;rw[decide_eq_false (λz=>absurd (V.str.inj z) (by decide +kernel))];refine av ?_;refine⟨_,rfl,rfl,_,rfl,?_⟩;rw[decide_eq_true rfl];refine aQ ?_;exact⟨_,rfl,_,_,_,rfl,S.ins,jn (by decide +kernel),A,G,c,σ,rfl,S,so,bd2,qe,λσ' H' e S'=>q σ' H' e S'⟩
 |head n ws =>
  obtain⟨b,l,rfl,hb,hl2⟩:=tg;obtain⟨hvs,h2,h3⟩:=S.heads;have lh:=h3.len;refine⟨_,rfl,_,_,_,_,rfl,rfl,SqT.of (S.old _ _ hb),rfl,?_⟩;refine⟨_,rfl,a.dg,gX,.inr "head",rfl,k_LEAPS,rfl,_,rfl,?_⟩;rw[L0 _ (by decide +kernel) (by decide +kernel)];refine av ?_;refine⟨_,rfl,rfl,_,rfl,?_⟩;rw[decide_eq_true rfl];refine aQ ?_;refine⟨_,rfl,_,_,_,rfl,S.ins,jn (by decide +kernel),_,rfl,_,_,_,_,_,rfl,S.ins,T.aD.cl,T.dw,lW,_,_,rfl,.inl (SqL.of h2),?_⟩;rw[lh];exact⟨A,G,c,σ,σ.hs.length,rfl,S,so,ok,hl,bd2,qe,λσ' H' e S'=>q σ' H' e S'⟩
 |par ws =>
  obtain⟨b,l,rfl,hb,hl2⟩:=tg;refine⟨_,rfl,_,_,_,_,rfl,rfl,SqT.of (S.old _ _ hb),rfl,?_⟩;refine⟨_,rfl,a.dg,gX,.inr "paragraph",rfl,k_LEAPS,rfl,_,rfl,?_⟩;rw[L0 _ (by decide +kernel) (by decide +kernel)];refine av ?_;refine⟨_,rfl,rfl,_,rfl,?_⟩;rw[decide_eq_false (λz=>absurd (V.str.inj z) (by decide +kernel))];refine av ?_;refine⟨_,rfl,rfl,_,rfl,?_⟩;rw[decide_eq_false (λz=>absurd (V.str.inj z) (by decide +kernel))];refine av ?_;refine⟨_,rfl,_,_,_,_,_,rfl,S.ins,T.aD.cl,T.di,o5,_,rfl,?_⟩;have bd3:Bd σ ws.length:=⟨bd.ws,bd.fs,by have:=bd.ms;have:=ok.2;omega⟩;cases hb2:σ.bh with
  |true =>
   refine aQ ?_;have e0:iL c σ (.par ws)=bP c σ 1 false ws:=by show bP c σ (if σ.bh then 1 else 2) false ws=_;rw[hb2];rfl
   exact⟨_,rfl,_,_,_,rfl,S.ins,jn (by decide +kernel),_,rfl,_,_,_,_,rfl,rfl,SqT.of (S.old _ _ hb),rfl,A,G,c,σ,1,l,false,ws,rfl,S,so,hl2,ok.1,ok.2,bd3,λe he H' s'=>qe e (by rw[e0];exact he) H' s',λσ' H' he S'=>q σ' H' (by rw[e0];exact he) S'⟩
  |false =>
   refine av ?_;have e0:iL c σ (.par ws)=bP c σ 2 false ws:=by show bP c σ (if σ.bh then 1 else 2) false ws=_;rw[hb2];rfl
   exact⟨_,rfl,_,_,_,rfl,S.ins,jn (by decide +kernel),_,rfl,_,_,_,_,rfl,rfl,SqT.of (S.old _ _ hb),rfl,A,G,c,σ,2,l,false,ws,rfl,S,so,hl2,ok.1,ok.2,bd3,λe he H' s'=>qe e (by rw[e0];exact he) H' s',λσ' H' he S'=>q σ' H' (by rw[e0];exact he) S'⟩
def qO(C:Addr):Sp:=λvs H Q _=>∃(A:Sad) (G:Hp) (c:Sc) (σ:Ss) (k:Nat),vs=[.ref A.x,.int (k:Int)]/\StA C G H A c σ/\Q (.str (lH k "0" σ.hs)) H
theorem dD:aN ["self","k","number","text","at"] ["self","k"] (au ia):=by walk_at "c"
theorem qP(T:Txt P w K mg a):bi P w K mg base CX0 1 a.iA a.gR ["self","k"] (qO a.aI):=by
 refine T.ip.fn.ok dD (λvs H Q E h=>?_) (λcdv A outer s H vs Q E hr h=>?_)
 .obtain⟨A,G,c,σ,k,rfl,_⟩:=h;rfl
 obtain⟨A,G,c,σ,k,rfl,S,q⟩:=h;refine⟨_,(ag (ay (i:=2) dD.nd rfl (Hh rfl) am)
   (ag (cg HS rfl (bq (bu (pv 0) rfl)) (dP rfl (a9 (aO (i:=3) dD.nd rfl (Hh rfl)) (a9 (aO (i:=4) dD.nd rfl (Hh rfl)) c_))) (ai (aR (ao Di (pv 4) (pv 1) (nomark _)) (ai (ay (i:=2) dD.nd rfl (Hh rfl) (pv 3))) aM)))
   (ai (aP (pv 2))))),?_⟩
 obtain⟨hvs,h2,h3⟩:=S.heads;have lh:=h3.len;refine⟨_,rfl,_,_,_,_,_,rfl,S.ins,T.aD.cl,T.dw,lW,A.ha,rfl,⟨_,SqL.of h2⟩,cm (K:=K) (a:=A.ha) (xs:=hvs) (λi σ' H2=>H2=H/\∃(n:Str) (v1 v2:Option V),σ'=[some (.ref A.x),some (.int (k:Int)),some (.str n),v1,v2]/\lH k "0" σ.hs=lH k n (σ.hs.drop i)) ⟨rfl,_,none,none,rfl,rfl⟩ (λi σ' H2 _ g=>by rw[g.1];exact SqL.of h2) ?_ ?_⟩
 .rintro i y σ' H2 hy ⟨rfl,n,v1,v2,rfl,en⟩;obtain⟨⟨t,at_⟩,hw,b,rfl,hb⟩:=h3.getL hy;have ed:σ.hs.drop i=(t,at_)::σ.hs.drop (i+1):=by
   obtain⟨hi,e⟩:=List.getElem?_eq_some_iff.mp hw;rw[Ia hi,e]
  rw[ed]at en;have hb2:=bT _ _ hb;refine⟨b,_,rfl,SqT.of hb2,rfl,_,_,rfl,_,_,rfl,rfl,?_⟩;refine⟨_,rfl,_,rfl,_,_,rfl,rfl,_,rfl,?_⟩;by_cases c1:at_<=k
  .rw[decide_eq_true (show((at_:Nat):Int)<=(k:Int) by omega)];refine aQ ?_;refine⟨_,rfl,rfl,_,_,_,rfl,?_⟩;rw[en];show lH k (if at_<=k then t else n) _=_;rw[if_pos c1]
  .rw[decide_eq_false (show ¬ (((at_:Nat):Int)<=(k:Int)) by omega)];refine av ?_;refine⟨rfl,_,_,_,rfl,?_⟩;rw[en];show lH k (if at_<=k then t else n) _=_;rw[if_neg c1]
 rintro σ' H2 ⟨rfl,n,v1,v2,rfl,en⟩;rw[lh,IS]at en;exact⟨_,rfl,by rw[show n=lH k "0" σ.hs from en.symm];exact q⟩
def qQ(K:PySem.W.Frag)(C:Addr):Sp:=λvs H Q _=>∃(A:Sad) (G:Hp) (c:Sc) (σ:Ss) (w:Addr) (wk:Wk),vs=[.ref A.x,.ref w]/\StA C G H A c σ/\WkA H (.ref w) wk/\xb σ wk/\∀p H' x y,H p=none->H'=upd H p (.tup [x,y])->z_ σ wk=(x,y)->Q (.ref p) H'
theorem gD:aN ["self","word","kind","rest"] ["self","word"] (au ib):=by walk_at "c"
theorem jR(T:Txt P w K mg a):bi P w K mg base CX0 2 a.iB a.gS ["self","word"] (qQ K a.aI):=by
 refine T.e9.fn.ok gD (λvs H Q E h=>?_) (λcdv A outer s H vs Q E hr h=>?_)
 .obtain⟨A,G,c,σ,w,wk,rfl,_⟩:=h;rfl
 obtain⟨A,G,c,σ,w,wk,rfl,S,hw,ok,q⟩:=h;refine⟨_,(ag (ay (i:=2) gD.nd rfl (Hh rfl) (aS bM (pv 1) ah (λ_ _=>rfl)))
   (ag (ay (i:=3) gD.nd rfl (Hh rfl) (aS bM (pv 1) ah (λ_ _=>rfl)))
   (ag (aR (ao a_ (pv 2) am (nomark _)) (ai (aP (aY (aa am (aa (pv 3) ae))))) aM)
   (ag (aR (ao a_ (pv 2) am (nomark _)) (ai (aP (aY (aa am (aa (aS bM (aS bS (bu (pv 0) rfl) (pv 3) (λ_ _=>rfl)) ah (λ_ _=>rfl)) ae))))) aM)
   (ag (aR (ao a_ (pv 2) am (nomark _)) (ai (aP (aY (aa am (aa (dC eQ T.aD T.ip (qP T) (hr.mono (by decide)) (pv 0) (aa (sT (dB hr) (bu (pv 0) rfl) (pv 3) (λ_ _=>rfl)) ae)) ae))))) aM)
   (ai (aP (aY (aa (pv 2) (aa (sT (dB hr) (bu (pv 0) rfl) (pv 3) (λ_ _=>rfl)) ae)))))))))),?_⟩
 obtain⟨wb,e1,hb⟩:=hw;injection e1 with e1;subst e1;obtain⟨kd,v⟩:=wk;refine⟨_,rfl,_,_,_,_,rfl,rfl,SqT.of hb,rfl,?_⟩;refine⟨_,rfl,_,_,_,_,rfl,rfl,SqT.of hb,rfl,?_⟩;refine⟨_,rfl,rfl,_,rfl,?_⟩;rcases ok with⟨hk,n,hn⟩|⟨hk,k,hn,kl⟩|⟨hk,n,k,hn,km⟩<;>dsimp only at hk hn<;>subst hn
 .rw[decide_eq_true (by rw[hk];rfl)];refine aQ ?_;exact⟨_,rfl,le2,λp1 hp1=>q p1 _ _ _ hp1 rfl (by rw[hk];rfl)⟩
 .rw[decide_eq_false (show ¬ (V.str kd.s=V.str "plain") by rw[hk];exact λz=>absurd (Kw.inj (b:=.plain) (V.str.inj z)) (by decide))];refine av ?_;refine⟨_,rfl,rfl,_,rfl,?_⟩;rw[decide_eq_true (by rw[hk];rfl)];refine aQ ?_;obtain⟨hvs,h2,h3⟩:=S.heads;obtain⟨⟨t,at_⟩,hw⟩:∃h,σ.hs[k]?=some h:=⟨σ.hs[k],GZ kl⟩;obtain⟨v,hv,b,rfl,hb2⟩:=h3.getR hw;refine⟨_,rfl,_,_,_,_,_,rfl,S.ins,T.aD.cl,T.dw,lW,_,rfl,_,_,_,_,rfl,rfl,SqL.of h2,dy hv,_,_,_,_,rfl,rfl,SqT.of (bT _ _ hb2),rfl,le2,λp2 hp2=>q p2 _ _ _ hp2 rfl ?_⟩
  .skip
   rw[hk];show(V.str "page",V.int (((σ.hs.getD (I_ (k:Int)) (Ir,0)).2:Nat):Int))=_;rw[Jq,HE,hw];rfl
 .have n1:¬ (V.str kd.s=V.str "plain"):=λz=>by rw[Kw.inj (b:=.plain) (V.str.inj z)]at hk;cases hk
  have n2:¬ (V.str kd.s=V.str "entry"):=λz=>by rw[Kw.inj (b:=.entry) (V.str.inj z)]at hk;cases hk
  rw[decide_eq_false n1];refine av ?_;refine⟨_,rfl,rfl,_,rfl,?_⟩;rw[decide_eq_false n2];refine av ?_;refine⟨_,rfl,rfl,_,rfl,?_⟩;have hg:e_ H A.ma (kV (.inr (tx n))) (some (.int (k:Int))):=by
   have:=e_.k (k:=.inr (tx n)) S.marks;rw[o7,km]at this;exact this
  have em:t_ σ (bp (.str (tx n)))=k:=by unfold t_;show(lkS (tx n) σ.ms).getD 0=k;rw[km];rfl
  by_cases h3:kd=.number
  .rw[decide_eq_true (by rw[h3];rfl)];refine aQ ?_;refine⟨_,rfl,_,_,_,rfl,S.ins,jn (by decide +kernel),_,rfl,_,_,_,_,_,rfl,S.ins,T.aD.cl,T.cC,jm,_,rfl,_,_,rfl,hg,A,G,c,σ,k,rfl,S,le2,λp3 hp3=>q p3 _ _ _ hp3 rfl ?_⟩
   .skip
    rw[h3];show(V.str "text",V.str (lH (t_ σ (bp (.str (tx n)))) "0" σ.hs))=_;rw[em]
  .rw[decide_eq_false (show ¬ (V.str kd.s=V.str "number")from λz=>h3 (Kw.inj (b:=.number) (V.str.inj z)))];refine av ?_;refine⟨_,rfl,_,rfl,_,_,_,_,_,rfl,S.ins,T.aD.cl,T.cC,jm,_,rfl,_,_,rfl,hg,le2,λp4 hp4=>q p4 _ _ _ hp4 rfl ?_⟩
   .skip
    cases hk1:kd with
    |page=>show(V.str "page",V.int ((t_ σ (bp (.str (tx n))):Nat):Int))=_;rw[em];rfl
    |row=>show(V.str "row",V.int ((t_ σ (bp (.str (tx n))):Nat):Int))=_;rw[em];rfl
    |number=>exact absurd hk1 h3
    |plain=>rw[hk1]at hk;cases hk
    |mark=>rw[hk1]at hk;cases hk
    |foot=>rw[hk1]at hk;cases hk
    |entry=>rw[hk1]at hk;cases hk
def pZ(C:Addr):Sp:=λvs H Q _=>∃(A:Sad) (G:Hp) (c:Sc) (σ:Ss),vs=[.ref A.x]/\StA C G H A c σ/\Dp σ/\σ.ws.length<=400/\∀p H' us fs,ak H H'->nA H H' σ p us fs->Q (.ref p) H'
theorem cU:aN ["self","told","lead","kept","word","foot"] ["self"] (au gx):=by walk_at "c"
theorem p_(T:Txt P w K mg a):bi P w K mg base CX0 3 a.gM a.ge ["self"] (pZ a.aI):=by
 refine T.gJ.fn.ok cU (λvs H Q E h=>?_) (λcdv A outer s H vs Q E hr h=>?_)
 .obtain⟨A,G,c,σ,rfl,_⟩:=h;rfl
 obtain⟨A,G,c,σ,rfl,S,ok,wl,q⟩:=h;refine⟨_,(ag (ay (i:=1) cU.nd rfl (Hh rfl) (aU ae))
   (ag (cg HS rfl (bq (bu (pv 0) rfl)) (dP rfl (a9 (aO (i:=2) cU.nd rfl (Hh rfl)) (a9 (aO (i:=3) cU.nd rfl (Hh rfl)) (a9 (aO (i:=4) cU.nd rfl (Hh rfl)) (a9 (aO (i:=5) cU.nd rfl (Hh rfl)) c_))))) (ai (bn (cp PySem.F.plainAttrs_list PySem.F.slot_list_append PySem.F.type_list_append b7 (pv 1) (aa (aY (aa (pv 2) (aa (pv 3) (aa (dC eQ T.aD T.e9 (jR T) (hr.mono (by decide)) (pv 0) (aa (pv 4) ae)) (aa (gW rfl (fb (caps:=["self"]) (js:=[0]) (cap:=⟨⟨rfl,.inl rfl,rfl,.inl rfl⟩,trivial⟩)) (bq (pv 5)) (λ_ _ _ _=>dY) (λ_ _ _ _=>(dC eQ T.aD T.e9 (jR T) (hr.mono (by decide)) (pv 1) (aa (pv 0) ae)))) ae))))) ae)))))
   (ai (aP (pv 1))))),?_⟩
 obtain⟨wvs,w2,w3⟩:=S.words;have lw:=w3.len;refine⟨aJ (by simp),λp1 hp1=>?_⟩;have s1:=af hp1 (.lst []);have k1:upd H p1 (.lst []) p1=some (.lst []):=ac;generalize upd H p1 (.lst [])=H1 at s1 k1⊢;have S1:=S.same s1;refine⟨_,rfl,_,_,_,_,_,rfl,S1.ins,T.aD.cl,T.cE,jl,A.wa,rfl,⟨_,SqL.of (s1 _ _ w2)⟩,cm (K:=K) (a:=A.wa) (xs:=wvs) (λi σ' G'=>∃(v2 v3 v4 v5:Option V) (us:List V) (fs:List Addr),σ'=[some (.ref A.x),some (.ref p1),v2,v3,v4,v5]/\ak H G'/\G' p1=some (.lst us)/\fs.length=i/\fs.Nodup/\(∀f∈fs,H f=none/\f≠p1/\G' f≠none)/\aL (TwA σ (hid [p1] G')) us ((σ.ws.take i).zip fs)) ⟨none,none,none,none,[],[],rfl,s1,k1,rfl,List.nodup_nil,(by simp),trivial⟩ (λi σ' G' _ g=>by obtain⟨_,_,_,_,_,_,_,m,_⟩:=g;exact SqL.of (m _ _ w2)) ?_ ?_⟩
 .rintro i y σ' G1 hy ⟨v2,v3,v4,v5,us,fs,rfl,m,g1,fl,nd,fr,al⟩;obtain⟨t,ht,ta,wa',fa',rfl,h1,h2,h3⟩:=w3.getL hy;have hi:=(List.getElem?_eq_some_iff.mp ht).1;have h1:=m _ _ (bT _ _ h1);have h2:=(h2.mono bT).mono m;obtain⟨fu,h3,h4⟩:=(h3.mono bT).mono m;obtain⟨ok1,ok2,ok3⟩:=ok t (Ha ht);have lu:=al.len;rw[List.length_zip,HD]at lu;have lf:=h4.len;refine⟨ta,_,rfl,SqT.of h1,rfl,_,_,rfl,_,_,rfl,_,_,rfl,_,_,rfl,rfl,?_⟩;have Sg:=S.same m;refine⟨_,rfl,.inl ⟨rfl,_,SqL.of g1⟩,_,rfl,_,rfl,_,rfl,_,_,_,rfl,Sg.ins,jn (by decide +kernel),_,rfl,A,G,c,σ,wa',t.w,rfl,Sg,h2,ok1,λps G2 x y hps e es=>?_⟩;have s2:ak G1 G2:=by rw[e];exact af hps _
  have ks:G2 ps=some (.tup [x,y]):=by rw[e];exact ac
  clear e;have m2:=m.trans s2;have Sg2:=S.same m2;refine⟨_,rfl,fa',rfl,⟨_,SqL.of (s2 _ _ h3)⟩,eD (K:=K) (a:=fa') (xs:=fu) (λj ys G3=>ak G2 G3/\ys.length=j/\aL (SyA (hid [p1] G3)) ys ((t.foot.take j).map (z_ σ))) ⟨ak.refl _,rfl,trivial⟩ (λj ys G3 _ z=>SqL.of ((s2.trans z.1) _ _ h3)) ?_ ?_ ?_⟩
  .rintro j ys G3 hj ⟨_,z,_⟩;exact aB (by omega)
  .rintro j y' ys G3 hy' ⟨m3,z,al3⟩;obtain⟨w,hw,wb,rfl,hwb⟩:=h4.getL hy';refine eI ?_;have Sg3:=Sg2.same m3;refine⟨_,rfl,_,_,_,rfl,Sg3.ins,jn (by decide +kernel),_,rfl,A,G,c,σ,wb,w,rfl,Sg3,⟨wb,rfl,(s2.trans m3) _ _ hwb⟩,ok3 w (Ha hw),λpq G4 x' y'' hpq e' es'=>?_⟩;have s4:ak G3 G4:=by rw[e'];exact af hpq _
   have kq:G4 pq=some (.tup [x',y'']):=by rw[e'];exact ac
   have np:pq≠p1:=λzz=>by rw[zz,(s2.trans m3) _ _ g1]at hpq;cases hpq
   refine⟨m3.trans s4,by rw[GX,z];rfl,?_⟩;rw[bb hw,Hc];refine(al3.imp λ_ _=>SyA.mono (bj s4)).snoc ⟨pq,rfl,?_⟩;rw[es'];exact aZ (by simpa using np) kq
  rintro ys G3 ⟨m3,z,al3⟩ pl hpl;rw[lf,Hu]at al3;have s4:=af hpl (.lst ys);have k4:upd G3 pl (.lst ys) pl=some (.lst ys):=ac;have npl:pl≠p1:=λzz=>by rw[zz,(s2.trans m3) _ _ g1]at hpl;cases hpl
  have nps:ps≠p1:=λzz=>by rw[zz,g1]at hps;cases hps
  have hHpl:H pl=none:=(m2.trans m3).free hpl;have nfs:pl∉fs:=λzz=>by
   have:=(fr pl zz).2.2;exact this (by cases e:G1 pl with|none=>rfl|some u=>rw[(s2.trans m3) _ _ e]at hpl;cases hpl)
  generalize upd G3 pl (.lst ys)=G4 at s4 k4⊢;have m4:=(m2.trans m3).trans s4;have g14:=(s2.trans m3).trans s4;refine⟨le4,λpt hpt=>?_⟩;have s5:=af hpt (.tup [.int t.lead,.bl t.kept,.ref ps,.ref pl]);have k5:upd G4 pt (.tup [.int t.lead,.bl t.kept,.ref ps,.ref pl]) pt=some (.tup [.int t.lead,.bl t.kept,.ref ps,.ref pl]):=ac;have npt:pt≠p1:=λzz=>by rw[zz,g14 _ _ g1]at hpt;cases hpt
  generalize upd G4 pt (.tup [.int t.lead,.bl t.kept,.ref ps,.ref pl])=G5 at s5 k5⊢;have m5:=m4.trans s5;have g15:=g14.trans s5;refine⟨_,_,_,rfl,rfl,g15 _ _ g1,aB (by omega),?_⟩;refine⟨_,_,_,_,us++[.ref pt],fs++[pl],rfl,aW m5 hp1,ac,by rw[GX,fl];rfl,?_,?_,?_⟩
  .rw[Jr];refine⟨nd,by simp,λx hx y hy=>?_⟩;rw[List.mem_singleton.mp hy];exact λzz=>nfs (by rw[<-zz];exact hx)
  .intro f hf;rcases List.mem_append.mp hf with hf|hf
   .obtain⟨r1,r2,r3⟩:=fr f hf;refine⟨r1,r2,λzz=>r3 ?_⟩;rw[aj r2]at zz;exact g15.free zz
   .rw[List.mem_singleton.mp hf];refine⟨hHpl,npl,λzz=>?_⟩;rw[aj npl,s5 _ _ k4]at zz;cases zz
  .rw[br (by simp),bb ht,List.zip_append (by rw[HD,fl];omega)];have g5:=bj (os:=[p1]) g15;refine(al.imp λ_ _=>TwA.mono g5).snoc ⟨pt,ps,ys,rfl,aZ (by simpa using npt) k5,⟨ps,rfl,?_⟩,aZ (by simpa using npl) (s5 _ _ k4),al3.imp λ_ _=>SyA.mono (bj (s4.trans s5))⟩;dsimp only;rw[es];exact aZ (by simpa using nps) ((m3.trans (s4.trans s5)) _ _ ks)
 rintro σ' G1 ⟨v2,v3,v4,v5,us,fs,rfl,m,g1,fl,nd,fr,al⟩;rw[lw,Hu]at al;exact⟨_,rfl,q p1 _ us fs m ⟨g1,hp1,fl.trans lw,nd,λf hf=>⟨(fr f hf).1,(fr f hf).2.1⟩,al⟩⟩

theorem Ei(p0 p1 p2:Addr):bR "going_on" (V.bl false) (bR "things" (V.ref p2) (bR "feet" (V.ref p1) (bR "shorts" (V.ref p0) [])))=([("shorts",V.ref p0),("feet",V.ref p1),("things",V.ref p2),("going_on",V.bl false)]:List (Str×V)):=by
 rw[show bR "shorts" (V.ref p0) []=([("shorts",V.ref p0)]:List (Str×V))from rfl];rw[pQ (l:=([("shorts",V.ref p0)]:List (Str×V))) (by show([("shorts" : Str)]:List Str).all (λm=>m != "feet")=true;decide +kernel)];rw[pQ (l:=([("shorts",V.ref p0)]:List (Str×V))++([("feet",V.ref p1)]:List (Str×V))) (by show([("shorts" : Str),("feet" : Str)]:List Str).all (λm=>m != "things")=true;decide +kernel)];rw[pQ (l:=([("shorts",V.ref p0)]:List (Str×V))++([("feet",V.ref p1)]:List (Str×V))++([("things",V.ref p2)]:List (Str×V))) (by show([("shorts" : Str),("feet" : Str),("things" : Str)]:List Str).all (λm=>m != "going_on")=true;decide +kernel)];rfl

def vK(C:Addr):Sp:=λvs H Q _=>∃(x dx:Addr),vs=[.ref x]/\H x=some (.ins C dx [])/\∀H',(∀H0,ak H0 H->H0 x=none->RdA C H0 H' x rs0)->FrX H H' x->Q .non H'
theorem vL:aN ["self"] ["self"] (au kP):=by walk_at "c"
theorem vM(T:Txt P w K mg a):bi P w K mg base CX0 1 a.kS a.j7 ["self"] (vK a.bK):=by
 refine T.kQ.fn.ok vL (λvs H Q E h=>?_) (λcdv A outer s H vs Q E hr h=>?_)
 .obtain⟨x,dx,rfl,_⟩:=h;rfl
 obtain⟨x,dx,rfl,hx,q⟩:=h;refine⟨_,(ag (db (pv 0) (aU ae) rfl)
   (ag (db (pv 0) pJ rfl)
   (ag (db (pv 0) (aU ae) rfl)
   (ai (db (pv 0) d9 rfl))))),?_⟩
 have k:=hx;have f:FrX H H x:=FrX.refl;have l:([]:List (Str×V)).length<=0:=G_ _;refine⟨aJ (by simp),λp0 hp0=>?_⟩;obtain⟨H1,eH,b0,w0⟩:=pe (.lst []) hp0;rw[eH];have e0:=f.free k hp0;have f:=f.same w0;have k:=w0 _ _ k;have a0:=b0;have d0:p0≠x:=λz=>by rw[z,k]at a0;cases a0
 refine⟨_,rfl,_,_,_,_,rfl,k,T.bF.cl,T.jq,Hq l (by decide),?_⟩;obtain⟨H2,L0,eH,g0,l,k,r⟩:=fK "shorts" (V.ref p0) k l;rw[eH];have f:=j6 f r;have a0:=r _ _ d0 a0;intro p1 hp1;obtain⟨H3,eH,b1,w1⟩:=pe (.dK []) hp1;rw[eH];have e1:=f.free k hp1;have d0_1:p0≠p1:=eG a0 hp1;have f:=f.same w1;have k:=w1 _ _ k;have a0:=w1 _ _ a0;have a1:=b1;have d1:p1≠x:=λz=>by rw[z,k]at a1;cases a1
 refine⟨_,rfl,_,_,_,_,rfl,k,T.bF.cl,T.fR,Hq l (by decide),?_⟩;obtain⟨H4,L1,eH,g1,l,k,r⟩:=fK "feet" (V.ref p1) k l;rw[eH];have f:=j6 f r;have a0:=r _ _ d0 a0;have a1:=r _ _ d1 a1;refine⟨aJ (by simp),λp2 hp2=>?_⟩;obtain⟨H5,eH,b2,w2⟩:=pe (.lst []) hp2;rw[eH];have e2:=f.free k hp2;have d0_2:p0≠p2:=eG a0 hp2;have d1_2:p1≠p2:=eG a1 hp2;have f:=f.same w2;have k:=w2 _ _ k;have a0:=w2 _ _ a0;have a1:=w2 _ _ a1;have a2:=b2;have d2:p2≠x:=λz=>by rw[z,k]at a2;cases a2
 refine⟨_,rfl,_,_,_,_,rfl,k,T.bF.cl,T.eO,Hq l (by decide),?_⟩;obtain⟨H6,L2,eH,g2,l,k,r⟩:=fK "things" (V.ref p2) k l;rw[eH];have f:=j6 f r;have a0:=r _ _ d0 a0;have a1:=r _ _ d1 a1;have a2:=r _ _ d2 a2;refine⟨_,rfl,_,_,_,_,rfl,k,T.bF.cl,T.dh,Hq l (by decide),?_⟩;obtain⟨H7,L3,eH,g3,l,k,r⟩:=fK "going_on" (V.bl false) k l;rw[eH];have f:=j6 f r;have a0:=r _ _ d0 a0;have a1:=r _ _ d1 a1;have a2:=r _ _ d2 a2;have eL:L3=([("shorts",V.ref p0),("feet",V.ref p1),("things",V.ref p2),("going_on",V.bl false)]:List (Str×V)):=by rw[<-g3,<-g2,<-g1,<-g0];exact Ei p0 p1 p2
 rw[eL]at k;exact q _ (λH0 m hx0=>⟨f.old m hx0,dx,p0,p1,p2,p2,[],[],k,aZ (by simp;exact⟨d0,d0_1,d0_2⟩) a0,a1,a2,⟨hx0,m.free e1,m.free e2,m.free e2⟩,trivial,.inl ⟨rfl,rfl,trivial⟩⟩) f
def qR(C:Addr):Sp:=λvs H Q _=>∃(r:Addr) (v:V) (H0 H1:Hp) (s:Rs) (t:Tg),vs=[.ref r,v]/\RdA C H0 H1 r s/\ak H1 H/\TgN H1 H v t/\s.things.length<=200/\∀H',RdA C H0 H' r { s with things:=s.things++[t],g:=false }->(∀dx sa fa ta vs g,H1 r=some (.ins C dx (fsR sa fa ta g))->H1 ta=some (.lst vs)->H'=upd (upd H ta (.lst (vs++[v]))) r (.ins C dx (fsR sa fa ta false)))->Q .non H'
theorem qS:aN ["self","thing"] ["self","thing"] (au ic):=by walk_at "c"
theorem gE(T:Txt P w K mg a):bi P w K mg base CX0 1 a.ir a.gN ["self","thing"] (qR a.bK):=by
 refine T.dR.fn.ok qS (λvs H Q E h=>?_) (λcdv A outer s H vs Q E hr h=>?_)
 .obtain⟨r,v,H0,H1,s,t,rfl,_⟩:=h;rfl
 obtain⟨r,v,H0,H1,s,t,rfl,R,m,tn,sl,q⟩:=h;refine⟨_,(ag (bn (cp PySem.F.plainAttrs_list PySem.F.slot_list_append PySem.F.type_list_append b7 (bu (pv 0) rfl) (aa (pv 1) ae)))
   (ai (db (pv 0) d9 rfl))),?_⟩
 obtain⟨dx,sa,fa,ta,kvs,vs,h1,h2,h3,h4,lv,lf,fn,put,_⟩:=R.use;have ne:r≠ta:=λz=>by rw[z,h4]at h1;cases h1
 refine⟨_,rfl,_,_,_,_,_,rfl,m _ _ h1,T.bF.cl,T.eO,rp,.inl ⟨rfl,_,SqL.of (m _ _ h4)⟩,_,rfl,_,_,_,rfl,rfl,m _ _ h4,aB (by omega),?_⟩;refine⟨_,rfl,_,_,_,_,rfl,(by rw[aj ne];exact m _ _ h1),T.bF.cl,T.dh,vx,?_⟩;rw[rq];refine q _ (put H v t m tn) λdx' sa' fa' ta' vs' g' e1 e2=>?_;rw[h1]at e1;injection e1 with e1;injection e1 with _ f1 f2;obtain⟨rfl,rfl,rfl,rfl⟩:=D6 f2;subst f1;rw[h4]at e2;injection e2 with e2;injection e2 with e2;rw[e2]
def qb(K:PySem.W.Frag)(C:Addr):Sp:=λvs H Q _=>∃(r la:Addr) (H0:Hp) (s:Rs) (w:List Nat) (rw:Rw),vs=[.ref r,.ref la]/\RdA C H0 H r s/\SqL K H la [.str (tx w)]/\Dr w rw/\s.things.length<=200/\∀H',RdA C H0 H' r (bV s rw)->Q .non H'
theorem jK:aN ["self","words","first"] ["self","words"] (au gy):=by walk_at "c"
theorem qc(T:Txt P w K mg a):bi P w K mg base CX0 2 a.gK a.gb ["self","words"] (qb K a.bK):=by
 refine T.gH.fn.ok jK (λvs H Q E h=>?_) (λcdv A outer s H vs Q E hr h=>?_)
 .obtain⟨r,la,H0,s,w,rw,rfl,_⟩:=h;rfl
 obtain⟨r,la,H0,s,w,rw,rfl,R,hl,al,sl,q⟩:=h;refine⟨_,(ag (ay (i:=2) jK.nd rfl (Hh rfl) (aS bS (pv 1) ah (λ_ _=>rfl)))
   (ag (aR (ao j_ (aV bN rfl T.cr PySem.boot_len (aa (pv 1) ae)) ah (nomark _)) (ai fV) aM)
   (ai (bn (dC eQ T.bF T.dR (gE T) (hr.mono (by decide)) (pv 0) (aa (aY (aa (dF kz (pv 2) (dX ah) eS) ae)) ae)))))),?_⟩
 refine⟨_,rfl,_,_,_,_,rfl,rfl,hl,rfl,?_⟩;refine⟨_,rfl,_,_,rfl,.inl hl,_,_,rfl,rfl,_,rfl,?_⟩;refine av ?_;dsimp only[dq];obtain⟨dx,sa,fa,ta,kvs,vs,h1,_⟩:=R.use;refine⟨_,rfl,_,_,_,rfl,h1,nS (by decide +kernel),_,rfl,_,rfl,_,rfl,(by rcases al with⟨rfl,_⟩|⟨rfl,_⟩|⟨rfl,_⟩<;>exact aJ (by decide)),le1,λp1 hp1=>?_⟩
 rcases al with⟨rfl,rfl⟩|⟨rfl,rfl⟩|⟨rfl,rfl⟩
 .exact⟨r,.ref p1,H0,H,s,.page,rfl,R,af hp1 _,⟨p1,rfl,by rw[fc];exact ac⟩,sl,λH' R' _=>q H' R'⟩
 .exact⟨r,.ref p1,H0,H,s,.odd,rfl,R,af hp1 _,⟨p1,rfl,by rw[fc];exact ac⟩,sl,λH' R' _=>q H' R'⟩
 .exact⟨r,.ref p1,H0,H,s,.lst,rfl,R,af hp1 _,⟨p1,rfl,by rw[fc];exact ac⟩,sl,λH' R' _=>q H' R'⟩
def Al:Sp:=λvs H Q _=>∃l:List Nat,vs=[.str (tx l)]/\l.length<=1000/\∀H',ak H H'->Q (.bl (bQ l)) H'
theorem Am:aN ["word"] ["word"] (au rF):=by walk_at "c"
theorem qd(T:Txt P w K mg a):bi P w K mg base CX0 1 a.sx a.qx ["word"] Al:=by
 have eB:=T.eB;have dU:=T.dU;have cx:=T.cx;obtain⟨t_FIGURES,eB⟩:=eB;obtain⟨t_LETTERS,dU⟩:=dU;obtain⟨t_LONGEST_NAME,cx⟩:=cx;refine T.kG.fn.ok Am (λvs H Q E h=>?_) (λcdv A outer s H vs Q E hr h=>?_)
 .obtain⟨l,rfl,_⟩:=h;rfl
 obtain⟨l,rfl,hl,q⟩:=h;refine⟨_,(ag (aR (PW.pt (jy (ao a_ (pv 0) am (nomark _)) (jx (ao j_ (aV dt rfl T.cr PySem.boot_len (aa (pv 0) ae)) (bW (v:=.int 12) rfl cx ⟨_,rfl⟩) (nomark _))))) (ai (aP d9)) aM)
   (ai (aP (xA (eC ku (aS eV (pv 0) ah (λ_ _=>rfl)) (bW (v:=.str (PySem.Str.ofString "abcdefghijklmnopqrstuvwxyz")) rfl dU ⟨_,rfl⟩) (by with_unfolding_all rfl)) (oR (aV (Cw rfl) rfl T.tD PyProof.Rows.boot_all (aa (gW rfl (fb (caps:=[]) (js:=[]) (cap:=trivial)) (A5 (pv 0)) (λ_ _ _ _=>dY) (λ_ _ _ _=>(wV (eC ku (pv 0) (bW (v:=.str (PySem.Str.ofString "abcdefghijklmnopqrstuvwxyz")) rfl dU ⟨_,rfl⟩) (by with_unfolding_all rfl)) (oR (eC ku (pv 0) (bW (v:=.str (PySem.Str.ofString "0123456789")) rfl eB ⟨_,rfl⟩) (by with_unfolding_all rfl)))))) ae))))))),?_⟩
 refine⟨_,rfl,rfl,_,rfl,?_⟩;cases l with
 |nil =>
  rw[yb];refine aQ ?_;refine aQ ?_;exact q H (ak.refl _)
 |cons c r =>
  rw[ya];refine av ?_;refine⟨_,rfl,_,rfl,aJ (by rw[bf];exact hl),_,_,rfl,rfl,_,rfl,?_⟩;rw[bf];refine d_ (λh=>?_) (λh=>?_)
  .have h2:¬ (c::r).length<=12:=by have:=of_decide_eq_true h;omega
   have:=q H (ak.refl _);rw[wj h2]at this;exact this
  .have h2:(c::r).length<=12:=by
    refine Ju λz=>h (decide_eq_true ?_);omega
   rw[pO h2]at q;refine⟨_,rfl,_,_,c,rfl,rfl,aJ (by rw[bf];exact hl),iJ c r,_,_,rfl,rfl,_,rfl,?_⟩;rw[By];cases hc:isL c with
   |false =>
    rw[hc]at q;refine av ?_;exact q H (ak.refl _)
   |true =>
    rw[hc]at q;refine aQ ?_;refine⟨_,rfl,_,rfl,ES (x:=tx (c::r)) (λi ys H2=>H2=H/\ys=(((c::r).take i).map λd=>isL d||isF d).map V.bl) ⟨rfl,rfl⟩ ?_ ?_ ?_⟩
    .rintro i ys H2 hi ⟨rfl,rfl⟩;rw[GT,GT,HD];exact Hq (show _<=12 by omega) (aB (by omega))
    .rintro i d ys H2 hd ⟨rfl,rfl⟩;rw[A8]at hd;refine eI ?_;refine⟨_,rfl,_,_,rfl,rfl,_,rfl,?_⟩;rw[By,IB,hd];cases h3:isL d with
     |true =>
      refine aQ ?_;refine⟨rfl,?_⟩;simp[h3]
     |false =>
      refine av ?_;refine⟨_,rfl,_,_,rfl,rfl,?_⟩;rw[Bz];refine⟨rfl,?_⟩;simp[h3]
    .rintro ys H2 ⟨rfl,rfl⟩ p hp;rw[zn,Ik (G_ _)];refine⟨_,_,rfl,SqL.of ac,?_⟩;rw[Fb];have:=q _ (af hp (.lst ((((c::r)).map λd=>isL d||isF d).map V.bl)));rw[JZ]at this;exact this
def An:Sp:=λvs H Q _=>∃(c:Nat) (r:List Nat),vs=[.str (tx (c::r))]/\r.length<=900/\∀p H',H p=none->ak H H'->H' p=some (.tup [.str (PySem.Str.ofString (lJ (c::r)).1),.str (tx (lJ (c::r)).2)])->Q (.ref p) H'
theorem qg:aN ["word","first","rest"] ["word"] (au rG):=by walk_at "c"
theorem Ao(T:Txt P w K mg a):bi P w K mg base CX0 2 a.sy a.qy ["word"] An:=by
 have fP:=T.fP;obtain⟨fP,k_KINDS⟩:=fP;refine T.sh.fn.ok qg (λvs H Q E h=>?_) (λcdv A outer s H vs Q E hr h=>?_)
 .obtain⟨c,r,rfl,_⟩:=h;rfl
 obtain⟨c,r,rfl,hl,q⟩:=h;refine⟨_,(ag (ay (i:=1) qg.nd rfl (Hh rfl) (dF kz (pv 0) eS (dX ah)))
   (ag (ay (i:=2) qg.nd rfl (Hh rfl) (dF kz (pv 0) (dX ah) eS))
   (ag (aR (PW.pt (cY (ao v_ (pv 1) (bW (v:=.ref a.eU) rfl fP rfl) (by with_unfolding_all rfl)) (cH (lQ (aC T.kG (qd T) (hr.mono (by decide)) rfl (aa (pv 2) ae)) (λ_=>rfl))))) (ai (aP (aY (aa (xU (bW (v:=.ref a.eU) rfl fP rfl) (pv 1) (λ_ _=>rfl)) (aa (pv 2) ae))))) aM)
   (ag (aR (PW.pt (cY (ao a_ (pv 1) am (nomark _)) (cH (ao jz (pv 2) am (nomark _))))) (ai (aP (aY (aa am (aa (pv 2) ae))))) aM)
   (ai (aP (aY (aa am (aa (pv 0) ae))))))))),?_⟩
 have sz:(tx (c::r)).length<=Hs:=by rw[bf];exact aJ (by simp only[GU];omega)
 refine⟨_,rfl,_,rfl,_,rfl,sz,?_⟩;rw[GG];refine⟨_,rfl,_,rfl,_,rfl,sz,?_⟩;rw[GH]
 try dsimp only[bB]
 with_reducible refine dH (λσ' H'=>σ'=[some (.str (tx (c::r))),some (.str (tx [c])),some (.str (tx r))]/\ak H H'/\lJ (c::r)=if c=33/\r≠[]then("plain",r)else("plain",c::r)) ?_ (λkey=>?_)
 .rintro σ' H' ⟨rfl,s1,ek⟩;rw[ek]at q;refine⟨_,rfl,rfl,_,rfl,?_⟩;rw[FZ];refine d_ (λh=>?_) (λh=>?_)
  .have h33:=of_decide_eq_true h;refine⟨_,rfl,rfl,_,rfl,?_⟩;cases r with
   |nil =>
    rw[yb];refine av ?_;rw[if_neg (λz=>z.2 rfl)]at q;exact⟨_,rfl,le2,λp hp=>q p _ (s1.free hp) (s1.trans (af hp _)) ac⟩
   |cons d r =>
    rw[ya];refine aQ ?_;rw[if_pos ⟨h33,by simp⟩]at q;exact⟨_,rfl,le2,λp hp=>q p _ (s1.free hp) (s1.trans (af hp _)) ac⟩
  .refine av ?_;rw[if_neg (λz=>h (decide_eq_true z.1))]at q;exact⟨_,rfl,le2,λp hp=>q p _ (s1.free hp) (s1.trans (af hp _)) ac⟩
 .refine⟨_,rfl,a.eU,lI,.inr (tx [c]),rfl,k_KINDS,rfl,_,rfl,?_⟩;cases hm:mk c with
  |none =>
   have:=CZ c hm;rw[show cX lI (.inr (tx [c]))=none from this];refine av ?_;refine av ?_;refine key _ _ ⟨rfl,ak.refl _,?_⟩;show(match mk c,bQ r with
    |some s,true=>(s,r)
    |_,_=>if c=33/\r≠[]then("plain",r)else("plain",c::r))=_
   rw[hm]
  |some s =>
   have hv:=C0 c s hm;rw[show cX lI (.inr (tx [c]))=some (.str (PySem.Str.ofString s))from hv];refine aQ ?_;refine⟨_,rfl,r,rfl,by omega,λH2 s2=>?_⟩;refine⟨_,rfl,?_⟩;cases hn:bQ r with
   |true =>
    refine aQ ?_;have ek:lJ (c::r)=(s,r):=by
     show(match mk c,bQ r with
      |some s,true=>(s,r)
      |_,_=>if c=33/\r≠[]then("plain",r)else("plain",c::r))=_
     rw[hm,hn]
    rw[ek]at q;exact⟨_,rfl,a.eU,lI,.inr (tx [c]),_,rfl,k_KINDS,rfl,hv,_,rfl,le2,λp hp=>q p _ (s2.free hp) (s2.trans (af hp _)) ac⟩
   |false =>
    refine av ?_;refine key _ _ ⟨rfl,s2,?_⟩;show(match mk c,bQ r with
     |some s,true=>(s,r)
     |_,_=>if c=33/\r≠[]then("plain",r)else("plain",c::r))=_
    rw[hm,hn]
def Ap:Sp:=λvs H Q _=>∃(sa:Addr),vs=[.ref sa]/\H sa=some (.lst [])/\∀p H',H p=none->ak H H'->H' p=some (.dK [])->Q (.ref p) H'
theorem Aq:aN ["shorts"] ["shorts"] (au rH):=by walk_at "c"
theorem Ar(T:Txt P w K mg a):bi P w K mg base CX0 1 a.su a.qw ["shorts"] Ap:=by
 refine T.se.fn.ok Aq (λvs H Q E h=>?_) (λcdv A outer s H vs Q E hr h=>?_)
 .obtain⟨sa,rfl,_⟩:=h;rfl
 obtain⟨sa,rfl,hs,q⟩:=h;refine⟨_,(ai (aP (ni (uZ rfl) rfl T.pC PyProof.Rows.boot_dict (aa (gW rfl (fb (caps:=[]) (js:=[]) (cap:=trivial)) (bq (pv 0)) (λ_ _ _ _=>dY) (λ_ _ _ _=>(aY (aa (aS (r:=nQ K) bM (pv 0) ah (λ_ _=>rfl)) (aa (pv 0) ae))))) ae)))),?_⟩;refine⟨_,rfl,sa,rfl,⟨_,SqL.of hs⟩,eD (K:=K) (a:=sa) (xs:=[]) (λi ys G=>G=H/\ys=[]) ⟨rfl,rfl⟩ (λi ys G _ g=>by rw[g.1];exact SqL.of hs) (λi ys G hi _=>absurd hi (Nat.not_lt_zero _)) (λi y ys G hy _=>by simp at hy) ?_⟩;rintro ys G ⟨rfl,rfl⟩ p1 hp1;have s1:=af hp1 (.lst []);have k1:upd G p1 (.lst []) p1=some (.lst []):=ac;generalize upd G p1 (.lst [])=H1 at s1 k1⊢;exact⟨p1,[],[],rfl,SqL.of k1,by simp,⟨rfl,λj p k v e=>by simp at e⟩,λp2 hp2=>q p2 _ (s1.free hp2) (s1.trans (af hp2 _)) ac⟩
def wM:Sp:=λvs H Q _=>∃(d nl:Addr) (ws:List V) (ts:List (List Nat)),vs=[.ref d,.ref nl,.int 0]/\H nl=some (.lst ws)/\aL (NdA H) ws ts/\ts.length<=130/\∀p r H',H p=none->ak H H'->H' p=some (.tup [.ref r,.int 0])->H' r=some (.lst [.int (ts.length:Int)])->Q (.ref p) H'
theorem jh:aN ["named","nodes","count","row","calls","node","short","k","argument","size"] ["named","nodes","count"] (au l_):=by walk_at "c"
theorem wN(T:Txt P w K mg a):bi P w K mg base CX0 1 a.mB a.kZ ["named","nodes","count"] wM:=by
 refine T.mt.fn.ok jh (λvs H Q E h=>?_) (λcdv A outer s H vs Q E hr h=>?_)
 .obtain⟨d,nl,ws,ts,rfl,_⟩:=h;rfl
 obtain⟨d,nl,ws,ts,rfl,hn,al,tl,q⟩:=h;refine⟨_,(ag (ay (i:=3) jh.nd rfl (Hh rfl) (aK xL (aU (aa ah ae)) (aK bZ (pv 2) ah)))
   (ag (ay (i:=4) jh.nd rfl (Hh rfl) ah)
   (ag (cg HS rfl (bq (pv 1)) (aO (i:=5) jh.nd rfl (Hh rfl)) (ai (aR (ao a_ (aS bM (pv 5) ah (λ_ _=>rfl)) am (nomark _)) (ai (xC (aK bZ (aS bS (pv 3) ah (λ_ _=>rfl)) ah) (xB (pv 3) ah tW))) g_)))
   (ai (aP (aY (aa (pv 3) (aa (pv 4) ae)))))))),?_⟩
 refine⟨aJ (by simp),λp1 hp1=>?_⟩;have s1:=af hp1 (.lst [.int 0]);have k1:upd H p1 (.lst [.int 0]) p1=some (.lst [.int 0]):=ac;generalize upd H p1 (.lst [.int 0])=H1 at s1 k1⊢;refine⟨_,rfl,_,_,rfl,rfl,_,_,_,rfl,rfl,k1,(by omega),(by omega),aJ (by simp),λp2 hp2=>?_⟩;have hp2':=s1.free hp2;dsimp only[bB];have s2:=af hp2 (.lst [V.int 0]);have k2:upd H1 p2 (.lst (Hd (I_ (0+1)) [V.int 0]).flatten) p2=some (.lst [V.int ((0:Nat):Int)]):=ac;change ak H1 (upd H1 p2 (.lst (Hd (I_ (0+1)) [V.int 0]).flatten))at s2;generalize upd H1 p2 (.lst (Hd (I_ (0+1)) [V.int 0]).flatten)=H2 at s2 k2⊢;have s12:=s1.trans s2;have lw:=al.len;refine⟨_,rfl,nl,rfl,⟨_,SqL.of (s12 _ _ hn)⟩,cm (K:=K) (a:=nl) (xs:=ws) (λk σ G=>∃(vw:Option V),σ=[some (.ref d),some (.ref nl),some (.int 0),some (.ref p2),some (.int 0),vw,none,none,none,none]/\ak H G/\G p2=some (.lst [.int (k:Int)])) ⟨none,rfl,s12,k2⟩ (λk σ G _ g=>by obtain⟨_,_,m,_⟩:=g;exact SqL.of (m _ _ hn)) ?_ ?_⟩
 .rintro k y σ G hy ⟨vw,rfl,m,g⟩;obtain⟨t,ht,b,rfl,hb⟩:=al.getL hy;refine⟨_,rfl,_,_,_,_,rfl,rfl,SqT.of (m _ _ hb),rfl,rfl,_,rfl,?_⟩;rw[decide_eq_true rfl];refine aQ ?_;refine⟨_,rfl,_,_,_,_,rfl,rfl,SqL.of g,rfl,_,_,rfl,rfl,_,rfl,_,_,_,_,rfl,rfl,g,rfl,?_⟩;exact⟨_,rfl,aW m hp2',by rw[ac];rfl⟩
 rintro σ G ⟨vw,rfl,m,g⟩;rw[lw]at g;refine⟨_,rfl,_,rfl,le2,λp3 hp3=>?_⟩;exact q p3 p2 _ (m.free hp3) (m.trans (af hp3 _)) ac (af hp3 _ _ _ g)
def yw:Sp:=λvs H Q _=>∃(d nl al:Addr) (ws:List V) (ts:List (List Nat)),vs=[.ref d,.ref nl,.ref al]/\H nl=some (.lst ws)/\aL (NdA H) ws ts/\ts.length<=130/\∀p H',H p=none->ak H H'->H' p=some (.lst ((ts.map tx).map V.str))->Q (.ref p) H'
theorem mh:aN ["named","nodes","arguments","words","node","given"] ["named","nodes","arguments"] (au nX):=by walk_at "c"
theorem yx(T:Txt P w K mg a):bi P w K mg base CX0 1 a.oJ a.mO ["named","nodes","arguments"] yw:=by
 refine T.oz.fn.ok mh (λvs H Q E h=>?_) (λcdv A outer s H vs Q E hr h=>?_)
 .obtain⟨d,nl,ar,ws,ts,rfl,_⟩:=h;rfl
 obtain⟨d,nl,ar,ws,ts,rfl,hn,al,tl,q⟩:=h;refine⟨_,(ag (ay (i:=3) mh.nd rfl (Hh rfl) (aU ae))
   (ag (cg HS rfl (bq (pv 1)) (aO (i:=4) mh.nd rfl (Hh rfl)) (ai (aR (ao a_ (aS bM (pv 4) ah (λ_ _=>rfl)) am (nomark _)) (ai (bn (cp PySem.F.plainAttrs_list PySem.F.slot_list_append PySem.F.type_list_append b7 (pv 3) (aa (aS bM (pv 4) ah (λ_ _=>rfl)) ae)))) g_)))
   (ai (aP (pv 3))))),?_⟩
 refine⟨aJ (by simp),λp1 hp1=>?_⟩;have s1:=af hp1 (.lst []);have lw:=al.len;refine⟨_,rfl,nl,rfl,⟨_,SqL.of (s1 _ _ hn)⟩,cm (K:=K) (a:=nl) (xs:=ws) (λk σ G=>∃(vw:Option V),σ=[some (.ref d),some (.ref nl),some (.ref ar),some (.ref p1),vw,none]/\ak H G/\G p1=some (.lst (((ts.take k).map tx).map V.str))) ⟨none,rfl,s1,ac⟩ (λk σ G _ g=>by obtain⟨_,_,m,_⟩:=g;exact SqL.of (m _ _ hn)) ?_ ?_⟩
 .rintro k y σ G hy ⟨vw,rfl,m,g⟩;obtain⟨t,ht,b,rfl,hb⟩:=al.getL hy;have hk:=(List.getElem?_eq_some_iff.mp hy).1;refine⟨_,rfl,_,_,_,_,rfl,rfl,SqT.of (m _ _ hb),rfl,rfl,_,rfl,?_⟩;rw[decide_eq_true rfl];refine aQ ?_;refine⟨_,rfl,.inl ⟨rfl,_,SqL.of g⟩,_,rfl,_,_,_,_,rfl,rfl,SqT.of (m _ _ hb),rfl,_,_,_,rfl,rfl,g,aB (by rw[GT,GT,HD];omega),?_⟩;refine⟨_,rfl,aW m hp1,?_⟩;rw[ac,bb ht,Hc,Hc];rfl
 rintro σ G ⟨vw,rfl,m,g⟩;rw[lw,Hu]at g;exact⟨_,rfl,q p1 _ hp1 m g⟩
def As:Sp:=λvs H Q _=>∃(sa nl:Addr) (ws:List V) (ts:List (List Nat)),vs=[.ref sa,.ref nl]/\H sa=some (.lst [])/\H nl=some (.lst ws)/\aL (NdA H) ws ts/\ts.length<=130/\∀p H',H p=none->ak H H'->H' p=some (.lst ((ts.map tx).map V.str))->Q (.ref p) H'
theorem qh:aN ["shorts","nodes","named","size"] ["shorts","nodes"] (au rJ):=by walk_at "c"
theorem At(T:Txt P w K mg a):bi P w K mg base CX0 2 a.sD a.qB ["shorts","nodes"] As:=by
 have c4:=T.c4;have bI:=T.bI;obtain⟨t_MOST_CALLS,c4⟩:=c4;obtain⟨t_MOST_WORDS_shorts,bI⟩:=bI;refine T.sk.fn.ok qh (λvs H Q E h=>?_) (λcdv A outer s H vs Q E hr h=>?_)
 .obtain⟨sa,nl,ws,ts,rfl,_⟩:=h;rfl
 obtain⟨sa,nl,ws,ts,rfl,hs,hn,al,tl,q⟩:=h;refine⟨_,(ag (ay (i:=2) qh.nd rfl (Hh rfl) (aC T.se (Ar T) (hr.mono (by decide)) rfl (aa (pv 0) ae)))
   (ag (ay (i:=3) qh.nd rfl (Hh rfl) (aC T.mt (wN T) (hr.mono (by decide)) rfl (aa (pv 2) (aa (pv 1) (aa ah ae)))))
   (ag (aR (PW.pt (jy (ao j_ (aS bS (aS bM (pv 3) ah (λ_ _=>rfl)) ah (λ_ _=>rfl)) (bW (v:=.int 400) rfl bI ⟨_,rfl⟩) (nomark _)) (jx (ao j_ (aS bM (pv 3) ah (λ_ _=>rfl)) (bW (v:=.int 400) rfl c4 ⟨_,rfl⟩) (nomark _))))) (ai fV) aM)
   (ai (aP (aC T.oz (yx T) (hr.mono (by decide)) rfl (aa (pv 2) (aa (pv 1) (aa (aU ae) ae))))))))),?_⟩
 refine⟨_,rfl,sa,rfl,hs,λp1 H1 hp1 s1 k1=>?_⟩;dsimp only[bB];refine⟨_,rfl,_,rfl,p1,nl,ws,ts,rfl,s1 _ _ hn,NdsA.mono s1 al,tl,λp2 r H2 hp2 s2 k2 k3=>?_⟩;dsimp only[bB];refine⟨_,rfl,_,_,_,_,rfl,rfl,SqT.of k2,rfl,_,_,_,_,rfl,rfl,SqL.of k3,rfl,_,_,rfl,rfl,_,rfl,?_⟩;rw[decide_eq_false (by omega)];refine av ?_;refine⟨_,rfl,_,_,_,_,rfl,rfl,SqT.of k2,rfl,_,_,rfl,rfl,_,rfl,?_⟩;refine av ?_;dsimp only[dq];have s12:=s1.trans s2;refine⟨_,rfl,_,rfl,aJ (by simp),λp3 hp3=>?_⟩;have s3:=af hp3 (.lst []);have s13:=s12.trans s3;exact⟨p1,nl,p3,ws,ts,rfl,s13 _ _ hn,NdsA.mono s13 al,tl,λp4 H4 hp4 s4 k4=>q p4 H4 (s13.free hp4) (s13.trans s4) k4⟩
def Au:Sp:=λvs H Q _=>∃(w:List Nat),vs=[.str (tx w),.non]/\∀p,H p=none->Q (.ref p) (upd H p (.tup [.str "word",.str (tx w)]))
theorem Av:aN ["word","count","k"] ["word","count"] (au rK):=by walk_at "c"
theorem Aw(T:Txt P w K mg a):bi P w K mg base CX0 1 a.sC a.qA ["word","count"] Au:=by
 refine T.sj.fn.ok Av (λvs H Q E h=>?_) (λcdv A outer s H vs Q E hr h=>?_)
 .obtain⟨w,rfl,_⟩:=h;rfl
 obtain⟨w,rfl,q⟩:=h;refine⟨_,(ag (aR (PW.pt (jy (ao EL (pv 1) EB (nomark _)) (jx CM))) (ai (aP (aY (aa am (aa (pv 0) ae))))) aM)
   g_),?_⟩
 refine⟨_,rfl,rfl,_,rfl,?_⟩;refine aQ ?_;refine aQ ?_;exact⟨_,rfl,le2,λp hp=>q p hp⟩
def wO:Sp:=λvs H Q _=>∃w:List Nat,vs=[.str (tx w)]/\w.length<=100/\∀H',ak H H'->Q (.bl (opn w)) H'
theorem wP:aN ["word"] ["word"] (au md):=by walk_at "c"
theorem wQ(T:Txt P w K mg a):bi P w K mg base CX0 2 a.my a.kY ["word"] wO:=by
 refine T.mr.fn.ok wP (λvs H Q E h=>?_) (λcdv A outer s H vs Q E hr h=>?_)
 .obtain⟨w,rfl,_⟩:=h;rfl
 obtain⟨w,rfl,hw,q⟩:=h;refine⟨_,(ai (aP (xA (eC a_ (dF kz (pv 0) eS (dX ah)) am (nomark _)) (oR (aC T.kG (qd T) (hr.mono (by decide)) rfl (aa (dF kz (pv 0) (dX ah) eS) ae)))))),?_⟩;refine⟨_,rfl,_,rfl,_,rfl,aJ (by rw[bf];omega),rfl,_,rfl,?_⟩;rw[fc,show jj w none (some 1)=w.take 1 from Tl.cut_to w 1,cw c91];cases w with
 |nil =>
  refine av ?_;exact q H (ak.refl _)
 |cons c r =>
  by_cases e:c=91
  .rw[decide_eq_true (show(c::r).take 1=[91] by rw[e];rfl)];refine aQ ?_;refine⟨_,rfl,_,rfl,_,rfl,aJ (by rw[bf];omega),r,?_,by simp at hw;omega,λH2 s2=>?_⟩
   .rw[fc,show jj (c::r) (some 1) none=(c::r).drop 1 from Tl.cut_from (c::r) 1];rfl
   .have:=q H2 s2;change Q (.bl (decide (c=91)&&bQ r)) H2 at this;rw[decide_eq_true e,JZ]at this;exact this
  .rw[decide_eq_false (show ¬ (c::r).take 1=[91]from λz=>e (by simpa using z))];refine av ?_;have:=q H (ak.refl _);change Q (.bl (decide (c=91)&&bQ r)) H at this;rw[decide_eq_false e,Kl]at this;exact this
def Ax(K:PySem.W.Frag):Sp:=λvs H Q _=>∃(la:Addr) (ts:List (List Nat)),vs=[.ref la,.non]/\SqL K H la ((ts.map tx).map V.str)/\ts.length<=130/\(∀t∈ts,opn t=false/\t.length<=100)/\∀p H' ws,H p=none->ak H H'->H' p=some (.lst ws)->aL (NdA H') ws ts->Q (.ref p) H'
theorem lM:aN ["words","count","nodes","pending","word"] ["words","count"] (au rL):=by walk_at "c"
theorem Ay(T:Txt P w K mg a):bi P w K mg base CX0 3 a.sE a.qC ["words","count"] (Ax K):=by
 refine T.sr.fn.ok lM (λvs H Q E h=>?_) (λcdv A outer s H vs Q E hr h=>?_)
 .obtain⟨la,ts,rfl,_⟩:=h;rfl
 obtain⟨la,ts,rfl,hW,tl,ok,q⟩:=h;have hu:=IJ (dB hr);refine⟨_,(ag (ay (i:=2) lM.nd rfl (Hh rfl) (aU ae))
   (ag (ay (i:=3) lM.nd rfl (Hh rfl) (aU ae))
   (ag (cg HS rfl (bq (pv 0)) (aO (i:=4) lM.nd rfl (Hh rfl)) (ai (aR (lQ (aC T.mr (wQ T) (hr.mono (by decide)) rfl (aa (pv 4) ae)) (λ_=>rfl)) g_ (ai (aR (PW.pt (cY (ao a_ (pv 4) am (nomark _)) (cH (ao (t0 hu) (pv 3) (aU ae) (nomark _))))) g_ (ai (aR (PW.pt (cY (ao a_ (pv 4) am (nomark _)) (cH (ao (t0 hu) (pv 3) (aU ae) (nomark _))))) g_ (ai (bn (cp PySem.F.plainAttrs_list PySem.F.slot_list_append PySem.F.type_list_append b7 (pv 2) (aa (aC T.sj (Aw T) (hr.mono (by decide)) rfl (aa (pv 4) (aa (pv 1) ae))) ae)))))))))))
   (ag (aR (ao (t0 hu) (pv 3) (aU ae) (nomark _)) (ai fV) aM)
   (ai (aP (pv 2))))))),?_⟩
 refine⟨aJ (by simp),λp1 hp1=>?_⟩;have s1:=af hp1 (.lst []);have k1:upd H p1 (.lst []) p1=some (.lst []):=ac;generalize upd H p1 (.lst [])=H1 at s1 k1⊢;refine⟨aJ (by simp),λp2 hp2=>?_⟩;have n1:=s1.free hp2;have n12:p1≠p2:=cB k1 hp2;have s2:=af hp2 (.lst []);have k2:upd H1 p2 (.lst []) p2=some (.lst []):=ac;generalize upd H1 p2 (.lst [])=H2 at s2 k2⊢;have s12:=s1.trans s2;refine⟨_,rfl,la,rfl,⟨_,s12.seq hW⟩,cm (K:=K) (a:=la) (xs:=(ts.map tx).map V.str) (λk σ G=>∃(vw:Option V) (ws:List V),σ=[some (.ref la),some .non,some (.ref p1),some (.ref p2),vw]/\ak H G/\G p1=some (.lst ws)/\G p2=some (.lst [])/\aL (NdA (hid [p1] G)) ws (ts.take k)) ⟨none,[],rfl,s12,s2 _ _ k1,k2,trivial⟩ (λk σ G _ g=>by obtain⟨_,_,_,m,_⟩:=g;exact m.seq hW) ?_ ?_⟩
 .rintro k y σ G hy ⟨vw,ws,rfl,m,g1,g2,al⟩;obtain⟨w,hw,rfl⟩:=lX hy;obtain⟨o1,o2⟩:=ok w (Ha hw);have lw:=al.len;rw[HD]at lw;refine⟨_,rfl,w,rfl,o2,λG1 m1=>⟨_,rfl,?_⟩⟩;rw[o1];refine av ?_;refine⟨_,rfl,rfl,_,rfl,?_⟩;rw[cw GI];by_cases b1:w=E3
  .rw[decide_eq_true b1];refine aQ ?_;refine⟨_,rfl,aJ (by simp),λp3 hp3=>?_⟩;have m2:=m1.trans (af hp3 (.lst []));refine⟨_,_,_,rfl,rfl,SqL.of (m2 _ _ g2),SqL.of ac,_,rfl,?_⟩;refine av ?_;refine⟨_,rfl,rfl,_,rfl,?_⟩;rw[cw Fc,decide_eq_false (λz=>by rw[b1]at z;exact absurd z (by decide))];refine av ?_;refine av ?_;refine⟨_,rfl,.inl ⟨rfl,_,SqL.of (m2 _ _ g1)⟩,_,rfl,_,rfl,w,rfl,λp4 hp4=>?_⟩;have m3:=m2.trans (af hp4 (.tup [.str "word",.str (tx w)]));refine⟨_,_,_,rfl,rfl,m3 _ _ g1,aB (by omega),?_⟩;refine⟨_,_,rfl,aW (m.trans m3) hp1,ac,?_,?_⟩
   .rw[aj (HW n12)];exact m3 _ _ g2
   .rw[br (by simp),bb hw];exact(NdsA.mono (bj m3) al).snoc ⟨p4,rfl,aZ (by simp;exact HW (cB (m2 _ _ g1) hp4)) ac⟩
  rw[decide_eq_false b1];refine av ?_;refine av ?_;refine⟨_,rfl,rfl,_,rfl,?_⟩;rw[cw Fc];by_cases b2:w=E4
  .rw[decide_eq_true b2];refine aQ ?_;refine⟨_,rfl,aJ (by simp),λp3 hp3=>?_⟩;have m2:=m1.trans (af hp3 (.lst []));refine⟨_,_,_,rfl,rfl,SqL.of (m2 _ _ g2),SqL.of ac,_,rfl,?_⟩;refine av ?_;refine⟨_,rfl,.inl ⟨rfl,_,SqL.of (m2 _ _ g1)⟩,_,rfl,_,rfl,w,rfl,λp4 hp4=>?_⟩;have m3:=m2.trans (af hp4 (.tup [.str "word",.str (tx w)]));refine⟨_,_,_,rfl,rfl,m3 _ _ g1,aB (by omega),?_⟩;refine⟨_,_,rfl,aW (m.trans m3) hp1,ac,?_,?_⟩
   .rw[aj (HW n12)];exact m3 _ _ g2
   .rw[br (by simp),bb hw];exact(NdsA.mono (bj m3) al).snoc ⟨p4,rfl,aZ (by simp;exact HW (cB (m2 _ _ g1) hp4)) ac⟩
  rw[decide_eq_false b2];refine av ?_;refine av ?_;have m2:=m1;refine⟨_,rfl,.inl ⟨rfl,_,SqL.of (m2 _ _ g1)⟩,_,rfl,_,rfl,w,rfl,λp4 hp4=>?_⟩;have m3:=m2.trans (af hp4 (.tup [.str "word",.str (tx w)]));refine⟨_,_,_,rfl,rfl,m3 _ _ g1,aB (by omega),?_⟩;refine⟨_,_,rfl,aW (m.trans m3) hp1,ac,?_,?_⟩
  .rw[aj (HW n12)];exact m3 _ _ g2
  .rw[br (by simp),bb hw];exact(NdsA.mono (bj m3) al).snoc ⟨p4,rfl,aZ (by simp;exact HW (cB (m2 _ _ g1) hp4)) ac⟩
 rintro σ G ⟨vw,ws,rfl,m,g1,g2,al⟩;rw[GT,GT,Hu]at al;refine⟨_,rfl,aJ (by simp),λp5 hp5=>?_⟩;have m2:=af hp5 (.lst []);refine⟨_,_,_,rfl,rfl,SqL.of (m2 _ _ g2),SqL.of ac,_,rfl,?_⟩;refine av ?_;exact⟨_,rfl,q p1 _ ws hp1 (m.trans m2) (m2 _ _ g1) (NdsA.mono (bT.trans m2) al)⟩
def qT(K:PySem.W.Frag)(C:Addr):Sp:=λvs H Q _=>∃(r la bt dx sa fa ta:Addr) (g:Bool) (ts:List (List Nat)) (bs:List Kw),vs=[.ref r,.ref la,.ref bt]/\H r=some (.ins C dx (fsR sa fa ta g))/\H sa=some (.lst [])/\SqL K H la ((ts.map tx).map V.str)/\SqT K H bt (bs.map kwV)/\ts.length<=130/\(∀t∈ts,pP t/\(kwL t).1∉bs)/\∀p H' ws,H p=none->ak H H'->H' p=some (.lst ws)->b8 (hid [p] H') ws (ts.map wkL)->Q (.ref p) H'
theorem eR:aN ["self","words","barred","read","kind","rest"] ["self","words","barred"] (au ie):=by walk_at "c"
theorem gF(T:Txt P w K mg a):bi P w K mg base CX0 4 a.iy a.gP ["self","words","barred"] (qT K a.bK):=by
 have cy:=T.cy;obtain⟨t_LONGEST_TEXT,cy⟩:=cy;refine T.dS.fn.ok eR (λvs H Q E h=>?_) (λcdv A outer s H vs Q E hr h=>?_)
 .obtain⟨r,la,bt,dx,sa,fa,ta,g,ts,bs,rfl,_⟩:=h;rfl
 obtain⟨r,la,bt,dx,sa,fa,ta,g,ts,bs,rfl,hr_,hs,hl,hb,tl,ok,q⟩:=h;refine⟨_,(ag (zV (k:=3) rfl (fb (caps:=[]) (js:=[]) (cap:=trivial)) (bq (aC T.sk (At T) (hr.mono (by decide)) rfl (aa (bu (pv 0) rfl) (aa (Be (dx:=.non) T.sr rfl (Ay T) (hr.mono (by decide)) rfl (aa (pv 1) ae)) ae)))) (λ_ _ _ _=>dY) (λ_ _ _ _=>(aC T.sh (Ao T) (hr.mono (by decide)) rfl (aa (pv 0) ae))) eR.nd rfl rfl)
   (ag (cg HS rfl (bq (pv 3)) (dP rfl (a9 (aO (i:=4) eR.nd rfl (Hh rfl)) (a9 (aO (i:=5) eR.nd rfl (Hh rfl)) c_))) (ag (aR (ao hU (pv 4) (pv 2) (by with_unfolding_all rfl)) (ai fV) aM)
   (ai (aR (PW.pt (cY (ao a_ (pv 4) am (nomark _)) (cH (ao j_ (aV dt rfl T.cr PySem.boot_len (aa (pv 5) ae)) (bW (v:=.int 60) rfl cy ⟨_,rfl⟩) (nomark _))))) (ai fV) aM))))
   (ai (aP (pv 3))))),?_⟩
 refine⟨_,rfl,_,_,_,_,_,rfl,hr_,T.bF.cl,T.jq,Br,_,rfl,la,ts,rfl,hl,tl,(λt ht=>⟨(ok t ht).1.opn,by have:=(ok t ht).1.len;omega⟩),λp1 H1 ws hp1 s1 k1 al=>?_⟩;refine⟨sa,p1,ws,ts,rfl,s1 _ _ hs,k1,al,tl,λp2 H2 hp2 s2 k2=>?_⟩;have s12:=s1.trans s2;refine⟨p2,rfl,⟨_,SqL.of k2⟩,eD (K:=K) (a:=p2) (xs:=(ts.map tx).map V.str) (λi ys G=>ak H2 G/\ys.length=i/\b8 G ys ((ts.take i).map wkL)) ⟨ak.refl _,rfl,trivial⟩ (λi ys G _ g=>SqL.of (g.1 _ _ k2)) ?_ ?_ ?_⟩
 .rintro i ys G hi ⟨_,e,_⟩;rw[GT,GT]at hi;rw[e];exact aB (by omega)
 .rintro i y ys G hy ⟨m,e,al⟩;obtain⟨t,ht,rfl⟩:=lX hy;have gd:=(ok t (Ha ht)).1;refine eI ?_;cases t with
  |nil=>exact absurd rfl gd.ne
  |cons c u =>
  have gl:=gd.len;simp only[GU]at gl;refine⟨_,rfl,c,u,rfl,by omega,λp H3 hp m3 k3=>⟨m.trans m3,by rw[GX,e];rfl,?_⟩⟩;rw[bb ht,Hc];refine(b8.mono m3 al).snoc ⟨p,rfl,?_⟩;obtain⟨e1,e2⟩:=Eb (c::u);rw[k3,e1,e2];rfl
 rintro ys G ⟨m,e,al⟩ p3 hp3;rw[GT,GT]at e;rw[GT,GT,Hu]at al;have hfree:=(s12.trans m).free hp3;have s3:=af hp3 (.lst ys);have k3:upd G p3 (.lst ys) p3=some (.lst ys):=ac;have al3:=b8.mono (jr s3 (os:=[p3]) (λb hb=>by rw[List.mem_singleton.mp hb];exact hp3)) al;generalize upd G p3 (.lst ys)=G3 at s3 k3 al3⊢;have s13:=s12.trans (m.trans s3);refine⟨_,rfl,p3,rfl,⟨_,SqL.of k3⟩,cm (K:=K) (a:=p3) (xs:=ys) (λi σ G=>∃(v1 v2:Option V),σ=[some (.ref r),some (.ref la),some (.ref bt),some (.ref p3),v1,v2]/\ak G3 G) ⟨none,none,rfl,ak.refl _⟩ (λi σ G _ g=>by obtain⟨_,_,_,m⟩:=g;exact SqL.of (m _ _ k3)) ?_ ?_⟩
 .rintro i y σ G hy ⟨v1,v2,rfl,m⟩;obtain⟨w,hw,b,rfl,hb'⟩:=al3.getL hy;rw[HA]at hw;obtain⟨t,ht,rfl⟩:=Option.map_eq_some_iff.mp hw;obtain⟨gd,nb⟩:=ok t (Ha ht);have hG:=m _ _ (bT _ _ hb');refine⟨b,_,rfl,SqT.of hG,rfl,_,_,rfl,_,_,rfl,rfl,?_⟩;refine⟨_,rfl,_,rfl,_,_,rfl,.inr ((s13.trans m).tup hb),rfl,yd bs,_,rfl,?_⟩;change (if(if false=true then _ else inV (kwV (wkL t).1) (bs.map kwV))=true then _ else _);rw[tP (k:=(wkL t).1) nb];refine av ?_;dsimp only[dq];refine⟨_,rfl,rfl,_,rfl,?_⟩;by_cases pk:(kwL t).1=.plain
  .refine d_ (λ_=>?_) (λ_=>?_)
   .have pl:=gd.pl pk;refine⟨_,rfl,_,rfl,aJ (by rw[bf];omega),_,_,rfl,rfl,_,rfl,?_⟩;rw[bf,decide_eq_false (by omega)];refine av ?_;exact⟨_,_,rfl,m⟩
   .refine av ?_;exact⟨_,_,rfl,m⟩
  .have:¬ (V.str (wkL t).1.s=V.str "plain"):=λz=>pk (Kw.inj (b:=.plain) (V.str.inj z));rw[decide_eq_false this];refine av ?_;refine av ?_;exact⟨_,_,rfl,m⟩
 rintro σ G ⟨v1,v2,rfl,m⟩;exact⟨_,rfl,q p3 G ys (hfree) (s13.trans m) (m _ _ k3) (b8.mono (bj m) al3)⟩
def qU(K:PySem.W.Frag)(C:Addr):Sp:=λvs H Q _=>∃(r la:Addr) (H0:Hp) (s:Rs) (n:List Nat) (ts:List (List Nat)),vs=[.ref r,.ref la]/\RdA C H0 H r s/\SqL K H la (((dN::n::ts).map tx).map V.str)/\bQ n=true/\n.length<=12/\ts.length<=39/\(∀t∈ts,pP t/\(kwL t).1∉[Kw.mark,Kw.foot])/\lkS (tx n) s.feet=none/\s.feet.length<=200/\∀H',RdA C H0 H' r (bV s (.foot (tx n) (ts.map wkL)))->Q .non H'
theorem gG:aN ["self","words","name","text"] ["self","words"] (au ig):=by walk_at "c"
theorem qV(T:Txt P w K mg a):bi P w K mg base CX0 5 a.iu a.gO ["self","words"] (qU K a.bK):=by
 have bX:=T.bX;obtain⟨t_MOST_FOOT_WORDS,bX⟩:=bX;refine T.im.fn.ok gG (λvs H Q E h=>?_) (λcdv A outer s H vs Q E hr h=>?_)
 .obtain⟨r,la,H0,s,n,ts,rfl,_⟩:=h;rfl
 obtain⟨r,la,H0,s,n,ts,rfl,R,hl,nn,nl,tl,ok,nt,sl,q⟩:=h;refine⟨_,(ag (aR (PW.pt (jy (ao wW (aV bN rfl T.cr PySem.boot_len (aa (pv 1) ae)) ah (nomark _)) (jx (ED (lQ (aC T.kG (qd T) (hr.mono (by decide)) rfl (aa (aS bS (pv 1) ah (λ_ _=>rfl)) ae)) (λ_=>rfl)))))) (ai fV) aM)
   (ag (ay (i:=2) gG.nd rfl (Hh rfl) (aS bS (pv 1) ah (λ_ _=>rfl)))
   (ag (aR (ao (pM (dB hr)) (pv 2) (bu (pv 0) rfl) (by with_unfolding_all rfl)) (ai fV) aM)
   (ag (ay (i:=3) gG.nd rfl (Hh rfl) (dC eQ T.bF T.dS (gF T) (hr.mono (by decide)) (pv 0) (aa (dF oU (pv 1) (dX ah) eS) (aa (aY (aa am (aa am ae))) ae))))
   (ag (aR (ao j_ (aV bN rfl T.cr PySem.boot_len (aa (pv 3) ae)) (bW (v:=.int 39) rfl bX ⟨_,rfl⟩) (nomark _)) (ai fV) aM)
   (ai (sU (dB hr) (bu (pv 0) rfl) (pv 2) (pv 3) rfl))))))),?_⟩
 refine⟨_,rfl,_,_,rfl,.inl hl,_,_,rfl,rfl,_,rfl,?_⟩;rw[decide_eq_false (show ¬ ((((((dN::n::ts).map tx).map V.str).length:Nat):Int)<2) by simp;omega)];refine av ?_;refine⟨_,rfl,_,_,_,_,rfl,rfl,hl,dy (j:=1) rfl,n,rfl,(by omega),λH1 s1=>⟨_,rfl,?_⟩⟩;rw[nn];refine av ?_;dsimp only[dq];refine⟨_,rfl,_,_,_,_,rfl,rfl,s1.seq hl,dy (j:=1) rfl,?_⟩;obtain⟨dx,sa,fa,ta,kvs,vs,h1,h2,h3,h4,lv,lf,fn,put,stop,foot,_⟩:=(R.same s1).use;refine⟨_,rfl,_,rfl,_,_,_,_,_,rfl,h1,T.bF.cl,T.fR,vt,_,_,rfl,e_.k (k:=.inr (tx n)) h3,_,rfl,?_⟩;rw[fn _ nt];refine av ?_;dsimp only[dq];refine⟨_,rfl,_,_,_,rfl,h1,nS (by decide +kernel),_,rfl,_,rfl,_,_,rfl,s1.seq hl,λp1 hp1=>?_⟩;have s2:=af hp1 (.lst (hJ (((dN::n::ts).map tx).map V.str) (some 2) none));have k2:upd H1 p1 (.lst (hJ (((dN::n::ts).map tx).map V.str) (some 2) none)) p1=some (.lst ((ts.map tx).map V.str)):=by
  rw[ac];have:=Tl.cut_from (((dN::n::ts).map tx).map V.str) 2;exact congrArg (λl=>some (HO.lst l)) this
 generalize upd H1 p1 (.lst (hJ (((dN::n::ts).map tx).map V.str) (some 2) none))=H2 at s2 k2⊢;refine⟨le2,λp2 hp2=>?_⟩;have s3:=af hp2 (.tup [kwV .mark,kwV .foot]);have k3:upd H2 p2 (.tup [kwV .mark,kwV .foot]) p2=some (.tup [kwV .mark,kwV .foot]):=ac;have s23:=s2.trans s3;refine⟨r,p1,p2,dx,sa,fa,ta,s.g,ts,[.mark,.foot],rfl,s23 _ _ h1,s23 _ _ h2,SqL.of (s3 _ _ k2),SqT.of k3,(by omega),ok,λp4 H4 ws hp4 s4 k4 al=>?_⟩;have s14:=s23.trans s4;have lw:=al.len;rw[GT]at lw;refine⟨_,rfl,_,_,rfl,.inl (SqL.of k4),_,_,rfl,rfl,_,rfl,?_⟩;rw[decide_eq_false (by omega)];refine av ?_;dsimp only[dq];refine⟨_,rfl,_,rfl,_,_,_,_,_,rfl,s14 _ _ h1,T.bF.cl,T.fR,vt,_,rfl,_,_,rfl,rc.k (k:=.inr (tx n)) (s14 _ _ h3) (aB (by omega)),?_⟩;rw[pI _ (fn _ nt)];exact q _ (foot H4 _ p4 _ s14 (s23.free hp4) ⟨ws,k4,b8.mono bT al⟩)
def qi(K:PySem.W.Frag)(C:Addr):Sp:=λvs H Q _=>∃(r la:Addr) (H0:Hp) (s:Rs) (ts:List (List Nat)),vs=[.ref r,.ref la]/\RdA C H0 H r s/\SqL K H la ((ts.map tx).map V.str)/\ts.length<=130/\(∀t∈ts,pP t)/\s.things.length<=200/\tgS s.things<=500/\∀H',RdA C H0 H' r (bV s (.par (ts.map wkL)))->Q .non H'
theorem jL:aN ["self","words","read"] ["self","words"] (au gz):=by walk_at "c"
theorem qj(T:Txt P w K mg a):bi P w K mg base CX0 5 a.gL a.gc ["self","words"] (qi K a.bK):=by
 refine T.gI.fn.ok jL (λvs H Q E h=>?_) (λcdv A outer s H vs Q E hr h=>?_)
 .obtain⟨r,la,H0,s,ts,rfl,_⟩:=h;rfl
 obtain⟨r,la,H0,s,ts,rfl,R,hl,tl,ok,sl,sn,q⟩:=h;refine⟨_,(ag (ay (i:=2) jL.nd rfl (Hh rfl) (dC eQ T.bF T.dS (gF T) (hr.mono (by decide)) (pv 0) (aa (pv 1) (aa (aY ae) ae))))
   (ai (aR (lQ (bu (pv 0) rfl) (λ_=>rfl)) (ai (bn (cp PySem.F.plainAttrs_list PySem.F.slot_list_extend PySem.F.type_list_extend ky (aS bM (aS bS (bu (pv 0) rfl) (sP oS ah) (λ_ _=>rfl)) ah (λ_ _=>rfl)) (aa (pv 2) ae)))) (ag (bn (dC eQ T.bF T.dR (gE T) (hr.mono (by decide)) (pv 0) (aa (aY (aa am (aa (pv 2) ae))) ae)))
   (ai (db (pv 0) d9 rfl)))))),?_⟩
 obtain⟨dx,sa,fa,ta,kvs,vs,h1,h2,h3,h4,lv,lf,fn,put,stop,foot,more,first,_⟩:=R.use
 refine⟨_,rfl,_,_,_,rfl,h1,nS (by decide +kernel),_,rfl,aJ (by simp),λp1 hp1=>?_⟩;have s1:=af hp1 (.tup []);refine⟨r,la,p1,dx,sa,fa,ta,s.g,ts,[],rfl,s1 _ _ h1,s1 _ _ h2,s1.seq hl,SqT.of ac,tl,(λt ht=>⟨ok t ht,by simp⟩),λp2 H2 ws hp2 s2 k2 al=>?_⟩;dsimp only[bB];have s12:=s1.trans s2;refine⟨_,rfl,_,_,_,_,_,rfl,s12 _ _ h1,T.bF.cl,T.dh,yZ,_,rfl,?_⟩;by_cases g:s.g=true
 .rw[g];refine aQ ?_;obtain⟨vi,a,lo,wvs,ini,ws0,e1,e2,e3,e4,e5,key⟩:=more g;have hw:=D8 (ini:=ini) (ws:=ws0);rw[<-e4]at hw;have lw:=al.len;rw[GT]at lw;refine⟨_,rfl,_,_,_,_,_,rfl,s12 _ _ h1,T.bF.cl,T.eO,rp,_,rfl,_,_,_,_,rfl,rfl,SqL.of (s12 _ _ h4),(by rw[e1];exact jZ _ _),_,_,_,_,rfl,rfl,SqT.of (s12 _ _ e2),rfl,.inl ⟨rfl,_,SqL.of (s12 _ _ e3)⟩,_,rfl,_,_,_,_,rfl,rfl,s12 _ _ e3,k2,HM (aB (by omega)),?_⟩;have:=key H2 ws (ts.map wkL) s12 (b8.mono bT al);refine q _ ?_;rw[show bV s (.par (ts.map wkL))={ s with things:=ci (ts.map wkL) s.things }from by unfold bV;exact if_pos g];exact this
 .rw[IG]at g;rw[g];refine av ?_;refine⟨_,rfl,_,_,_,rfl,s12 _ _ h1,nS (by decide +kernel),_,rfl,le2,λp3 hp3=>?_⟩;have s3:=af hp3 (.tup [.str "paragraph",.ref p2]);have k3:upd H2 p3 (.tup [.str "paragraph",.ref p2]) p3=some (.tup [.str "paragraph",.ref p2]):=ac;have s13:=s12.trans s3;have hp2':=s1.free hp2;generalize upd H2 p3 (.tup [.str "paragraph",.ref p2])=H3 at s3 k3 s13⊢;have la2:cZ H3 p2 (ts.map wkL):=⟨ws,s3 _ _ k2,b8.mono (bT.trans s3) al⟩;refine⟨r,.ref p3,H0,H,s,.par (ts.map wkL),rfl,R,s13,⟨p3,p2,rfl,k3,hp2',la2⟩,sl,λH4 R4 e4=>?_⟩;have e4:=e4 _ _ _ _ _ _ h1 h4;have h4':H4 r=some (.ins a.bK dx (fsR sa fa ta false)):=by rw[e4];exact ac
  refine⟨_,rfl,_,_,_,_,rfl,h4',T.bF.cl,T.dh,vx,?_⟩;rw[rq,e4];refine q _ ?_;rw[show bV s (.par (ts.map wkL))={ s with things:=s.things++[.par (ts.map wkL)],g:=true }from by unfold bV;exact if_neg (by rw[g];decide)];exact first H3 p3 p2 _ s13 k3 hp2' la2
def rY(K:PySem.W.Frag)(C:Addr):Sp:=λvs H Q _=>∃(r la:Addr) (H0:Hp) (s:Rs) (ts:List (List Nat)) (rw:Rw),vs=[.ref r,.ref la]/\RdA C H0 H r s/\SqL K H la ((ts.map tx).map V.str)/\jI ts rw/\C1 s rw/\s.things.length<=200/\tgS s.things<=500/\s.feet.length<=200/\∀H',RdA C H0 H' r (bV s rw)->Q .non H'
theorem kE:aN ["self","words","first"] ["self","words"] (au iT):=by walk_at "c"
theorem rZ(T:Txt P w K mg a):bi P w K mg base CX0 6 a.i6 a.iD ["self","words"] (rY K a.bK):=by
 have gt:=T.gt;have gu:=T.gu;obtain⟨gt,k_ALONE⟩:=gt;obtain⟨gu,k_HEADS⟩:=gu;refine T.iX.fn.ok kE (λvs H Q E h=>?_) (λcdv A outer s H vs Q E hr h=>?_)
 .obtain⟨r,la,H0,s,ts,rw,rfl,_⟩:=h;rfl
 obtain⟨r,la,H0,s,ts,rw,rfl,R,hl,ri,tw,sl,sn,fl,q⟩:=h;have hu:=IJ (dB hr);refine⟨_,(ag (aR (ao (tZ hu) (pv 1) (aU ae) (nomark _)) (ag (db (pv 0) d9 rfl)
   (ai DF)) aM)
   (ag (ay (i:=2) kE.nd rfl (Hh rfl) (aS bS (pv 1) ah (λ_ _=>rfl)))
   (ai (aR (ao a_ (pv 2) am (nomark _)) g_ (ai (aR (ao a_ (pv 2) am (nomark _)) (ai (bn (dC eQ T.bF T.im (qV T) (hr.mono (by decide)) (pv 0) (aa (pv 1) ae)))) (ai (aR (ao hU (pv 2) (bW (v:=.ref a.ju) rfl gt rfl) (by with_unfolding_all rfl)) (ai (bn (dC eQ T.bF T.gH (qc T) (hr.mono (by decide)) (pv 0) (aa (pv 1) ae)))) (ai (aR (ao hU (pv 2) (bW (v:=.ref a.jv) rfl gu rfl) (by with_unfolding_all rfl)) (ai (bn (dC eQ T.bF T.dR (gE T) (hr.mono (by decide)) (pv 0) (aa (aY (aa am (aa (aV dt rfl T.cr PySem.boot_len (aa (pv 2) ae)) (aa (dC eQ T.bF T.dS (gF T) (hr.mono (by decide)) (pv 0) (aa (dF oU (pv 1) (dX ah) eS) (aa (aY (aa am ae)) ae))) ae)))) ae)))) (ai (aR (ao a_ (aS eV (pv 2) ah (λ_ _=>rfl)) am (nomark _)) (ai fV) (ai (bn (dC eQ T.bF T.gI (qj T) (hr.mono (by decide)) (pv 0) (aa (pv 1) ae)))))))))))))))),?_⟩
 refine⟨_,rfl,aJ (by simp),λp1 hp1=>?_⟩;have s1:=af hp1 (.lst []);have k1:upd H p1 (.lst []) p1=some (.lst []):=ac;generalize upd H p1 (.lst [])=H1 at s1 k1⊢;have R1:=R.same s1;have hl1:=s1.seq hl;refine⟨_,_,_,rfl,rfl,hl1,SqL.of k1,_,rfl,?_⟩;obtain⟨dx,sa,fa,ta,kvs,vs,h1,h2,h3,h4,lv,lf,fn,put,stop,_⟩:=R1.use;have eA:∀w:List Nat,inV (.str (tx w)) [.str (PySem.Str.ofString ".page"),.str (PySem.Str.ofString ".odd"),.str (PySem.Str.ofString ".list")]=decide (w∈[tf,vE,nC]):=λw=>by
  rw[Dq,Fd,Ab];exact rB [tf,vE,nC]
 have eH:∀w:List Nat,inV (.str (tx w)) [.str (PySem.Str.ofString "="),.str (PySem.Str.ofString "=="),.str (PySem.Str.ofString "===")]=decide (w∈[[61],[61,61],[61,61,61]]):=λw=>by
  rw[cH1,cH2,cH3];exact rB [[61],[61,61],[61,61,61]]
 cases ri with
 |empty =>
  refine aQ ?_;refine⟨_,rfl,_,_,_,_,rfl,h1,T.bF.cl,T.dh,vx,?_⟩;rw[rq];exact q _ (stop H1 (ak.refl _))
 |@foot n ts nn nl tl ok =>
  refine av ?_;refine⟨_,rfl,_,_,_,_,rfl,rfl,hl1,dy (j:=0) rfl,?_⟩;refine⟨_,rfl,rfl,_,rfl,?_⟩;rw[cw Aa,decide_eq_false (by decide)];refine av ?_;refine⟨_,rfl,rfl,_,rfl,?_⟩;rw[cw kg,decide_eq_true rfl];refine aQ ?_;exact⟨_,rfl,_,_,_,rfl,h1,nS (by decide +kernel),_,rfl,r,la,H0,s,n,ts,rfl,R1,hl1,nn,nl,tl,ok,tw,fl,λH' R'=>q H' R'⟩
 |@alone w rw al =>
  refine av ?_;refine⟨_,rfl,_,_,_,_,rfl,rfl,hl1,dy (j:=0) rfl,?_⟩;refine⟨_,rfl,rfl,_,rfl,?_⟩;rw[cw Aa,decide_eq_false (by rcases al with⟨rfl,_⟩|⟨rfl,_⟩|⟨rfl,_⟩<;>decide)]
  refine av ?_;refine⟨_,rfl,rfl,_,rfl,?_⟩;rw[cw kg,decide_eq_false (by rcases al with⟨rfl,_⟩|⟨rfl,_⟩|⟨rfl,_⟩<;>decide)]
  refine av ?_;refine⟨_,rfl,_,_,rfl,.inr (k_ALONE _),rfl,rfl,_,rfl,?_⟩;rw[eA,decide_eq_true (by rcases al with⟨rfl,_⟩|⟨rfl,_⟩|⟨rfl,_⟩<;>decide)]
  refine aQ ?_;exact⟨_,rfl,_,_,_,rfl,h1,nS (by decide +kernel),_,rfl,r,la,H0,s,w,rw,rfl,R1,hl1,al,sl,λH' R'=>q H' R'⟩
 |@head k ts k3 tl ok =>
  refine av ?_;refine⟨_,rfl,_,_,_,_,rfl,rfl,hl1,dy (j:=0) rfl,?_⟩;have kk:Hd (k+1) 61∈[[61],[61,61],[61,61,61]]:=by
   rcases(show k=0\/k=1\/k=2 by omega)with rfl|rfl|rfl<;>decide
  refine⟨_,rfl,rfl,_,rfl,?_⟩;rw[cw Aa,decide_eq_false (λz=>by rw[z]at kk;exact absurd kk (by decide))];refine av ?_;refine⟨_,rfl,rfl,_,rfl,?_⟩;rw[cw kg,decide_eq_false (λz=>by rw[z]at kk;exact absurd kk (by decide))];refine av ?_;refine⟨_,rfl,_,_,rfl,.inr (k_ALONE _),rfl,rfl,_,rfl,?_⟩;rw[eA,decide_eq_false (λz=>by rcases(show k=0\/k=1\/k=2 by omega)with rfl|rfl|rfl<;>exact absurd z (by decide))]
  refine av ?_;refine⟨_,rfl,_,_,rfl,.inr (k_HEADS _),rfl,rfl,_,rfl,?_⟩;rw[eH,decide_eq_true kk];refine aQ ?_;refine⟨_,rfl,_,_,_,rfl,h1,nS (by decide +kernel),_,rfl,_,rfl,aB (by rw[Ib];omega),_,rfl,_,_,_,rfl,h1,nS (by decide +kernel),_,rfl,_,rfl,_,_,rfl,hl1,λp2 hp2=>?_⟩;have s2:=af hp2 (.lst (hJ (((Hd (k+1) 61::ts).map tx).map V.str) (some 1) none));have k2:upd H1 p2 (.lst (hJ (((Hd (k+1) 61::ts).map tx).map V.str) (some 1) none)) p2=some (.lst ((ts.map tx).map V.str)):=by
   rw[ac];have:=Tl.cut_from (((Hd (k+1) 61::ts).map tx).map V.str) 1;exact congrArg (λl=>some (HO.lst l)) this
  generalize upd H1 p2 (.lst (hJ (((Hd (k+1) 61::ts).map tx).map V.str) (some 1) none))=H2 at s2 k2⊢;refine⟨le1,λp3 hp3=>?_⟩;have s3:=af hp3 (.tup [kwV .foot]);have k3':upd H2 p3 (.tup [kwV .foot]) p3=some (.tup [kwV .foot]):=ac;change _ at s3;have s23:=s2.trans s3;refine⟨r,p2,p3,dx,sa,fa,ta,s.g,ts,[.foot],rfl,s23 _ _ h1,s23 _ _ h2,SqL.of (s3 _ _ k2),SqT.of k3',(by omega),ok,λp4 H4 ws hp4 s4 k4 al=>?_⟩;have s14:=s23.trans s4;refine⟨le3,λp5 hp5=>?_⟩;have s5:=af hp5 (.tup [.str "head",.int (((Hd (k+1) 61).length:Nat):Int),.ref p4]);refine⟨r,.ref p5,H0,H1,s,.head (k+1) (ts.map wkL),rfl,R1,s14.trans s5,⟨p5,p4,rfl,?_,s23.free hp4,ws,s5 _ _ k4,b8.mono (bT.trans s5) al⟩,sl,λH' R' _=>q H' R'⟩;exact ac.trans (by rw[bf,Ib])
 |@par c u ts c46 nh tl ok =>
  refine av ?_;refine⟨_,rfl,_,_,_,_,rfl,rfl,hl1,dy (j:=0) rfl,?_⟩;refine⟨_,rfl,rfl,_,rfl,?_⟩;rw[cw Aa,decide_eq_false (λz=>c46 (by injection z))];refine av ?_;refine⟨_,rfl,rfl,_,rfl,?_⟩;rw[cw kg,decide_eq_false (λz=>c46 (by injection z))];refine av ?_;refine⟨_,rfl,_,_,rfl,.inr (k_ALONE _),rfl,rfl,_,rfl,?_⟩;rw[eA,decide_eq_false (λz=>by
   simp only[Ih,H_,or_false]at z;rcases z with z|z|z<;>exact c46 (by injection z))]
  refine av ?_;refine⟨_,rfl,_,_,rfl,.inr (k_HEADS _),rfl,rfl,_,rfl,?_⟩;rw[eH,decide_eq_false nh];refine av ?_;refine⟨_,rfl,_,_,_,rfl,rfl,aB (by have:=(ok _ He).len;simp only[GU]at this;omega),iJ _ _,rfl,_,rfl,?_⟩;rw[cw GK,decide_eq_false (λz=>c46 (by injection z))];refine av ?_;exact⟨_,rfl,_,_,_,rfl,h1,nS (by decide +kernel),_,rfl,r,la,H0,s,_,rfl,R1,hl1,(by simp only[GU];omega),ok,sl,sn,λH' R'=>q H' R'⟩
def y7:Sp:=λvs H Q _=>∃l:List Nat,vs=[.str (tx l)]/\l.length<=200000/\∀p H',H p=none->ak H H'->H' p=some (.lst (((de l).map tx).map V.str))->Q (.ref p) H'
theorem y8:aN ["row"] ["row"] (au pX):=by walk_at "c"
theorem y9(T:Txt P w K mg a):bi P w K mg base CX0 1 a.qu a.oP ["row"] y7:=by
 refine T.qo.fn.ok y8 (λvs H Q E h=>?_) (λcdv A outer s H vs Q E hr h=>?_)
 .obtain⟨l,rfl,_⟩:=h;rfl
 obtain⟨l,rfl,hl,q⟩:=h;refine⟨_,(ai (aP (gW rfl (fb (caps:=[]) (js:=[]) (cap:=trivial)) (bq (cp PySem.F.plainAttrs_str PySem.F.slot_str_split PySem.F.type_str_split A7 (pv 0) (aa am ae))) (λ_ _ _ _=>(jW (ao jz (pv 0) am (nomark _)))) (λ_ _ _ _=>(pv 0))))),?_⟩;have hs:=u7 32 l;refine⟨_,rfl,rfl,_,32,rfl,congrArg (λz=>[V.str z]) c32,?_,λp1 hp1=>?_⟩
 .rw[bf];exact Bb (by omega)
 rw[Ct];refine⟨p1,rfl,⟨_,SqL.of ac⟩,eD (xs:=((bw 32 l).map tx).map V.str) (λi ys H2=>H2=upd H p1 (.lst (((bw 32 l).map tx).map V.str))/\ys=((neW ((bw 32 l).take i)).map tx).map V.str) ⟨rfl,rfl⟩ ?_ ?_ ?_ ?_⟩
 .rintro i ys H2 _ ⟨rfl,_⟩;exact SqL.of ac
 .rintro i ys H2 hi ⟨rfl,rfl⟩;rw[GT,GT];have h1:(neW ((bw 32 l).take i)).length<=((bw 32 l).take i).length:=IC _ _;rw[HD]at h1;exact Hx (show _<1000000 by omega) (Bb (G_ _))
 .rintro i x ys H2 hx ⟨rfl,rfl⟩;obtain⟨w,hw,rfl⟩:=lX hx;refine⟨_,rfl,rfl,_,rfl,?_⟩;rw[IB,hw];show if(!decide (V.str (tx w)=V.str (PySem.Str.ofString "")))=true then _ else _;rw[show(some w).toList=[w]from rfl,CY];refine d_ (λc=>?_) (λc=>?_)
  .refine⟨_,rfl,rfl,?_⟩;have hne:w≠[]:=by
    intro e;rw[e,ce]at c;rw[decide_eq_true rfl]at c;cases c
   rw[if_neg hne];simp
  .have hne:w=[]:=by
    by_cases e:V.str (tx w)=V.str (PySem.Str.ofString "")
    .rw[ce]at e;exact jA (V.str.inj e)
    .rw[decide_eq_false e]at c;exact absurd rfl c
   rw[if_pos hne];exact⟨rfl,rfl⟩
 .rintro ys H2 ⟨rfl,rfl⟩ p hp;have el:(((bw 32 l).map tx).map V.str).length=(bw 32 l).length:=by rw[GT,GT]
  rw[el,Ik (G_ _)];have g1:=af hp1 (.lst (((bw 32 l).map tx).map V.str));exact q p _ (g1.free hp) (g1.trans (af hp _)) ac
def yy(K:PySem.W.Frag):Sp:=λvs H Q _=>∃(ra:Addr) (rs:List (List Nat)) (rws:List Rw),vs=[.ref ra]/\SqL K H ra ((rs.map tx).map V.str)/\lY rs rws/\rs.length<=200/\lK rs0 rws/\(rws.map rwN).sum<=500/\∀p H' ta fa vs kvs,H p=none->ak H H'->H' p=some (.tup [.ref ta,.ref fa])->H ta=none->H fa=none->H' ta=some (.lst vs)->H' fa=some (.dK kvs)->fF H' vs (a7 rs0 rws).things->FtA H' kvs (a7 rs0 rws).feet->Q (.ref p) H'
theorem mi:aN ["rows","reader","row"] ["rows"] (au nY):=by walk_at "c"
theorem yz(T:Txt P w K mg a):bi P w K mg base CX0 7 a.oH a.mL ["rows"] (yy K):=by
 refine T.ox.fn.ok mi (λvs H Q E h=>?_) (λcdv A outer s H vs Q E hr h=>?_)
 .obtain⟨ra,rs,rws,rfl,_⟩:=h;rfl
 obtain⟨ra,rs,rws,rfl,hr_,ar,rl,tw,sm,q⟩:=h;refine⟨_,(ag (ay (i:=1) mi.nd rfl (Hh rfl) (DY eQ T.bF T.kQ (vM T) (hr.mono (by decide)) rfl ))
   (ag (cg HS rfl (bq (pv 0)) (aO (i:=2) mi.nd rfl (Hh rfl)) (ai (bn (dC eQ T.bF T.iX (rZ T) (hr.mono (by decide)) (pv 1) (aa (aC T.qo (y9 T) (hr.mono (by decide)) rfl (aa (pv 2) ae)) ae)))))
   (ai (aP (aY (aa (bu (pv 1) rfl) (aa (bu (pv 1) rfl) ae))))))),?_⟩
 intro x dx hx hdx ndx;have sd:=af hdx (.own x);have hx1:upd H dx (.own x) x=none:=by rw[aj (HW ndx)];exact hx
 have s1:=sd.trans (af hx1 (.ins a.bK dx []));have k1:upd (upd H dx (.own x)) x (.ins a.bK dx []) x=some (.ins a.bK dx []):=ac;refine⟨x,dx,rfl,k1,λH1 r1 f1=>?_⟩;have R0:=r1 H s1 hx;have al:=ar.len;refine⟨rfl,?_⟩;refine⟨_,rfl,ra,rfl,⟨_,R0.old.seq hr_⟩,cm (K:=K) (a:=ra) (xs:=(rs.map tx).map V.str) (λi σ G=>∃(v1:Option V),σ=[some (.ref ra),some (.ref x),v1]/\RdA a.bK H G x (a7 rs0 (rws.take i))) ⟨none,rfl,R0⟩ (λi σ G _ g=>by obtain⟨_,_,R⟩:=g;exact R.old.seq hr_) ?_ ?_⟩
 .rintro i y σ G hy ⟨v1,rfl,R⟩;obtain⟨l,hl,rfl⟩:=lX hy;have hi:=(List.getElem?_eq_some_iff.mp hl).1;obtain⟨rw,hw,l2,ri⟩:=ar.get hl;obtain⟨dx',sa,fa,ta,kvs,vs,h1,h2,h3,h4,_⟩:=R.use;have n1:=vz (rws.take i) rs0;have n2:=tN rwN rws i;have n3:=List.length_take_le i rws;simp only[rs0,tgS,Kg,Lo,Hk,Ki]at n1;refine⟨_,rfl,_,_,_,rfl,h1,nS (by decide +kernel),_,rfl,l,rfl,(by omega),λp H2 hp s2 k2=>?_⟩;refine⟨x,p,H,_,de l,rw,rfl,R.same s2,SqL.of k2,ri,tw.at hw,(by simp only[rs0];omega),(by simp only[rs0,tgS];omega),(by simp only[rs0];omega),λH3 R3=>?_⟩;refine⟨_,rfl,?_⟩;rw[bb hw,Bq];exact R3
 rintro σ G ⟨v1,rfl,R⟩;rw[GT,GT,al,Hu]at R;obtain⟨dx',sa,fa,ta,kvs,vs,h1,h2,h3,h4,_,_,_,_,_,_,_,_,ft,tg,n1,n2⟩:=R.use;refine⟨_,rfl,_,_,_,_,_,rfl,h1,T.bF.cl,T.eO,rp,_,rfl,_,_,_,_,_,rfl,h1,T.bF.cl,T.fR,vt,le2,λp1 hp1=>?_⟩;have s5:=af hp1 (.tup [.ref ta,.ref fa]);exact q p1 _ ta fa vs kvs (R.old.free hp1) (R.old.trans s5) ac n2 n1 (s5 _ _ h4) (s5 _ _ h3) (fF.mono s5 tg) (ft.mono s5)

theorem Fp{ls:List Int}{i:Nat}(hl:ls.length<=63):(ctr (ls.take i)).1<=63/\(ctr (ls.take i)).2.1<=63/\(ctr (ls.take i)).2.2<=63:=by
 obtain⟨a,b,c⟩:=BH (ls.take i);have:=List.length_take_le i ls;have h2:=List.length_take_le' i ls;omega
theorem Ej{c:Nat×Nat×Nat}{l:Int}(h1:c.1<=63)(h2:c.2.1<=63)(h3:c.2.2<=63):(eK c l).length<=20/\∀d∈eK c l,d<127:=by
 have f1:=xf h1;have f2:=xf h2;have f3:=xf h3;have fi:∀n d,d∈aX n->d<127:=λn d hd=>by have:=DV n d hd;omega
 unfold eK;by_cases e1:l=1
 .rw[if_pos e1];exact⟨by omega,λd hd=>fi _ d hd⟩
 rw[if_neg e1];by_cases e2:l=2
 .rw[if_pos e2];refine⟨by simp only[GX,GU,Hk];omega,λd hd=>?_⟩;rcases List.mem_append.mp hd with hd|hd
  .rcases List.mem_append.mp hd with hd|hd
   .exact fi _ d hd
   .rw[List.mem_singleton.mp hd];decide
  .exact fi _ d hd
 rw[if_neg e2];refine⟨by simp only[GX,GU,Hk];omega,λd hd=>?_⟩;rcases List.mem_append.mp hd with hd|hd
 .rcases List.mem_append.mp hd with hd|hd
  .exact fi _ d hd
  .rw[List.mem_singleton.mp hd];decide
 .rcases List.mem_append.mp hd with hd|hd
  .rcases List.mem_append.mp hd with hd|hd
   .exact fi _ d hd
   .rw[List.mem_singleton.mp hd];decide
  .exact fi _ d hd
theorem fU{n:Nat}{ws:List Wk}:∀{ts:List Tg},(n,ws)∈aG ts->Tg.head n ws∈ts
 |[],h=>by cases h
 |t::r,h=>by
  cases t with
  |head m us =>
   rcases List.mem_cons.mp h with e|h
   .cases e;exact He
   .exact Hb _ (fU h)
  |page=>exact Hb _ (fU (ts:=r) h)
  |odd=>exact Hb _ (fU (ts:=r) h)
  |lst=>exact Hb _ (fU (ts:=r) h)
  |par us=>exact Hb _ (fU (ts:=r) h)
theorem dA:∀(a b:List Tg),aG (a++b)=aG a++aG b
 |[],b=>rfl
 |t::r,b=>by cases t<;>simp[aG,dA r b]
theorem r9(t:Tg):(aG [t]).length=d8 t:=by cases t<;>rfl
structure TxG(things:List Tg)(feet:List (Str×List Wk)):Prop where
 tg:∀t∈things,TgG t
 ft:FtG feet
 hs:(aG things).length<=63
 len:things.length<=200
section
variable {things:List Tg}{feet:List (Str×List Wk)}
theorem TxG.sc(h:TxG things feet):kL (fY (aG things) feet):=by
 have ll:(d3 (aG things)).length<=63:=by unfold d3;rw[GT];exact h.hs
 have nn:∀l∈fJ (d3 (aG things)) (d3 (aG things)).length,l.length<=20/\∀d∈l,d<127:=λl hl=>by
  unfold fJ at hl;obtain⟨k,_,rfl⟩:=List.mem_map.mp hl;obtain⟨a,b,c⟩:=Fp (i:=k+1) ll;exact Ej a b c
 refine⟨?_,?_,?_,h.ft.1,?_,?_,?_⟩
 .show(LP tx _).length<=200;rw[GT,pT];omega
 .show(LP _ _).length=(LP tx _).length;rw[GT,GT,pT];unfold d3;rw[GT]
 .intro t ht;obtain⟨⟨n,ws⟩,hm,rfl⟩:=List.mem_map.mp ht;obtain⟨_,_,h3,h4⟩:=h.tg _ (fU hm);exact⟨h3,λw hw=>(h4 w hw).1⟩
 .intro p hp;obtain⟨h1,h2⟩:=h.ft.2 p hp;exact⟨h1,λw hw=>⟨(h2 w hw).1.1,(h2 w hw).2⟩⟩
 .intro n hn;obtain⟨l,hl,rfl⟩:=List.mem_map.mp hn;exact⟨l,rfl,by have:=(nn l hl).1;omega⟩
 .intro l hl;obtain⟨l',hl',e⟩:=List.mem_map.mp hl;rw[<-jA e];exact(nn l' hl').2
theorem TxG.fo(h:TxG things feet):vD (fY (aG things) feet):=⟨λp hp=>by
 obtain⟨h1,h2⟩:=h.ft.2 p hp;exact⟨h1,λw hw=>(h2 w hw).1.run.ws (h2 w hw).2.1 (h2 w hw).2.2⟩⟩
theorem TxG.st(h:TxG things feet):∀t∈(fY (aG things) feet).titles,∀w∈t,RdW w:=λt ht=>by
 obtain⟨⟨n,ws⟩,hm,rfl⟩:=List.mem_map.mp ht;exact(h.tg _ (fU hm)).2.2.2
theorem TxG.nl(h:TxG things feet):(fY (aG things) feet).nums.length=(aG things).length:=by
 show(LP tx _).length=_;rw[GT,pT];unfold d3;rw[GT]
theorem TxG.lv(h:TxG things feet):C6 (d3 (aG things)):=λl hl=>by
 unfold d3 at hl;obtain⟨⟨n,ws⟩,hm,rfl⟩:=List.mem_map.mp hl;obtain⟨h1,h2,_⟩:=h.tg _ (fU hm);dsimp only;omega
end
theorem Az{c:Sc}{σ:Ss}{t:Tg}{r:List Tg}:iM c σ (t::r)=(match iL c σ t with|.error x=>.error x|.ok s'=>iM c s' r):=rfl

def yA(K:PySem.W.Frag)(cls:Xc->Addr):Sp:=λvs H Q E=>∃(ra:Addr) (fv:V) (rs:List (List Nat)) (rws:List Rw),vs=[.ref ra,fv]/\SqL K H ra ((rs.map tx).map V.str)/\lY rs rws/\rs.length<=200/\lK rs0 rws/\(rws.map rwN).sum<=500/\TxG (a7 rs0 rws).things (a7 rs0 rws).feet/\(∀e,eW (fY (aG (a7 rs0 rws).things) (a7 rs0 rws).feet) (a7 rs0 rws).things=.error e->∀H',ak H H'->E (.ref (cls e)) none H')/\∀σ p H' q tp ma ha us fs hvs,eW (fY (aG (a7 rs0 rws).things) (a7 rs0 rws).feet) (a7 rs0 rws).things=.ok σ->ak H H'->H p=none->H' p=some (.tup [.ref q,.ref ma,.ref ha])->H' q=some (.tup [fv,.ref tp])->nA H H' σ tp us fs->H' ma=some (.dK (mkV σ.ms))->H ma=none->H' ha=some (.lst hvs)->aL (HdA H') hvs σ.hs->H ha=none->tp≠ha->ha∉fs->σ.ws.length<=400->Q (.ref p) H'
theorem ik:aN ["rows","form","read","things","setter","thing"] ["rows","form"] (au nZ):=by walk_at "c"
theorem yB(T:Txt P w K mg a):bi P w K mg base (CXe P w) 8 a.oI a.mM ["rows","form"] (yA K (j0 a.aH a.aE a.aA a.aF)):=by
 refine T.oy.fn.okE ik (λvs H Q E h=>?_) (λcdv A outer s H vs Q E hr h=>?_)
 .obtain⟨ra,fv,rs,rws,rfl,_⟩:=h;rfl
 obtain⟨ra,fv,rs,rws,rfl,hr_,ar,rl,tw,sm,tx_,qe,q⟩:=h;refine⟨_,(ag (ay (i:=2) ik.nd rfl (Hh rfl) (aC T.ox (yz T) (hr.mono (by decide)) rfl (aa (pv 0) ae)))
   (ag (ay (i:=3) ik.nd rfl (Hh rfl) (aS bM (pv 2) ah (λ_ _=>rfl)))
   (ag (ay (i:=4) ik.nd rfl (Hh rfl) (E5 eQ T.aD T.kR (vJ T) (hr.mono (by decide)) rfl (aa (gW rfl (fb (caps:=[]) (js:=[]) (cap:=trivial)) (bq (pv 3)) (λ_ _ _ _=>(jW (ao a_ (aS (r:=nQ K) bM (pv 0) ah (λ_ _=>rfl)) am (nomark _)))) (λ_ _ _ _=>(pv 0))) (aa (aS bM (pv 2) ah (λ_ _=>rfl)) ae))))
   (ag (cg Jc rfl (bq (pv 3)) (aO (i:=5) ik.nd rfl (Hh rfl)) (ai (bn (dC fE T.aD T.iq (qN T) (hr.mono (by decide)) (pv 4) (aa (pv 5) ae)))))
   (ag (bn (xZ fE T.aD T.f8 (pi T) (hr.mono (by decide)) (pv 4) ))
   (ai (aP (aY (aa (aY (aa (pv 1) (aa (xZ eQ T.aD T.gJ (p_ T) (hr.mono (by decide)) (pv 4) ) ae))) (aa (bu (pv 4) rfl) (aa (bu (pv 4) rfl) ae))))))))))),?_⟩
 refine⟨_,rfl,ra,rs,rws,rfl,hr_,ar,rl,tw,sm,λp1 H1 ta fa tv kvs hp1 s1 k1 nta nfa kta kfa tgs ft=>?_⟩;dsimp only[bB];generalize (a7 rs0 rws).things=things at *;generalize (a7 rs0 rws).feet=feet at *;have lt:=tgs.len;refine⟨_,rfl,_,_,_,_,rfl,rfl,SqT.of k1,rfl,?_⟩;refine⟨_,rfl,ta,rfl,⟨_,SqL.of kta⟩,eD (K:=K) (a:=ta) (xs:=tv) (λi ys G'=>H1=G'/\ys.length<=i/\aL (HtA H1) ys (aG (things.take i))) ⟨rfl,G_ _,trivial⟩ (λi ys G' _ z=>by rw[<-z.1];exact SqL.of kta) ?_ ?_ ?_⟩
 .rintro i ys G' hi ⟨_,z,_⟩;exact aB (by have:=tx_.len;omega)
 .rintro i y ys G' hy ⟨rfl,z,al⟩;obtain⟨t,ht,htg⟩:=tgs.getL hy;have en:aG (things.take (i+1))=aG (things.take i)++aG [t]:=by rw[bb ht,dA]
  cases t with
  |head n ws =>
   obtain⟨b,l,rfl,hb,hl⟩:=htg;refine⟨_,rfl,_,_,_,_,rfl,rfl,SqT.of hb,rfl,rfl,_,rfl,?_⟩;rw[decide_eq_true rfl];refine aQ ?_;refine⟨_,rfl,rfl,by rw[GX];simp only[GU,Hk];omega,?_⟩;rw[en];exact al.snoc ⟨b,l,rfl,hb,hl⟩
  |page =>
   obtain⟨b,rfl,hb⟩:=htg;refine⟨_,rfl,_,_,_,_,rfl,rfl,SqT.of hb,rfl,rfl,_,rfl,?_⟩;rw[decide_eq_false (λz=>absurd (V.str.inj z) (by decide +kernel))];refine av ?_;refine⟨rfl,by omega,?_⟩;rw[en];simpa[aG]using al
  |odd =>
   obtain⟨b,rfl,hb⟩:=htg;refine⟨_,rfl,_,_,_,_,rfl,rfl,SqT.of hb,rfl,rfl,_,rfl,?_⟩;rw[decide_eq_false (λz=>absurd (V.str.inj z) (by decide +kernel))];refine av ?_;refine⟨rfl,by omega,?_⟩;rw[en];simpa[aG]using al
  |lst =>
   obtain⟨b,rfl,hb⟩:=htg;refine⟨_,rfl,_,_,_,_,rfl,rfl,SqT.of hb,rfl,rfl,_,rfl,?_⟩;rw[decide_eq_false (λz=>absurd (V.str.inj z) (by decide +kernel))];refine av ?_;refine⟨rfl,by omega,?_⟩;rw[en];simpa[aG]using al
  |par ws =>
   obtain⟨b,l,rfl,hb,hl⟩:=htg;refine⟨_,rfl,_,_,_,_,rfl,rfl,SqT.of hb,rfl,rfl,_,rfl,?_⟩;rw[decide_eq_false (λz=>absurd (V.str.inj z) (by decide +kernel))];refine av ?_;refine⟨rfl,by omega,?_⟩;rw[en];simpa[aG]using al
 rintro hv G' ⟨rfl,z,al⟩ hl hhl;rw[lt,Hu]at al;have s2:=af hhl (.lst hv);have k2:upd H1 hl (.lst hv) hl=some (.lst hv):=ac;have al2:aL (HtA (upd H1 hl (.lst hv))) hv (aG things):=al.imp λv h ⟨b,l,z1,z2,z3⟩=>⟨b,l,z1,s2 _ _ z2,z3.mono s2⟩;have k1':=s2 _ _ k1;have kfa':=s2 _ _ kfa;have kta':=s2 _ _ kta;have tgs2:=fF.mono s2 tgs;have ft2:=ft.mono s2;have s12:=s1.trans s2;generalize upd H1 hl (.lst hv)=H2 at s2 k2 al2 k1' kfa' kta' tgs2 ft2 s12⊢;refine⟨_,rfl,_,_,_,_,rfl,rfl,SqT.of k1',rfl,λx dx hx hdx ndx=>?_⟩;have sd:=af hdx (.own x);have hx1:upd H2 dx (.own x) x=none:=by rw[aj (HW ndx)];exact hx
 have s3:=sd.trans (af hx1 (.ins a.aI dx []));have k3:upd (upd H2 dx (.own x)) x (.ins a.aI dx []) x=some (.ins a.aI dx []):=ac;have nx:H x=none:=s12.free hx;generalize upd (upd H2 dx (.own x)) x (.ins a.aI dx [])=H3 at s3 k3⊢;have al3:aL (HtA H3) hv (aG things):=al2.imp λv h ⟨b,l,z1,z2,z3⟩=>⟨b,l,z1,s3 _ _ z2,z3.mono s3⟩;refine⟨x,dx,hl,fa,hv,aG things,kvs,feet,rfl,k3,s3 _ _ k2,al3,s3 _ _ kfa',ft2.mono s3,tx_.lv,tx_.hs,λH4 A ax f4 S4 fr4=>?_⟩;refine⟨rfl,?_⟩;subst ax;dsimp only[bB];have sG:ak H2 (hid A.os H4):=λb u h=>by
  have h3:=s3 _ _ h;refine aZ (λz=>?_) (f4 b u (λz=>by rw[z,hx]at h;cases h) h3);simp only[Sad.os,Ih,H_,or_false]at z;rcases z with z|z|z|z
  .rw[z,hx]at h;cases h
  .rw[z,fr4.1]at h3;cases h3
  .rw[z,fr4.2.1]at h3;cases h3
  .rw[z,fr4.2.2]at h3;cases h3
 generalize hid A.os H4=G at sG S4;have sHG:=s12.trans sG;have so:=tx_.sc;have fo:=tx_.fo;have st:=tx_.st;have nl:=tx_.nl;have lt3:=tx_.len;have hs3:=tx_.hs;have ktG:=sG _ _ kta';have tgG:=fF.mono sG tgs2;generalize fY (aG things) feet=c at S4 so fo st nl qe q;have setE:∀e,iM c ss0 things=.error e->eW c things=.error e:=λe h=>by unfold eW;rw[h]
 refine⟨_,rfl,ta,rfl,⟨_,SqL.of (S4.old _ _ ktG)⟩,cm (K:=K) (a:=ta) (xs:=tv) (λi σ' Hi=>∃(v5:Option V) (σ1:Ss),σ'=[some (.ref ra),some fv,some (.ref p1),some (.ref ta),some (.ref A.x),v5]/\StA a.aI G Hi A c σ1/\iM c ss0 things=iM c σ1 (things.drop i)/\uc c σ1/\σ1.ws.length<=400/\σ1.fs<=σ1.ws.length/\σ1.ms.length<=600*i/\σ1.hs.length=(aG (things.take i)).length) ⟨none,ss0,rfl,S4,rfl,⟨(by intro t ht;cases ht),(by intro t ht;cases ht)⟩,by decide,G_ _,G_ _,rfl⟩ (λi σ' Hi _ g=>by obtain⟨_,_,_,S,_⟩:=g;exact SqL.of (S.old _ _ ktG)) ?_ ?_⟩
 .rintro i y σ' Hi hy ⟨v5,σ1,rfl,S5,er,ss,wl,fl,ml,hl5⟩;obtain⟨t,ht,htg⟩:=tgG.getL hy;have hi:=(List.getElem?_eq_some_iff.mp ht).1;have ed:things.drop i=t::things.drop (i+1):=by
   obtain⟨hi,e⟩:=List.getElem?_eq_some_iff.mp ht;rw[Ia hi,e]
  have tg0:=tx_.tg t (Ha ht);have en:aG (things.take (i+1))=aG (things.take i)++aG [t]:=by rw[bb ht,dA]
  have eall:(aG things).length=(aG (things.take i)).length+d8 t+(aG (things.drop (i+1))).length:=by
   have:=congrArg (λl=>(aG l).length) (List.take_append_drop (i+1) things)
   try dsimp only at this
   rw[dA,GX,en,GX,r9]at this;omega
  have hh:d8 t=1->σ1.hs.length<c.nums.length:=λz=>by rw[nl,hl5];omega
  rw[ed,Az]at er;refine⟨_,rfl,_,_,_,rfl,S5.ins,jn (by decide +kernel),_,rfl,A,G,c,σ1,_,t,rfl,S5,so,htg,?_,(by rw[hl5];omega),⟨wl,fl,by omega⟩,λe he H' s'=>qe e (setE e (by rw[er,he])) H' (sHG.trans s'),λσ2 H5 he S6=>?_⟩
  .cases t with
   |head n ws=>exact hh rfl
   |par ws=>exact⟨λw hw=>(tg0.2 w hw).1,tg0.1⟩
   |page=>trivial
   |odd=>trivial
   |lst=>trivial
  .obtain⟨b,bh⟩:=Bu so fo st he tg0 hh;rw[he]at er;refine⟨_,σ2,rfl,S6,er,b.ok ss,b.ws wl,b.fs fl,by have:=b.ms;omega,?_⟩;rw[bh,en,GX,r9,hl5]
 rintro σ' H5 ⟨v5,σ1,rfl,S5,er,ss,wl,fl,ml,hl5⟩;rw[lt]at er hl5;rw[IS]at er;rw[Hu]at hl5;have er:iM c ss0 things=.ok σ1:=er;refine⟨_,rfl,_,_,_,rfl,S5.ins,jn (by decide +kernel),A,G,c,σ1,rfl,S5,so,ss,wl,λe he H' s'=>qe e (by unfold eW;rw[er];show(match fH c σ1 with|some e=>_|none=>_)=_;rw[he]) H' (sHG.trans s'),λck H6 s6 S6=>?_⟩
 have fin:eW c things=.ok σ1:=by unfold eW;rw[er];show(match fH c σ1 with|some e=>_|none=>_)=_;rw[ck]
 have tel:=E9 ss fo (by rw[hl5,nl]) ck;refine⟨_,rfl,_,rfl,_,_,_,rfl,S6.ins,jn (by decide +kernel),A,G,c,σ1,rfl,S6,tel,wl,λtp H7 us fs s7 T7=>?_⟩;have S7:=S6.same s7;refine⟨le2,λq1 hq1=>?_⟩;have s8:=af hq1 (.tup [fv,.ref tp]);have k8:upd H7 q1 (.tup [fv,.ref tp]) q1=some (.tup [fv,.ref tp]):=ac;have S8:=S7.same s8;have T8:=T7.same s8;generalize upd H7 q1 (.tup [fv,.ref tp])=H8 at s8 k8 S8 T8⊢;refine⟨_,rfl,_,_,_,_,_,rfl,S8.ins,T.aD.cl,T.cC,jm,_,rfl,_,_,_,_,_,rfl,S8.ins,T.aD.cl,T.dw,lW,le3,λp9 hp9=>?_⟩;have s9:=af hp9 (.tup [.ref q1,.ref A.ma,.ref A.ha]);have k9:upd H8 p9 (.tup [.ref q1,.ref A.ma,.ref A.ha]) p9=some (.tup [.ref q1,.ref A.ma,.ref A.ha]):=ac;have S9:=S8.same s9;have T9:=(T8.same s9).base (sHG.trans S6.old);have k8':=s9 _ _ k8;have hp9':H p9=none:=(sHG.trans S8.old).free hp9;generalize upd H8 p9 (.tup [.ref q1,.ref A.ma,.ref A.ha])=H9 at s9 k9 S9 T9 k8'⊢;obtain⟨hvs,h91,h92⟩:=S9.heads;obtain⟨hv6,h61,_⟩:=S6.heads;exact q σ1 p9 H9 q1 tp A.ma A.ha us fs hvs fin (sHG.trans S9.old) hp9' k9 k8' T9 S9.marks (sHG.free (S9.fr _ w_)) h91 (h92.imp λ_ _=>HdA.mono bT) (sHG.free (S9.fr _ z9)) (λz=>by have:=T7.new;rw[z,h61]at this;cases this) (λz=>by have:=(T7.fr _ z).1;rw[h61]at this;cases this) wl

theorem vb:Jh "ValueError" = some (.type "ValueError"):=by decide +kernel
def BR:Option Xc->List Bool
 |none=>[]
 |some e=>[decide (e=.twice),decide (e=.nofoot),decide (e=.toolong),decide (e=.nomark),true,false,false]

def yC(K:PySem.W.Frag):Sp:=λvs H Q _=>∃(ra:Addr) (fv:V) (rs:List (List Nat)) (rws:List Rw) (R:Option Xc),vs=[.ref ra,fv]/\SqL K H ra ((rs.map tx).map V.str)/\lY rs rws/\rs.length<=200/\lK rs0 rws/\(rws.map rwN).sum<=500/\TxG (a7 rs0 rws).things (a7 rs0 rws).feet/\(∀e,eW (fY (aG (a7 rs0 rws).things) (a7 rs0 rws).feet) (a7 rs0 rws).things=.error e->R=some e)/\(∀σ,eW (fY (aG (a7 rs0 rws).things) (a7 rs0 rws).feet) (a7 rs0 rws).things=.ok σ->R=none)/\∀p H',ak H H'->H' p=some (.lst ((BR R).map V.bl))->Q (.ref p) H'
theorem fL:aN ["rows","form","which","e"] ["rows","form"] (au n9):=by walk_at "c"
theorem yD(T:Txt P w K mg a):bi P w K mg base CX0 9 a.oC a.mE ["rows","form"] (yC K):=by
 refine T.om.fn.ok fL (λvs H Q E h=>?_) (λcdv A outer s H vs Q E hr h=>?_)
 .obtain⟨ra,fv,rs,rws,R,rfl,_⟩:=h;rfl
 obtain⟨ra,fv,rs,rws,R,rfl,hra,ar,rl,tw,sm,tx_,hr_,ho_,q⟩:=h;refine⟨_,(ag (ay (i:=2) fL.nd rfl (Hh rfl) (aU ae))
   (ag (Bk (i:=3) fL.nd rfl rfl T.oy (yB T) (hr.mono (by decide)) rfl (λ_=>(aa (pv 0) (aa (pv 1) ae))) rfl T.nN ⟨rfl,rfl⟩ (λ_=>(ag (ay (i:=2) fL.nd rfl (Hh rfl) (aU (aa (aV (r:=jE K) ef rfl T.bU HX (aa (pv 3) (aa (bW (v:=.ref a.aH) rfl T.vO.mg rfl) ae))) (aa (aV (r:=jE K) ef rfl T.bU HX (aa (pv 3) (aa (bW (v:=.ref a.aE) rfl T.uG.mg rfl) ae))) (aa (aV (r:=jE K) ef rfl T.bU HX (aa (pv 3) (aa (bW (v:=.ref a.aA) rfl T.sN.mg rfl) ae))) (aa (aV (r:=jE K) ef rfl T.bU HX (aa (pv 3) (aa (bW (v:=.ref a.aF) rfl T.qD.mg rfl) ae))) ae))))))
   (ag (ay (i:=2) fL.nd rfl (Hh rfl) (aK d7 (pv 2) (aU (aa (aV (r:=jE K) ef rfl T.bU HX (aa (pv 3) (aa (DE (v:=.ty "ValueError") rfl T.fT vb rfl) ae))) (aa (wV (aV (r:=jE K) ef rfl T.bU HX (aa (pv 3) (aa (bW (v:=.ref a.c7) rfl T.yS.mg rfl) ae))) (oR (aV (r:=jE K) ef rfl T.bU HX (aa (pv 3) (aa (bW (v:=.ref a.cK) rfl T.wz.mg rfl) ae))))) ae)))))
   (ai (ay (i:=2) fL.nd rfl (Hh rfl) (aK d7 (pv 2) (aU (aa (wV (aV (r:=jE K) ef rfl T.bU HX (aa (pv 3) (aa (bW (v:=.ref a.cM) rfl T.wA.mg rfl) ae))) (wV (aV (r:=jE K) ef rfl T.bU HX (aa (pv 3) (aa (bW (v:=.ref a.eN) rfl T.B8.mg rfl) ae))) (oR (aV (r:=jE K) ef rfl T.bU HX (aa (pv 3) (aa (bW (v:=.ref a.cN) rfl T.wB.mg rfl) ae)))))) ae)))))))))
   (ai (aP (pv 2))))),?_⟩
 refine⟨aJ (by simp),λp1 hp1=>?_⟩;have g1:=af hp1 (.lst []);have h1:upd H p1 (.lst []) p1=some (.lst []):=ac;generalize upd H p1 (.lst [])=H0 at g1 h1⊢;refine⟨_,rfl,_,rfl,ra,fv,rs,rws,rfl,g1.seq hra,ar,rl,tw,sm,tx_,λe he H1 s'=>?_,λσ0 fd G5 qa tp ma ha us5 fs hvs q1 sm' q2 e1 e2 T5 e6 n2 e7 q7 n3' n4' q9 e8=>?_⟩
 .cases e with
  |twice =>
   refine⟨_,rfl,T.cI,λx hx=>?_⟩;dsimp only[j0]at hx⊢;have s5:=af hx (fe x a.aH);have k5:(upd H1 x (fe x a.aH)) x=some (fe x a.aH):=ac;generalize upd H1 x (fe x a.aH)=H5 at s5 k5⊢;refine⟨_,rfl,x,a.aH,_,true,rfl,k5,T.c8,.inl ⟨_,rfl,T.pB⟩,_,rfl,x,a.aH,_,false,rfl,k5,T.c8,.inl ⟨_,rfl,T.nK⟩,_,rfl,x,a.aH,_,false,rfl,k5,T.c8,.inl ⟨_,rfl,T.mZ⟩,_,rfl,x,a.aH,_,false,rfl,k5,T.c8,.inl ⟨_,rfl,T.nM⟩,le4,λp2 hp2=>?_⟩;have s6:=af hp2 (.lst [V.bl true,V.bl false,V.bl false,V.bl false]);have k6:upd H5 p2 (.lst [V.bl true,V.bl false,V.bl false,V.bl false]) p2=some (.lst [V.bl true,V.bl false,V.bl false,V.bl false]):=ac;have k5:=s6 _ _ k5;generalize upd H5 p2 (.lst [V.bl true,V.bl false,V.bl false,V.bl false])=H6 at s6 k6 k5⊢;refine⟨_,rfl,_,rfl,x,a.aH,_,true,rfl,k5,T.c8,.inr ⟨_,rfl,T.jS⟩,_,rfl,x,a.aH,_,false,rfl,k5,T.c8,.inl ⟨_,rfl,T.nJ⟩,_,rfl,?_⟩;refine av ?_;refine⟨_,rfl,x,a.aH,_,false,rfl,k5,T.c8,.inl ⟨_,rfl,T.mW⟩,le2,λp3 hp3=>?_⟩;have s7:=af hp3 (.lst [V.bl true,V.bl false]);refine⟨_,_,_,_,rfl,rfl,s7 _ _ k6,ac,aJ (by simp),λp4 hp4=>?_⟩;have s8:=s7.trans (af hp4 (.lst ([V.bl true,V.bl false,V.bl false,V.bl false]++[V.bl true,V.bl false])));have k8:upd (upd H6 p3 (.lst [V.bl true,V.bl false])) p4 (.lst ([V.bl true,V.bl false,V.bl false,V.bl false]++[V.bl true,V.bl false])) p4=some (.lst ([V.bl true,V.bl false,V.bl false,V.bl false]++[V.bl true,V.bl false])):=ac;have k5:=s8 _ _ k5;generalize upd (upd H6 p3 (.lst [V.bl true,V.bl false])) p4 (.lst ([V.bl true,V.bl false,V.bl false,V.bl false]++[V.bl true,V.bl false]))=H8 at s8 k8 k5⊢;refine⟨_,rfl,_,rfl,x,a.aH,_,false,rfl,k5,T.c8,.inl ⟨_,rfl,T.mX⟩,_,rfl,?_⟩;refine av ?_;refine⟨_,rfl,x,a.aH,_,false,rfl,k5,T.c8,.inl ⟨_,rfl,T.qH⟩,_,rfl,?_⟩;refine av ?_;refine⟨_,rfl,x,a.aH,_,false,rfl,k5,T.c8,.inl ⟨_,rfl,T.mY⟩,le1,λp5 hp5=>?_⟩;have s9:=af hp5 (.lst [V.bl false]);refine⟨_,_,_,_,rfl,rfl,s9 _ _ k8,ac,aJ (by simp),λp6 hp6=>?_⟩;exact⟨_,rfl,q p6 _ (g1.trans (s'.trans (s5.trans (s6.trans (s8.trans (s9.trans (af hp6 _))))))) (by rw[ac,hr_ .twice he];rfl)⟩
  |nofoot =>
   refine⟨_,rfl,T.cz,λx hx=>?_⟩;dsimp only[j0]at hx⊢;have s5:=af hx (fe x a.aE);have k5:(upd H1 x (fe x a.aE)) x=some (fe x a.aE):=ac;generalize upd H1 x (fe x a.aE)=H5 at s5 k5⊢;refine⟨_,rfl,x,a.aE,_,false,rfl,k5,T.cO,.inl ⟨_,rfl,T.nG⟩,_,rfl,x,a.aE,_,true,rfl,k5,T.cO,.inl ⟨_,rfl,T.mQ⟩,_,rfl,x,a.aE,_,false,rfl,k5,T.cO,.inl ⟨_,rfl,T.lj⟩,_,rfl,x,a.aE,_,false,rfl,k5,T.cO,.inl ⟨_,rfl,T.mR⟩,le4,λp2 hp2=>?_⟩;have s6:=af hp2 (.lst [V.bl false,V.bl true,V.bl false,V.bl false]);have k6:upd H5 p2 (.lst [V.bl false,V.bl true,V.bl false,V.bl false]) p2=some (.lst [V.bl false,V.bl true,V.bl false,V.bl false]):=ac;have k5:=s6 _ _ k5;generalize upd H5 p2 (.lst [V.bl false,V.bl true,V.bl false,V.bl false])=H6 at s6 k6 k5⊢;refine⟨_,rfl,_,rfl,x,a.aE,_,true,rfl,k5,T.cO,.inr ⟨_,rfl,T.jO⟩,_,rfl,x,a.aE,_,false,rfl,k5,T.cO,.inl ⟨_,rfl,T.mP⟩,_,rfl,?_⟩;refine av ?_;refine⟨_,rfl,x,a.aE,_,false,rfl,k5,T.cO,.inl ⟨_,rfl,T.k_⟩,le2,λp3 hp3=>?_⟩;have s7:=af hp3 (.lst [V.bl true,V.bl false]);refine⟨_,_,_,_,rfl,rfl,s7 _ _ k6,ac,aJ (by simp),λp4 hp4=>?_⟩;have s8:=s7.trans (af hp4 (.lst ([V.bl false,V.bl true,V.bl false,V.bl false]++[V.bl true,V.bl false])));have k8:upd (upd H6 p3 (.lst [V.bl true,V.bl false])) p4 (.lst ([V.bl false,V.bl true,V.bl false,V.bl false]++[V.bl true,V.bl false])) p4=some (.lst ([V.bl false,V.bl true,V.bl false,V.bl false]++[V.bl true,V.bl false])):=ac;have k5:=s8 _ _ k5;generalize upd (upd H6 p3 (.lst [V.bl true,V.bl false])) p4 (.lst ([V.bl false,V.bl true,V.bl false,V.bl false]++[V.bl true,V.bl false]))=H8 at s8 k8 k5⊢;refine⟨_,rfl,_,rfl,x,a.aE,_,false,rfl,k5,T.cO,.inl ⟨_,rfl,T.lg⟩,_,rfl,?_⟩;refine av ?_;refine⟨_,rfl,x,a.aE,_,false,rfl,k5,T.cO,.inl ⟨_,rfl,T.pz⟩,_,rfl,?_⟩;refine av ?_;refine⟨_,rfl,x,a.aE,_,false,rfl,k5,T.cO,.inl ⟨_,rfl,T.li⟩,le1,λp5 hp5=>?_⟩;have s9:=af hp5 (.lst [V.bl false]);refine⟨_,_,_,_,rfl,rfl,s9 _ _ k8,ac,aJ (by simp),λp6 hp6=>?_⟩;exact⟨_,rfl,q p6 _ (g1.trans (s'.trans (s5.trans (s6.trans (s8.trans (s9.trans (af hp6 _))))))) (by rw[ac,hr_ .nofoot he];rfl)⟩
  |toolong =>
   refine⟨_,rfl,T.cj,λx hx=>?_⟩;dsimp only[j0]at hx⊢;have s5:=af hx (fe x a.aA);have k5:(upd H1 x (fe x a.aA)) x=some (fe x a.aA):=ac;generalize upd H1 x (fe x a.aA)=H5 at s5 k5⊢;refine⟨_,rfl,x,a.aA,_,false,rfl,k5,T.cq,.inl ⟨_,rfl,T.mV⟩,_,rfl,x,a.aA,_,false,rfl,k5,T.cq,.inl ⟨_,rfl,T.lC⟩,_,rfl,x,a.aA,_,true,rfl,k5,T.cq,.inl ⟨_,rfl,T.kK⟩,_,rfl,x,a.aA,_,false,rfl,k5,T.cq,.inl ⟨_,rfl,T.lD⟩,le4,λp2 hp2=>?_⟩;have s6:=af hp2 (.lst [V.bl false,V.bl false,V.bl true,V.bl false]);have k6:upd H5 p2 (.lst [V.bl false,V.bl false,V.bl true,V.bl false]) p2=some (.lst [V.bl false,V.bl false,V.bl true,V.bl false]):=ac;have k5:=s6 _ _ k5;generalize upd H5 p2 (.lst [V.bl false,V.bl false,V.bl true,V.bl false])=H6 at s6 k6 k5⊢;refine⟨_,rfl,_,rfl,x,a.aA,_,true,rfl,k5,T.cq,.inr ⟨_,rfl,T.jw⟩,_,rfl,x,a.aA,_,false,rfl,k5,T.cq,.inl ⟨_,rfl,T.lB⟩,_,rfl,?_⟩;refine av ?_;refine⟨_,rfl,x,a.aA,_,false,rfl,k5,T.cq,.inl ⟨_,rfl,T.kH⟩,le2,λp3 hp3=>?_⟩;have s7:=af hp3 (.lst [V.bl true,V.bl false]);refine⟨_,_,_,_,rfl,rfl,s7 _ _ k6,ac,aJ (by simp),λp4 hp4=>?_⟩;have s8:=s7.trans (af hp4 (.lst ([V.bl false,V.bl false,V.bl true,V.bl false]++[V.bl true,V.bl false])));have k8:upd (upd H6 p3 (.lst [V.bl true,V.bl false])) p4 (.lst ([V.bl false,V.bl false,V.bl true,V.bl false]++[V.bl true,V.bl false])) p4=some (.lst ([V.bl false,V.bl false,V.bl true,V.bl false]++[V.bl true,V.bl false])):=ac;have k5:=s8 _ _ k5;generalize upd (upd H6 p3 (.lst [V.bl true,V.bl false])) p4 (.lst ([V.bl false,V.bl false,V.bl true,V.bl false]++[V.bl true,V.bl false]))=H8 at s8 k8 k5⊢;refine⟨_,rfl,_,rfl,x,a.aA,_,false,rfl,k5,T.cq,.inl ⟨_,rfl,T.kI⟩,_,rfl,?_⟩;refine av ?_;refine⟨_,rfl,x,a.aA,_,false,rfl,k5,T.cq,.inl ⟨_,rfl,T.nI⟩,_,rfl,?_⟩;refine av ?_;refine⟨_,rfl,x,a.aA,_,false,rfl,k5,T.cq,.inl ⟨_,rfl,T.kJ⟩,le1,λp5 hp5=>?_⟩;have s9:=af hp5 (.lst [V.bl false]);refine⟨_,_,_,_,rfl,rfl,s9 _ _ k8,ac,aJ (by simp),λp6 hp6=>?_⟩;exact⟨_,rfl,q p6 _ (g1.trans (s'.trans (s5.trans (s6.trans (s8.trans (s9.trans (af hp6 _))))))) (by rw[ac,hr_ .toolong he];rfl)⟩
  |nomark =>
   refine⟨_,rfl,T.cA,λx hx=>?_⟩;dsimp only[j0]at hx⊢;have s5:=af hx (fe x a.aF);have k5:(upd H1 x (fe x a.aF)) x=some (fe x a.aF):=ac;generalize upd H1 x (fe x a.aF)=H5 at s5 k5⊢;refine⟨_,rfl,x,a.aF,_,false,rfl,k5,T.cQ,.inl ⟨_,rfl,T.nH⟩,_,rfl,x,a.aF,_,false,rfl,k5,T.cQ,.inl ⟨_,rfl,T.mT⟩,_,rfl,x,a.aF,_,false,rfl,k5,T.cQ,.inl ⟨_,rfl,T.lA⟩,_,rfl,x,a.aF,_,true,rfl,k5,T.cQ,.inl ⟨_,rfl,T.mU⟩,le4,λp2 hp2=>?_⟩;have s6:=af hp2 (.lst [V.bl false,V.bl false,V.bl false,V.bl true]);have k6:upd H5 p2 (.lst [V.bl false,V.bl false,V.bl false,V.bl true]) p2=some (.lst [V.bl false,V.bl false,V.bl false,V.bl true]):=ac;have k5:=s6 _ _ k5;generalize upd H5 p2 (.lst [V.bl false,V.bl false,V.bl false,V.bl true])=H6 at s6 k6 k5⊢;refine⟨_,rfl,_,rfl,x,a.aF,_,true,rfl,k5,T.cQ,.inr ⟨_,rfl,T.jP⟩,_,rfl,x,a.aF,_,false,rfl,k5,T.cQ,.inl ⟨_,rfl,T.mS⟩,_,rfl,?_⟩;refine av ?_;refine⟨_,rfl,x,a.aF,_,false,rfl,k5,T.cQ,.inl ⟨_,rfl,T.lm⟩,le2,λp3 hp3=>?_⟩;have s7:=af hp3 (.lst [V.bl true,V.bl false]);refine⟨_,_,_,_,rfl,rfl,s7 _ _ k6,ac,aJ (by simp),λp4 hp4=>?_⟩;have s8:=s7.trans (af hp4 (.lst ([V.bl false,V.bl false,V.bl false,V.bl true]++[V.bl true,V.bl false])));have k8:upd (upd H6 p3 (.lst [V.bl true,V.bl false])) p4 (.lst ([V.bl false,V.bl false,V.bl false,V.bl true]++[V.bl true,V.bl false])) p4=some (.lst ([V.bl false,V.bl false,V.bl false,V.bl true]++[V.bl true,V.bl false])):=ac;have k5:=s8 _ _ k5;generalize upd (upd H6 p3 (.lst [V.bl true,V.bl false])) p4 (.lst ([V.bl false,V.bl false,V.bl false,V.bl true]++[V.bl true,V.bl false]))=H8 at s8 k8 k5⊢;refine⟨_,rfl,_,rfl,x,a.aF,_,false,rfl,k5,T.cQ,.inl ⟨_,rfl,T.lq⟩,_,rfl,?_⟩;refine av ?_;refine⟨_,rfl,x,a.aF,_,false,rfl,k5,T.cQ,.inl ⟨_,rfl,T.pA⟩,_,rfl,?_⟩;refine av ?_;refine⟨_,rfl,x,a.aF,_,false,rfl,k5,T.cQ,.inl ⟨_,rfl,T.lx⟩,le1,λp5 hp5=>?_⟩;have s9:=af hp5 (.lst [V.bl false]);refine⟨_,_,_,_,rfl,rfl,s9 _ _ k8,ac,aJ (by simp),λp6 hp6=>?_⟩;exact⟨_,rfl,q p6 _ (g1.trans (s'.trans (s5.trans (s6.trans (s8.trans (s9.trans (af hp6 _))))))) (by rw[ac,hr_ .nomark he];rfl)⟩
 .exact⟨_,rfl,q p1 _ (g1.trans sm') (by rw[sm' _ _ h1,ho_ σ0 q1];rfl)⟩
def rfS(ft:List (Str×List Wk)):List Str->Nat->Bool->List Wk->Except Xc (List Str×Nat×Bool)
 |seen,n,w,[]=>.ok (seen,n,w)
 |seen,n,w,x::r =>
  if x.1=.mark then(if bp x.2∈seen then .error .twice else rfS ft (seen++[bp x.2]) n true r)
  else if x.1=.foot/\lkS (bp x.2) ft=none then .error .nofoot
  else if n=400 then .error .toolong else rfS ft seen (n+1) false r
theorem il(ft:List (Str×List Wk))(seen:List Str)(n:Nat)(w:Bool)(x:Wk)(r:List Wk):rfS ft seen n w (x::r)=(if x.1=.mark then(if bp x.2∈seen then .error .twice else rfS ft (seen++[bp x.2]) n true r)else if x.1=.foot/\lkS (bp x.2) ft=none then .error .nofoot else if n=400 then .error .toolong else rfS ft seen (n+1) false r):=rfl
def fZ(ft:List (Str×List Wk))(ws:List Wk):Option Xc:=
 match rfS ft [] 0 false ws with
 |.error e=>some e
 |.ok (seen,_,w)=>if w then some .nomark else if(ws++ft.flatMap (·.2)).any (λx=>cT x.1 && !decide (bp x.2∈seen))then some .nomark else none

def uq:Option Xc->Str
 |none=>(PySem.Str.ofString "")
 |some .twice=>(PySem.Str.ofString "Twice")
 |some .nofoot=>(PySem.Str.ofString "NoFoot")
 |some .toolong=>(PySem.Str.ofString "TooLong")
 |some .nomark=>(PySem.Str.ofString "NoMark")
def snV(seen:List Str):List (Key×V):=seen.map λx=>(.inr x,.bl true)
theorem vc(n:Str):∀seen:List Str,(cX (snV seen) (.inr n)).isSome=decide (n∈seen)
 |[]=>rfl
 |m::r=>by
  by_cases c:m=n
  .subst c;unfold snV;rw[Hj,jV rfl,decide_eq_true He];rfl
  .have ih:=vc n r;unfold snV at ih⊢;rw[Hj,dG (λz=>c (by injection z)),ih];exact decide_eq_decide.mpr ⟨λh=>Hb _ h,λh=>(List.mem_cons.mp h).resolve_left (λz=>c z.symm)⟩
theorem Ek{n:Str}{seen:List Str}(h:n∉seen):cX (snV seen) (.inr n)=none:=by
 have:=vc n seen;rw[decide_eq_false h]at this;exact Option.isSome_eq_false_iff.mp this |> Option.isNone_iff_eq_none.mp
def PtA(F:Hp)(v:V)(x:Wk):Prop:=∃a k u,v=.ref a/\F a=some (.tup [.str k,u])/\inV (.str k) [V.str (PySem.Str.ofString "number"),V.str (PySem.Str.ofString "page"),V.str (PySem.Str.ofString "row")]=cT x.1/\(cT x.1=true->∃n,u=.str (tx n)/\bp x.2=tx n)
theorem PtA.mono{F F':Hp}(m:ak F F'){v:V}{x:Wk}(h:PtA F v x):PtA F' v x:=by
 obtain⟨a,k,u,e,h,z⟩:=h;exact⟨a,k,u,e,m _ _ h,z⟩
theorem xa(k:Kw):inV (.str k.s) [V.str (PySem.Str.ofString "number"),V.str (PySem.Str.ofString "page"),V.str (PySem.Str.ofString "row")]=cT k:=by
 cases k<;>decide +kernel
theorem F_{F:Hp}(tt:List Ttl){v:V}{s:Sw}(h:SwA F v s):PtA F v (fh tt s):=by
 obtain⟨a,e,h⟩:=h;refine⟨a,s.k,s.v,e,h,?_,?_⟩
 .cases s with
  |w x=>exact xa x.1
  |head k=>show inV (.str "head") _=false;decide +kernel
  |entry k=>show inV (.str "entry") _=false;decide +kernel
  |goal k=>show inV (.str "goal") _=false;decide +kernel
 .cases s with
  |w x=>exact λ_=>⟨x.2,rfl,rfl⟩
  |head k=>exact λz=>by cases z
  |entry k=>exact λz=>by cases z
  |goal k=>exact λz=>by cases z
theorem Ga{F:Hp}{v:V}{w:Wk}(hs:∃n,w.2=.str (tx n))(h:WkA F v w):PtA F v w:=by
 obtain⟨a,e,h⟩:=h;obtain⟨n,hn⟩:=hs;exact⟨a,w.1.s,w.2,e,h,xa w.1,λ_=>⟨n,hn,by rw[hn];rfl⟩⟩
theorem BS{F:Hp}:∀{vs:List V} {ws:List Wk},(∀w∈ws,∃n,w.2=.str (tx n))->aL (WkA F) vs ws->aL (PtA F) vs ws
 |[],[],_,_=>trivial
 |_::_,_::_,hs,h=>⟨Ga (hs _ He) h.1,BS (λx hx=>hs x (Hb _ hx)) h.2⟩
theorem BT{β:Type}:∀{l:List (Str×β)} {i:Nat} {p:Str×β},(l.map (·.1)).Nodup->l[i]?=some p->lkS p.1 l=some p.2
 |[],_,_,_,h=>by simp at h
 |q::l,0,p,_,h=>by
  have:q=p:=by simpa using h
  subst this;show(if q.1=q.1 then _ else _)=_;rw[if_pos rfl]
 |q::l,i+1,p,nd,h=>by
  have h:l[i]?=some p:=by simpa using h
  rw[Hj,KY]at nd;show(if q.1=p.1 then _ else lkS p.1 l)=_;rw[if_neg (λz=>nd.1 (by rw[z];exact Kd (Ha h)))];exact BT nd.2 h
theorem El(tt:List Ttl)(s:Sw):decide (V.str s.k=V.str (PySem.Str.ofString "foot"))=decide ((fh tt s).1=.foot):=by
 cases s with
 |w x=>show decide (V.str x.1.s=V.str (PySem.Str.ofString "foot"))=decide (x.1=.foot);cases x.1<;>decide +kernel
 |head k=>show decide (V.str "head" = V.str (PySem.Str.ofString "foot"))=decide (Kw.plain=Kw.foot);decide +kernel
 |entry k=>show decide (V.str "entry" = V.str (PySem.Str.ofString "foot"))=decide (Kw.plain=Kw.foot);decide +kernel
 |goal k=>show decide (V.str "goal" = V.str (PySem.Str.ofString "foot"))=decide (Kw.entry=Kw.foot);decide +kernel
theorem yE{α β:Type}{P:V->α->Prop}{Q:V->β->Prop}{f:α->β}(h:∀v s,P v s->Q v (f s)):∀{vs:List V} {ss:List α},aL P vs ss->aL Q vs (ss.map f)
 |[],[],_=>trivial
 |_::_,_::_,z=>⟨h _ _ z.1,yE h z.2⟩

def yF(K:PySem.W.Frag):Sp:=λvs H Q _=>∃(sa fa:Addr) (sv:List V) (ss:List Sw) (tt:List Ttl) (kvs:List (Key×V)) (ft:List (Str×List Wk)),vs=[.ref sa,.ref fa]/\H sa=some (.lst sv)/\aL (SwA H) sv ss/\H fa=some (.dK kvs)/\FtA H kvs ft/\(ft.map (·.1)).Nodup/\ss.length<=2000000/\ft.length<=200/\(∀p∈ft,p.2.length<=200/\∀w∈p.2,∃n,w.2=.str (tx n))/\∀H',ak H H'->Q (.str (uq (fZ ft (ss.map (fh tt))))) H'
theorem cb:aN ["stream","feet","seen","at","waiting","kind","rest","name"] ["stream","feet"] (au n_):=by walk_at "c"
theorem yG(T:Txt P w K mg a):bi P w K mg base CX0 1 a.oE a.mI ["stream","feet"] (yF K):=by
 refine T.on.fn.ok cb (λvs H Q E h=>?_) (λcdv A outer s H vs Q E hr h=>?_)
 .obtain⟨sa,fa,sv,ss,tt,kvs,ft,rfl,_⟩:=h;rfl
 obtain⟨sa,fa,sv,ss,tt,kvs,ft,rfl,hsa,sal,hfa,fal,nd,sl,fl,fw,q⟩:=h;have hu:=IJ (dB hr);refine⟨_,(ag (ay (i:=2) cb.nd rfl (Hh rfl) pJ)
   (ag (ay (i:=3) cb.nd rfl (Hh rfl) ah)
   (ag (ay (i:=4) cb.nd rfl (Hh rfl) d9)
   (ag (cg HS rfl (bq (pv 0)) (dP rfl (a9 (aO (i:=5) cb.nd rfl (Hh rfl)) (a9 (aO (i:=6) cb.nd rfl (Hh rfl)) c_))) (ai (aR (ao a_ (pv 5) am (nomark _)) (ag (aR (ao (pM (dB hr)) (pv 6) (pv 2) (by with_unfolding_all rfl)) (ai (aP am)) aM)
   (ag (sU (dB hr) (pv 2) (pv 6) d9 rfl)
   (ai (ay (i:=4) cb.nd rfl (Hh rfl) d9)))) (ag (aR (PW.pt (cY (ao a_ (pv 5) am (nomark _)) (cH (ao (je (dB hr)) (pv 6) (pv 1) (by with_unfolding_all rfl))))) (ai (aP am)) aM)
   (ag (aR (ao a_ (pv 3) ah (nomark _)) (ai (aP am)) aM)
   (ag (ay (i:=3) cb.nd rfl (Hh rfl) (aK bZ (pv 3) ah))
   (ai (ay (i:=4) cb.nd rfl (Hh rfl) d9))))))))
   (ag (aR (lQ (pv 4) (λ_=>rfl)) (ai (aP am)) aM)
   (ag (D0 HS rfl (pv 1) (aO (i:=7) cb.nd rfl (Hh rfl)) (ai (ay (i:=0) cb.nd rfl (Hh rfl) (aK d7 (pv 0) (sT (dB hr) (pv 1) (pv 7) (λ_ _=>rfl))))))
   (ag (cg HS rfl (bq (pv 0)) (dP rfl (a9 (aO (i:=5) cb.nd rfl (Hh rfl)) (a9 (aO (i:=6) cb.nd rfl (Hh rfl)) c_))) (ai (aR (PW.pt (cY (ao hU (pv 5) (aY (aa am (aa am (aa am ae)))) (by with_unfolding_all rfl)) (cH (ao (je (dB hr)) (pv 6) (pv 2) (by with_unfolding_all rfl))))) (ai (aP am)) aM)))
   (ai (aP am))))))))),?_⟩
 have ls:=sal.len;generalize hws:ss.map (fh tt)=ws at q;have lw:ws.length=ss.length:=by rw[<-hws,GT]
 intro p1 hp1;have s1:=af hp1 (.dK []);have k1:upd H p1 (.dK []) p1=some (.dK (snV [])):=ac;generalize upd H p1 (.dK [])=H1 at s1 k1⊢;have got:∀(G:Hp) (x:Option Xc),fZ ft ws=x->ak H G->Q (.str (uq x)) G:=λG x e m=>by rw[<-e];exact q G m
 refine⟨_,rfl,sa,rfl,⟨_,SqL.of (s1 _ _ hsa)⟩,cm (K:=K) (a:=sa) (xs:=sv) (λi σ' G=>∃(seen:List Str) (n:Nat) (w:Bool) (v5 v6:Option V),σ'=[some (.ref sa),some (.ref fa),some (.ref p1),some (.int ((n:Nat):Int)),some (.bl w),v5,v6,none]/\ak H G/\G p1=some (.dK (snV seen))/\rfS ft [] 0 false ws=rfS ft seen n w (ws.drop i)/\seen.length<=i) ⟨[],0,false,none,none,rfl,s1,k1,rfl,G_ _⟩ (λi σ' G _ g=>by obtain⟨_,_,_,_,_,_,m,_⟩:=g;exact SqL.of (m _ _ hsa)) ?_ ?_⟩
 .rintro i y σ' G hy ⟨seen,n,w,v5,v6,rfl,m,g1,er,sn⟩;obtain⟨s,hs,b,rfl,hb⟩:=sal.getL hy;have hi:=(List.getElem?_eq_some_iff.mp hs).1;have hx:ws[i]?=some (fh tt s):=by rw[<-hws,HA,hs];rfl
  have ed:ws.drop i=fh tt s::ws.drop (i+1):=by
   obtain⟨h1,h2⟩:=List.getElem?_eq_some_iff.mp hx;rw[Ia h1,h2]
  rw[ed,il]at er;refine⟨b,_,rfl,SqT.of (m _ _ hb),rfl,_,_,rfl,_,_,rfl,rfl,?_⟩;refine⟨_,rfl,rfl,_,rfl,?_⟩;by_cases hm:s.isM=true
  .rw[decide_eq_true (show V.str s.k=V.str (PySem.Str.ofString "mark")from congrArg V.str (Sw.mark_k.mpr hm))];refine aQ ?_;obtain⟨x,rfl⟩:∃x,s=.w x:=by cases s<;>first|exact⟨_,rfl⟩|cases hm
   have kx:x.1=.mark:=by simpa[Sw.isM]using hm
   have erest:bp (fh tt (.w x)).2=tx x.2:=rfl;rw[if_pos (show(fh tt (.w x)).1=.mark from kx),erest]at er;refine⟨_,rfl,_,rfl,_,_,rfl,e_.k (k:=.inr (tx x.2)) g1,_,rfl,?_⟩;rw[vc];by_cases hc:tx x.2∈seen
   .rw[decide_eq_true hc];rw[if_pos hc]at er;refine aQ ?_;exact got G (some .twice) (by unfold fZ;rw[er]) m
   .rw[decide_eq_false hc];rw[if_neg hc]at er;refine av ?_;dsimp only[dq];refine⟨_,rfl,_,rfl,_,_,rfl,rc.k (k:=.inr (tx x.2)) g1 (by unfold snV;rw[GT];exact Hq (show seen.length<=3000000 by omega) (by decide)),?_⟩;rw[pI _ (by rw[Ek hc])];refine⟨seen++[tx x.2],n,true,_,_,rfl,aW m hp1,?_,er,by rw[GX];simp only[GU,Hk];omega⟩;rw[ac];unfold snV;rw[Hc];rfl
  .rw[decide_eq_false (show ¬ (V.str s.k=V.str (PySem.Str.ofString "mark"))from λzz=>hm (Sw.mark_k.mp (V.str.inj zz)))];rw[if_neg (λz=>hm ((Ee tt s).mp z))]at er;refine av ?_;refine⟨_,rfl,rfl,_,rfl,?_⟩;rw[El tt];by_cases hfk:(fh tt s).1=.foot
   .rw[decide_eq_true hfk];refine aQ ?_;obtain⟨x,rfl⟩:∃x,s=.w x:=by cases s<;>first|exact⟨_,rfl⟩|cases hfk
    obtain⟨f0,f1⟩:=fal.val (n:=tx x.2);cases hl:lkS (tx x.2) ft with
    |none =>
     refine⟨_,rfl,_,rfl,_,_,rfl,e_.k (k:=.inr (tx x.2)) (m _ _ hfa),_,rfl,?_⟩;rw[f0 hl];refine aQ ?_;exact got G (some .nofoot) (by unfold fZ;rw[er,if_pos ⟨hfk,hl⟩]) m
    |some f =>
     obtain⟨l,hv,_⟩:=f1 f hl;refine⟨_,rfl,_,rfl,_,_,rfl,e_.k (k:=.inr (tx x.2)) (m _ _ hfa),_,rfl,?_⟩;rw[hv];refine av ?_;dsimp only[dq];rw[if_neg (λz=>by rw[show lkS (bp (fh tt (.w x)).2) ft=some f from hl]at z;cases z.2)]at er;refine⟨_,rfl,rfl,_,rfl,?_⟩;by_cases h4:n=400
     .rw[decide_eq_true (show V.int ((n:Nat):Int)=V.int 400 by rw[h4];rfl)];rw[if_pos h4]at er;refine aQ ?_;exact got G (some .toolong) (by unfold fZ;rw[er]) m
     .rw[decide_eq_false (show ¬ (V.int ((n:Nat):Int)=V.int 400)from λz=>h4 (by injection z with z;omega))];rw[if_neg h4]at er;refine av ?_;dsimp only[dq];refine⟨_,rfl,_,_,rfl,rfl,?_⟩;exact⟨seen,n+1,false,_,_,rfl,m,g1,er,by omega⟩
   .rw[decide_eq_false hfk];refine av ?_;refine av ?_;dsimp only[dq];rw[if_neg (λz=>hfk z.1)]at er;refine⟨_,rfl,rfl,_,rfl,?_⟩;by_cases h4:n=400
    .rw[decide_eq_true (show V.int ((n:Nat):Int)=V.int 400 by rw[h4];rfl)];rw[if_pos h4]at er;refine aQ ?_;exact got G (some .toolong) (by unfold fZ;rw[er]) m
    .rw[decide_eq_false (show ¬ (V.int ((n:Nat):Int)=V.int 400)from λz=>h4 (by injection z with z;omega))];rw[if_neg h4]at er;refine av ?_;dsimp only[dq];refine⟨_,rfl,_,_,rfl,rfl,?_⟩;exact⟨seen,n+1,false,_,_,rfl,m,g1,er,by omega⟩
 .rintro σ' G ⟨seen,n,w,v5,v6,rfl,m,g1,er,sn⟩;rw[ls,<-lw,IS]at er;have er:rfS ft [] 0 false ws=.ok (seen,n,w):=er;refine⟨_,rfl,_,rfl,?_⟩;cases w with
  |true =>
   refine aQ ?_;exact got G (some .nomark) (by unfold fZ;rw[er];rfl) m
  |false =>
   refine av ?_;dsimp only[dq];have eA:fZ ft ws=(if(ws++ft.flatMap (·.2)).any (λx=>cT x.1 && !decide (bp x.2∈seen))then some .nomark else none):=by unfold fZ;rw[er];rfl
   have hfG:=m _ _ hfa;have npf:p1≠fa:=λz=>by rw[z,hfa]at hp1;cases hp1
   have nsf:sa≠fa:=λz=>by rw[z,hfa]at hsa;cases hsa
   refine⟨_,rfl,fa,kvs,rfl,hfG,λhz o=>Bv hz (λi σ' F=>∃(sp:Addr) (us:List V) (v7:Option V),σ'=[some (.ref sp),some (.ref fa),some (.ref p1),some (.int ((n:Nat):Int)),some (.bl false),v5,v6,v7]/\ak (hid [fa] G) F/\F fa=some (.frz o (.dK kvs))/\F sp=some (.lst us)/\aL (PtA (hid [fa] F)) us (ws++(ft.take i).flatMap (·.2))/\us.length<=2000000+200*i) ?_ ?_ ?_ ?_⟩
   .refine⟨sa,sv,none,rfl,λb u z=>?_,ac,by rw[aj nsf];exact m _ _ hsa,?_,by omega⟩
    .obtain⟨z1,z2⟩:=gg.mp z;rw[aj (by simpa using z1)];exact z2
    .rw[br (by simp),show(ft.take 0).flatMap (·.2)=([]:List Wk)from rfl,HU,<-hws];refine yE (λv s h=>?_) sal;obtain⟨a',e,h⟩:=h;exact F_ tt ⟨a',e,aZ (λz=>by rw[List.mem_singleton.mp z,hfa]at h;cases h) (m _ _ h)⟩
   .rintro i σ' F ⟨_,_,_,_,_,ff,_⟩;exact ff
   .rintro i p σ' F hp ⟨sp,us,v7,rfl,mF,ff,fs_,al,ul⟩;obtain⟨qf,hq,ek,_⟩:=fal.get hp;have hq_:=BT nd hq;obtain⟨l',hv,cs,c1,c2⟩:=(fal.val (n:=qf.1)).2 _ hq_;obtain⟨fl1,fl2⟩:=fw qf (Ha hq);have lc:=c2.len;have nl:l'∉[fa]:=λz=>by rw[List.mem_singleton.mp z,hfa]at c1;cases c1
    have c1F:=mF _ _ (aZ nl (m _ _ c1));refine⟨_,rfl,_,rfl,_,rfl,_,_,rfl,.inl ⟨kvs,.inr qf.1,.inr ⟨o,ff⟩,by rw[ek],hv.symm⟩,_,_,_,_,rfl,rfl,fs_,c1F,HM (Hq (show us.length+cs.length<=3000000 by have:=(List.getElem?_eq_some_iff.mp hq).1;omega) (by decide)),λp2 hp2=>?_⟩;refine⟨p2,us++cs,_,rfl,mF.trans (af hp2 _),af hp2 _ _ _ ff,ac,?_,by rw[GX];omega⟩;rw[bb hq,Jy,<-HL];refine(al.imp λ_ _=>PtA.mono (D5 hp2)).app ?_;rw[show([qf]:List (Str×List Wk)).flatMap (·.2)=qf.2 by simp];refine BS fl2 (aL.imp (λv w h=>?_) c2);obtain⟨a',e,h⟩:=h;exact⟨a',e,aZ (λz=>by rw[List.mem_singleton.mp z,hfa]at h;cases h) (af hp2 _ _ _ (mF _ _ (aZ (λz=>by rw[List.mem_singleton.mp z,hfa]at h;cases h) (m _ _ h))))⟩
   .rintro σ' F ⟨sp,us,v7,rfl,mF,ff,fs_,al,ul⟩;rw[fal.len,Hu]at al;rw[fal.len]at ul;have nspf:sp≠fa:=λz=>by rw[z,ff]at fs_;cases fs_
    have mH:ak H (upd F fa (.dK kvs)):=λb u z=>by
     by_cases e:b=fa
     .rw[e]at z⊢;rw[ac,<-hfa,z]
     .rw[aj e];exact mF _ _ (aZ (by simpa using e) (m _ _ z))
    have al2:aL (PtA (upd F fa (.dK kvs))) us (ws++ft.flatMap (·.2)):=al.imp λ_ _=>PtA.mono (λb u z=>by
     obtain⟨z1,z2⟩:=gg.mp z;rw[aj (by simpa using z1)];exact z2)
    have f2:upd F fa (.dK kvs) sp=some (.lst us):=by rw[aj nspf];exact fs_
    have k2:upd F fa (.dK kvs) p1=some (.dK (snV seen)):=by rw[aj npf];exact mF _ _ (aZ (by simpa using npf) g1)
    generalize upd F fa (.dK kvs)=F2 at mH al2 f2 k2⊢;generalize ws++ft.flatMap (·.2)=all at *;have l2:=al2.len;refine⟨_,rfl,sp,rfl,⟨_,SqL.of f2⟩,cm (K:=K) (a:=sp) (xs:=us) (λi σ' G2=>∃(v5 v6 v7:Option V),σ'=[some (.ref sp),some (.ref fa),some (.ref p1),some (.int ((n:Nat):Int)),some (.bl false),v5,v6,v7]/\ak F2 G2/\(all.take i).any (λx=>cT x.1 && !decide (bp x.2∈seen))=false) ⟨_,_,_,rfl,ak.refl _,rfl⟩ (λi σ' G2 _ g=>by obtain⟨_,_,_,_,mz,_⟩:=g;exact SqL.of (mz _ _ f2)) ?_ ?_⟩
    .rintro i y σ' G2 hy ⟨v5,v6,v7,rfl,mz,an⟩;obtain⟨x,hx,b,k,u,rfl,hb,hk,hu⟩:=al2.getL hy;have ea:=congrArg (λl=>List.any l (λx:Wk=>cT x.1 && !decide (bp x.2∈seen))) (bb hx);rw[List.any_append,an]at ea;refine⟨b,_,rfl,SqT.of (mz _ _ hb),rfl,_,_,rfl,_,_,rfl,rfl,?_⟩;refine⟨_,rfl,le3,λp3 hp3=>?_⟩;have c3:=mz.trans (af hp3 (.tup [V.str (PySem.Str.ofString "number"),V.str (PySem.Str.ofString "page"),V.str (PySem.Str.ofString "row")]));refine⟨_,_,rfl,.inr (SqT.of ac),rfl,rfl,_,rfl,?_⟩;rw[hk];cases hpt:cT x.1 with
     |false =>
      refine av ?_;refine av ?_;exact⟨_,_,_,rfl,c3,by rw[ea];simp[hpt]⟩
     |true =>
      refine aQ ?_;obtain⟨m',rfl,er'⟩:=hu hpt;refine⟨_,rfl,_,rfl,_,_,rfl,e_.k (k:=.inr (tx m')) (c3 _ _ k2),_,rfl,?_⟩;rw[vc];by_cases hc:tx m'∈seen
      .rw[decide_eq_true hc];refine av ?_;exact⟨_,_,_,rfl,c3,by rw[ea];simp[er',hc]⟩
      .rw[decide_eq_false hc];refine aQ ?_;refine got _ (some .nomark) ?_ (mH.trans c3);rw[eA,if_pos];rw[Jv];exact⟨x,Ha hx,by simp[hpt,er',hc]⟩
    .rintro σ' G2 ⟨v5,v6,v7,rfl,mz,an⟩;rw[l2,Hu]at an;exact got _ none (by rw[eA,an];rfl) (mH.trans mz)
def BU(K:PySem.W.Frag):Sp:=λvs H Q _=>∃(sa wa ka:Addr) (ns:List Int) (wys:List WyD) (kds:List Kw),vs=[.ref sa,.ref wa,.ref ka]/\SqL K H sa (ns.map V.int)/\ns.length<=63/\SqL K H wa ((wys.map λw=>tx w.t).map V.str)/\SqL K H ka (kds.map λk=>V.str k.s)/\0<wys.length/\0<kds.length/\wys.length<=900/\kds.length<=900/\(∀w,.way w∈wys->w.hd=false)/\∀p H' rows us,H p=none->ak H H'->H' p=some (.lst us)->aL (RrA (hid [p] H')) us rows->l0 wys kds 62 rows->Q (.ref p) H'
theorem jt:aN ["script","ways","kinds","rows","cell","way","kind"] ["script","ways","kinds"] (au um):=by walk_at "c"
theorem BV(T:Txt P w K mg a):bi P w K mg base CX0 2 a.uD a.sK ["script","ways","kinds"] (BU K):=by
 refine T.ux.fn.ok jt (λvs H Q E h=>?_) (λcdv A outer s H vs Q E hr h=>?_)
 .obtain⟨sa,wa,ka,ns,wys,kds,rfl,_⟩:=h;rfl
 obtain⟨sa,wa,ka,ns,wys,kds,rfl,hsa,h63,hwa,hka,w0,k0,w9,k9,wnh,q⟩:=h;have hu:=IJ (dB hr);refine⟨_,(ag (ay (i:=3) jt.nd rfl (Hh rfl) (aU ae))
   (ag (cg HS rfl (bq (dF oU (pv 0) (dX ah) (dX ah))) (aO (i:=4) jt.nd rfl (Hh rfl)) (ag (ay (i:=5) jt.nd rfl (Hh rfl) (aS bS (pv 1) (aC T.bz (bv T) (hr.mono (by decide)) rfl (aa (pv 4) (aa ah (aa (aV bN rfl T.cr PySem.boot_len (aa (pv 1) ae)) ae)))) (λ_ _=>rfl)))
   (ai (aR (ao a_ (pv 5) am (nomark _)) (ai (bn (cp PySem.F.plainAttrs_list PySem.F.slot_list_append PySem.F.type_list_append b7 (pv 3) (aa (aY (aa (aS bS (aU (aa am (aa am (aa am ae)))) (aC T.bz (bv T) (hr.mono (by decide)) rfl (aa (pv 4) (aa ah (aa ah ae)))) (λ_ _=>rfl)) (aa (aU ae) ae))) ae)))) (ai (aR (ao jz (pv 5) am (nomark _)) (ai (bn (cp PySem.F.plainAttrs_list PySem.F.slot_list_append PySem.F.type_list_append b7 (pv 3) (aa (aY (aa (pv 5) (aa (aU ae) ae))) ae)))) (ag (ay (i:=6) jt.nd rfl (Hh rfl) (aS bS (pv 2) (aC T.bz (bv T) (hr.mono (by decide)) rfl (aa (pv 4) (aa ah (aa (aV bN rfl T.cr PySem.boot_len (aa (pv 2) ae)) ae)))) (λ_ _=>rfl)))
   (ag (aR (PW.pt (jy (ao (tZ hu) (pv 3) (aU ae) (nomark _)) (jy (ao hU (aS bM (aS bS (pv 3) (sP oS ah) (λ_ _=>rfl)) ah (λ_ _=>rfl)) (aY (aa am (aa am (aa am (aa am ae))))) (by with_unfolding_all rfl)) (jx (ao a_ (aV bN rfl T.cr PySem.boot_len (aa (aS bM (aS bS (pv 3) (sP oS ah) (λ_ _=>rfl)) ah (λ_ _=>rfl)) ae)) ah (nomark _)))))) (ai (bn (cp PySem.F.plainAttrs_list PySem.F.slot_list_append PySem.F.type_list_append b7 (pv 3) (aa (aY (aa am (aa (aU ae) ae))) ae)))) aM)
   (ag (aR (PW.pt (jy (PW.pt (cY (ao a_ (aS eV (aS bM (aS bS (pv 3) (sP oS ah) (λ_ _=>rfl)) ah (λ_ _=>rfl)) ah (λ_ _=>rfl)) am (nomark _)) (cH (ao a_ (pv 6) am (nomark _))))) (jx (PW.pt (cY (ao a_ (aS bM (aS bS (pv 3) (sP oS ah) (λ_ _=>rfl)) ah (λ_ _=>rfl)) am (nomark _)) (cH (ao hU (pv 6) (aY (aa am (aa am ae))) (by with_unfolding_all rfl)))))))) (ai (ay (i:=6) jt.nd rfl (Hh rfl) am)) aM)
   (ai (bn (cp PySem.F.plainAttrs_list PySem.F.slot_list_append PySem.F.type_list_append b7 (aS bM (aS bS (pv 3) (sP oS ah) (λ_ _=>rfl)) ah (λ_ _=>rfl)) (aa (aY (aa (pv 6) (aa (pv 4) ae))) ae)))))))))))))
   (ai (aP (pv 3))))),?_⟩
 refine⟨aJ (by simp),λp1 hp1=>?_⟩;have s1:=af hp1 (.lst []);have k1:upd H p1 (.lst []) p1=some (.lst []):=ac;generalize upd H p1 (.lst [])=H1 at s1 k1⊢;have R0:iO H H1 p1 []:=⟨s1,hp1,[],p1,k1,hp1,rfl,.inl ⟨rfl,rfl⟩⟩;refine⟨_,rfl,_,rfl,_,rfl,_,_,rfl,s1.seq hsa,λp2 hp2=>?_⟩;have s2:=af hp2 (.lst (hJ (ns.map V.int) (some 1) (some 130)));have k2:upd H1 p2 (.lst (hJ (ns.map V.int) (some 1) (some 130))) p2=some (.lst ((jj ns (some 1) (some 130)).map V.int)):=by rw[ac,CB]
 have cl:(jj ns (some 1) (some 130)).length<=62:=by
  unfold jj HT.sIx;rw[HD,Jt];simp only[show ¬ ((1:Int)<0) by decide,show ¬ ((130:Int)<0) by decide,if_false];have:min (I_ 1) ns.length=min 1 ns.length:=rfl;omega
 generalize jj ns (some 1) (some 130)=cs at k2 cl;generalize upd H1 p2 (.lst (hJ (ns.map V.int) (some 1) (some 130)))=H2 at s2 k2⊢;have wl:((wys.map λw=>tx w.t).map V.str).length=wys.length:=by simp
 have kl:(kds.map λk=>V.str k.s).length=kds.length:=by simp
 have H2p:H p2=none:=s1.free hp2;have npp:p2≠p1:=λz=>by rw[z,k1]at hp2;cases hp2
 have B0:∃B:Hp,ak H B/\B p2=some (.lst (cs.map V.int))/\B p1=none/\ak B H2:=⟨hid [p1] H2,jr (s1.trans s2) (λb hb=>by rw[List.mem_singleton.mp hb];exact hp1),aZ (by simpa using npp) k2,by unfold hid;simp,bT⟩;obtain⟨B,sB,kB,nB,sB2⟩:=B0;have R0:iO B H2 p1 []:=⟨sB2,nB,[],p1,s2 _ _ k1,nB,rfl,.inl ⟨rfl,rfl⟩⟩;have hwB:=sB.seq hwa;have hkB:=sB.seq hka;refine⟨p2,rfl,⟨_,SqL.of k2⟩,cm (K:=K) (a:=p2) (xs:=cs.map V.int) (λi σ' G=>∃(v4 v5 v6:Option V) (rows:List dj),σ'=[some (.ref sa),some (.ref wa),some (.ref ka),some (.ref p1),v4,v5,v6]/\iO B G p1 rows/\l0 wys kds i rows) ⟨none,none,none,[],rfl,R0,⟨G_ _,G_ _,by simp⟩⟩ (λi σ' G _ g=>by obtain⟨_,_,_,_,_,R,_⟩:=g;exact SqL.of (R.old _ _ kB)) ?_ ?_⟩
 .rintro i y σ' G hy ⟨v4,v5,v6,rows,rfl,R,ok⟩;have hi:=(List.getElem?_eq_some_iff.mp hy).1;rw[GT]at hi;rw[HA]at hy;obtain⟨c,_,rfl⟩:=Option.map_eq_some_iff.mp hy;obtain⟨j,ej,hj⟩:=ii c 1 w0;obtain⟨wy,hwy⟩:∃wy,wys[j]?=some wy:=⟨wys[j],GZ hj⟩;have rl:=ok.len;obtain⟨us0,U1,U2,_⟩:=R.all;have addR:∀(w:Wy) (sw:Str) (G':Hp),sw=tx w.t->ak G G'->Af wys w->∀pl,G' pl=none->∀pt,(upd G' pl (.lst [])) pt=none->∃us,(upd (upd G' pl (.lst [])) pt (.tup [.str sw,.ref pl])) p1=some (.lst us)/\us.length<Hs/\iO B (upd (upd (upd G' pl (.lst [])) pt (.tup [.str sw,.ref pl])) p1 (.lst (us++[.ref pt]))) p1 (rows++[(w,[])])/\l0 wys kds (i+1) (rows++[(w,[])]):=λw sw G' esw m hw pl hpl pt hpt=>by
   subst esw;have m1:=af hpl (.lst []);have m2:=af hpt (.tup [.str (tx w.t),.ref pl]);obtain⟨us,u1,u2,_⟩:=R.all;have m3:=m.trans (m1.trans m2);exact⟨us,m3 _ _ u1,aB (by omega),R.add m3 (m.free hpl) (m2 _ _ ac) ((m.trans m1).free hpt) ac (m3 _ _ u1),ok.add hw⟩
  refine⟨_,rfl,_,rfl,_,rfl,_,_,rfl,.inl (R.old.seq hwB),c,1,(wys.length:Int),(by rw[wl];rfl),⟨by decide,by decide⟩,by omega,_,_,_,_,rfl,rfl,R.old.seq hwB,(by rw[ej];exact dy (by rw[HA,HA,hwy];rfl)),?_⟩;refine⟨_,rfl,rfl,_,rfl,?_⟩;rw[cw cH1];have wm:=Ha hwy;cases wy with
  |eq =>
   rw[decide_eq_true (show WyD.t .eq=[61]from rfl)];refine aQ ?_;refine⟨_,rfl,.inl ⟨rfl,_,SqL.of U1⟩,le3,λp3 hp3=>?_⟩;obtain⟨n3,e3,h3⟩:=ii c 2 (show 0<3 by decide);have e3:bJ c 2 3=(n3:Int):=e3;obtain⟨w,hw,ew⟩:=at3 n3 h3;have m3:=af hp3 (.lst [V.str (PySem.Str.ofString "="),V.str (PySem.Str.ofString "=="),V.str (PySem.Str.ofString "===")]);refine⟨_,rfl,c,2,3,rfl,⟨by decide,by decide⟩,by decide,_,_,_,_,rfl,rfl,SqL.of ac,(by rw[e3];exact ew),aJ (by simp),λpl hpl=>?_⟩;refine⟨le2,λpt hpt=>?_⟩;obtain⟨us,u1,u2,u3,u4⟩:=addR w _ _ rfl m3 (.inr (.inr ⟨hw,wm⟩)) pl hpl pt hpt;exact⟨_,_,_,rfl,rfl,u1,u2,_,_,_,_,rfl,u3,u4⟩
  |way w =>
   have nh:=wnh w wm;rw[decide_eq_false (show ¬ (WyD.t (.way w)=[61])from λz=>by have:w=.h1:=Wy.inj z;rw[this]at nh;cases nh)];refine av ?_;refine⟨_,rfl,rfl,_,rfl,?_⟩;rw[cw BF,decide_eq_false (show ¬ (WyD.t (.way w)=[119,111,114,100])from λz=>by revert z;cases w<;>decide)]
   refine aQ ?_;refine⟨_,rfl,.inl ⟨rfl,_,SqL.of U1⟩,_,rfl,aJ (by simp),λpl hpl=>?_⟩;refine⟨le2,λpt hpt=>?_⟩;obtain⟨us,u1,u2,u3,u4⟩:=addR w _ _ rfl (ak.refl _) (.inr (.inl wm)) pl hpl pt hpt;exact⟨_,_,_,rfl,rfl,u1,u2,_,_,_,_,rfl,u3,u4⟩
  |word =>
   rw[decide_eq_false (show ¬ (WyD.t .word=[61]) by decide)];refine av ?_;refine⟨_,rfl,rfl,_,rfl,?_⟩;rw[cw BF,decide_eq_true (show WyD.t .word=[119,111,114,100]from rfl)];refine av ?_;obtain⟨j8,e8,h8⟩:=ii c 8 k0;obtain⟨kd,hkd⟩:∃kd,kds[j8]?=some kd:=⟨kds[j8],GZ h8⟩;refine⟨_,rfl,_,rfl,_,rfl,_,_,rfl,.inl (R.old.seq hkB),c,8,(kds.length:Int),(by rw[kl];rfl),⟨by decide,by decide⟩,by omega,_,_,_,_,rfl,rfl,R.old.seq hkB,(by rw[e8];exact dy (by rw[HA,hkd];rfl)),?_⟩;dsimp only[bB];have sumW:((rows++[((.words,[]):dj)]).map (·.2.length)).sum<=i:=by rw[Hc,I0];have:=ok.sum;simp;omega
   refine dH (λσ' G'=>∃(ini:List dj) (w:Wy) (ws:List (Kw×Int)),σ'=[some (.ref sa),some (.ref wa),some (.ref ka),some (.ref p1),some (.int c),some (.str (tx (WyD.t .word))),some (.str kd.s)]/\iO B G' p1 (ini++[(w,ws)])/\w.bare=false/\ws.length<=5/\(ini++[(w,ws)]).length<=i+1/\((ini++[(w,ws)]).map (·.2.length)).sum<=i/\∀r∈ini++[(w,ws)],Ad kds r/\Af wys r.1) ?_ (λkey=>?_)
   .rintro σ' G2 ⟨ini,w,ws,rfl,R2,nb,wl5,rl2,sm2,ok2⟩;obtain⟨vi,ra,lo,us,g1,g2,g3,g4,g5⟩:=R2.last;obtain⟨ch,u,ew,hw⟩:=F6 nb;have kin:kd∈kds\/kd=.plain:=.inl (Ha hkd);refine dH (λσ' G'=>∃kd':Kw,σ'=[some (.ref sa),some (.ref wa),some (.ref ka),some (.ref p1),some (.int c),some (.str (tx (WyD.t .word))),some (.str kd'.s)]/\ak G2 G'/\(w.hd=true->kd'≠.foot)/\(w=.foot->kd'≠.mark/\kd'≠.foot)/\(kd'∈kds\/kd'=.plain)) ?_ (λkey=>?_)
    .rintro σ' G3 ⟨kd',rfl,m3,c1,c2,c3⟩;refine⟨_,rfl,_,rfl,_,_,_,_,rfl,rfl,SqL.of (m3 _ _ g1),jZ _ _,_,_,_,_,rfl,rfl,SqT.of (m3 _ _ g2),rfl,.inl ⟨rfl,_,SqL.of (m3 _ _ g3)⟩,_,rfl,_,rfl,le2,λpk hpk=>?_⟩;have m4:=af hpk (.tup [.str kd'.s,.int c]);refine⟨_,_,_,rfl,rfl,m4 _ _ (m3 _ _ g3),aB (by omega),?_⟩;refine⟨_,_,_,ini++[(w,ws++[(kd',c)])],rfl,g5 _ pk (kd',c) (m3.trans m4) (m3.free hpk) ac,⟨?_,?_,λr hr=>?_⟩⟩
     .simpa using rl2
     .rw[Hc,I0]at sm2⊢;simp at sm2⊢;omega
     .rcases List.mem_append.mp hr with hr|hr
      .exact ok2 r (ID _ hr)
      .rw[List.mem_singleton.mp hr];obtain⟨o1,o2⟩:=ok2 (w,ws) (HN _ He);have ap:∀{P:Kw×Int->Prop},(∀x∈ws,P x)->P (kd',c)->∀x∈ws++[(kd',c)],P x:=λh1 h2 x hx=>by
        rcases List.mem_append.mp hx with hx|hx
        .exact h1 x hx
        .rw[List.mem_singleton.mp hx];exact h2
       refine⟨⟨λz=>?_,?_,λz=>ap (o1.head z) (c1 z),λz=>ap (o1.foot z) (c2 z),ap o1.kds c3⟩,o2⟩
       .rw[show(w,ws++[(kd',c)]).1.bare=w.bare from rfl,nb]at z;cases z
       .show(ws++[(kd',c)]).length<=6;rw[GX];simp only[GU,Hk];omega
    .have m0:=ak.refl G2;have kpl:∀G',ak G2 G'->(∃kd':Kw,[some (V.ref sa),some (V.ref wa),some (V.ref ka),some (V.ref p1),some (V.int c),some (V.str (tx (WyD.t .word))),some (V.str (PySem.Str.ofString "plain"))]=[some (V.ref sa),some (V.ref wa),some (V.ref ka),some (V.ref p1),some (V.int c),some (V.str (tx (WyD.t .word))),some (V.str kd'.s)]/\ak G2 G'/\(w.hd=true->kd'≠.foot)/\(w=.foot->kd'≠.mark/\kd'≠.foot)/\(kd'∈kds\/kd'=.plain)):=λG' m=>⟨.plain,rfl,m,λ_=>(by decide),λ_=>⟨by decide,by decide⟩,.inr rfl⟩;refine⟨_,rfl,_,rfl,_,_,_,_,rfl,rfl,SqL.of (m0 _ _ g1),jZ _ _,_,_,_,_,rfl,rfl,SqT.of (m0 _ _ g2),rfl,_,_,ch,rfl,rfl,(by rw[bf];cases w<;>exact aJ (by decide)),(by rw[ew];exact iJ _ _),rfl,_,rfl,?_⟩
     rw[cw cH1,show decide ([ch]=[61])=w.hd from by rw[<-hw];simp];cases hh:w.hd with
     |true =>
      have nf:w≠.foot:=λz=>by rw[z]at hh;cases hh
      refine aQ ?_;refine⟨_,rfl,rfl,_,rfl,?_⟩;by_cases hf:kd=.foot
      .rw[decide_eq_true (show V.str kd.s=V.str "foot" by rw[hf];rfl)];refine aQ ?_;refine aQ ?_;exact key _ _ (kpl _ m0)
      .rw[decide_eq_false (show ¬ (V.str kd.s=V.str "foot")from λz=>hf (Kw.inj (b:=.foot) (V.str.inj z)))];refine av ?_;refine⟨_,rfl,_,rfl,_,_,_,_,rfl,rfl,SqL.of (m0 _ _ g1),jZ _ _,_,_,_,_,rfl,rfl,SqT.of (m0 _ _ g2),rfl,rfl,_,rfl,?_⟩;rw[cw kg,decide_eq_false (show ¬ (w.t=dN)from λz=>nf (Wy.inj (b:=.foot) z))];refine av ?_;refine av ?_;exact key _ _ ⟨kd,rfl,m0,λ_=>hf,λz=>absurd z nf,kin⟩
     |false =>
      have nh:w.hd=true->kd≠.foot:=λz=>by rw[hh]at z;cases z
      refine av ?_;refine av ?_;refine⟨_,rfl,_,rfl,_,_,_,_,rfl,rfl,SqL.of (m0 _ _ g1),jZ _ _,_,_,_,_,rfl,rfl,SqT.of (m0 _ _ g2),rfl,rfl,_,rfl,?_⟩;rw[cw kg];by_cases hw2:w=.foot
      .rw[decide_eq_true (show w.t=dN by rw[hw2];rfl)];refine aQ ?_;refine⟨_,rfl,le2,λp9 hp9=>?_⟩;refine⟨_,_,rfl,.inr (SqT.of ac),rfl,rfl,_,rfl,?_⟩;refine d_ (λc2=>?_) (λc2=>?_)
       .exact key _ _ (kpl _ (af hp9 _))
       .have c3:(decide (kd=.mark)||decide (kd=.foot))=false:=(GL kd).symm.trans (Bool.eq_false_iff.mpr c2);simp only[J5,decide_eq_false_iff_not]at c3;exact key _ _ ⟨kd,rfl,af hp9 _,nh,λ_=>c3,kin⟩
      .rw[decide_eq_false (show ¬ (w.t=dN)from λz=>hw2 (Wy.inj (b:=.foot) z))];refine av ?_;refine av ?_;exact key _ _ ⟨kd,rfl,m0,nh,λz=>absurd z hw2,kin⟩
   .refine⟨_,rfl,aJ (by simp),λp10 hp10=>?_⟩;have m1:=af hp10 (.lst []);refine⟨_,_,_,rfl,rfl,SqL.of (m1 _ _ U1),SqL.of ac,_,rfl,?_⟩;rcases List.eq_nil_or_concat rows with e0|⟨ini,⟨w,ws⟩,e0⟩
    .have hz:us0=[]:=by
      rw[e0]at U2;exact List.length_eq_zero_iff.mp U2
     refine d_ (λc2=>?_) (λc2=>?_)
     .refine aQ ?_;refine⟨_,rfl,.inl ⟨rfl,_,SqL.of ((m1) _ _ U1)⟩,aJ (by simp),λpl hpl=>?_⟩;refine⟨le2,λpt hpt=>?_⟩;obtain⟨us,u1,u2,u3,u4⟩:=addR .words _ _ jJ (m1) (.inl rfl) pl hpl pt hpt;exact⟨_,_,_,rfl,rfl,u1,u2,key _ _ ⟨rows,.words,[],rfl,u3,rfl,by simp,u4.len,sumW,u4.ok⟩⟩
     .exact absurd (by rw[hz];rfl) c2
    .rw[List.concat_eq_append]at e0;have R':=R;rw[e0]at R';obtain⟨vi,ra,lo,us,g1,g2,g3,g4,g5⟩:=R'.last;have hz:us0=vi++[.ref ra]:=by
      rw[g1]at U1;injection U1 with U1;injection U1 with U1;exact U1.symm
     refine d_ (λc2=>?_) (λc2=>?_)
     .rw[hz]at c2;exact absurd c2 (by cases vi<;>exact Hw)
     refine⟨_,rfl,_,rfl,_,_,_,_,rfl,rfl,SqL.of (m1 _ _ g1),jZ _ _,_,_,_,_,rfl,rfl,SqT.of (m1 _ _ g2),rfl,le4,λp11 hp11=>?_⟩;have m12:=m1.trans (af hp11 (.tup [V.str (PySem.Str.ofString ""),V.str (PySem.Str.ofString ".page"),V.str (PySem.Str.ofString ".odd"),V.str (PySem.Str.ofString ".list")]));refine⟨_,_,rfl,.inr (SqT.of ac),rfl,rfl,_,rfl,?_⟩;refine d_ (λc2=>?_) (λc2=>?_)
     .refine aQ ?_;refine⟨_,rfl,.inl ⟨rfl,_,SqL.of ((m12) _ _ U1)⟩,aJ (by simp),λpl hpl=>?_⟩;refine⟨le2,λpt hpt=>?_⟩;obtain⟨us,u1,u2,u3,u4⟩:=addR .words _ _ jJ (m12) (.inl rfl) pl hpl pt hpt;exact⟨_,_,_,rfl,rfl,u1,u2,key _ _ ⟨rows,.words,[],rfl,u3,rfl,by simp,u4.len,sumW,u4.ok⟩⟩
     .have nb:w.bare=false:=(Fl w).symm.trans (Bool.eq_false_iff.mpr c2);refine⟨_,rfl,_,rfl,_,_,_,_,rfl,rfl,SqL.of (m12 _ _ g1),jZ _ _,_,_,_,_,rfl,rfl,SqT.of (m12 _ _ g2),rfl,_,_,rfl,.inl (SqL.of (m12 _ _ g3)),rfl,_,rfl,?_⟩;refine d_ (λc3=>?_) (λc3=>?_)
      .refine⟨_,rfl,.inl ⟨rfl,_,SqL.of ((m12) _ _ U1)⟩,aJ (by simp),λpl hpl=>?_⟩;refine⟨le2,λpt hpt=>?_⟩;obtain⟨us,u1,u2,u3,u4⟩:=addR .words _ _ jJ (m12) (.inl rfl) pl hpl pt hpt;exact⟨_,_,_,rfl,rfl,u1,u2,key _ _ ⟨rows,.words,[],rfl,u3,rfl,by simp,u4.len,sumW,u4.ok⟩⟩
      .have n6:us.length≠6:=λz=>c3 (decide_eq_true (by rw[z];rfl));have o:=(ok.ok (w,ws) (by rw[e0];exact HN _ He)).1.len;dsimp only at o;exact key _ _ ⟨ini,w,ws,rfl,R'.same m12,nb,by omega,by rw[<-e0];omega,by rw[<-e0];exact ok.sum,by rw[<-e0];exact ok.ok⟩
 rintro σ' G ⟨v4,v5,v6,rows,rfl,R,ok⟩;rw[GT]at ok;obtain⟨us,u1,u2,u3⟩:=R.all;exact⟨_,rfl,q p1 G rows us hp1 (sB.trans R.old) u1 u3 ⟨by have:=ok.len;omega,by have:=ok.sum;omega,ok.ok⟩⟩
def y_(K:PySem.W.Frag):Sp:=λvs H Q _=>∃(ra:Addr) (f:Int) (rs:List (List Nat)),vs=[.ref ra,.int f]/\SqL K H ra ((rs.map tx).map V.str)/\rs.length<=200/\(∀r∈rs,r.length<=8200)/\∀p H' ss,H p=none->ak H H'->H' p=some (.lst ((ss.map tx).map V.str))->pR rs ss->ss.length=rs.length->Q (.ref p) H'
theorem fj:aN ["rows","first","spaced","k","row","ahead","end"] ["rows","first"] (au pY):=by walk_at "c"
theorem za(T:Txt P w K mg a):bi P w K mg base CX0 2 a.qq a.oM ["rows","first"] (y_ K):=by
 refine T.qm.fn.ok fj (λvs H Q E h=>?_) (λcdv A outer s H vs Q E hr h=>?_)
 .obtain⟨ra,f,rs,rfl,_⟩:=h;rfl
 obtain⟨ra,f,rs,rfl,hra,rl,rln,q⟩:=h;refine⟨_,(ag (ay (i:=2) fj.nd rfl (Hh rfl) (aU ae))
   (ag (cg HS rfl (zp rfl T.fq (pv 0)) (dP rfl (a9 (aO (i:=3) fj.nd rfl (Hh rfl)) (a9 (aO (i:=4) fj.nd rfl (Hh rfl)) c_))) (ag (E8 (D4 (D3 wW (aV Ci rfl T.cr PySem.boot_len (aa (pv 4) ae)) (nomark _)) (cH (ao a_ (aC T.bz (bv T) (hr.mono (by decide)) rfl (aa (aK bZ (pv 1) (pv 3)) (aa ah (aa ah ae)))) ah (nomark _)))) (CP (i:=4) fj.nd rfl (Hh rfl) (yY (pv 4) (by decide +kernel) (by decide +kernel))) aM)
   (ag (ay (i:=5) fj.nd rfl (Hh rfl) (aC T.bz (bv T) (hr.mono (by decide)) rfl (aa (aK bZ (pv 1) (pv 3)) (aa ah (aa ah ae)))))
   (ag (ay (i:=6) fj.nd rfl (Hh rfl) (aC T.bz (bv T) (hr.mono (by decide)) rfl (aa (aK bZ (pv 1) (pv 3)) (aa ah (aa ah ae)))))
   (ai (bn (cp PySem.F.plainAttrs_list PySem.F.slot_list_append PySem.F.type_list_append b7 (pv 2) (aa (aK dM (aK dM (aK uT am (aV (q0 rfl) rfl T.nO JQ (aa ah (aa (aK ki (pv 5) ah) ae)))) (pv 4)) (aK uT am (aV (q0 rfl) rfl T.nO JQ (aa ah (aa (aK ki (pv 6) ah) ae))))) ae))))))))
   (ai (aP (pv 2))))),?_⟩
 refine⟨aJ (by simp),λp1 hp1=>?_⟩;have s1:=af hp1 (.lst []);have k1:upd H p1 (.lst []) p1=some (.lst []):=ac;generalize upd H p1 (.lst [])=H1 at s1 k1⊢;refine⟨_,rfl,ra,rfl,⟨_,s1.seq hra⟩,xV (K:=K) (a:=ra) (xs:=(rs.map tx).map V.str) (λi σ' G=>∃(v3 v4 v5 v6:Option V) (ss:List (List Nat)),σ'=[some (.ref ra),some (.int f),some (.ref p1),v3,v4,v5,v6]/\ak H G/\G p1=some (.lst ((ss.map tx).map V.str))/\pR (rs.take i) ss/\ss.length=i) ⟨none,none,none,none,[],rfl,s1,k1,trivial,rfl⟩ (λi σ' G _ g=>by obtain⟨_,_,_,_,_,_,m,_⟩:=g;exact m.seq hra) ?_ ?_⟩
 .rintro k y σ' G p0 hy ⟨v3,v4,v5,v6,ss,rfl,m,g1,sp,sl⟩ hp0;obtain⟨r,hr_,rfl⟩:=lX hy;have hk:=(List.getElem?_eq_some_iff.mp hr_).1;have rl2:=rln r (Ha hr_);have m1:=m.trans (af hp0 (.tup [.int (k:Int),.str (tx r)]));have k0:upd G p0 (.tup [.int (k:Int),.str (tx r)]) p0=some (.tup [.int (k:Int),.str (tx r)]):=ac;have g2:=af hp0 (.tup [.int (k:Int),.str (tx r)]) _ _ g1;generalize upd G p0 (.tup [.int (k:Int),.str (tx r)])=G1 at m1 k0 g2⊢;refine⟨p0,_,rfl,SqT.of k0,rfl,_,_,rfl,_,_,rfl,rfl,?_⟩;refine dH (λσ' G'=>∃d:Bool,σ'=[some (.ref ra),some (.int f),some (.ref p1),some (.int (k:Int)),some (.str (tx (if d then nT r else r))),v5,v6]/\G'=G1) ?_ (λkey=>?_)
  .rintro σ' G2 ⟨d,rfl,rfl⟩;have ha:=dJ (f+(k:Int)) 84 (show(0:Int)<6 by decide);have hb:=dJ (f+(k:Int)) 85 (show(0:Int)<6 by decide);have dl:(if d then nT r else r).length<=16400:=by have:=zC r;split<;>omega
   refine⟨_,rfl,_,rfl,_,_,rfl,rfl,_,84,6,rfl,⟨by decide,by decide⟩,by decide,?_⟩;refine⟨_,rfl,_,rfl,_,_,rfl,rfl,_,85,6,rfl,⟨by decide,by decide⟩,by decide,?_⟩;have ea:(if bJ (f+(k:Int)) 84 6-2>0 then bJ (f+(k:Int)) 84 6-2 else 0)=(((bJ (f+(k:Int)) 84 6-2).toNat:Nat):Int):=by split<;>omega
   have eb:(if bJ (f+(k:Int)) 85 6-3>0 then bJ (f+(k:Int)) 85 6-3 else 0)=(((bJ (f+(k:Int)) 85 6-3).toNat:Nat):Int):=by split<;>omega
   have a10:(bJ (f+(k:Int)) 84 6-2).toNat<=10:=by omega
   have b10:(bJ (f+(k:Int)) 85 6-3).toNat<=10:=by omega
   generalize (bJ (f+(k:Int)) 84 6-2).toNat=na at ea a10;generalize (bJ (f+(k:Int)) 85 6-3).toNat=nb at eb b10;refine⟨_,rfl,.inl ⟨rfl,_,SqL.of g2⟩,_,rfl,_,_,rfl,rfl,_,_,rfl,_,_,rfl,rfl,(by rw[ea];exact zA a10),_,rfl,_,_,rfl,rfl,?_,_,rfl,_,_,rfl,rfl,_,_,rfl,_,_,rfl,rfl,(by rw[eb];exact zA b10),_,_,rfl,rfl,?_,_,_,_,rfl,rfl,g2,aB (by simp only[GT];omega),?_⟩
   .rw[ea,u9,bf,bf,Ib];exact HM (Hq (show _<=20000 by omega) (by decide))
   .rw[ea,eb,u9,u9,eJ,bf,bf,GX,Ib,Ib];exact HM (Hq (show _<=20000 by omega) (by decide))
   .rw[ea,eb,u9,u9,eJ,eJ];refine⟨_,_,_,_,ss++[nE na nb d r],rfl,aW m1 hp1,?_,?_,by rw[GX,sl];rfl⟩
    .rw[ac,Hc,Hc];rfl
    .rw[bb hr_];exact sp.snoc ⟨na,nb,d,a10,b10,rfl⟩
  .refine⟨_,rfl,_,_,rfl,⟨(by rw[bf];exact HM (Hq rl2 (by decide))),rfl⟩,_,_,rfl,rfl,_,rfl,?_⟩;have kF:=key [some (.ref ra),some (.int f),some (.ref p1),some (.int (k:Int)),some (.str (tx r)),v5,v6] G1 ⟨false,rfl,rfl⟩;refine d_ (λc1=>?_) (λc1=>?_)
   .refine⟨_,rfl,_,rfl,_,_,rfl,rfl,_,86,3,rfl,⟨by decide,by decide⟩,by decide,rfl,_,rfl,?_⟩;refine d_ (λc2=>?_) (λc2=>?_)
    .refine⟨_,rfl,_,rfl,(by rw[bf];omega),?_⟩;refine key _ G1 ⟨true,?_,rfl⟩;rw[PyProof.Rows.replace_dbl _ _ _ 32 (by decide +kernel) (by decide +kernel)];rfl
    .exact kF
   .refine av ?_;exact kF
 rintro σ' G ⟨v3,v4,v5,v6,ss,rfl,m,g1,sp,sl⟩;rw[GT,GT]at sl;rw[GT,GT,Hu]at sp;exact⟨_,rfl,q p1 G ss hp1 m g1 sp sl⟩
def yH:Sp:=λvs H Q _=>∃l:List Nat,vs=[.str (tx l)]/\l.length<=1000/\Q (.bl (bQ l)) H
theorem r_:aN ["word","sign"] ["word"] (au oa):=by walk_at "c"
theorem yI(T:Txt P w K mg a):bi P w K mg base CX0 1 a.oB a.mD ["word"] yH:=by
 refine T.oj.fn.ok r_ (λvs H Q E h=>?_) (λcdv A outer s H vs Q E hr h=>?_)
 .obtain⟨l,rfl,_⟩:=h;rfl
 obtain⟨l,rfl,hl,q⟩:=h;refine⟨_,(ag (aR (PW.pt (jy (ao wW (aV dt rfl T.cr PySem.boot_len (aa (pv 0) ae)) ah (nomark _)) (jx (ao j_ (aV dt rfl T.cr PySem.boot_len (aa (pv 0) ae)) ah (nomark _))))) (ai (aP d9)) aM)
   (ag (cg HS rfl (A5 (pv 0)) (aO (i:=1) r_.nd rfl (Hh rfl)) (ai (aR (ao qZ (pv 1) am (by with_unfolding_all rfl)) (ai (aP d9)) aM)))
   (ai (aP (eC qZ (aS eV (pv 0) ah (λ_ _=>rfl)) am (by with_unfolding_all rfl)))))),?_⟩
 refine⟨_,rfl,_,rfl,aJ (by rw[bf];exact hl),_,_,rfl,rfl,_,rfl,?_⟩;rw[bf];cases l with
 |nil =>
  refine aQ ?_;refine aQ ?_;exact q
 |cons c r =>
  rw[decide_eq_false (by simp only[GU];omega)];refine av ?_;refine⟨_,rfl,_,rfl,aJ (by rw[bf];exact hl),_,_,rfl,rfl,_,rfl,?_⟩;rw[bf];refine d_ (λh=>?_) (λh=>?_)
  .have h2:¬ (c::r).length<=12:=by have:=of_decide_eq_true h;omega
   rw[wj h2]at q;exact q
  .have h2:(c::r).length<=12:=by
    refine Ju λz=>h (decide_eq_true ?_);omega
   rw[pO h2]at q;refine⟨_,rfl,_,rfl,DR (x:=tx (c::r)) (λi σ H2=>H2=H/\(∃v,σ=[some (.str (tx (c::r))),v])/\(((c::r).take i).all λd=>isL d||isF d)=true) ⟨rfl,⟨none,rfl⟩,rfl⟩ ?_ ?_⟩
   .rintro i d σ H2 hd ⟨rfl,⟨v,rfl⟩,ha⟩;rw[A8]at hd;refine⟨_,rfl,_,_,rfl,rfl,_,rfl,?_⟩;rw[D_];cases h3:(isL d||isF d)with
    |true =>
     refine av ?_;refine⟨rfl,⟨_,rfl⟩,?_⟩;rw[IB,hd,List.all_append,ha];simp[h3]
    |false =>
     refine aQ ?_;have h4:((c::r).all λd=>isL d||isF d)=false:=by
      refine Bool.eq_false_iff.mpr λz=>?_;have:=List.all_eq_true.mp z d (Ha hd);rw[h3]at this;cases this
     rw[h4,Kp]at q;exact q
   .rintro σ H2 ⟨rfl,⟨v,rfl⟩,ha⟩;rw[zn,Ik (G_ _)]at ha;rw[ha,K_]at q;refine⟨_,rfl,_,_,c,rfl,rfl,aJ (by rw[bf];exact hl),iJ c r,_,_,rfl,rfl,?_⟩;rw[Bz];have ha1:(isL c||isF c)=true:=List.all_eq_true.mp ha c He;cases h5:isL c with
    |true =>
     rw[h5]at q;rw[Ea h5];exact q
    |false =>
     rw[h5]at q;rw[h5,K9]at ha1;rw[ha1];exact q

def kwI:Kw->Nat
 |.mark=>0|.number=>1|.page=>2|.row=>3|.foot=>4|_=>5
def kw5:List V:=[V.str (PySem.Str.ofString "mark"),V.str (PySem.Str.ofString "number"),V.str (PySem.Str.ofString "page"),V.str (PySem.Str.ofString "row"),V.str (PySem.Str.ofString "foot")]
theorem Fq{k:Kw}(h1:k≠.plain)(h2:k≠.entry):(∃v,kw5[kwI k]?=some v/\eqV v (.str k.s)=true)/\(∀(m:Nat) (v:V),m<kwI k->kw5[m]?=some v->eqV v (.str k.s)=false)/\atI (PySem.Str.ofString "#@&^~").cps.toList ((kwI k:Nat):Int)=some (sgK k):=by
 have no:∀(n:Nat) (s:Str),(∀m:Nat,m<n->∀v,kw5[m]?=some v->eqV v (.str s)=false)↔((kw5.take n).all λv=>!eqV v (.str s))=true:=λn s=>by
  rw[List.all_eq_true];constructor
  .intro h v hv;obtain⟨m,hm,e⟩:=List.getElem_of_mem hv;rw[List.getElem_take]at e;rw[HD]at hm;rw[h m (by omega) v (by rw[<-e];exact GZ _)];rfl
  .intro h m hm v hv;have:=h v (Ha (i:=m) (by rw[List.getElem?_take,if_pos hm];exact hv));simpa using this
 have no:=λ(n:Nat) (s:Str) (z:((kw5.take n).all λv=>!eqV v (.str s))=true)=>λ(m:Nat) (v:V) hm hv=>(no n s).mpr z m hm v hv;cases k with
 |plain=>exact absurd rfl h1
 |entry=>exact absurd rfl h2
 |mark=>exact⟨⟨_,rfl,by decide +kernel⟩,no 0 _ (by decide +kernel),by decide +kernel⟩
 |number=>exact⟨⟨_,rfl,by decide +kernel⟩,no 1 _ (by decide +kernel),by decide +kernel⟩
 |page=>exact⟨⟨_,rfl,by decide +kernel⟩,no 2 _ (by decide +kernel),by decide +kernel⟩
 |row=>exact⟨⟨_,rfl,by decide +kernel⟩,no 3 _ (by decide +kernel),by decide +kernel⟩
 |foot=>exact⟨⟨_,rfl,by decide +kernel⟩,no 4 _ (by decide +kernel),by decide +kernel⟩
theorem Dt:(PySem.Str.ofString "!")=tx [33]:=by decide +kernel
theorem Gb:(PySem.Str.ofString ".![=")=tx [46,33,91,61]:=by decide +kernel
theorem Gc:(PySem.Str.ofString "#@&^~")=tx [35,64,38,94,126]:=by decide +kernel

def yJ:Sp:=λvs H Q _=>∃w:NWd,vs=[.str w.1.s,.str (tx w.2)]/\uf w/\∀H',ak H H'->Q (.str (tx (wrW true w))) H'
theorem yK:aN ["kind","rest"] ["kind","rest"] (au og):=by walk_at "c"
theorem yL(T:Txt P w K mg a):bi P w K mg base CX0 2 a.oG a.mK ["kind","rest"] yJ:=by
 refine T.ou.fn.ok yK (λvs H Q E h=>?_) (λcdv A outer s H vs Q E hr h=>?_)
 .obtain⟨w,rfl,_⟩:=h;rfl
 obtain⟨w,rfl,ok,q⟩:=h;refine⟨_,(@ag _ _ _ _ _ (@aR _ _ _ _ _ _ _ _ (ao jz (pv 0) am (nomark _)) (@ai _ _ _ (@aP _ _ _ _ (aK dM (@aS _ _ _ _ _ _ _ eV am (cp PySem.F.plainAttrs_list PySem.F.slot_list_index PySem.F.type_list_index Cz (@aU _ _ _ _ (@uX _ _ _ (CL.str (CL.str (CL.str (CL.str (CL.str CL.nil))))))) (@aa _ _ _ _ _ (pv 0) ae (by rfl))) (λ_ _=>rfl)) (pv 1)))) aM)
   (@ag _ _ _ _ _ (@aR _ _ _ _ _ _ _ _ (PW.pt (jy (ao ku (@aS _ _ _ _ _ _ _ eV (pv 1) ah (λ_ _=>rfl)) am (by with_unfolding_all rfl)) (jx (PW.pt (cY (ao ku (@aS _ _ _ _ _ _ _ eV (pv 1) ah (λ_ _=>rfl)) am (by with_unfolding_all rfl)) (cH (lQ (aC T.oj (yI T) (hr.mono (by decide)) rfl (@aa _ _ _ _ _ (dF kz (pv 1) (dX ah) eS) ae (by rfl))) (λ_=>rfl)))))))) (@ai _ _ _ (@aP _ _ _ _ (aK dM am (pv 1)))) aM)
   (@ai _ _ _ (@aP _ _ _ _ (pv 1))))),?_⟩
 obtain⟨k,r⟩:=w;obtain⟨he,sg,hw⟩:=ok;dsimp only at he sg hw;refine(⟨_,rfl,rfl,_,rfl,?_⟩);by_cases hk:k=.plain
 .subst hk;refine av ?_;dsimp only[dq];obtain⟨_,hne,hl⟩|⟨z,_⟩:=hw
  .match r,hne,hl,sg,q with
   |c::u,_,hl,sg,q =>
   have eT:lL true (c::u)=true->∀H',ak H H'->Q (.str (tx (33::c::u))) H':=λb H' s=>by
    have:=q H' s;rw[show wrW true (.plain,c::u)=33::c::u from by unfold wrW;rw[if_pos rfl,if_pos b]]at this;exact this
   have eF:lL true (c::u)=false->∀H',ak H H'->Q (.str (tx (c::u))) H':=λb H' s=>by
    have:=q H' s;rw[show wrW true (.plain,c::u)=c::u from by unfold wrW;rw[if_pos rfl,if_neg (by rw[b];decide)]]at this;exact this
   have bang:∀{D:dZ} {σ':St} {H'},σ'[1]?=some (some (.str (tx (c::u))))->D.rt=Q->lL true (c::u)=true->ak H H'->True:=λ_ _ _ _=>trivial;have ln:(PySem.Str.ofString "!").length+(tx (c::u)).length<=Hs:=by rw[Dt,bf,bf];exact HM (aB (by simp only[GU,Hk]at hl⊢;omega))
   have add:∀H',ak H H'->lL true (c::u)=true->Q (.str (PySem.Str.ofString "!"++tx (c::u))) H':=λH' s b=>by rw[Dt,eJ];exact eT b H' s
   have L1:(tx (c::u)).length<=Hs:=by rw[bf];exact HM (aB (by omega))
   have em:decide (c∈[35,64,38,94,126])=isM c:=rfl;have e4:decide (c∈[46,33,91,61])=(decide (c∈[46,33,91])||decide (c=61)):=by simp[Bool.or_assoc]
   refine(⟨_,rfl,_,_,c,rfl,rfl,L1,iJ _ _,_,_,rfl,rfl,_,rfl,?_⟩);rw[Gb,uU];cases b1:decide (c∈[46,33,91,61])with
   |true =>
    refine aQ ?_;refine aQ ?_;exact(⟨_,rfl,_,_,rfl,rfl,ln,add _ (ak.refl _) (by rw[wo,if_pos rfl,<-e4,b1];rfl)⟩)
   |false =>
    refine av ?_;refine(⟨_,rfl,_,_,c,rfl,rfl,L1,iJ _ _,_,_,rfl,rfl,_,rfl,?_⟩);rw[Gc,uU,em];have lb:lL true (c::u)=(isM c&&bQ u):=by rw[wo,if_pos rfl,<-e4,b1];rfl
    cases b3:isM c with
    |false =>
     rw[b3,Kl]at lb;refine av ?_;refine av ?_;exact(⟨_,rfl,eF lb _ (ak.refl _)⟩)
    |true =>
     rw[b3,JZ]at lb;refine aQ ?_;refine(⟨_,rfl,_,rfl,_,rfl,L1,u,(by rw[fc,show jj (c::u) (some 1) none=(c::u).drop 1 from Tl.cut_from (c::u) 1];rfl),(by simp only[GU]at hl;omega),_,rfl,?_⟩);cases b4:bQ u with
     |true =>
      rw[b4]at lb;refine aQ ?_;exact(⟨_,rfl,_,_,rfl,rfl,ln,add _ (ak.refl _) lb⟩)
     |false =>
      rw[b4]at lb;refine av ?_;exact(⟨_,rfl,eF lb _ (ak.refl _)⟩)
  .exact absurd rfl z
 .rw[show(!decide (V.str k.s=V.str "plain"))=true from by rw[decide_eq_false (show ¬ (V.str k.s=V.str "plain")from λz=>hk (Kw.inj (b:=.plain) (V.str.inj z)))];rfl];refine aQ ?_;obtain⟨z,_⟩|⟨_,hn,hl⟩:=hw
  .exact absurd z hk
  obtain⟨i1,i2,i3⟩:=Fq hk he;refine(⟨aJ (by simp),λp1 hp1=>?_⟩);have s1:=af hp1 (.lst kw5);have k1:upd H p1 (.lst kw5) p1=some (.lst kw5):=ac;change upd H p1 (.lst kw5) p1=_ at k1;refine(⟨.inl ⟨rfl,_,SqL.of k1⟩,_,rfl,p1,.str k.s,kw5,kwI k,rfl,rfl,k1,rfl,rfl,i1,i2,_,_,sgK k,rfl,rfl,aJ (by decide +kernel),i3,_,rfl,_,_,rfl,rfl,(by rw[bf];exact HM (aB (by show 1+r.length<=1000;omega))),?_⟩);have:=q _ s1;rw[show wrW true (k,r)=sgK k::r from by unfold wrW;rw[if_neg hk]]at this;show Q (.str (tx [sgK k]++tx r)) _;rw[eJ];exact this

theorem Fs(w:Wy):inV (.str (tx w.t)) [V.str (PySem.Str.ofString ""),V.str (PySem.Str.ofString "words")]=decide (w=.empty\/w=.words):=by
 rw[kM,jJ];refine(rB [[],[119,111,114,100,115]]).trans ?_;cases w<;>decide

def BW:Sp:=λvs H Q _=>∃(r:bD) (la:Addr),vs=[.str (tx r.1.t),.str (tx r.2.1),.ref la]/\cZ H la (wkS r.2.2)/\kN r/\∀H',ak H H'->Q (.str (tx (cS [32] (fg true r)))) H'
theorem nF:aN ["way","name","words","texts"] ["way","name","words"] (au uo):=by walk_at "c"
theorem BX(T:Txt P w K mg a):bi P w K mg base CX0 3 a.uE a.sL ["way","name","words"] BW:=by
 refine T.uy.fn.ok nF (λvs H Q E h=>?_) (λcdv A outer s H vs Q E hr h=>?_)
 .obtain⟨r,la,rfl,_⟩:=h;rfl
 obtain⟨r,la,rfl,hl,ok,q⟩:=h;refine⟨_,(ag (Fa (k:=3) rfl (fb (caps:=[]) (js:=[]) (cap:=trivial)) (bq (pv 2)) (λ_ _ _ _=>dY) (λ_ _ _ _=>(aC T.ou (yL T) (hr.mono (by decide)) rfl (aa (pv 0) (aa (pv 1) ae)))) nF.nd rfl rfl)
   (ag (aR (ao a_ (pv 0) am (nomark _)) (ai (ay (i:=3) nF.nd rfl (Hh rfl) (aK d7 (aU (aa (pv 1) ae)) (pv 3)))) aM)
   (ag (aR (ao xJ (pv 0) (aY (aa am (aa am ae))) (by with_unfolding_all rfl)) (ai (ay (i:=3) nF.nd rfl (Hh rfl) (aK d7 (aU (aa (pv 0) ae)) (pv 3)))) aM)
   (ai (aP (cp PySem.F.plainAttrs_str PySem.F.slot_str_join PySem.F.type_str_join oW am (aa (pv 3) ae))))))),?_⟩
 obtain⟨us,u1,u2⟩:=hl;have lu:=u2.len;have rwd:=nD true ok;have rln:=zy true ok;have okl:=ok.len;have okw:=ok.ok;obtain⟨wy,nm,ws⟩:=r;dsimp only at u2 lu okl okw;unfold wkS at lu;rw[GT]at lu;refine⟨_,rfl,la,rfl,⟨_,SqL.of u1⟩,ud (K:=K) (a:=la) (xs:=us) (λi ys G=>ak H G/\ys=(((ws.take i).map (wrW true)).map tx).map V.str) ⟨ak.refl _,rfl⟩ (λi ys G _ z=>SqL.of (z.1 _ _ u1)) ?_ ?_ ?_⟩
 .rintro i ys G hi ⟨_,rfl⟩;simp only[GT,HD];exact aB (by omega)
 .rintro i y ys G hy ⟨m,rfl⟩;obtain⟨w',hw',b,rfl,hb⟩:=u2.getL hy;unfold wkS at hw';rw[HA]at hw';obtain⟨w,hw,rfl⟩:=Option.map_eq_some_iff.mp hw';refine⟨b,_,_,rfl,SqT.of (m _ _ hb),eI ?_⟩;refine⟨_,rfl,_,rfl,w,rfl,okw w (Ha hw),λH' s=>⟨m.trans s,?_⟩⟩;rw[bb hw,Hc,Hc,Hc];rfl
 rintro ys G ⟨m,rfl⟩ p1 hp1;rw[lu,Hu];have s1:=m.trans (af hp1 (.lst (((ws.map (wrW true)).map tx).map V.str)));have k1:upd G p1 (.lst (((ws.map (wrW true)).map tx).map V.str)) p1=some (.lst (((ws.map (wrW true)).map tx).map V.str)):=ac;generalize upd G p1 (.lst (((ws.map (wrW true)).map tx).map V.str))=G1 at s1 k1⊢;dsimp only[bB];refine dH (λσ' G'=>∃pt,σ'=[some (.str (tx wy.t)),some (.str (tx nm)),some (.ref la),some (.ref pt)]/\ak H G'/\G' pt=some (.lst ((((if wy=.foot then[nm]else[])++ws.map (wrW true)).map tx).map V.str))) ?_ (λkey=>?_)
 .rintro σ' G2 ⟨pt,rfl,s2,k2⟩;refine dH (λσ' G'=>∃pt,σ'=[some (.str (tx wy.t)),some (.str (tx nm)),some (.ref la),some (.ref pt)]/\ak H G'/\G' pt=some (.lst (((fg true (wy,nm,ws)).map tx).map V.str))) ?_ (λkey=>?_)
  .rintro σ' G3 ⟨pt3,rfl,s3,k3⟩;refine⟨rfl,_,rfl,_,_,_,rfl,rfl,SqL.of k3,by decide,?_,?_⟩
   .have h1:=lZ (fg true (wy,nm,ws)) λt ht=>(rwd t ht).2.2;simp only[GT];omega
   .rw[show(PySem.Str.ofString " ")=tx [32] by decide +kernel,jX];exact q _ s3
  .refine⟨_,rfl,le2,λp2 hp2=>?_⟩;have s3:=s2.trans (af hp2 (.tup [V.str (PySem.Str.ofString ""),V.str (PySem.Str.ofString "words")]));refine⟨_,_,rfl,.inr (SqT.of ac),rfl,rfl,_,rfl,?_⟩;have k2':=af hp2 (.tup [V.str (PySem.Str.ofString ""),V.str (PySem.Str.ofString "words")]) _ _ k2;generalize upd G2 p2 (.tup [V.str (PySem.Str.ofString ""),V.str (PySem.Str.ofString "words")])=G3 at s3 k2'⊢;refine d_ (λc2=>?_) (λc2=>?_)
   .have c3:¬ (wy=.empty\/wy=.words):=λz=>by
     have:=Fs wy;rw[decide_eq_true z]at this;change (!inV (.str (tx wy.t)) [V.str (PySem.Str.ofString ""),V.str (PySem.Str.ofString "words")])=true at c2;rw[this]at c2;cases c2
    refine⟨_,rfl,le1,λp4 hp4=>?_⟩;have s4:=af hp4 (.lst [.str (tx wy.t)]);refine⟨_,rfl,_,_,_,_,rfl,rfl,ac,s4 _ _ k2',?_,λp5 hp5=>?_⟩
    .simp only[GT,GX,GU,Hk];have:(if wy=.foot then[nm]else([]:List (List Nat))).length<=1:=by split<;>simp
     exact HM (aB (by omega))
    .refine key _ _ ⟨p5,rfl,(s3.trans s4).trans (af hp5 _),?_⟩;rw[ac];unfold fg;rw[if_neg c3,HL,Hc (l₁:=[wy.t]),Hc];rfl
   .have c3:wy=.empty\/wy=.words:=by
     have:=Fs wy;change ¬ ((!inV (.str (tx wy.t)) [V.str (PySem.Str.ofString ""),V.str (PySem.Str.ofString "words")])=true)at c2;rw[this]at c2;by_cases z:wy=.empty\/wy=.words
     .exact z
     .rw[decide_eq_false z]at c2;exact absurd rfl c2
    refine key _ _ ⟨pt,rfl,s3,?_⟩;rw[k2'];unfold fg;rw[if_pos c3];rfl
 .refine⟨_,rfl,rfl,_,rfl,?_⟩;rw[cw kg];by_cases hf:wy=.foot
  .rw[decide_eq_true (show wy.t=dN by rw[hf];rfl)];refine aQ ?_;refine⟨_,rfl,le1,λp4 hp4=>?_⟩;have s4:=af hp4 (.lst [.str (tx nm)]);refine⟨_,rfl,_,_,_,_,rfl,rfl,ac,s4 _ _ k1,?_,λp5 hp5=>?_⟩
   .simp only[GT,GU,Hk];exact HM (aB (by omega))
   .refine key _ _ ⟨p5,rfl,(s1.trans s4).trans (af hp5 _),?_⟩;rw[ac,if_pos hf,Hc (l₁:=[nm]),Hc];rfl
  .rw[decide_eq_false (show ¬ (wy.t=dN)from λz=>hf (Wy.inj (b:=.foot) z))];refine av ?_;refine key _ _ ⟨p1,rfl,s1,?_⟩;rw[k1,if_neg hf];rfl

def nms(nm:Nat->List Nat)(at_ n:Nat):List (List Nat):=(IL n).map λi=>nm (at_+i)
theorem Em(nm:Nat->List Nat)(a m n:Nat):nms nm a (m+n)=nms nm a m++nms nm (a+m) n:=by
 unfold nms;rw[List.range_add,Hc,II];congr 1;refine Kc λi _=>?_;show nm (a+(m+i))=nm (a+m+i);rw[La]
theorem WsR.mem{nm:Nat->List Nat}{M F:Nat}:∀{ws:List (Kw×Int)} {ds:List NWd} {at_:Nat},WsR nm M F at_ ws ds->∀d∈ds,∃k∈ws,∃a,WdG nm k.1 a M F d
 |[],[],_,_,d,hd=>by cases hd
 |k::ws,x::ds,at_,h,d,hd=>by
  rcases List.mem_cons.mp hd with rfl|hd
  .exact⟨k,He,at_,h.1⟩
  .obtain⟨k',hk,a,g⟩:=WsR.mem h.2 d hd;exact⟨k',Hb _ hk,a,g⟩
theorem WsR.len{nm:Nat->List Nat}{M F:Nat}:∀{ws:List (Kw×Int)} {ds:List NWd} {at_:Nat},WsR nm M F at_ ws ds->ds.length=ws.length
 |[],[],_,_=>rfl
 |_::_,_::_,_,h=>congrArg (·+1) h.2.len
theorem fA.mem{nm:Nat->List Nat}{M F:Nat}:∀{rs:List dj} {ns:List bD} {at_ hung:Nat},fA nm M F at_ hung rs ns->∀n∈ns,∃r∈rs,∃a h,yk nm M F a h r n
 |[],[],_,_,_,d,hd=>by cases hd
 |r::rs,x::ns,at_,hung,h,d,hd=>by
  rcases List.mem_cons.mp hd with rfl|hd
  .exact⟨r,He,at_,hung,h.1⟩
  .obtain⟨r',hr,a,g⟩:=fA.mem h.2 d hd;exact⟨r',Hb _ hr,a,g⟩
theorem fA.len{nm:Nat->List Nat}{M F:Nat}:∀{rs:List dj} {ns:List bD} {at_ hung:Nat},fA nm M F at_ hung rs ns->ns.length=rs.length/\(ns.map (·.2.2.length)).sum=(rs.map (·.2.length)).sum
 |[],[],_,_,_=>⟨rfl,rfl⟩
 |r::rs,n::ns,_,_,h=>by
  obtain⟨h1,h2⟩:=h.2.len;refine⟨by simp[h1],?_⟩;rw[Hj,Im,Hj,Im,h2,h.1.2.2.len]
theorem yk.ok{nm:Nat->List Nat}(hn:NmF nm){kds:List Kw}(ke:∀k∈kds,k≠.entry){M F a h:Nat}{r:dj}{n:bD}(g:yk nm M F a h r n)(ok:Ad kds r):kN n:=by
 obtain⟨g1,g2,g3⟩:=g;have gl:=g3.len;have kin:∀k∈r.2,k.1≠.entry:=λk hk=>by
  rcases ok.kds k hk with z|z
  .exact ke _ z
  .rw[z];decide
 have wk:∀w∈n.2.2,∃k∈r.2,w.1=k.1\/w.1=.plain:=λw hw=>by
  obtain⟨k,hk,a,z⟩:=g3.mem w hw;refine⟨k,hk,?_⟩;rcases z with⟨z1,j,z2⟩|⟨_,z,_⟩|⟨_,_,z,_⟩
  .exact .inl (by rw[z2,z1])
  .exact .inr z
  .exact .inl z
 by_cases e:r.1=.words/\r.2=[]
 .rw[if_pos e]at g1;have n0:n.2.2=[]:=by rw[e.2]at gl;exact List.length_eq_zero_iff.mp gl
  exact⟨λ_=>n0,(by rw[n0];simp),(λz=>by rw[g1]at z;cases z),(λz=>by rw[n0];simp),(λz=>by rw[g1]at z;cases z),(by rw[n0];simp)⟩
 .rw[if_neg e]at g1;refine⟨λz=>?_,by rw[gl];have:=ok.len;omega,λz=>?_,λz w hw=>?_,λz=>?_,λw hw=>?_⟩
  .rw[g1]at z;have:=ok.bare z;rw[this]at gl;exact List.length_eq_zero_iff.mp gl
  .rw[g1]at z;intro z2;rw[z2]at gl;exact e ⟨z,List.length_eq_zero_iff.mp gl.symm⟩
  .rw[g1]at z;obtain⟨k,hk,y|y⟩:=wk w hw
   .rw[y];exact ok.head z k hk
   .rw[y];decide
  .rw[g1]at z;rw[if_pos z]at g2;rw[g2];refine⟨hn.name _,hn.len _,hn.sg _,by rw[gl];have:=ok.len;omega,λw hw=>?_⟩;obtain⟨k,hk,y|y⟩:=wk w hw
   .rw[y];exact ok.foot z k hk
   .rw[y];exact⟨by decide,by decide⟩
  .obtain⟨k,hk,a,z⟩:=g3.mem w hw;exact z.ok hn (kin k hk)
theorem zE:∀r∈ug,kN r:=λr hr=>by
 have:r=(.empty,[],[])\/r=(.words,[],[(.plain,[101,110,100])]):=by simpa[ug]using hr
 rcases this with rfl|rfl
 .exact⟨λ_=>rfl,by simp,(λz=>by cases z),(λz=>by cases z),(λz=>by cases z),by simp⟩
 .refine⟨(λz=>by cases z),by simp,λ_=>by simp,(λz=>by cases z),(λz=>by cases z),λw hw=>?_⟩;have:w=(.plain,[101,110,100]):=by simpa using hw
  subst this;exact⟨by show Kw.plain≠Kw.entry;decide,by decide,.inl ⟨rfl,by simp,by simp⟩⟩
theorem mj{β:Type}{n:Str}:∀{l:List (Str×β)},n∉l.map (·.1)->lkS n l=none
 |[],_=>rfl
 |(m,j)::r,h=>by
  have h1:m≠n:=λz=>h (by rw[z];exact He);show(if m=n then some j else lkS n r)=none;rw[if_neg h1];exact mj λz=>h (Hb _ z)
theorem ur{β:Type}{n:Str}:∀{l:List (Str×β)},n∈l.map (·.1)->∃k,lkS n l=some k
 |[],h=>by cases h
 |(m,j)::r,h=>by
  by_cases c:m=n
  .exact⟨j,if_pos c⟩
  .rcases List.mem_cons.mp h with z|z
   .exact absurd z.symm c
   .obtain⟨k,e⟩:=ur z;exact⟨k,by show(if m=n then some j else lkS n r)=_;rw[if_neg c];exact e⟩
theorem uf.rd{d:NWd}(h:uf d):RdW (rC d):=by
 obtain⟨h1,h2,h3⟩:=h;refine⟨.inl ⟨h1,d.2,?_,λc hc=>(h2 c hc).2,rfl⟩,h1⟩;rcases h3 with⟨_,_,l⟩|⟨_,_,l⟩<;>omega
theorem ww{α β:Type}{f:α->β}:∀{l:List α},(∀a∈l,∀b∈l,f a=f b->a=b)->l.Nodup->(l.map f).Nodup
 |[],_,_=>by simp
 |a::l,h,nd=>by
  rw[KY]at nd;rw[Hj,KY];refine⟨λz=>?_,ww (λx hx y hy=>h x (Hb _ hx) y (Hb _ hy)) nd.2⟩;obtain⟨b,hb,e⟩:=List.mem_map.mp z;have:=h b (Hb _ hb) a He e;rw[this]at hb;exact nd.1 hb

def ut(c:Sc):Nat->List Str->List Wk
 |_,[]=>[]
 |k,n::r=>dz c k n++ut c (k+1) r
def thW(c:Sc)(h:Nat):Tg->List Wk
 |.head _ _=>(.plain,.str (c.nums.getD h Ir))::c.titles.getD h []
 |.lst=>ut c 0 c.nums
 |.par ws=>ws
 |_=>[]
def dk(c:Sc):Nat->List Tg->List Wk
 |_,[]=>[]
 |h,t::r=>thW c h t++dk c (h+d8 t) r
def hdN(l:List Tg):Nat:=(aG l).length
theorem yM(t:Tg)(r:List Tg):hdN (t::r)=d8 t+hdN r:=by
 unfold hdN;rw[show t::r=[t]++r from rfl,dA,GX,r9]
theorem yN(c:Sc):∀(a b:List Tg) (h:Nat),dk c h (a++b)=dk c h a++dk c (h+hdN a) b
 |[],b,h=>rfl
 |t::a,b,h=>by
  show thW c h t++dk c (h+d8 t) (a++b)=(thW c h t++dk c (h+d8 t) a)++_;rw[yN c a b,yM,HL,La]
theorem uu(c:Sc)(ws:List Wk):∀(l:List Tg) (h:Nat),dk c h (ci ws l)=dk c h l++ws/\aG (ci ws l)=aG l
 |[],h=>⟨by simp[ci,dk,thW],rfl⟩
 |[t],h=>by cases t<;>simp[ci,dk,thW,aG]
 |t::u::r,h=>by
  have e:ci ws (t::u::r)=t::ci ws (u::r):=by cases t<;>rfl
  obtain⟨h1,h2⟩:=uu c ws (u::r) (h+d8 t);rw[e];refine⟨?_,?_⟩
  .show thW c h t++dk c (h+d8 t) (ci ws (u::r))=(thW c h t++dk c (h+d8 t) (u::r))++ws;rw[h1,HL]
  .rw[show t::ci ws (u::r)=[t]++ci ws (u::r)from rfl,dA,h2,<-dA];rfl
def rwT(c:Sc)(h:Nat):Rw->List Wk
 |.par ws=>ws
 |.head n ws=>thW c h (.head n ws)
 |.lst=>thW c h .lst
 |_=>[]
def rwH:Rw->List (Nat×List Wk)
 |.head n ws=>[(n,ws)]
 |_=>[]
theorem En(c:Sc)(s:Rs)(w:Rw):dk c 0 (bV s w).things=dk c 0 s.things++rwT c (hdN s.things) w/\aG (bV s w).things=aG s.things++rwH w:=by
 have snoc:∀t:Tg,dk c 0 (s.things++[t])=dk c 0 s.things++thW c (hdN s.things) t:=λt=>by
  rw[yN,Ki];show _++(thW c _ t++[])=_;rw[HU]
 cases w with
 |empty=>exact⟨by simp[bV,rwT],by simp[bV,rwH]⟩
 |foot n ws=>exact⟨by simp[bV,rwT],by simp[bV,rwH]⟩
 |page=>exact⟨snoc .page,by show aG (s.things++[.page])=_;rw[dA];rfl⟩
 |odd=>exact⟨snoc .odd,by show aG (s.things++[.odd])=_;rw[dA];rfl⟩
 |lst=>exact⟨snoc .lst,by show aG (s.things++[.lst])=_;rw[dA];rfl⟩
 |head n ws=>exact⟨snoc (.head n ws),by show aG (s.things++[.head n ws])=_;rw[dA];rfl⟩
 |par ws =>
  unfold bV;by_cases g:s.g=true
  .simp only[g,if_true];exact⟨(uu c ws _ _).1,by rw[(uu c ws _ 0).2];exact(HU _).symm⟩
  .rw[IG]at g;simp only[g,Bool.false_eq_true,if_false];exact⟨snoc (.par ws),by rw[dA];rfl⟩
def yO(c:Sc):Nat->List Rw->List Wk
 |_,[]=>[]
 |h,w::l=>rwT c h w++yO c (h+(rwH w).length) l
theorem zF(c:Sc):∀(l:List Rw) (s:Rs),dk c 0 (a7 s l).things=dk c 0 s.things++yO c (hdN s.things) l/\aG (a7 s l).things=aG s.things++l.flatMap rwH
 |[],s=>⟨by simp[a7,yO],by simp[a7]⟩
 |w::l,s=>by
  obtain⟨a1,a2⟩:=En c s w;obtain⟨b1,b2⟩:=zF c l (bV s w);refine⟨?_,?_⟩
  .show dk c 0 (a7 (bV s w) l).things=_;have e:hdN (bV s w).things=hdN s.things+(rwH w).length:=by unfold hdN;rw[a2,GX]
   rw[b1,a1,e,HL];rfl
  .show aG (a7 (bV s w) l).things=_;rw[b2,a2,IK,HL]

structure ScT(c:Sc)(tt:List Ttl):Prop where
 nums:c.nums=tt.map λt=>tx t.1
 titles:c.titles=tt.map λt=>wkS t.2
theorem ScT.at_{c:Sc}{tt:List Ttl}(h:ScT c tt){k:Nat}{t:Ttl}{r:List Ttl}(e:tt.drop k=t::r):tt.getD k ([],[])=t/\c.nums.getD k Ir=tx t.1/\c.titles.getD k []=wkS t.2/\tt.drop (k+1)=r:=by
 have hk:k<tt.length:=by
  by_cases z:k<tt.length
  .exact z
  .rw[JP (by omega)]at e;cases e
 rw[Ia hk]at e;injection e with e1 e2;have g:tt[k]?=some t:=by rw[GZ hk,e1]
 refine⟨by rw[HE,g];rfl,by rw[h.nums,HE,HA,g];rfl,by rw[h.titles,HE,HA,g];rfl,e2⟩
theorem C9(tt:List Ttl)(t:Ttl):jG (wkS t.2)=(ttW t).map (fh tt):=by
 unfold jG wkS ttW;rw[List.filter_map,II];rfl
theorem wx{c:Sc}{tt:List Ttl}(h:ScT c tt):∀{l:List Ttl} {k:Nat},tt.drop k=l->ut c k (l.map λt=>tx t.1)=((List.range' k l.length).flatMap (pS tt)).map (fh tt)
 |[],k,_=>rfl
 |t::l,k,e=>by
  obtain⟨a1,a2,a3,a4⟩:=h.at_ e;show dz c k (tx t.1)++ut c (k+1) (l.map λt=>tx t.1)=_;rw[wx h a4,GU,List.range'_succ,IK,Hc];congr 1;unfold dz pS;rw[a3,C9 tt,a1,Hj,Hc];show _=((.plain,.str (tx (tt.getD k ([],[])).1))::_:List Wk);rw[a1];rfl
theorem BY{w:Wy}(h:w.hd=true):∃n,1<=n/\n<=3/\gC w=n/\∀(m:List Nat) (ws:List NWd),bE (w,m,ws)=.head n (wkS ws):=by
 cases w<;>first|exact absurd h (by decide)|exact⟨1,by decide,by decide,rfl,λ_ _=>rfl⟩|exact⟨2,by decide,by decide,rfl,λ_ _=>rfl⟩|exact⟨3,by decide,by decide,rfl,λ_ _=>rfl⟩
theorem Du{r:bD}(h:r.1.hd=false):rwH (bE r)=[]:=by
 obtain⟨w,m,ws⟩:=r;cases w<;>first|rfl|exact absurd h (show ¬ (true=false) by decide)
def vd:Nat×Nat×Nat->List Int->List (List Nat)
 |_,[]=>[]
 |c,l::r=>eK (bG c l) l::vd (bG c l) r
theorem BZ:∀(ls:List Int) (c:Nat×Nat×Nat),((IL ls.length).map λk=>eK ((ls.take (k+1)).foldl bG c) (ls.getD k 0))=vd c ls
 |[],_=>rfl
 |l::r,c=>by
  rw[GU,List.range_succ_eq_map,Hj,II];show _::_=eK (bG c l) l::vd (bG c l) r;rw[<-BZ r (bG c l)];rfl
theorem qk:∀(rows:List bD) (q:Nat×Nat×Nat),(bO q rows).map (·.1)=vd q (d3 ((rows.map bE).flatMap rwH))/\(bO q rows).map (λt=>wkS t.2)=((rows.map bE).flatMap rwH).map (·.2)
 |[],_=>⟨rfl,rfl⟩
 |r::rows,q=>by
  rw[Hj,IK];cases hh:r.1.hd with
  |true =>
   obtain⟨n,_,_,e1,e2⟩:=BY hh;have e:bO q (r::rows)=(eK (bG q (gC r.1:Int)) (gC r.1:Int),r.2.2)::bO (bG q (gC r.1:Int)) rows:=by show(if r.1.hd=true then _ else _)=_;rw[if_pos hh]
   have er:bE r=.head n (wkS r.2.2):=e2 r.2.1 r.2.2;obtain⟨i1,i2⟩:=qk rows (bG q (gC r.1:Int));rw[e,er,Hj,Hj,i1,i2,e1];exact⟨rfl,rfl⟩
  |false =>
   have e:bO q (r::rows)=bO q rows:=by show(if r.1.hd=true then _ else _)=_;rw[if_neg (by rw[hh];decide)]
   rw[e,Du hh];exact qk rows q
theorem GP{rows:List bD}{feet:List (Str×List Wk)}:ScT (fY ((rows.map bE).flatMap rwH) feet) (bO (0,0,0) rows):=by
 obtain⟨h1,h2⟩:=qk rows (0,0,0);refine⟨?_,h2.symm⟩;show(fJ (d3 _) (d3 _).length).map tx=_;have:fJ (d3 ((rows.map bE).flatMap rwH)) (d3 ((rows.map bE).flatMap rwH)).length=vd (0,0,0) (d3 ((rows.map bE).flatMap rwH)):=BZ _ _;rw[this,<-h1,II];rfl
def rwP(c:Sc)(h n:Nat):Rw->List (Str×Nat)
 |.head _ _=>[(c.nums.getD h Ir,n)]
 |_=>[]
theorem jM(tt:List Ttl):∀(a:List Sw) (n:Nat),(∀k,.head k∉a)->va tt a n=[]
 |[],_,_=>rfl
 |s::a,n,h=>by
  have h2:∀k,.head k∉a:=λk z=>h k (Hb _ z);cases s with
  |head k=>exact absurd He (h k)
  |w x=>exact jM tt a _ h2
  |entry k=>exact jM tt a _ h2
  |goal k=>exact jM tt a _ h2
theorem zb(tt:List Ttl)(n k:Nat):.head k∉fI tt n:=λz=>by
 unfold fI at z;obtain⟨j,_,z⟩:=List.mem_flatMap.mp z;unfold pS ttW at z;simp at z
theorem Ft{c:Sc}{tt:List Ttl}(hc:ScT c tt){r:bD}{rows:List bD}{q:Nat×Nat×Nat}{h:Nat}(e:tt.drop h=bO q (r::rows)):rwT c h (bE r)=(gY tt h r).map (fh tt)/\(∃q',tt.drop (h+hB r.1.hd)=bO q' rows)/\(rwH (bE r)).length=hB r.1.hd/\∀n,rwP c h n (bE r)=va tt (gY tt h r) n:=by
 cases hh:r.1.hd with
 |true =>
  obtain⟨n,_,_,e1,e2⟩:=BY hh;have e:tt.drop h=(eK (bG q (gC r.1:Int)) (gC r.1:Int),r.2.2)::bO (bG q (gC r.1:Int)) rows:=by rw[e];show(if r.1.hd=true then _ else _)=_;rw[if_pos hh]
  obtain⟨a1,a2,a3,a4⟩:=hc.at_ e;have er:bE r=.head n (wkS r.2.2):=e2 r.2.1 r.2.2;have hw:r.1≠.words:=λz=>by rw[z]at hh;cases hh
  have es:gY tt h r=.head h::r.2.2.map .w:=by unfold gY;rw[if_neg hw,if_pos hh]
  rw[er,es];refine⟨?_,⟨_,a4⟩,rfl,λn=>?_⟩
  .show((.plain,.str (c.nums.getD h Ir))::c.titles.getD h [])=_;rw[a2,a3,Hj,II];show _=(((.plain,.str (tx (tt.getD h ([],[])).1))::wkS r.2.2:List Wk));rw[a1]
  .show[(c.nums.getD h Ir,n)]=(tx (tt.getD h ([],[])).1,n)::va tt (r.2.2.map .w) (n+1);rw[a2,a1,jM];intro k z;obtain⟨_,_,z⟩:=List.mem_map.mp z;cases z
 |false =>
  have e:tt.drop h=bO q rows:=by rw[e];show(if r.1.hd=true then _ else _)=_;rw[if_neg (by rw[hh];decide)]
  refine⟨?_,⟨q,e⟩,by rw[Du hh];rfl,?_⟩
  .unfold gY;obtain⟨w,m,ws⟩:=r;cases w with
   |words=>rw[if_pos rfl,II];rfl
   |lst =>
    show ut c 0 c.nums=(fI tt tt.length).map (fh tt);rw[hc.nums,wx hc (l:=tt) (k:=0) rfl];unfold fI;rw[List.range_eq_range']
   |empty=>rfl
   |page=>rfl
   |odd=>rfl
   |foot=>rfl
   |h1=>cases hh
   |h2=>cases hh
   |h3=>cases hh
  .intro n;have nh:∀k,.head k∉gY tt h r:=λk z=>by
    unfold gY at z;by_cases c1:r.1=.words
    .rw[if_pos c1]at z;obtain⟨_,_,z⟩:=List.mem_map.mp z;cases z
    .rw[if_neg c1,if_neg (by rw[hh];decide)]at z;by_cases c2:r.1=.lst
     .rw[if_pos c2]at z;exact zb tt _ k z
     .rw[if_neg c2]at z;cases z
   rw[jM tt _ _ nh];obtain⟨w,m,ws⟩:=r;cases w<;>first|rfl|cases hh
theorem ve{c:Sc}{tt:List Ttl}(hc:ScT c tt):∀{rows:List bD} {q:Nat×Nat×Nat} {h:Nat},tt.drop h=bO q rows->yO c h (rows.map bE)=(eX tt h rows).map (fh tt)
 |[],_,_,_=>rfl
 |r::rows,q,h,e=>by
  obtain⟨a1,⟨q',a2⟩,a3,_⟩:=Ft hc e;show rwT c h (bE r)++yO c (h+(rwH (bE r)).length) (rows.map bE)=(gY tt h r++eX tt (h+hB r.1.hd) rows).map (fh tt);rw[Hc,a1,a3,ve hc a2]
theorem tq:∀{rows:List bD} {q:Nat×Nat×Nat} {t:Ttl},t∈bO q rows->∃r∈rows,r.1.hd=true/\t.2=r.2.2
 |[],_,_,h=>by cases h
 |r::rows,q,t,h=>by
  by_cases hh:r.1.hd=true
  .have e:bO q (r::rows)=(eK (bG q (gC r.1:Int)) (gC r.1:Int),r.2.2)::bO (bG q (gC r.1:Int)) rows:=by show(if r.1.hd=true then _ else _)=_;rw[if_pos hh]
   rw[e]at h;rcases List.mem_cons.mp h with rfl|h
   .exact⟨r,He,hh,rfl⟩
   .obtain⟨r',a,b⟩:=tq h;exact⟨r',Hb _ a,b⟩
  .have e:bO q (r::rows)=bO q rows:=by show(if r.1.hd=true then _ else _)=_;rw[if_neg hh]
   rw[e]at h;obtain⟨r',a,b⟩:=tq h;exact⟨r',Hb _ a,b⟩
def TgR:Tg->Prop
 |.head n ws=>1<=n/\n<=3/\ws.length<=130/\∀w∈ws,RdW w
 |.par ws=>∀w∈ws,RdW w
 |_=>True
def RwG:Rw->Prop
 |.head n ws=>1<=n/\n<=3/\ws.length<=130/\∀w∈ws,RdW w
 |.par ws=>∀w∈ws,RdW w
 |_=>True
theorem vf{ws:List Wk}(hw:∀w∈ws,RdW w):∀{l:List Tg},(∀t∈l,TgR t)->∀t∈ci ws l,TgR t
 |[],_,t,ht=>by
  rw[show ci ws []=[.par ws]from rfl,JH]at ht;subst ht;exact hw
 |[u],h,t,ht=>by
  have hu:=h u He;cases u<;>simp[ci]at ht<;>first|(subst ht;exact λw hw'=>(List.mem_append.mp hw').elim (hu w) (hw w))|(rcases ht with rfl|rfl<;>first|exact hu|exact hw)
 |t::u::r,h,x,hx=>by
  have e:ci ws (t::u::r)=t::ci ws (u::r):=by cases t<;>rfl
  rw[e]at hx;rcases List.mem_cons.mp hx with rfl|hx
  .exact h _ He
  .exact vf hw (λy hy=>h y (Hb _ hy)) x hx
theorem zG:∀{l:List Rw} {s:Rs},(∀w∈l,RwG w)->(∀t∈s.things,TgR t)->∀t∈(a7 s l).things,TgR t
 |[],_,_,h=>h
 |w::l,s,hl,h=>by
  refine zG (l:=l) (s:=bV s w) (λx hx=>hl x (Hb _ hx)) ?_;have g:=hl w He;have snoc:∀u:Tg,TgR u->∀t∈s.things++[u],TgR t:=λu hu t ht=>by
   rcases List.mem_append.mp ht with ht|ht
   .exact h t ht
   .rw[List.mem_singleton.mp ht];exact hu
  cases w with
  |empty=>exact h
  |foot n ws=>exact h
  |page=>exact snoc _ trivial
  |odd=>exact snoc _ trivial
  |lst=>exact snoc _ trivial
  |head n ws=>exact snoc (.head n ws) g
  |par ws =>
   unfold bV;by_cases e:s.g=true
   .simp only[e,if_true];exact vf g h
   .rw[IG]at e;simp only[e,Bool.false_eq_true,if_false];exact snoc (.par ws) g
theorem B3{t:Tg}:∀{l:List Tg},t∈l->tgN t<=tgS l
 |[],h=>by cases h
 |u::l,h=>by
  have e:tgS (u::l)=tgN u+tgS l:=by unfold tgS;simp
  rcases List.mem_cons.mp h with rfl|h
  .omega
  .have:=B3 h;omega
def rwF:Rw->List (Str×List Wk)
 |.foot n ws=>[(n,ws)]
 |_=>[]
theorem zH(s:Rs)(w:Rw):(bV s w).feet=s.feet++rwF w:=by
 cases w with
 |foot n ws=>rfl
 |par ws=>unfold bV;cases s.g<;>exact(HU _).symm
 |_=>exact(HU _).symm
theorem zI:∀(l:List Rw) (s:Rs),(a7 s l).feet=s.feet++l.flatMap rwF
 |[],s=>(HU _).symm
 |w::l,s=>by
  show(a7 (bV s w) l).feet=_;rw[zI l,zH,IK,HL]
theorem B4:∀(l:List Rw) (s:Rs),((s.feet++l.flatMap rwF).map (·.1)).Nodup->lK s l
 |[],_,_=>trivial
 |w::l,s,nd=>by
  rw[IK,<-HL]at nd;refine⟨?_,B4 l _ (by rw[zH];exact nd)⟩;cases w with
  |foot n ws =>
   refine mj λz=>?_;rw[Hc,Jr]at nd;have:=nd.1;rw[Hc,Jr]at this;exact this.2.2 _ z _ (by simp[rwF]) rfl
  |_=>trivial
def cJ(ns:List bD):List (Str×List Wk):=ns.flatMap λr=>if r.1=.foot then[(tx r.2.1,wkS r.2.2)]else[]
theorem uv(a b:List bD):cJ (a++b)=cJ a++cJ b:=by unfold cJ;rw[Jy]
theorem yP{l:List bD}{p:Str×List Wk}(h:p∈cJ l):∃r∈l,r.1=.foot/\p=(tx r.2.1,wkS r.2.2):=by
 obtain⟨r,hr,hd⟩:=List.mem_flatMap.mp h;by_cases c:r.1=.foot
 .rw[if_pos c,JH]at hd;exact⟨r,hr,c,hd⟩
 .rw[if_neg c]at hd;cases hd
theorem vN:∀l:List bD,(l.map bE).flatMap rwF=cJ l
 |[]=>rfl
 |(w,m,ws)::l=>by
  rw[Hj,IK,vN l];have e:cJ ((w,m,ws)::l)=(if w=.foot then[(tx m,wkS ws)]else[])++cJ l:=by unfold cJ;simp
  rw[e];cases w<;>rfl
theorem fA.feet{nm:Nat->List Nat}{M F:Nat}:∀{rs:List dj} {ns:List bD} {at_ hung:Nat},fA nm M F at_ hung rs ns->(cJ ns).map (·.1)=(nms nm hung (ftN rs)).map tx
 |[],[],_,_,_=>rfl
 |r::rs,n::ns,at_,hung,h=>by
  have e1:ftN (r::rs)=b1 (decide (r.1=.foot))+ftN rs:=by
   unfold ftN;cases e:decide (r.1=.foot)<;>simp[KA,e,b1]<;>omega
  have e2:cJ (n::ns)=(if n.1=.foot then[(tx n.2.1,wkS n.2.2)]else[])++cJ ns:=by unfold cJ;simp
  rw[e1,Em,e2,Hc,Hc,fA.feet h.2];congr 1;obtain⟨g1,g2,_⟩:=h.1;by_cases c:r.1=.foot
  .have c2:n.1=.foot:=by rw[g1,if_neg (λz=>by rw[c]at z;cases z.1)];exact c
   rw[if_pos c]at g2;rw[if_pos c2,decide_eq_true c,g2];rfl
  .have c2:n.1≠.foot:=by
    rw[g1]
    split
    .decide
    .exact c
   rw[if_neg c2,decide_eq_false c];rfl
theorem yQ:∀l:List bD,((l.map bE).map rwN).sum<=(l.map (·.2.2.length)).sum
 |[]=>G_ _
 |r::l=>by
  have h2:=yQ l;have h1:rwN (bE r)<=r.2.2.length:=by
   obtain⟨wy,n,ws⟩:=r;have e:(wkS ws).length=ws.length:=GT _;cases wy<;>first|exact HZ _|(show(wkS ws).length<=ws.length;omega)
  simp only[Hj,Im];omega
theorem pp(ft:List (Str×List Wk)):∀(a b:List Wk) (seen:List Str) (n:Nat) (w:Bool),rfS ft seen n w (a++b)=match(generalizing:=false) rfS ft seen n w a with|.error e=>.error e|.ok (s,m,v)=>rfS ft s m v b
 |[],b,seen,n,w=>rfl
 |x::a,b,seen,n,w=>by
  rw[KJ,il,il]
  split
  .split
   .rfl
   .exact pp ft a b _ _ _
  .split
   .rfl
   .split
    .rfl
    .exact pp ft a b _ _ _
def nmS(σ:Ss):List Str:=σ.ms.map (·.1)
def wtS(σ:Ss):Bool:=σ.ms.any λm=>decide (m.2=σ.ws.length)
def PtE(σ σ':Ss)(ws:List Wk):Prop:=∀x:Wk,cT x.1=true->(x∈σ'.ws.map (·.w)↔x∈σ.ws.map (·.w)\/x∈ws)
structure RfO(c:Sc)(σ σ':Ss)(ws:List Wk):Prop where
 r:rfS c.feet (nmS σ) σ.ws.length (wtS σ) ws=.ok (nmS σ',σ'.ws.length,wtS σ')
 le:∀m∈σ'.ms,m.2<=σ'.ws.length
 pt:PtE σ σ' ws
def Rf(c:Sc)(σ:Ss)(ws:List Wk)(hp:Nat):Except Xc Ss->Prop
 |.error e=>rfS c.feet (nmS σ) σ.ws.length (wtS σ) ws=.error e
 |.ok σ'=>RfO c σ σ' ws/\σ'.hs.length=σ.hs.length+hp
theorem Rf.then{c:Sc}{σ:Ss}{a b:List Wk}{p q:Nat}{x:Except Xc Ss}{f:Ss->Except Xc Ss}(h:Rf c σ a p x)(k:∀σ1,RfO c σ σ1 a->σ1.hs.length=σ.hs.length+p->Rf c σ1 b q (f σ1)):Rf c σ (a++b) (p+q) (match(generalizing:=false) x with|.error e=>.error e|.ok s=>f s):=by
 cases x with
 |error e =>
  have h:rfS c.feet (nmS σ) σ.ws.length (wtS σ) a=.error e:=h;show rfS c.feet (nmS σ) σ.ws.length (wtS σ) (a++b)=.error e;rw[pp,h]
 |ok σ1 =>
  obtain⟨o,hl⟩:=h;have g:=k σ1 o hl;show Rf c σ (a++b) (p+q) (f σ1);cases hf:f σ1 with
  |error e =>
   rw[hf]at g;show rfS c.feet (nmS σ) σ.ws.length (wtS σ) (a++b)=.error e;rw[pp,o.r];exact g
  |ok σ2 =>
   rw[hf]at g;obtain⟨o2,hl2⟩:=g;refine⟨⟨by rw[pp,o.r];exact o2.r,o2.le,λy hy=>?_⟩,by rw[hl2,hl,La]⟩;rw[o2.pt y hy,o.pt y hy,KW,or_assoc]
theorem Rf.fs{c:Sc}{σ:Ss}{k:Nat}{ws:List Wk}{hp:Nat}{x:Except Xc Ss}(h:Rf c { σ with fs:=k } ws hp x):Rf c σ ws hp x:=by
 cases x with
 |error e=>exact h
 |ok σ'=>exact⟨⟨h.1.r,h.1.le,h.1.pt⟩,h.2⟩
theorem B5{β:Type}{n:Str}{l:List (Str×β)}:(lkS n l).isSome=true↔n∈l.map (·.1):=by
 constructor
 .intro h;by_cases c:n∈l.map (·.1)
  .exact c
  .rw[mj c]at h;cases h
 .intro h;obtain⟨f,e⟩:=ur h;rw[e];rfl
theorem Dw{c:Sc}{σ:Ss}{byh:Bool}{ld:Int}{w x:Wk}{f:List Wk}{r:List Wk}(le:∀m∈σ.ms,m.2<=σ.ws.length)(hx:cT x.1=true->x=w)(hw:cT w.1=true->x=w)(nm:w.1≠.mark)(nf:¬ (w.1=.foot/\lkS (bp w.2) c.feet=none))(k:∀σ1:Ss,(∀m∈σ1.ms,m.2<=σ1.ws.length)->σ1.ms=σ.ms->Rf c σ1 r 0 (bP c σ1 0 byh r)):Rf c σ (w::r) 0 (match(generalizing:=false) jg σ ld x f with|.error e=>.error e|.ok s=>bP c { s with bh:=byh } 0 byh r):=by
 unfold jg;by_cases e:σ.ws.length=400
 .rw[if_pos e];show rfS c.feet (nmS σ) σ.ws.length (wtS σ) (w::r)=.error .toolong;rw[il,if_neg nm,if_neg nf,if_pos e]
 .rw[if_neg e];have g:=k { σ with lp:=if 0<σ.lp then 0 else σ.lp,ws:=σ.ws++[⟨if 0<σ.lp then σ.lp else ld,σ.bh&&decide ((if 0<σ.lp then σ.lp else ld)<=2),x,f⟩],bh:=byh } (λm hm=>Ho (le m hm) (by simp)) rfl;have ew:wtS { σ with lp:=if 0<σ.lp then 0 else σ.lp,ws:=σ.ws++[⟨if 0<σ.lp then σ.lp else ld,σ.bh&&decide ((if 0<σ.lp then σ.lp else ld)<=2),x,f⟩],bh:=byh }=false:=by
   unfold wtS;rw[Jp];intro m hm;have:=le m hm;simp only[decide_eq_true_eq,GX,GU,Hk];omega
  generalize hσ:({ σ with lp:=if 0<σ.lp then 0 else σ.lp,ws:=σ.ws++[⟨if 0<σ.lp then σ.lp else ld,σ.bh&&decide ((if 0<σ.lp then σ.lp else ld)<=2),x,f⟩],bh:=byh }:Ss)=σ1 at g ew;have el:σ1.ws.length=σ.ws.length+1:=by rw[<-hσ];simp
  have en:nmS σ1=nmS σ:=by rw[<-hσ];rfl
  have eh:σ1.hs=σ.hs:=by rw[<-hσ]
  have em:σ1.ws.map (·.w)=σ.ws.map (·.w)++[x]:=by rw[<-hσ];simp
  have st:rfS c.feet (nmS σ) σ.ws.length (wtS σ) (w::r)=rfS c.feet (nmS σ1) σ1.ws.length (wtS σ1) r:=by
   rw[il,if_neg nm,if_neg nf,if_neg e,en,el,ew]
  show Rf c σ (w::r) 0 (bP c { ({ σ with lp:=if 0<σ.lp then 0 else σ.lp,ws:=σ.ws++[⟨if 0<σ.lp then σ.lp else ld,σ.bh&&decide ((if 0<σ.lp then σ.lp else ld)<=2),x,f⟩] }:Ss)with bh:=byh } 0 byh r);rw[show({ ({ σ with lp:=if 0<σ.lp then 0 else σ.lp,ws:=σ.ws++[⟨if 0<σ.lp then σ.lp else ld,σ.bh&&decide ((if 0<σ.lp then σ.lp else ld)<=2),x,f⟩] }:Ss)with bh:=byh }:Ss)=σ1 from hσ];cases hr:bP c σ1 0 byh r with
  |error e' =>
   rw[hr]at g;exact st.trans g
  |ok σ2 =>
   rw[hr]at g;obtain⟨o,hl⟩:=g;refine⟨⟨st.trans o.r,o.le,λy hy=>?_⟩,by rw[hl,eh]⟩;rw[o.pt y hy,em,KW,JH,Ih,or_assoc];constructor
   .rintro(z|z|z)
    .exact .inl z
    .exact .inr (.inl (z.trans (hx (by rw[<-z];exact hy))))
    .exact .inr (.inr z)
   .rintro(z|z|z)
    .exact .inl z
    .exact .inr (.inl (z.trans (hw (by rw[<-z];exact hy)).symm))
    .exact .inr (.inr z)
theorem tu{c:Sc}{byh:Bool}:∀{ws:List Wk} {σ:Ss} {ld:Int},(∀m∈σ.ms,m.2<=σ.ws.length)->Rf c σ ws 0 (bP c σ ld byh ws)
 |[],σ,ld,le=>⟨⟨rfl,le,λx _=>by simp⟩,rfl⟩
 |w::r,σ,ld,le=>by
  rw[u6];by_cases k:w.1=.mark
  .rw[if_pos k];unfold fG;by_cases n:(lkS (bp w.2) σ.ms).isSome=true
   .rw[if_pos n];show rfS c.feet (nmS σ) σ.ws.length (wtS σ) (w::r)=.error .twice;rw[il,if_pos k,if_pos (show bp w.2∈nmS σ from B5.mp n)]
   .rw[if_neg n];have g:=tu (c:=c) (byh:=byh) (ws:=r) (σ:={ σ with ms:=σ.ms++[(bp w.2,σ.ws.length)] }) (ld:=ld) (λm hm=>by
     rcases List.mem_append.mp hm with hm|hm
     .exact le m hm
     .rw[List.mem_singleton.mp hm];exact G_ _)
    have ew:wtS { σ with ms:=σ.ms++[(bp w.2,σ.ws.length)] }=true:=by
     unfold wtS;rw[List.any_append];simp
    have st:rfS c.feet (nmS σ) σ.ws.length (wtS σ) (w::r)=rfS c.feet (nmS { σ with ms:=σ.ms++[(bp w.2,σ.ws.length)] }) σ.ws.length (wtS { σ with ms:=σ.ms++[(bp w.2,σ.ws.length)] }) r:=by
     rw[il,if_pos k,if_neg (show ¬ (bp w.2∈nmS σ)from λz=>n (B5.mpr z)),ew];unfold nmS;rw[Hc];rfl
    show Rf c σ (w::r) 0 (bP c { σ with ms:=σ.ms++[(bp w.2,σ.ws.length)] } ld byh r);cases hr:bP c { σ with ms:=σ.ms++[(bp w.2,σ.ws.length)] } ld byh r with
    |error e' =>
     rw[hr]at g;exact st.trans g
    |ok σ2 =>
     rw[hr]at g;obtain⟨o,hl⟩:=g;refine⟨⟨st.trans o.r,o.le,λy hy=>?_⟩,hl⟩;have nw:y≠w:=λz=>by rw[z,k]at hy;cases hy
     rw[o.pt y hy,Ih];constructor
     .rintro(z|z)
      .exact .inl z
      .exact .inr (.inr z)
     .rintro(z|z|z)
      .exact .inl z
      .exact absurd z nw
      .exact .inr z
  .rw[if_neg k];unfold du;by_cases kf:w.1=.foot
   .rw[if_pos kf];unfold hX;cases hf:lkS (bp w.2) c.feet with
    |none =>
     show rfS c.feet (nmS σ) σ.ws.length (wtS σ) (w::r)=.error .nofoot;rw[il,if_neg k,if_pos ⟨kf,hf⟩]
    |some f =>
     have np:cT w.1=true->(((.plain,.str (jF (σ.fs+1))):Wk))=w:=λz=>by rw[kf]at z;cases z
     refine Rf.fs (k:=σ.fs+1) ?_;exact Dw (c:=c) (σ:={ σ with fs:=σ.fs+1 }) (byh:=byh) (ld:=ld) (w:=w) (x:=((.plain,.str (jF (σ.fs+1))):Wk)) (f:=((.plain,.str (jF (σ.fs+1))):Wk)::f) (r:=r) le (λz=>by cases z) np k (λz=>by rw[hf]at z;cases z.2) (λσ1 l1 _=>tu l1)
   .rw[if_neg kf];exact Dw (c:=c) (σ:=σ) (byh:=byh) (ld:=ld) (w:=w) (x:=w) (f:=[]) (r:=r) le (λ_=>rfl) (λ_=>rfl) k (λz=>kf z.1) (λσ1 l1 _=>tu l1)
theorem B6{c:Sc}:∀{ns:List Str} {k:Nat} {σ:Ss} {ld:Int},(∀m∈σ.ms,m.2<=σ.ws.length)->Rf c σ (ut c k ns) 0 (gh c σ ld k ns)
 |[],k,σ,ld,le=>⟨⟨rfl,le,λx _=>by simp[ut]⟩,rfl⟩
 |n::r,k,σ,ld,le=>Rf.then (p:=0) (q:=0) (f:=λs=>gh c s 1 (k+1) r) (tu (ws:=dz c k n) le) λσ1 o _=>B6 o.le
theorem Eo{c:Sc}{σ:Ss}{t:Tg}(le:∀m∈σ.ms,m.2<=σ.ws.length):Rf c σ (thW c σ.hs.length t) (d8 t) (iL c σ t):=by
 cases t with
 |page=>exact⟨⟨rfl,le,λx _=>by simp[thW]⟩,rfl⟩
 |odd=>exact⟨⟨rfl,le,λx _=>by simp[thW]⟩,rfl⟩
 |lst=>exact B6 le
 |par ws=>exact tu le
 |head n ws =>
  have g:=tu (c:=c) (byh:=true) (ws:=thW c σ.hs.length (.head n ws)) (σ:={ σ with hs:=σ.hs++[(c.nums.getD σ.hs.length Ir,σ.ws.length)] }) (ld:=2) le;show Rf c σ _ 1 (bP c { σ with hs:=σ.hs++[(c.nums.getD σ.hs.length Ir,σ.ws.length)] } 2 true (thW c σ.hs.length (.head n ws)));cases hr:bP c { σ with hs:=σ.hs++[(c.nums.getD σ.hs.length Ir,σ.ws.length)] } 2 true (thW c σ.hs.length (.head n ws))with
  |error e=>rw[hr]at g;exact g
  |ok σ' =>
   rw[hr]at g;obtain⟨o,hl⟩:=g;exact⟨⟨o.r,o.le,o.pt⟩,by rw[hl];simp⟩
theorem Dx{c:Sc}:∀{ts:List Tg} {σ:Ss},(∀m∈σ.ms,m.2<=σ.ws.length)->Rf c σ (dk c σ.hs.length ts) (hdN ts) (iM c σ ts)
 |[],σ,le=>⟨⟨rfl,le,λx _=>by simp[dk]⟩,rfl⟩
 |t::r,σ,le=>by
  rw[yM];show Rf c σ (thW c σ.hs.length t++dk c (σ.hs.length+d8 t) r) (d8 t+hdN r) (match(generalizing:=false) iL c σ t with|.error e=>.error e|.ok s=>iM c s r)
  exact Rf.then (f:=λs=>iM c s r) (Eo le) λσ1 o hl=>by rw[<-hl];exact Dx o.le
theorem Ge{c:Sc}{ts:List Tg}:(∃e,eW c ts=.error e/\fZ c.feet (dk c 0 ts)=some e)\/(∃σ,eW c ts=.ok σ/\fZ c.feet (dk c 0 ts)=none):=by
 have g:=Dx (c:=c) (ts:=ts) (σ:=ss0) (λm hm=>by cases hm);have g:Rf c ss0 (dk c 0 ts) (hdN ts) (iM c ss0 ts):=g;unfold eW fZ;cases h:iM c ss0 ts with
 |error e =>
  rw[h]at g;have g:rfS c.feet [] 0 false (dk c 0 ts)=.error e:=g;rw[g];exact .inl ⟨e,rfl,rfl⟩
 |ok σ =>
  rw[h]at g;obtain⟨o,_⟩:=g;have r:rfS c.feet [] 0 false (dk c 0 ts)=.ok (nmS σ,σ.ws.length,wtS σ):=o.r;rw[r];dsimp only;unfold fH;have ew:(σ.ms.any λm=>decide (m.2=σ.ws.length))=wtS σ:=rfl;rw[ew];have ea:((σ.ws.map (·.w)++c.feet.flatMap (·.2)).any (jH σ))=((dk c 0 ts++c.feet.flatMap (·.2)).any λx=>cT x.1 && !decide (bp x.2∈nmS σ)):=by
   have eb:∀x:Wk,jH σ x=(cT x.1 && !decide (bp x.2∈nmS σ)):=λx=>by
    unfold jH;congr 1;by_cases z:bp x.2∈nmS σ
    .rw[decide_eq_true z];obtain⟨f,e⟩:=ur (show bp x.2∈σ.ms.map (·.1)from z);rw[e];rfl
    .rw[decide_eq_false z,mj z];rfl
   rw[JC,Jv,Jv];constructor
   .rintro⟨x,hx,h⟩;rw[eb]at h;refine⟨x,?_,h⟩;have hp:cT x.1=true:=by rw[Iu]at h;exact h.1
    rcases List.mem_append.mp hx with hx|hx
    .exact ID _ (((o.pt x hp).mp hx).resolve_left (λz=>by cases z))
    .exact HN _ hx
   .rintro⟨x,hx,h⟩;refine⟨x,?_,by rw[eb];exact h⟩;have hp:cT x.1=true:=by rw[Iu]at h;exact h.1
    rcases List.mem_append.mp hx with hx|hx
    .exact ID _ ((o.pt x hp).mpr (.inr hx))
    .exact HN _ hx
  rw[ea];cases wtS σ with
  |true=>exact .inl ⟨.nomark,rfl,rfl⟩
  |false =>
   cases ((dk c 0 ts++c.feet.flatMap (·.2)).any λx=>cT x.1 && !decide (bp x.2∈nmS σ))with
   |true=>exact .inl ⟨.nomark,rfl,rfl⟩
   |false=>exact .inr ⟨σ,rfl,rfl⟩

def tz:List Kw:=[.plain,.plain,.mark,.mark,.number,.page,.row,.foot,.foot]
structure Gd(l:List bD)(n s h:Nat)(fs:List (Str×List Wk)):Prop where
 nr:∀r∈l,kN r
 len:l.length<=n
 sum:(l.map (·.2.2.length)).sum<=s
 hd:(l.filter λr=>r.1.hd).length<=h
 fs:cJ l=fs
theorem Gd.app{a b:List bD}{n1 n2 s1 s2 h1 h2:Nat}{f1 f2:List (Str×List Wk)}(A:Gd a n1 s1 h1 f1)(B:Gd b n2 s2 h2 f2):Gd (a++b) (n1+n2) (s1+s2) (h1+h2) (f1++f2):=by
 refine⟨λr hr=>(List.mem_append.mp hr).elim (A.nr r) (B.nr r),?_,?_,?_,?_⟩
 .rw[GX];have:=A.len;have:=B.len;omega
 .rw[Hc,I0];have:=A.sum;have:=B.sum;omega
 .rw[IH,GX];have:=A.hd;have:=B.hd;omega
 .rw[uv,A.fs,B.fs]
theorem Fu:Gd ug 2 1 0 []:=⟨zE,by decide,by decide,by decide,rfl⟩
theorem C_:Gd [(.empty,[],[])] 1 0 0 []:=⟨λr hr=>zE r (by rw[List.mem_singleton.mp hr];exact He),by decide,by decide,by decide,rfl⟩
theorem GQ:Gd [(.words,[],[(.mark,[113])])] 1 1 0 []:=by
 refine⟨λr hr=>?_,by decide,by decide,by decide,rfl⟩;rw[List.mem_singleton.mp hr];refine⟨(λz=>by cases z),by simp,λ_=>by simp,(λz=>by cases z),(λz=>by cases z),λw hw=>?_⟩;have:w=(.mark,[113]):=by simpa using hw
 subst this;exact⟨by show Kw.mark≠Kw.entry;decide,by decide,.inr ⟨by show Kw.mark≠Kw.plain;decide,by decide,by decide⟩⟩
theorem zJ:∀{ks:List Nat},(∀k∈ks,1<=k/\k<=100)->Gd (iV ks) ks.length ks.sum 0 []
 |[],_=>⟨(λr hr=>by cases hr),G_ _,G_ _,G_ _,rfl⟩
 |k::ks,h=>by
  have h1:=h k He;have one:Gd [(.words,[],Hd k (.plain,[97]))] 1 k 0 []:=by
   refine⟨λr hr=>?_,G_ _,by simp,G_ _,rfl⟩;rw[List.mem_singleton.mp hr];refine⟨(λz=>by cases z),by simp;omega,λ_ z=>?_,(λz=>by cases z),(λz=>by cases z),λw hw=>?_⟩
   .have:=congrArg K1 z;simp at this;omega
   .rw[List.eq_of_mem_replicate hw];exact⟨by show Kw.plain≠Kw.entry;decide,by decide,.inl ⟨rfl,by simp,by simp⟩⟩
  have g:=one.app (zJ λx hx=>h x (Hb _ hx));rw[GU,Im,Nat.add_comm ks.length 1];exact g
theorem C8.gd{named out:List bD}{n s h:Nat}{fs:List (Str×List Wk)}(p:C8 named out)(g:Gd named n s h fs):Gd out (n+6) (s+402) h fs:=by
 rcases p with rfl|⟨ks,k1,k2,k3,e⟩
 .exact⟨g.nr,Ho g.len (by omega),Ho g.sum (by omega),g.hd,g.fs⟩
 .have gp:=zJ k1;rcases e with rfl|rfl
  .have x:=(gp.app C_).app g;exact⟨x.nr,Ho x.len (by omega),Ho x.sum (by omega),Ho x.hd (by omega),x.fs⟩
  .have x:=g.app gp;exact⟨x.nr,Ho x.len (by omega),Ho x.sum (by omega),x.hd,by rw[x.fs,HU]⟩
structure Gg(all:List bD):Prop where
 nr:∀r∈all,kN r
 len:all.length<=100
 tw:lK rs0 (all.map bE)
 sum:((all.map bE).map rwN).sum<=500
 txg:TxG (a7 rs0 (all.map bE)).things (a7 rs0 (all.map bE)).feet
 tl:(bO (0,0,0) all).length<=63
 fnd:((cJ all).map (·.1)).Nodup
 er:∀e,eW (fY (aG (a7 rs0 (all.map bE)).things) (a7 rs0 (all.map bE)).feet) (a7 rs0 (all.map bE)).things=.error e->fZ (cJ all) ((eX (bO (0,0,0) all) 0 all).map (fh (bO (0,0,0) all)))=some e
 ok:∀σ,eW (fY (aG (a7 rs0 (all.map bE)).things) (a7 rs0 (all.map bE)).feet) (a7 rs0 (all.map bE)).things=.ok σ->fZ (cJ all) ((eX (bO (0,0,0) all) 0 all).map (fh (bO (0,0,0) all)))=none
theorem B7{all:List bD}{fs:List (Str×List Wk)}(g:Gd all 100 500 63 fs)(nd:(fs.map (·.1)).Nodup):Gg all:=by
 have nr:=g.nr;have len:=g.len;have gs:=g.sum;have sum:((all.map bE).map rwN).sum<=500:=Ho (yQ _) gs;have rg:∀w∈all.map bE,RwG w:=λw hw=>by
  obtain⟨r,hr,rfl⟩:=List.mem_map.mp hw;have o:=nr r hr;have rd:∀w∈wkS r.2.2,RdW w:=λw hw=>by
   obtain⟨d,hd,rfl⟩:=List.mem_map.mp hw;exact(o.ok d hd).rd
  have ll:(wkS r.2.2).length<=130:=by unfold wkS;rw[GT];have:=o.len;omega
  obtain⟨wy,n,ws⟩:=r;cases wy<;>first|trivial|exact rd|exact⟨by decide,by decide,ll,rd⟩
 obtain⟨t1,t2⟩:=zF (fY (aG (a7 rs0 (all.map bE)).things) (a7 rs0 (all.map bE)).feet) (all.map bE) rs0;have t3:(a7 rs0 (all.map bE)).feet=cJ all:=(zI _ _).trans (vN _);have t2:aG (a7 rs0 (all.map bE)).things=(all.map bE).flatMap rwH:=t2;have hc:ScT (fY (aG (a7 rs0 (all.map bE)).things) (a7 rs0 (all.map bE)).feet) (bO (0,0,0) all):=by rw[t2];exact GP
 have tn:=vz (all.map bE) rs0;rw[GT]at tn;have r0:tgS rs0.things=0/\rs0.things.length=0/\rs0.feet.length=0:=⟨rfl,rfl,rfl⟩;have hN:hdN (a7 rs0 (all.map bE)).things=(bO (0,0,0) all).length:=by
  unfold hdN;have:=congrArg K1 (qk all (0,0,0)).2;rw[GT,GT]at this;rw[t2,<-this]
 have hl63:(bO (0,0,0) all).length<=63:=by
  have:∀(l:List bD) (q:Nat×Nat×Nat),(bO q l).length<=(l.filter λr=>r.1.hd).length:=λl=>by
   induction l with
   |nil=>intro _;exact G_ _
   |cons r l ih =>
    intro q;by_cases hh:r.1.hd=true
    .have e:bO q (r::l)=(eK (bG q (gC r.1:Int)) (gC r.1:Int),r.2.2)::bO (bG q (gC r.1:Int)) l:=by show(if r.1.hd=true then _ else _)=_;rw[if_pos hh]
     have:=ih (bG q (gC r.1:Int));rw[e,GU,Jg,if_pos hh,GU];omega
    .have e:bO q (r::l)=bO q l:=by show(if r.1.hd=true then _ else _)=_;rw[if_neg hh]
     rw[e,Jg,if_neg hh];exact ih q
  exact Ho (this all (0,0,0)) g.hd
 have txg:TxG (a7 rs0 (all.map bE)).things (a7 rs0 (all.map bE)).feet:=by
  refine⟨λt ht=>?_,?_,by show hdN _<=63;rw[hN];exact hl63,by omega⟩
  .have g:=zG rg (λt ht=>by cases ht) t ht;have ln:=B3 ht;cases t with
   |par ws=>exact⟨by show ws.length<=600;have:tgN (.par ws)=ws.length:=rfl;omega,g⟩
   |head n ws=>exact g
   |page=>trivial
   |odd=>trivial
   |lst=>trivial
  .refine⟨by omega,λp hp=>?_⟩;rw[t3]at hp;obtain⟨r,hr,hf,rfl⟩:=yP hp;obtain⟨_,_,_,g4,g5⟩:=(nr r hr).foot hf;refine⟨by show(wkS r.2.2).length<=39;unfold wkS;rw[GT];exact g4,λw hw=>?_⟩;obtain⟨d,hd,rfl⟩:=List.mem_map.mp hw;exact⟨((nr r hr).ok d hd).rd,g5 d hd⟩
 have fnd:((cJ all).map (·.1)).Nodup:=by rw[g.fs];exact nd
 have w1:dk (fY (aG (a7 rs0 (all.map bE)).things) (a7 rs0 (all.map bE)).feet) 0 (a7 rs0 (all.map bE)).things=(eX (bO (0,0,0) all) 0 all).map (fh (bO (0,0,0) all)):=t1.trans (ve hc (q:=(0,0,0)) (h:=0) rfl);have s:=Ge (c:=fY (aG (a7 rs0 (all.map bE)).things) (a7 rs0 (all.map bE)).feet) (ts:=(a7 rs0 (all.map bE)).things);have cf:(fY (aG (a7 rs0 (all.map bE)).things) (a7 rs0 (all.map bE)).feet).feet=cJ all:=t3;rw[w1,cf]at s;refine⟨nr,len,B4 _ _ (by rw[vN];exact fnd),sum,txg,hl63,fnd,λe he=>?_,λσ hσ=>?_⟩
 .rcases s with⟨e',h1,h2⟩|⟨σ,h1,_⟩
  .rw[he]at h1;injection h1 with h1;rw[h1];exact h2
  .rw[he]at h1;cases h1
 .rcases s with⟨e',h1,_⟩|⟨σ',_,h2⟩
  .rw[hσ]at h1;cases h1
  .exact h2
theorem Da{nm:Nat->List Nat}(hn:NmF nm){wys:List WyD}{rows:List dj}{ns:List bD}(ok:l0 wys tz 62 rows)(rr:fA nm (dI rows) (ftN rows) 0 0 rows ns):Gd (ns++ug) 64 63 62 (cJ ns)/\((cJ ns).map (·.1)).Nodup:=by
 have ke:∀k∈tz,k≠.entry:=by decide
 obtain⟨l1,l2⟩:=rr.len;have osum:=ok.sum;have olen:=ok.len;have a:Gd ns 62 62 62 (cJ ns):=⟨λr hr=>by
   obtain⟨x,hx,a,h,g⟩:=rr.mem r hr;exact g.ok hn ke (ok.ok x hx).1,by omega,by omega,Ho (IC _ _) (by omega),rfl⟩
 have b:=a.app Fu;rw[HU]at b;refine⟨b,?_⟩;rw[rr.feet];have fle:ftN rows<=62:=Ho (IC _ _) (by omega);unfold nms;rw[II];refine ww (λa ha b hb e=>?_) List.nodup_range;rw[List.mem_range]at ha hb;have:=hn.inj (0+a) (0+b) (by omega) (by omega) (jA e);omega

def vg:List WyD:=[.way .words,.way .empty,.eq,.way .page,.way .lst,.way .foot,.word,.word,.word,.word,.word,.word,.word]
theorem GR:[V.str (PySem.Str.ofString "words"),V.str (PySem.Str.ofString ""),V.str (PySem.Str.ofString "="),V.str (PySem.Str.ofString ".page"),V.str (PySem.Str.ofString ".list"),V.str (PySem.Str.ofString ".foot"),V.str (PySem.Str.ofString "word"),V.str (PySem.Str.ofString "word"),V.str (PySem.Str.ofString "word"),V.str (PySem.Str.ofString "word"),V.str (PySem.Str.ofString "word"),V.str (PySem.Str.ofString "word"),V.str (PySem.Str.ofString "word")]=(vg.map λw=>tx w.t).map V.str:=by decide +kernel
theorem GS:[V.str (PySem.Str.ofString "plain"),V.str (PySem.Str.ofString "plain"),V.str (PySem.Str.ofString "mark"),V.str (PySem.Str.ofString "mark"),V.str (PySem.Str.ofString "number"),V.str (PySem.Str.ofString "page"),V.str (PySem.Str.ofString "row"),V.str (PySem.Str.ofString "foot"),V.str (PySem.Str.ofString "foot")]=tz.map λk=>V.str k.s:=by decide +kernel
theorem Fv:∀w,.way w∈vg->w.hd=false:=λw hw=>by
 have:w=.words\/w=.empty\/w=.page\/w=.lst\/w=.foot:=by simpa[vg]using hw
 rcases this with rfl|rfl|rfl|rfl|rfl<;>rfl
theorem Fw{D:dZ}{xs ys:List V}{HH:Hp}(q:D.rt (.bl true) HH)(h:lT xs ys=true):D.rt (.bl (if false=true then !lT xs ys else lT xs ys)) HH:=by rw[if_neg (by decide),h];exact q
theorem cQq:(PySem.Str.ofString "q")=tx [113]:=by decide +kernel
theorem Db:∀(R:Option Xc),(decide (V.str (uq R)=V.str (PySem.Str.ofString ""))=decide (R=none))/\∀e,R=some e->BR R=[decide (V.str (uq R)=V.str (PySem.Str.ofString "Twice")),decide (V.str (uq R)=V.str (PySem.Str.ofString "NoFoot")),decide (V.str (uq R)=V.str (PySem.Str.ofString "TooLong")),decide (V.str (uq R)=V.str (PySem.Str.ofString "NoMark")),true,false,false]:=by
 intro R;cases R with
 |none=>exact⟨by decide +kernel,λe z=>by cases z⟩
 |some e=>cases e<;>exact⟨by decide +kernel,λe _=>by decide +kernel⟩
theorem yR(l:List bD):(cJ l).length<=l.length:=by
 induction l with
 |nil=>exact G_ _
 |cons r l ih =>
  have e:cJ (r::l)=(if r.1=.foot then[(tx r.2.1,wkS r.2.2)]else[])++cJ l:=by unfold cJ;simp
  rw[e,GX,GU];have:(if r.1=.foot then[(tx r.2.1,wkS r.2.2)]else[]).length<=1:=by split<;>simp
  omega

theorem eY:aN ["script","first","ways","kinds","rows","named","feet","way","name","words","due","texts","which"] ["script"] (au Ag):=by walk_at "c"
theorem Fx(T:Txt P w K mg a):bi P w K mg base CX0 10 a.AA a.vh ["script"] (Ba K):=by
 refine T.xg.fn.ok eY (λvs H Q E h=>?_) (λcdv A outer s H vs Q E hr h=>?_)
 .obtain⟨a,ns,rfl,_⟩:=h;rfl
 obtain⟨sa,zs,rfl,hS,h63,q⟩:=h;have hu:=IJ (dB hr);refine⟨_,(@ag _ _ _ _ _ (ay (i:=1) eY.nd rfl (Hh rfl) (aC T.oh (yo T) (hr.mono (by decide)) rfl (aa (pv 0) (aa ah ae))))
   (@ag _ _ _ _ _ (@Dm _ 2 _ _ _ _ _ _ eY.nd rfl (Hh rfl) (CL.str (CL.str (CL.str (CL.str (CL.str (CL.str (CL.str (CL.str (CL.str (CL.str (CL.str (CL.str (CL.str CL.nil))))))))))))) (by first|exact .inl rfl|exact .inr rfl))
   (@ag _ _ _ _ _ (ay (i:=3) eY.nd rfl (Hh rfl) (aU (uX (CL.str (CL.str (CL.str (CL.str (CL.str (CL.str (CL.str (CL.str (CL.str CL.nil))))))))))))
   (@ag _ _ _ _ _ (ay (i:=4) eY.nd rfl (Hh rfl) (aC T.ux (BV T) (hr.mono (by decide)) rfl (aa (pv 0) (aa (pv 2) (aa (pv 3) ae)))))
   (@ag _ _ _ _ _ (ay (i:=5) eY.nd rfl (Hh rfl) (aC T.ql (y6 T) (hr.mono (by decide)) rfl (aa (aC T.si (Ak T) (hr.mono (by decide)) rfl (aa (pv 4) (aa (pv 1) ae))) (aa (pv 1) ae))))
   (@ag _ _ _ _ _ (aR (ao a_ (aC T.bz (bv T) (hr.mono (by decide)) rfl (aa (pv 1) (aa ah (aa ah ae)))) ah (nomark _)) (ai (ay (i:=5) eY.nd rfl (Hh rfl) (aK d7 (pv 5) (aU (aa (aY (aa am (aa am (aa (aU (aa (aY (aa am (aa am ae))) ae)) ae)))) ae))))) aM)
   (@ag _ _ _ _ _ (ay (i:=6) eY.nd rfl (Hh rfl) pJ)
   (@ag _ _ _ _ _ (cg HS rfl (bq (pv 5)) (dP rfl (a9 (aO (i:=7) eY.nd rfl (Hh rfl)) (a9 (aO (i:=8) eY.nd rfl (Hh rfl)) (a9 (aO (i:=9) eY.nd rfl (Hh rfl)) c_)))) (ai (aR (ao a_ (pv 7) am (nomark _)) (ai (sU (dB hr) (pv 6) (pv 8) (pv 9) rfl)) aM)))
   (@ag _ _ _ _ _ (ay (i:=10) eY.nd rfl (Hh rfl) (aC T.on (yG T) (hr.mono (by decide)) rfl (aa (aC T.lN (tQ T) (hr.mono (by decide)) rfl (aa (pv 5) (aa (aC T.lO (tR T) (hr.mono (by decide)) rfl (aa (pv 5) ae)) ae))) (aa (pv 6) ae))))
   (@ag _ _ _ _ _ (ay (i:=11) eY.nd rfl (Hh rfl) (aC T.qm (za T) (hr.mono (by decide)) rfl (aa (E_ rfl (fb (caps:=[]) (js:=[]) (cap:=trivial)) (bq (pv 5)) (λ_ _ _ _=>dY) (λ_ _ _ _=>(aC T.uy (BX T) (hr.mono (by decide)) rfl (aa (pv 0) (aa (pv 1) (aa (pv 2) ae)))))) (aa (pv 1) ae))))
   (@ag _ _ _ _ _ (ay (i:=12) eY.nd rfl (Hh rfl) (aC T.om (yD T) (hr.mono (by decide)) rfl (aa (pv 11) (aa (aC T.uw (BL T) (hr.mono (by decide)) rfl (aa (pv 1) ae)) ae))))
   (@ag _ _ _ _ _ (aR (ao a_ (pv 10) am (nomark _)) (ai (aP (eC (A9 hu) (pv 12) (aU ae) (nomark _)))) aM)
   (ai (aP (eC (A9 hu) (pv 12) (aU (aa (eC a_ (pv 10) am (nomark _)) (aa (eC a_ (pv 10) am (nomark _)) (aa (eC a_ (pv 10) am (nomark _)) (aa (eC a_ (pv 10) am (nomark _)) (aa d9 (aa d9 (aa d9 ae)))))))) (nomark _)))))))))))))))),?_⟩
 refine⟨_,rfl,sa,zs,0,rfl,hS,?_⟩;generalize zs.getD 0 0=f;refine⟨aJ (by simp),λp1 hp1=>?_⟩;have s2:=af hp1 (.lst [V.str (PySem.Str.ofString "words"),V.str (PySem.Str.ofString ""),V.str (PySem.Str.ofString "="),V.str (PySem.Str.ofString ".page"),V.str (PySem.Str.ofString ".list"),V.str (PySem.Str.ofString ".foot"),V.str (PySem.Str.ofString "word"),V.str (PySem.Str.ofString "word"),V.str (PySem.Str.ofString "word"),V.str (PySem.Str.ofString "word"),V.str (PySem.Str.ofString "word"),V.str (PySem.Str.ofString "word"),V.str (PySem.Str.ofString "word")]);have k2:upd H p1 (.lst [V.str (PySem.Str.ofString "words"),V.str (PySem.Str.ofString ""),V.str (PySem.Str.ofString "="),V.str (PySem.Str.ofString ".page"),V.str (PySem.Str.ofString ".list"),V.str (PySem.Str.ofString ".foot"),V.str (PySem.Str.ofString "word"),V.str (PySem.Str.ofString "word"),V.str (PySem.Str.ofString "word"),V.str (PySem.Str.ofString "word"),V.str (PySem.Str.ofString "word"),V.str (PySem.Str.ofString "word"),V.str (PySem.Str.ofString "word")]) p1=some (.lst ((vg.map λw=>tx w.t).map V.str)):=by rw[ac,GR]
 generalize upd H p1 (.lst [V.str (PySem.Str.ofString "words"),V.str (PySem.Str.ofString ""),V.str (PySem.Str.ofString "="),V.str (PySem.Str.ofString ".page"),V.str (PySem.Str.ofString ".list"),V.str (PySem.Str.ofString ".foot"),V.str (PySem.Str.ofString "word"),V.str (PySem.Str.ofString "word"),V.str (PySem.Str.ofString "word"),V.str (PySem.Str.ofString "word"),V.str (PySem.Str.ofString "word"),V.str (PySem.Str.ofString "word"),V.str (PySem.Str.ofString "word")])=H2 at s2 k2⊢;refine⟨aJ (by simp),λp2 hp2=>?_⟩;have s3:=af hp2 (.lst [V.str (PySem.Str.ofString "plain"),V.str (PySem.Str.ofString "plain"),V.str (PySem.Str.ofString "mark"),V.str (PySem.Str.ofString "mark"),V.str (PySem.Str.ofString "number"),V.str (PySem.Str.ofString "page"),V.str (PySem.Str.ofString "row"),V.str (PySem.Str.ofString "foot"),V.str (PySem.Str.ofString "foot")]);have k3:upd H2 p2 (.lst [V.str (PySem.Str.ofString "plain"),V.str (PySem.Str.ofString "plain"),V.str (PySem.Str.ofString "mark"),V.str (PySem.Str.ofString "mark"),V.str (PySem.Str.ofString "number"),V.str (PySem.Str.ofString "page"),V.str (PySem.Str.ofString "row"),V.str (PySem.Str.ofString "foot"),V.str (PySem.Str.ofString "foot")]) p2=some (.lst (tz.map λk=>V.str k.s)):=by rw[ac,GS]
 generalize upd H2 p2 (.lst [V.str (PySem.Str.ofString "plain"),V.str (PySem.Str.ofString "plain"),V.str (PySem.Str.ofString "mark"),V.str (PySem.Str.ofString "mark"),V.str (PySem.Str.ofString "number"),V.str (PySem.Str.ofString "page"),V.str (PySem.Str.ofString "row"),V.str (PySem.Str.ofString "foot"),V.str (PySem.Str.ofString "foot")])=H3 at s3 k3⊢;have s13:=s2.trans s3;refine⟨_,rfl,_,rfl,_,rfl,sa,p1,p2,zs,vg,tz,rfl,s13.seq hS,h63,SqL.of (s3 _ _ k2),SqL.of k3,by decide,by decide,by decide,by decide,Fv,λpr H4 rows rv hpr s4 kr ral rok=>?_⟩;dsimp only[bB];have rne:∀r∈rows,r.2.length<=6/\∀w∈r.2,w.1≠.entry:=λr hr=>⟨(rok.ok r hr).1.len,λw hw=>by
  rcases(rok.ok r hr).1.kds w hw with z|z
  .exact(show ∀k∈tz,k≠.entry by decide) _ z
  .rw[z];decide⟩
 refine⟨_,rfl,_,rfl,pr,f,rows,rv,rfl,kr,ral.imp λ_ _=>RrA.mono bT,rok.len,rne,λpn H5 ns nv hpn s5 kn nal rr=>?_⟩;obtain⟨g0,nd0⟩:=Da (F9 f) rok rr;have L0:=B7 (all:=ns++ug) ⟨g0.nr,Ho g0.len (by decide),Ho g0.sum (by decide),Ho g0.hd (by decide),g0.fs⟩ nd0;have rl0:=λr hr=>(g0.nr r hr).len;refine⟨_,rfl,pn,f,nv,ns++ug,rfl,kn,nal,Ho g0.len (by decide),rl0,L0.tl,(λt ht=>by
  obtain⟨r,hr,_,e⟩:=tq ht;rw[e];exact rl0 r hr),λpo H6 ov out s6 ko oal pad=>?_⟩
 dsimp only[bB];have go:=pad.gd g0;refine dH (λσ' G=>∃(pm:Addr) (nu:List V) (all:List bD),σ'=[some (.ref sa),some (.int f),some (.ref p1),some (.ref p2),some (.ref pr),some (.ref pm),none,none,none,none,none,none,none]/\G pm=some (.lst nu)/\aL (NnA G) nu all/\Gd all 100 500 63 (cJ ns)) ?_ (λkey=>?_)
 .rintro σ' G0 ⟨pm,nu,all,rfl,kn0,nal0,gA⟩;have L:=B7 gA nd0;have nr:=L.nr;have nlen:=L.len;have lnu:=nal0.len;have rl:=λr hr=>(nr r hr).len;have tl63:=L.tl;have tw:∀t∈bO (0,0,0) all,t.2.length<=129:=λt ht=>by
   obtain⟨r,hr,_,e⟩:=tq ht;rw[e];exact rl r hr
  intro p4 hp4;have n4:=af hp4 (.dK []);have k4':upd G0 p4 (.dK []) p4=some (.dK []):=ac;generalize upd G0 p4 (.dK [])=G2 at n4 k4'⊢;refine⟨_,rfl,pm,rfl,⟨_,SqL.of (n4 _ _ kn0)⟩,cm (K:=K) (a:=pm) (xs:=nu) (λi σ' G=>∃(v9 v10 v11:Option V) (kv:List (Key×V)),σ'=[some (.ref sa),some (.int f),some (.ref p1),some (.ref p2),some (.ref pr),some (.ref pm),some (.ref p4),v9,v10,v11,none,none,none]/\ak G0 G/\G p4=some (.dK kv)/\FtA G0 kv (cJ (all.take i))) ⟨none,none,none,[],rfl,n4,k4',trivial⟩ (λi σ' G _ g=>by obtain⟨_,_,_,_,_,m,_⟩:=g;exact SqL.of (m _ _ kn0)) ?_ ?_⟩
  .rintro i y' σ' G hy ⟨v9,v10,v11,kv,rfl,m,g4,fal⟩;obtain⟨n,hn,b,l,rfl,hb,cs,l1,l2⟩:=nal0.getL hy;have hi:=(List.getElem?_eq_some_iff.mp hn).1;have ef1:cJ (all.take (i+1))=cJ (all.take i)++(if n.1=.foot then[(tx n.2.1,wkS n.2.2)]else[]):=by rw[bb hn,uv];unfold cJ;simp
   refine⟨b,_,rfl,SqT.of (m _ _ hb),rfl,_,_,rfl,_,_,rfl,_,_,rfl,rfl,?_⟩;refine⟨_,rfl,rfl,_,rfl,?_⟩;rw[cw kg];by_cases hm:n.1=.foot
   .rw[decide_eq_true (show n.1.t=dN by rw[hm];rfl)];refine aQ ?_;rw[if_pos hm]at ef1;have nn:lkS (tx n.2.1) (cJ (all.take i))=none:=mj λz=>by
     have fnd:=L.fnd;rw[<-List.take_append_drop (i+1) all,uv,ef1,Hc,Hc,Jr]at fnd;have:=fnd.1;rw[Jr]at this;exact this.2.2 _ z _ (by simp) rfl
    have lkv:=fal.len;have lf:=yR (all.take i);rw[HD]at lf;refine⟨_,rfl,_,rfl,_,rfl,_,_,rfl,rc.k (k:=.inr (tx n.2.1)) g4 (aB (by omega)),?_⟩;rw[pI _ ((FtA.val (n:=tx n.2.1) fal).1 nn)];refine⟨_,_,_,kv++[(.inr (tx n.2.1),.ref l)],rfl,aW m hp4,ac,?_⟩;rw[ef1];exact FtA.app ⟨rfl,l,rfl,cs,l1,l2⟩ fal
   .rw[decide_eq_false (show ¬ (n.1.t=dN)from λzz=>hm (Wy.inj (b:=.foot) zz))];refine av ?_;refine⟨_,_,_,kv,rfl,m,g4,?_⟩;rw[ef1,if_neg hm,HU];exact fal
  rintro σ' G ⟨v9,v10,v11,kv,rfl,m,g4,fal⟩;rw[lnu,Hu]at fal;have knG:=m _ _ kn0;have nalG:aL (NnA G) nu all:=nal0.imp λ_ _=>NnA.mono m;refine⟨_,rfl,_,rfl,pm,nu,all,rfl,knG,nalG,by omega,λpt H7 tv hpt s7 kt tal=>⟨pm,pt,nu,tv,all,bO (0,0,0) all,rfl,s7 _ _ knG,nalG.imp λ_ _=>NnA.mono s7,kt,tal,by omega,tl63,rl,tw,λps H8 sv hps s8 ks sal=>?_⟩⟩;have sl:=yu (h:=0) tw tl63 rl;have s78:=s7.trans s8;refine⟨_,rfl,ps,p4,sv,eX (bO (0,0,0) all) 0 all,bO (0,0,0) all,kv,cJ all,rfl,ks,sal,s78 _ _ g4,fal.mono (m.trans s78),L.fnd,by omega,Ho (yR all) (by omega),λp hp=>?_,λH9 s9=>?_⟩
  .obtain⟨r,hr,_,rfl⟩:=yP hp;refine⟨by show(wkS r.2.2).length<=200;unfold wkS;rw[GT];have:=rl r hr;omega,λw hw=>?_⟩;obtain⟨d,_,rfl⟩:=List.mem_map.mp hw;exact⟨d.2,rfl⟩
  dsimp only[bB];have Ler:=L.er;have Lok:=L.ok;generalize hR:fZ (cJ all) ((eX (bO (0,0,0) all) 0 all).map (fh (bO (0,0,0) all)))=R at Ler Lok⊢;have mA:=m.trans (s78.trans s9);have knA:=mA _ _ kn0;have nalA:aL (NnA H9) nu all:=nal0.imp λ_ _=>NnA.mono mA;refine⟨_,rfl,pm,rfl,⟨_,SqL.of knA⟩,CW (K:=K) (a:=pm) (xs:=nu) (λi ys G'=>ak H9 G'/\ys=(((all.take i).map λr=>cS [32] (fg true r)).map tx).map V.str) ⟨ak.refl _,rfl⟩ (λi ys G' _ z=>SqL.of (z.1 _ _ knA)) ?_ ?_ ?_⟩
  .rintro i ys G' hi ⟨_,rfl⟩;simp only[GT,HD];exact aB (by omega)
  .rintro i y' ys G' hy ⟨m',rfl⟩;obtain⟨n,hn,b,l,rfl,hb,hl⟩:=nalA.getL hy;refine⟨b,_,_,_,rfl,SqT.of (m' _ _ hb),eI ?_⟩;refine⟨_,rfl,_,rfl,_,rfl,n,l,rfl,hl.mono m',nr n (Ha hn),λG2' m2=>⟨m'.trans m2,?_⟩⟩;rw[bb hn,Hc,Hc,Hc];rfl
  rintro ys G' ⟨m',rfl⟩ pj hpj;rw[lnu,Hu];have k8:upd G' pj (.lst (((all.map λr=>cS [32] (fg true r)).map tx).map V.str)) pj=some (.lst (((all.map λr=>cS [32] (fg true r)).map tx).map V.str)):=ac;generalize upd G' pj (.lst (((all.map λr=>cS [32] (fg true r)).map tx).map V.str))=G3 at k8⊢;refine⟨_,rfl,pj,f,all.map λr=>cS [32] (fg true r),rfl,SqL.of k8,by rw[GT];omega,?_,λpq B ss hpq m9 kq spd ssl=>?_⟩
  .intro r hr;obtain⟨n,hn,rfl⟩:=List.mem_map.mp hr;exact rD true (nr n hn)
  rw[GT]at ssl;dsimp only[bB];have sp:=spd.all nr;have ar:=sp.rows nr;refine⟨_,rfl,_,rfl,f,rfl,λfo B1 x y z u hfo sf kfo=>?_⟩;refine⟨pq,.ref fo,ss,all.map bE,R,rfl,SqL.of (sf _ _ kq),ar,by omega,L.tw,L.sum,L.txg,Ler,Lok,λpw B2 sw kw=>?_⟩;dsimp only[bB];obtain⟨r1,r2⟩:=Db R;refine⟨_,rfl,rfl,_,rfl,?_⟩;rw[r1];cases R with
  |none =>
   rw[decide_eq_true rfl];refine aQ ?_;refine⟨_,rfl,aJ (by simp),λq1 h1=>?_⟩;exact⟨_,_,_,_,rfl,rfl,SqL.of (af h1 _ _ _ kw),SqL.of ac,rfl,rfl,q _⟩
  |some e =>
   rw[decide_eq_false (by simp)];refine av ?_;dsimp only[dq];rw[r2 e rfl]at kw;refine⟨_,rfl,_,rfl,rfl,_,rfl,rfl,_,rfl,rfl,_,rfl,rfl,aJ (by simp),λq1 h1=>?_⟩;refine⟨_,_,_,_,rfl,rfl,SqL.of (af h1 _ _ _ kw),SqL.of ac,rfl,rfl,?_⟩;exact Fw (q _) (by cases e<;>decide +kernel)
 .refine⟨_,rfl,f,43,3,rfl,⟨by decide,by decide⟩,by decide,rfl,_,rfl,?_⟩;refine d_ (λ_=>?_) (λ_=>?_)
  .refine⟨_,rfl,le2,λq1 h1=>?_⟩;have e1:=af h1 (.tup [V.str (PySem.Str.ofString "mark"),V.str (PySem.Str.ofString "q")]);have f1:upd H6 q1 (.tup [V.str (PySem.Str.ofString "mark"),V.str (PySem.Str.ofString "q")]) q1=some (.tup [V.str Kw.mark.s,V.str (tx [113])]):=by rw[ac,cQq];rfl
   generalize upd H6 q1 (.tup [V.str (PySem.Str.ofString "mark"),V.str (PySem.Str.ofString "q")])=F1 at e1 f1⊢;refine⟨le1,λq2 h2=>?_⟩;have e2:=af h2 (.lst [V.ref q1]);have f2:upd F1 q2 (.lst [V.ref q1]) q2=some (.lst [V.ref q1]):=ac;have f1:=e2 _ _ f1;generalize upd F1 q2 (.lst [V.ref q1])=F2 at e2 f2 f1⊢;refine⟨le3,λq3 h3=>?_⟩;have e3:=af h3 (.tup [V.str (PySem.Str.ofString "words"),V.str (PySem.Str.ofString ""),V.ref q2]);have f3:upd F2 q3 (.tup [V.str (PySem.Str.ofString "words"),V.str (PySem.Str.ofString ""),V.ref q2]) q3=some (.tup [V.str (tx (Wy.words).t),V.str (tx []),V.ref q2]):=by rw[ac,kM,jJ];rfl
   have f1:=e3 _ _ f1;have f2:=e3 _ _ f2;generalize upd F2 q3 (.tup [V.str (PySem.Str.ofString "words"),V.str (PySem.Str.ofString ""),V.ref q2])=F3 at e3 f3 f1 f2⊢;refine⟨le1,λq4 h4=>?_⟩;have e4:=af h4 (.lst [V.ref q3]);have f4:upd F3 q4 (.lst [V.ref q3]) q4=some (.lst [V.ref q3]):=ac;have e14:=e1.trans (e2.trans (e3.trans e4));have f1:=e4 _ _ f1;have f2:=e4 _ _ f2;have f3:=e4 _ _ f3;generalize upd F3 q4 (.lst [V.ref q3])=F4 at e4 f4 e14 f1 f2 f3⊢;have lo:=oal.len;have gl:=go.len;refine⟨_,_,_,_,rfl,rfl,e14 _ _ ko,f4,aJ (by simp;omega),λq5 h5=>?_⟩;have e5:=af h5 (.lst (ov++[V.ref q3]));have gq:=go.app GQ;refine key _ _ ⟨q5,ov++[.ref q3],out++[(.words,[],[(.mark,[113])])],rfl,ac,?_,⟨gq.nr,Ho gq.len (by decide),Ho gq.sum (by decide),Ho gq.hd (by decide),by rw[gq.fs,HU]⟩⟩;exact aL.snoc (oal.imp λ_ _=>NnA.mono (e14.trans e5)) ⟨q3,q2,rfl,e5 _ _ f3,[V.ref q1],e5 _ _ f2,⟨⟨q1,rfl,e5 _ _ f1⟩,trivial⟩⟩
  .exact key _ _ ⟨po,ov,out,rfl,ko,oal,⟨go.nr,Ho go.len (by decide),Ho go.sum (by decide),Ho go.hd (by decide),go.fs⟩⟩
end
abbrev Zn(K:PySem.W.Frag)(n:Str):Prop:=PySem.W.nsIn K HC n=some none
def kitL(K:PySem.W.Frag)(l:List (Addr×GV×Bool)):Bool:=l.all λp=>PySem.W.kitOne K (.ref p.1) p.2.1==some p.2.2
theorem kit_at{K:PySem.W.Frag}{l:List (Addr×GV×Bool)}(h:kitL K l=true)(i:Nat){x:Addr}{y:GV}{b:Bool}(e:l[i]?=some (x,y,b)):PySem.W.kitOne K (.ref x) y=some b:=K6 (List.all_eq_true.mp h _ (Ha e))
theorem txt_mk{P:HB}{w:HF}{K:PySem.W.Frag}{h:Heap}{mg:Str->Option GV}(X:K.In h)(G:h.Ns HC mg)
  {ad:AdD}(D:TxD K mg ad)
  (fT:Zn K "ValueError")
  (tD:Zn K "all")
  (pC:Zn K "dict")
  (fq:Zn K "enumerate")
  (tE:Zn K "int")
  (bU:Zn K "isinstance")
  (cr:Zn K "len")
  (nO:Zn K "max")
  (tF:Zn K "min")
  (gv:Zn K "range")
  (qE:Zn K "str")
  (tG:Zn K "sum")
  {cK:Addr}(m_BadCall:PySem.W.nsIn K HC "BadCall" = some (some (.ref cK)))(e_BadCall:PySem.W.excIn K cK hV "ValueError.__new__" = true)
  {c7:Addr}(m_BadRow:PySem.W.nsIn K HC "BadRow" = some (some (.ref c7)))(e_BadRow:PySem.W.excIn K c7 hV "ValueError.__new__" = true)
  {cM:Addr}(m_BadWord:PySem.W.nsIn K HC "BadWord" = some (some (.ref cM)))(e_BadWord:PySem.W.excIn K cM hV "ValueError.__new__" = true)
  {eN:Addr}(m_Deep:PySem.W.nsIn K HC "Deep" = some (some (.ref eN)))(e_Deep:PySem.W.excIn K eN hV "ValueError.__new__" = true)
  {aE:Addr}(m_NoFoot:PySem.W.nsIn K HC "NoFoot" = some (some (.ref aE)))(e_NoFoot:PySem.W.excIn K aE hV "ValueError.__new__" = true)
  {aF:Addr}(m_NoMark:PySem.W.nsIn K HC "NoMark" = some (some (.ref aF)))(e_NoMark:PySem.W.excIn K aF hV "ValueError.__new__" = true)
  {cN:Addr}(m_NoShort:PySem.W.nsIn K HC "NoShort" = some (some (.ref cN)))(e_NoShort:PySem.W.excIn K cN hV "ValueError.__new__" = true)
  {aA:Addr}(m_TooLong:PySem.W.nsIn K HC "TooLong" = some (some (.ref aA)))(e_TooLong:PySem.W.excIn K aA hV "ValueError.__new__" = true)
  {bC:Addr}(m_TrueleafError:PySem.W.nsIn K HC "TrueleafError" = some (some (.ref bC)))(e_TrueleafError:PySem.W.excIn K bC hV "ValueError.__new__" = true)
  {aH:Addr}(m_Twice:PySem.W.nsIn K HC "Twice" = some (some (.ref aH)))(e_Twice:PySem.W.excIn K aH hV "ValueError.__new__" = true)
  (cI:jB K aH bC)
  (cz:jB K aE bC)
  (cj:jB K aA bC)
  (cA:jB K aF bC)
  (c8:jD K aH=true)
  (cO:jD K aE=true)
  (cq:jD K aA=true)
  (cQ:jD K aF=true)
  (kits:kitL K [(aH,(.ref aH),true),(aH,(.ref aE),false),(aH,(.ref aA),false),(aH,(.ref aF),false),(aH,(.type "ValueError"),true),(aH,(.ref c7),false),(aH,(.ref cK),false),(aH,(.ref cM),false),(aH,(.ref eN),false),(aH,(.ref cN),false),(aE,(.ref aH),false),(aE,(.ref aE),true),(aE,(.ref aA),false),(aE,(.ref aF),false),(aE,(.type "ValueError"),true),(aE,(.ref c7),false),(aE,(.ref cK),false),(aE,(.ref cM),false),(aE,(.ref eN),false),(aE,(.ref cN),false),(aA,(.ref aH),false),(aA,(.ref aE),false),(aA,(.ref aA),true),(aA,(.ref aF),false),(aA,(.type "ValueError"),true),(aA,(.ref c7),false),(aA,(.ref cK),false),(aA,(.ref cM),false),(aA,(.ref eN),false),(aA,(.ref cN),false),(aF,(.ref aH),false),(aF,(.ref aE),false),(aF,(.ref aA),false),(aF,(.ref aF),true),(aF,(.type "ValueError"),true),(aF,(.ref c7),false),(aF,(.ref cK),false),(aF,(.ref cM),false),(aF,(.ref eN),false),(aF,(.ref cN),false)]=true)
  {ju:Addr}(gt:PySem.W.nsIn K HC "ALONE" = some (some (.ref ju))){od_ALONE:Option Addr}{sl_ALONE:Array (Option GV)}{n_ALONE:Nat}{k_ALONE0:Tok}{k_ALONE1:Tok}{k_ALONE2:Tok}(l_ALONE:K.lookup ju=some ⟨.type "tuple",od_ALONE,.seq #[.str (PySem.Str.ofString ".page") k_ALONE0,.str (PySem.Str.ofString ".odd") k_ALONE1,.str (PySem.Str.ofString ".list") k_ALONE2] n_ALONE,sl_ALONE⟩)
  {t_FIGURES:Tok}(eB:PySem.W.nsIn K HC "FIGURES" = some (some (.str (PySem.Str.ofString "0123456789") t_FIGURES)))
  {jv:Addr}(gu:PySem.W.nsIn K HC "HEADS" = some (some (.ref jv))){od_HEADS:Option Addr}{sl_HEADS:Array (Option GV)}{n_HEADS:Nat}{k_HEADS0:Tok}{k_HEADS1:Tok}{k_HEADS2:Tok}(l_HEADS:K.lookup jv=some ⟨.type "tuple",od_HEADS,.seq #[.str (PySem.Str.ofString "=") k_HEADS0,.str (PySem.Str.ofString "==") k_HEADS1,.str (PySem.Str.ofString "===") k_HEADS2] n_HEADS,sl_HEADS⟩)
  {eU:Addr}(fP:PySem.W.nsIn K HC "KINDS" = some (some (.ref eU))){oc_KINDS:GV}{od_KINDS:Option Addr}{es_KINDS:Array Ic}{ep_KINDS:Nat}{sl_KINDS:Array (Option GV)}(l_KINDS:K.lookup eU=some ⟨oc_KINDS,od_KINDS,.dict es_KINDS ep_KINDS,sl_KINDS⟩)
  (b_KINDS:(eU==IE)=false)(c_KINDS:(⟨oc_KINDS,od_KINDS,.dict es_KINDS ep_KINDS,sl_KINDS⟩:Obj).ExactDict)(e_KINDS:yc w es_KINDS lI)
  {dg:Addr}(fQ:PySem.W.nsIn K HC "LEAPS" = some (some (.ref dg))){oc_LEAPS:GV}{od_LEAPS:Option Addr}{es_LEAPS:Array Ic}{ep_LEAPS:Nat}{sl_LEAPS:Array (Option GV)}(l_LEAPS:K.lookup dg=some ⟨oc_LEAPS,od_LEAPS,.dict es_LEAPS ep_LEAPS,sl_LEAPS⟩)
  (b_LEAPS:(dg==IE)=false)(c_LEAPS:(⟨oc_LEAPS,od_LEAPS,.dict es_LEAPS ep_LEAPS,sl_LEAPS⟩:Obj).ExactDict)(e_LEAPS:yc w es_LEAPS gX)
  {t_LETTERS:Tok}(dU:PySem.W.nsIn K HC "LETTERS" = some (some (.str (PySem.Str.ofString "abcdefghijklmnopqrstuvwxyz") t_LETTERS)))
  {t_LONGEST_NAME:Tok}(cx:PySem.W.nsIn K HC "LONGEST_NAME" = some (some (.int 12 t_LONGEST_NAME)))
  {t_LONGEST_TEXT:Tok}(cy:PySem.W.nsIn K HC "LONGEST_TEXT" = some (some (.int 60 t_LONGEST_TEXT)))
  {t_MOST_CALLS:Tok}(c4:PySem.W.nsIn K HC "MOST_CALLS" = some (some (.int 400 t_MOST_CALLS)))
  {t_MOST_FOOT_WORDS:Tok}(bX:PySem.W.nsIn K HC "MOST_FOOT_WORDS" = some (some (.int 39 t_MOST_FOOT_WORDS)))
  {t_MOST_WORDS_books:Tok}(bH:PySem.W.nsIn K HC "MOST_WORDS_books" = some (some (.int 400 t_MOST_WORDS_books)))
  {t_MOST_WORDS_shorts:Tok}(bI:PySem.W.nsIn K HC "MOST_WORDS_shorts" = some (some (.int 400 t_MOST_WORDS_shorts)))
  {eZ:Addr}(dO:PySem.W.nsIn K HC "POINTING" = some (some (.ref eZ))){od_POINTING:Option Addr}{sl_POINTING:Array (Option GV)}{n_POINTING:Nat}{k_POINTING0:Tok}{k_POINTING1:Tok}{k_POINTING2:Tok}(l_POINTING:K.lookup eZ=some ⟨.type "tuple",od_POINTING,.seq #[.str (PySem.Str.ofString "number") k_POINTING0,.str (PySem.Str.ofString "page") k_POINTING1,.str (PySem.Str.ofString "row") k_POINTING2] n_POINTING,sl_POINTING⟩) :
  ∃a:Adr,Txt P w K mg a:=by
 refine⟨{ toAdD:=ad,ju:=ju,jv:=jv,eU:=eU,dg:=dg,eZ:=eZ,cK:=cK,c7:=c7,cM:=cM,eN:=eN,aE:=aE,aF:=aF,cN:=cN,aA:=aA,bC:=bC,aH:=aH },{
  toTxD:=D,
  fT:=PySem.W.mg_none_of X G fT,
  tD:=PySem.W.mg_none_of X G tD,
  pC:=PySem.W.mg_none_of X G pC,
  fq:=PySem.W.mg_none_of X G fq,
  tE:=PySem.W.mg_none_of X G tE,
  bU:=PySem.W.mg_none_of X G bU,
  cr:=PySem.W.mg_none_of X G cr,
  nO:=PySem.W.mg_none_of X G nO,
  tF:=PySem.W.mg_none_of X G tF,
  gv:=PySem.W.mg_none_of X G gv,
  qE:=PySem.W.mg_none_of X G qE,
  tG:=PySem.W.mg_none_of X G tG,
  wz:=⟨PySem.W.mg_of X G m_BadCall,e_BadCall⟩,
  yS:=⟨PySem.W.mg_of X G m_BadRow,e_BadRow⟩,
  wA:=⟨PySem.W.mg_of X G m_BadWord,e_BadWord⟩,
  B8:=⟨PySem.W.mg_of X G m_Deep,e_Deep⟩,
  uG:=⟨PySem.W.mg_of X G m_NoFoot,e_NoFoot⟩,
  qD:=⟨PySem.W.mg_of X G m_NoMark,e_NoMark⟩,
  wB:=⟨PySem.W.mg_of X G m_NoShort,e_NoShort⟩,
  sN:=⟨PySem.W.mg_of X G m_TooLong,e_TooLong⟩,
  nN:=⟨PySem.W.mg_of X G m_TrueleafError,e_TrueleafError⟩,
  vO:=⟨PySem.W.mg_of X G m_Twice,e_Twice⟩,
  cI:=cI,
  cz:=cz,
  cj:=cj,
  cA:=cA,
  c8:=c8,
  cO:=cO,
  cq:=cq,
  cQ:=cQ,
  pB:=kit_at kits 0 rfl,
  nK:=kit_at kits 1 rfl,
  mZ:=kit_at kits 2 rfl,
  nM:=kit_at kits 3 rfl,
  jS:=kit_at kits 4 rfl,
  nJ:=kit_at kits 5 rfl,
  mW:=kit_at kits 6 rfl,
  mX:=kit_at kits 7 rfl,
  qH:=kit_at kits 8 rfl,
  mY:=kit_at kits 9 rfl,
  nG:=kit_at kits 10 rfl,
  mQ:=kit_at kits 11 rfl,
  lj:=kit_at kits 12 rfl,
  mR:=kit_at kits 13 rfl,
  jO:=kit_at kits 14 rfl,
  mP:=kit_at kits 15 rfl,
  k_:=kit_at kits 16 rfl,
  lg:=kit_at kits 17 rfl,
  pz:=kit_at kits 18 rfl,
  li:=kit_at kits 19 rfl,
  mV:=kit_at kits 20 rfl,
  lC:=kit_at kits 21 rfl,
  kK:=kit_at kits 22 rfl,
  lD:=kit_at kits 23 rfl,
  jw:=kit_at kits 24 rfl,
  lB:=kit_at kits 25 rfl,
  kH:=kit_at kits 26 rfl,
  kI:=kit_at kits 27 rfl,
  nI:=kit_at kits 28 rfl,
  kJ:=kit_at kits 29 rfl,
  nH:=kit_at kits 30 rfl,
  mT:=kit_at kits 31 rfl,
  lA:=kit_at kits 32 rfl,
  mU:=kit_at kits 33 rfl,
  jP:=kit_at kits 34 rfl,
  mS:=kit_at kits 35 rfl,
  lm:=kit_at kits 36 rfl,
  lq:=kit_at kits 37 rfl,
  pA:=kit_at kits 38 rfl,
  lx:=kit_at kits 39 rfl,
  gt:=⟨PySem.W.mg_of X G gt,λH=>.inr ⟨_,_,_,l_ALONE,rfl,rfl,by show 3<=Hs;decide,.cons ⟨_,rfl⟩ (.cons ⟨_,rfl⟩ (.cons ⟨_,rfl⟩ (.nil)))⟩⟩,
  eB:=⟨t_FIGURES,PySem.W.mg_of X G eB⟩,
  gu:=⟨PySem.W.mg_of X G gu,λH=>.inr ⟨_,_,_,l_HEADS,rfl,rfl,by show 3<=Hs;decide,.cons ⟨_,rfl⟩ (.cons ⟨_,rfl⟩ (.cons ⟨_,rfl⟩ (.nil)))⟩⟩,
  fP:=⟨PySem.W.mg_of X G fP,zx b_KINDS l_KINDS c_KINDS e_KINDS⟩,
  fQ:=⟨PySem.W.mg_of X G fQ,zx b_LEAPS l_LEAPS c_LEAPS e_LEAPS⟩,
  dU:=⟨t_LETTERS,PySem.W.mg_of X G dU⟩,
  cx:=⟨t_LONGEST_NAME,PySem.W.mg_of X G cx⟩,
  cy:=⟨t_LONGEST_TEXT,PySem.W.mg_of X G cy⟩,
  c4:=⟨t_MOST_CALLS,PySem.W.mg_of X G c4⟩,
  bX:=⟨t_MOST_FOOT_WORDS,PySem.W.mg_of X G bX⟩,
  bH:=⟨t_MOST_WORDS_books,PySem.W.mg_of X G bH⟩,
  bI:=⟨t_MOST_WORDS_shorts,PySem.W.mg_of X G bI⟩,
  dO:=⟨PySem.W.mg_of X G dO,λH=>.inr ⟨_,_,_,l_POINTING,rfl,rfl,by show 3<=Hs;decide,.cons ⟨_,rfl⟩ (.cons ⟨_,rfl⟩ (.cons ⟨_,rfl⟩ (.nil)))⟩⟩ }⟩
theorem walk{l:PySem.W.OpenLaw}{q:HB}{loose:List Str}{XP:(Str->Option GV)->Heap->Prop}{YP:HF->Heap->Prop}{d:DefRec}{K:HR->PySem.W.Frag}(hn:l.most=some 63)(hdf:d.params.defaults=[])(hnm:d.name = "law")
  (hY:∀(w:HF) (h:Heap),YP w h->(K w.params).In h)
  (F:∀(w:HF) (mg:Str->Option GV) (h:Heap),(K w.params).In h->h.Ns HC mg->∃a:Adr,Txt l.prog w (K w.params) mg a) :
  PySem.W.WalkO q loose XP YP l.row.toRowW d [] (λf vs=>PySem.call f vs):=
 L2.walk_of (n:=63) (k:=10) (x := "script") (CX:=λ_=>CX0) (sp:=λw=>Ba (K w.params)) hn (by decide) hdf ⟨rfl,by decide,by decide⟩ hY (λw mg fa h KX G hmg=>by
  obtain⟨a,T⟩:=F w mg h KX G;have e0:=hmg.symm.trans (hnm▸T.xg.mg);cases e0;refine⟨a.vh,λs u=>.of_eq (T.xg.ba [u] rfl),λbase _ _=>Fx T⟩) (λ_ _ a ns hl _ hS=>⟨a,ns,rfl,hS,hl,λ_=>rfl⟩) λ_ _ _ _ _ z=>z
end K63
namespace K63
open PySem PySem.W L2 Tl PyProof.Rows
theorem us1{us:List GV}(h:us.length=1):∃a0,us=[a0]:=by
 match us,h with
 |[a0],_=>exact⟨a0,rfl⟩
theorem us2{us:List GV}(h:us.length=2):∃a0 a1,us=[a0,a1]:=by
 match us,h with
 |[a0,a1],_=>exact⟨a0,a1,rfl⟩
theorem us3{us:List GV}(h:us.length=3):∃a0 a1 a2,us=[a0,a1,a2]:=by
 match us,h with
 |[a0,a1,a2],_=>exact⟨a0,a1,a2,rfl⟩
theorem us4{us:List GV}(h:us.length=4):∃a0 a1 a2 a3,us=[a0,a1,a2,a3]:=by
 match us,h with
 |[a0,a1,a2,a3],_=>exact⟨a0,a1,a2,a3,rfl⟩
theorem us6{us:List GV}(h:us.length=6):∃a0 a1 a2 a3 a4 a5,us=[a0,a1,a2,a3,a4,a5]:=by
 match us,h with
 |[a0,a1,a2,a3,a4,a5],_=>exact⟨a0,a1,a2,a3,a4,a5,rfl⟩
noncomputable abbrev fdO(n q:Str)(s:Stmt)(d:GV)(m:String)(k:Nat)(r:Addr):Hm:=fnOf n q (cG s) (b_ s) (au s) d .none .none (.str (Lf m) k) none (.ref r) .none
noncomputable abbrev fb0(n q:Str)(s:Stmt)(d:GV)(r:Addr):Hm:=fdO n q s d "law_trueleaf_k63_setting_refused" 818 r
noncomputable abbrev fa0(n:Str)(s:Stmt)(r:Addr):Hm:=fb0 n n s .none r
noncomputable abbrev fb1(n q:Str)(s:Stmt)(d:GV)(r:Addr):Hm:=fdO n q s d "trueleaf.signs" 355 r
noncomputable abbrev fa1(n:Str)(s:Stmt)(r:Addr):Hm:=fb1 n n s .none r
noncomputable abbrev fb2(n q:Str)(s:Stmt)(d:GV)(r:Addr):Hm:=fdO n q s d "trueleaf.heads" 407 r
noncomputable abbrev fa2(n:Str)(s:Stmt)(r:Addr):Hm:=fb2 n n s .none r
noncomputable abbrev fb3(n q:Str)(s:Stmt)(d:GV)(r:Addr):Hm:=fdO n q s d "trueleaf.setting" 670 r
noncomputable abbrev fa3(n:Str)(s:Stmt)(r:Addr):Hm:=fb3 n n s .none r
noncomputable abbrev fb4(n q:Str)(s:Stmt)(d:GV)(r:Addr):Hm:=fdO n q s d "trueleaf.reading" 554 r
noncomputable abbrev fa4(n:Str)(s:Stmt)(r:Addr):Hm:=fb4 n n s .none r
noncomputable abbrev fb5(n q:Str)(s:Stmt)(d:GV)(r:Addr):Hm:=fdO n q s d "trueleaf.shorts" 469 r
noncomputable abbrev fa5(n:Str)(s:Stmt)(r:Addr):Hm:=fb5 n n s .none r
noncomputable abbrev fb6(n q:Str)(s:Stmt)(d:GV)(r:Addr):Hm:=fdO n q s d "trueleaf.trees" 415 r
noncomputable abbrev fa6(n:Str)(s:Stmt)(r:Addr):Hm:=fb6 n n s .none r
noncomputable def A0:AdD:={ oA:=443,mC:=fa0 "_law_cell_at" nU 442,uA:=450,sF:=fa0 "_law_draw" uh 449,uB:=471,sI:=fa0 "_law_form" ui 470,uC:=476,sJ:=fa0 "_law_name" uj 475,oF:=457,mJ:=fa0 "_law_sign_by" nW 456,mw:=481,kW:=fa0 "_law_plain_by" l7 480,uF:=495,sM:=fa0 "_law_word" uk 494,sA:=507,qz:=fa0 "_law_named" rE 506,qr:=522,oN:=fa0 "_law_stream" pU 521,qt:=517,oO:=fa0 "_law_titles" pV 516,qp:=534,oK:=fa0 "_law_padded" pW 533,mv:=153,kU:=fa1 "figures_of" l8 152,mx:=165,kX:=fa2 "numbers_of" l9 164,kT:=358,j9:=fb3 "__init__" "Setter.__init__" kO .none 357,f_:=410,fN:=fb3 "check_marks" "Setter.check_marks" fX .none 409,i9:=391,iG:=fb3 "set_mark" "Setter.set_mark" iP .none 390,iz:=405,gQ:=fb3 "next_foot" "Setter.next_foot" hZ .none 404,i_:=398,iH:=fb3 "set_word" "Setter.set_word" iQ .none 397,jp:=384,ja:=fb3 "set_run" "Setter.set_run" jo .none 383,i7:=372,iE:=fb3 "set_head" "Setter.set_head" iR .none 371,i8:=377,iF:=fb3 "set_list" "Setter.set_list" iS .none 376,iC:=365,gT:=fb3 "set_thing" "Setter.set_thing" h_ .none 364,iA:=429,gR:=fb3 "number_at" "Setter.number_at" ia .none 428,iB:=422,gS:=fb3 "saying_of" "Setter.saying_of" ib .none 421,gM:=415,ge:=fb3 "words_told" "Setter.words_told" gx .none 414,kS:=280,j7:=fb4 "__init__" "Reader.__init__" kP .none 279,ir:=320,gN:=fb4 "add_thing" "Reader.add_thing" ic .none 319,gK:=306,gb:=fb4 "read_alone" "Reader.read_alone" gy .none 305,sx:=146,qx:=fa1 "is_name" rF 145,sy:=160,qy:=fa1 "kind_of" rG 159,su:=233,qw:=fa5 "by_name" rH 232,mB:=247,kZ:=fa5 "size_among" l_ 246,oJ:=257,mO:=fa5 "words_out" nX 256,sD:=228,qB:=fa5 "put_out" rJ 227,sC:=199,qA:=fa6 "node_of" rK 198,my:=185,kY:=fa6 "opens_call" md 184,sE:=173,qC:=fb6 "tree_of" "tree_of" rL (.ref 166) 172,iy:=325,gP:=fb4 "words_out" "Reader.words_out" ie .none 324,iu:=299,gO:=fb4 "read_foot" "Reader.read_foot" ig .none 298,gL:=313,gc:=fb4 "read_words" "Reader.read_words" gz .none 312,i6:=287,iD:=fb4 "read_row" "Reader.read_row" iT .none 286,qu:=141,oP:=fa1 "words_in" pX 140,oH:=266,mL:=fa4 "read_rows" nY 265,oI:=346,mM:=fa3 "set_words" nZ 345,oC:=548,mE:=fa0 "_law_refusal" n9 547,oE:=541,mI:=fa0 "_law_refused" n_ 540,uD:=502,sK:=fa0 "_law_rows" um 501,qq:=555,oM:=fa0 "_law_spaced" pY 554,oB:=464,mD:=fa0 "_law_is_name" oa 463,oG:=488,mK:=fa0 "_law_written" og 487,uE:=512,sL:=fa0 "_law_text" uo 511,AA:=560,vh:=fa0 "law" Ag 559,bK:=328,aI:=432 }
local macro_rules | `(tactic| walk_at "b")=>`(tactic| (intro _ _ _ _ _ _ us hl; first | (obtain ⟨_,hx⟩:=us1 hl; subst hx; rfl) | (obtain ⟨_,⟨_,hx⟩⟩:=us2 hl; subst hx; rfl) | (obtain ⟨_,⟨_,⟨_,hx⟩⟩⟩:=us3 hl; subst hx; rfl) | (obtain ⟨_,⟨_,⟨_,⟨_,hx⟩⟩⟩⟩:=us4 hl; subst hx; rfl) | (obtain ⟨_,⟨_,⟨_,⟨_,⟨_,⟨_,hx⟩⟩⟩⟩⟩⟩:=us6 hl; subst hx; rfl)))
local macro_rules | `(tactic| walk_at "d")=>`(tactic| exact Cu (oc:=.type "function") (od:=none) (sl:=#[]) (by assumption) (by assumption) (by kernel_rfl) (by kernel_rfl) (by kernel_rfl) (by kernel_rfl) (by walk_at "b"))
local macro_rules | `(tactic| walk_at "m")=>`(tactic| exact CJ (oc:=.type "function") (od:=none) (sl:=#[]) (by kernel_rfl) (by kernel_rfl) (by kernel_rfl) (by kernel_rfl) (by kernel_rfl) (by walk_at "b"))
local macro_rules | `(tactic| walk_at "n")=>`(tactic| (show PySem.W.findIn _ _ _=some none; kernel_rfl))
set_option maxHeartbeats 0 in
theorem txd{w:HF}{mg:Str->Option GV}{h:Heap}(X:(kk w.params).In h)(G:h.Ns HC mg):TxD (kk w.params) mg A0 where
 bF:=⟨mg_of X G (by kernel_rfl),⟨by kernel_rfl,by kernel_rfl,by kernel_rfl,by kernel_rfl⟩,by kernel_rfl,by kernel_rfl⟩
 jq:=by walk_at "n"
 fR:=by walk_at "n"
 eO:=by walk_at "n"
 dh:=by walk_at "n"
 aD:=⟨mg_of X G (by kernel_rfl),⟨by kernel_rfl,by kernel_rfl,by kernel_rfl,by kernel_rfl⟩,by kernel_rfl,by kernel_rfl⟩
 fC:=by walk_at "n"
 gf:=by walk_at "n"
 fS:=by walk_at "n"
 dW:=by walk_at "n"
 cE:=by walk_at "n"
 cC:=by walk_at "n"
 dw:=by walk_at "n"
 cW:=by walk_at "n"
 di:=by walk_at "n"
 oh:=by walk_at "d"
 bz:=by walk_at "d"
 uw:=by walk_at "d"
 f9:=by walk_at "d"
 oq:=by walk_at "d"
 mo:=by walk_at "d"
 uz:=by walk_at "d"
 si:=by walk_at "d"
 lN:=by walk_at "d"
 lO:=by walk_at "d"
 ql:=by walk_at "d"
 jN:=by walk_at "d"
 mq:=by walk_at "d"
 kR:=by walk_at "m"
 f8:=by walk_at "m"
 i4:=by walk_at "m"
 io:=by walk_at "m"
 i5:=by walk_at "m"
 dL:=by walk_at "m"
 iY:=by walk_at "m"
 iZ:=by walk_at "m"
 iq:=by walk_at "m"
 ip:=by walk_at "m"
 e9:=by walk_at "m"
 gJ:=by walk_at "m"
 kQ:=by walk_at "m"
 dR:=by walk_at "m"
 gH:=by walk_at "m"
 kG:=by walk_at "d"
 sh:=by walk_at "d"
 se:=by walk_at "d"
 mt:=by walk_at "d"
 oz:=by walk_at "d"
 sk:=by walk_at "d"
 sj:=by walk_at "d"
 mr:=by walk_at "d"
 sr:=Bf (oc:=.type "function") (od:=none) (sl:=#[]) (oc2:=.type "tuple") (od2:=none) (sl2:=#[]) (n2:=0) X G (by kernel_rfl) (by kernel_rfl) (by kernel_rfl) (by kernel_rfl) (by kernel_rfl) (λ_ _ _ _ _ _ us hl=>by obtain⟨_,⟨_,rfl⟩⟩:=us2 hl;exact⟨_,rfl,rfl⟩) (λ_ _ _ _ _ _ us hl=>by obtain⟨_,rfl⟩:=us1 (Nat.succ.inj hl);exact⟨_,rfl,rfl⟩)
 dS:=by walk_at "m"
 im:=by walk_at "m"
 gI:=by walk_at "m"
 iX:=by walk_at "m"
 qo:=by walk_at "d"
 ox:=by walk_at "d"
 oy:=by walk_at "d"
 om:=by walk_at "d"
 on:=by walk_at "d"
 ux:=by walk_at "d"
 qm:=by walk_at "d"
 oj:=by walk_at "d"
 ou:=by walk_at "d"
 uy:=by walk_at "d"
 xg:=by walk_at "d"
end K63
local macro_rules | `(tactic| walk_at "z")=>`(tactic| (first | k_is | (delta K63.Zn; k_is)))
open PySem PySem.W PyProof.Rows
set_option maxRecDepth 100000 in
set_option maxHeartbeats 0 in
theorem PySem.Challenge.cw_trueleaf_k63_setting_refused_holds : PySem.Challenge.rw_trueleaf_k63_setting_refused.Holds := by
 w_on
 refine ⟨K63.wsL,?_⟩;have said:PySem.Challenge.rw_trueleaf_k63_setting_refused.row.wellSaid=true:=K63.wsR;refine holds_open (q:=K63.vw) (loose:=K63.ls) (Xt:=K63.xt) (XP:=XL K63.vw []) (Yf:=Hook.obs K63.hk) (Ya:=Hook.val K63.hk) (YP:=InK K63.kk) K63.left
  (Hook.of K63.hk) (Hook.keeps K63.hk) (fun s e=>xl_of s (Bool.and_eq_true_iff.mp e).1) XL.keeps (by rfl) (by rfl) (by rfl)
  (fun s e=>recFacts_of (Bool.and_eq_true_iff.mp e).2) (by rfl) (by assumption) (by decide +kernel) ⟨rfl,rfl,rfl,rfl,rfl,by decide +kernel⟩ ?hw ?hc
 (case hw=>w_witness2)
 k_fill
 refine K63.walk (l:=PySem.Challenge.rw_trueleaf_k63_setting_refused) rfl rfl rfl (fun w h Y=>Y) ?F
 case F =>
  intro w mg h KX G;refine' K63.txt_mk (D:=K63.txd KX G) KX G ?fT ?tD ?pC ?fq ?tE ?bU ?cr ?nO ?tF ?gv ?qE ?tG ?m_BadCall ?e_BadCall ?m_BadRow ?e_BadRow ?m_BadWord ?e_BadWord ?m_Deep ?e_Deep ?m_NoFoot ?e_NoFoot ?m_NoMark ?e_NoMark ?m_NoShort ?e_NoShort ?m_TooLong ?e_TooLong ?m_TrueleafError ?e_TrueleafError ?m_Twice ?e_Twice ?cI ?cz ?cj ?cA ?c8 ?cO ?cq ?cQ ?kits ?gt ?l_ALONE ?eB ?gu ?l_HEADS ?fP ?l_KINDS ?b_KINDS ?c_KINDS ?e_KINDS ?fQ ?l_LEAPS ?b_LEAPS ?c_LEAPS ?e_LEAPS ?dU ?cx ?cy ?c4 ?bX ?bH ?bI ?dO ?l_POINTING
  (case fT | tD | pC | fq | tE | bU | cr | nO | tF | gv | qE | tG | m_BadCall=>walk_at "z")
  (case e_BadCall=>k_exc)
  (case m_BadRow=>walk_at "z")
  (case e_BadRow=>k_exc)
  (case m_BadWord=>walk_at "z")
  (case e_BadWord=>k_exc)
  (case m_Deep=>walk_at "z")
  (case e_Deep=>k_exc)
  (case m_NoFoot=>walk_at "z")
  (case e_NoFoot=>k_exc)
  (case m_NoMark=>walk_at "z")
  (case e_NoMark=>k_exc)
  (case m_NoShort=>walk_at "z")
  (case e_NoShort=>k_exc)
  (case m_TooLong=>walk_at "z")
  (case e_TooLong=>k_exc)
  (case m_TrueleafError=>walk_at "z")
  (case e_TrueleafError=>k_exc)
  (case m_Twice=>walk_at "z")
  (case e_Twice=>k_exc)
  (case cI=>((show PySem.W.exmOne _ _ _=some true); kts_exm))
  (case cz=>((show PySem.W.exmOne _ _ _=some true); kts_exm))
  (case cj=>((show PySem.W.exmOne _ _ _=some true); kts_exm))
  (case cA=>((show PySem.W.exmOne _ _ _=some true); kts_exm))
  (case c8=>kernel_rfl)
  (case cO=>kernel_rfl)
  (case cq=>kernel_rfl)
  (case cQ=>kernel_rfl)
  (case kits=>kernel_rfl)
  (case gt | l_ALONE | eB | gu | l_HEADS | fP | l_KINDS=>walk_at "z")
  (case b_KINDS=>rfl)
  (case c_KINDS=>exact ⟨rfl,rfl,rfl⟩)
  (case e_KINDS=>(refine ⟨?_,by decide +kernel⟩; exact .cons rfl rfl ⟨_,rfl⟩ (.cons rfl rfl ⟨_,rfl⟩ (.cons rfl rfl ⟨_,rfl⟩ (.cons rfl rfl ⟨_,rfl⟩ (.cons rfl rfl ⟨_,rfl⟩ .nil))))))
  (case fQ | l_LEAPS=>walk_at "z")
  (case b_LEAPS=>rfl)
  (case c_LEAPS=>exact ⟨rfl,rfl,rfl⟩)
  (case e_LEAPS=>(refine ⟨?_,by decide +kernel⟩; exact .cons rfl rfl ⟨_,rfl⟩ (.cons rfl rfl ⟨_,rfl⟩ .nil)))
  (case dU | cx | cy | c4 | bX | bH | bI | dO | l_POINTING=>walk_at "z")
