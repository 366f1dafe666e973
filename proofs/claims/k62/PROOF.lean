import PyProof.Rows.All
import Wide.All
import OpenK.AllK
import Wide.FinOn
import Lean
import PyProof.EqAt
import PyProof.EqKinds
import PyProof.TupleCall
import PyProof.NeKinds
import KE.LcSums
import PyProof.ExcBaseAll.ValueError
import KE.KTryMore
import KE.RegKTryMore
import PyProof.StrLawsRepr
import PyProof.ReprStr
import PyProof.EnumMake
import PyProof.EnumFor
import KE.KEqDict
import PyProof.Rows.Range3
import PyProof.SumWalkG
import PyProof.ZipIter
import KE.KDictOf
import PyProof.IsiH_list
import PyProof.RaisesAny
import PyProof.SumWalkG
import KE.KIsAll
import PyProof.ExcArgsOwn
import PyProof.ExcAttrAll.ValueError
import PyProof.RulesAs
import PyProof.NsDelKeeps
import PyProof.Rows.TupAdd
import KE.KDictList
import PyProof.Rows.SortStr
import PyProof.Rows.SortWalk
import PyProof.DictIter
import PyProof.DictItemsLoops
import PyProof.DictValues
import PyProof.DictWalks
import PySem.Challenge.RW_trueleaf_k62_whole_text_set
set_option Elab.async false
set_option linter.all false
set_option maxRecDepth 100000
set_option maxHeartbeats 4000000
open PySem.Str renaming ofString→Iy,empty→JV,join→NJ
open List renaming length_map→Iz,length_append→IB,length_cons→ID,mem_cons_of_mem→IH,getElem?_eq_getElem→II,map_append→IJ,mem_of_getElem?→IK,mem_cons_self→IL,replicate→IN,map_cons→IQ,append_assoc→IT,append_nil→IY,take_length→IZ,size_toArray→I_,length_nil→Ja,getD_eq_getElem?_getD→Jb,getElem?_map→Jc,length_take→Jm,drop_eq_getElem_cons→Js,toArray→Jx,lookup→Jz,mem_append_right→JB,replicate_succ→JD,length_replicate→JI,length_range→JJ,filter_append→JK,not_mem_nil→JQ,length_filter_le→JU,mem_cons→J8,sum_cons→J9,nodup_append→Kh,map_map→Ki,range→Kj,drop_length→Kk,take_of_length_le→Kp,mem_append_left→Ku,flatMap_cons→Ky,filterMap_cons→KA,mem_map_of_mem→KB,getElem?_append_right→KH,take_append_drop→KJ,any_eq_false→KN,flatten_cons→KO,filter_cons→K0,cons_append→K1,map_nil→K4,drop_eq_nil_of_le→K5,find?_cons→K9,any_cons→K_,length_singleton→Lb,take_add_one→Ld,length_drop→Lh,flatMap_append→Ln,all_cons→Lp,sum_append→Lu,length→LF,getElem?_eq_none→LO,filter→LZ,range_succ→Md,map_congr_left→Mg,getElem?_range→Mh,map_singleton→Mv,mem_singleton→Mw,of_mem_zip→MW,length_set→MY,foldl_cons→MZ,nil_append→M0,take_zero→M6,foldl→NH,map→NK
open PySem.W renaming Frag→IC,mg_none_of→JL,mg_of→JN,nsIn→JP,fnOf→J3,findIn→Ka,kia_one→Kb,emptyDict→Kg,keepIn→Ko,instObj→Kz,codeIn→KZ,excIn→La,hideAll_get→Ll,hideAll→Lr,callWith_K→Lx,plainGet→LQ,plainGet_of→Mf,lookIn→Mr,methodObj→Mx,hasDictIn→Mz,isFn→MM,takerIn→MT,makesIn→MU
open PySem renaming Value→IE,Shared→IG,FuncData→IW,sizeLine→I0,boot_len→Jg,Program→Jk,starEach→Jn,World→Jo,wpAny_bind→Jp,mainGlobals→Jt,wpAny→Ju,model→Jv,Params→JA,Around→JF,DictEntry→JG,wpAny_pure→JS,Spec→JW,wpAny_mono→JX,treeTable→JY,OsState→J_,compareOp→Kc,foldedSetIterable→Kf,sysModules→Kn,wpAny_truthy_bool→Kv,backTo→KF,wpAny_Call_Name_kw→KG,mem_of_lookup→KU,relabel→KW,bootBuiltins→K2,wpAny_execs_nil→K7,binaryOp→K8,attributeBase→Lo,wpAny_passesOwn→Ls,call_meets→Ly,tupleKind_room_in1→Lz,swapsWith→LC,sliceBounds→LG,wpAny_pyIter_list→LH,wpAny_execs_cons→LP,behindInMarks→LV,keywordEach→LX,importedModules→L9,letOwnedTupleGo→L_,codeAny→Mj,codeAny_mono→Ml,assignEach→Mp,typeIs_str→Mt,wpAny_Assign_Name→My,wpAny_newObj_type→MB,Result→MF,getMethod→MH,bindArgs→MI,holding→ML,valueAt→MO,sliceRange→MP,cLine→MV,wpAny_loadPart'→MX,sizeLine_eq→M1,backToKw→M2,NameKind→M3,subscripted→M4,tupleKind→M8,callerA→M9,wpAny_holding→M_,wpAny_standAt→Na,builtinsNs→Nf,assign→Ng,typeLookup→Nh,GenState→Ni,Within→Nj,standAt→Nk,getItem→No,seqIndex_neg→Np,Builtin→Nq,seqIndex_of→Nu,atKey→Nv,Keyword→Nw,wpAny_Name→Ny,pyIter→NA,wpAny_call→NB,callWith→NC,bindL→ND,bindC→NE,typeIs_int→NG,call→NI
open Option renaming some→IF,isSome_map→MA
open Nat renaming le_refl→IM,lt_of_le_of_lt→IU,ne_of_lt→Jd,le_of_lt→Jj,lt_of_lt_of_le→Jl,zero_le→Jw,le_trans→JC,zero_add→JT,le_add_right→J5,lt_irrefl→J7,add_assoc→Km,le_succ→Kq,ne_of_gt→KC,lt_trans→KP,lt_succ_self→KY,lt_of_succ_lt→Le,le_of_not_lt→Li,succ_le_succ→Lj,min_eq_left→Mc,not_lt_zero→Me,add_comm→Mm,le_succ_of_le→ME,toDigits→MR,mod_lt→MS,le_of_eq→Nl
open Or renaming inl→IP
open PySem.F renaming plainAttrs_list→IR,slot_list_append→Je,type_list_append→Jf,slot_list_extend→J1,type_list_extend→J2,plainAttrs_str→Kd,slot_str_join→KL,type_str_join→KM,args_str_split_2→Mu,entry_str_split→MD,slot_str_split→MJ
open PySem.Heap renaming lt_size→IS,get?_push_of_some→IV,get?_push_size→Jr,size_push→LI,get?_update_other→LJ,SameBut→Mi,FlyingW→MQ
open Bool renaming false_ne_true→Jh,not_eq_true→J6,and_eq_true→Kt,or_eq_false_iff→Lg,false_eq_true→LA,true_and→LW,eq_iff_iff→Ma,false_and→Mq,and_false→M5,false_or→Nc,and_true→Nd
open PyProof.Rows renaming boot_isinstance→Ji,callWith_type1→Kl,envOfC→Kr,boot_int→Ks,boot_tuple→Kx,boot_str→KI,boot_list→K6,boot_max→Lc,boot_bool→LK,kindOf→LR,AllBare→LU,subscriptTail→Nb,IntsAre→Nx,isTrue_and→Nz,Subscript_→NF
open PySem.PassesOwn renaming never→Jq,leaving→KQ
open Option.some renaming inj→Jy
open PySem.Value renaming ref→JE,str→KD,type→Lf,none→Lv,int→LB,bool→MK,float→Nt
open Ne renaming symm→JH
open PySem.Pos renaming mk→JM
open PySem.ClassData renaming mk→JO
open PySem.StrLaws renaming dbl→JR
open Array renaming mk→JZ,length_toList→Lm,append_assoc→Mo
open Int renaming toNat_natCast→J0,zero_add→LM,toNat→LS
open PySem.Builtin.Str renaming occurrences→J4
open False renaming elim→Ke
open True renaming intro→KR
open PySem.Builtin.List renaming listTooLong→KS
open PySem.Calls renaming callWith_builtin→K3,Constant_str→Lw,evalArgs_plain→LY,spliced_cons→Ms
open Sum renaming inr→Lq,inl→M7
open PySem.Data renaming fields→LD
open ForInStep renaming yield→Mb
open PyProof.Rows.LCg renaming lst→MC
open PySem.NameKind renaming free→MG
open PySem.Obj renaming mapSeq→MN
open PySem.Around renaming under→Nm
open PySem.Code renaming isFrame→Nn
open LawfulBEq renaming eq_of_beq→Nr
local macro_rules | `(tactic| omega)=>`(tactic| lia)
namespace L2
open PySem
def cO(s:Stmt):Arguments:=match s with
 |.FunctionDef _ a _ _ _ _ _ _ _ _=>a
 |_=>{ posonlyargs:=[],args:=[],vararg:=none,kwonlyargs:=[],kw_defaults:=[],kwarg:=none,defaults:=[] }
def cx(s:Stmt):List Stmt:=match s with
 |.FunctionDef _ _ b _ _ _ _ _ _ _=>b
 |_=>[]
def aw(s:Stmt):Scope:=match s with
 |.FunctionDef _ _ _ _ _ _ sc _ _ _=>sc
 |_=>{ kind:=.function,names:=[],isGenerator:=false,isCoroutine:=false }

end L2
namespace K62
open PySem PySem.W L2 PyProof.Rows
noncomputable def top(i:Nat):Stmt:=PySem.Challenge.pw_trueleaf_k62_whole_text_set.main.body.getD i (.Pass ⟨0,0,0,0⟩)
noncomputable def aP(i j:Nat):Stmt:=match top i with|.ClassDef _ _ _ b ..=>b.getD j (.Pass ⟨0,0,0,0⟩)|_=>.Pass ⟨0,0,0,0⟩
set_option maxHeartbeats 0 in
theorem wsR:PySem.Challenge.rw_trueleaf_k62_whole_text_set.row.wellSaid=true:=by kernel_rfl
set_option maxHeartbeats 0 in
theorem wsL:PySem.Challenge.rw_trueleaf_k62_whole_text_set.wellSaid=true:=by
 unfold OpenLaw.wellSaid;rw[wsR]
 kernel_rfl
noncomputable abbrev os(s:String):Str:=Iy s
noncomputable abbrev kh(P:JA)(s:Str):Int:=PyData.keyHash P s
noncomputable abbrev fO(n:String)(i:Nat)(d:IE)(m:String)(k:Nat)(r:Addr):Obj:=⟨.type "function",none,.func (fnOf (os n) (os n) (cO (top i)) (cx (top i)) (aw (top i)) d .none .none (.str (os m) k) none (.ref r) .none),#[]⟩
noncomputable abbrev sv(s:String)(k:Nat):IE:=.str (os s) k
noncomputable abbrev dE(P:JA)(s:String)(k:Nat)(v:IE):JG:=⟨kh P (os s),.str (os s) k,v⟩
noncomputable abbrev cV(n q:String)(a b c:Nat)(l1 l2 l5:Int)(r0:Addr)(m:Int)(r1:Addr)(v0 v1 v2 v3:IE)(x y:Int)(d:Nat):Obj:=⟨.type "code",none,.fields #[.str (os n) a,.str (os q) b,.str (os "/claim/cut.py") c,.int l1 0,.int l2 0,.int 0 0,.int 0 0,.int l5 0,.ref r0,.bool true,.int m 0,.ref r1,v0,v1,v2,v3,.int x 0,.int y 0,.str (os "/claim/cut.py") d],#[]⟩
noncomputable abbrev fM(n q:String)(s:Stmt)(d:IE)(m:String)(k:Nat)(r:Addr):Obj:=⟨.type "function",none,.func (fnOf (os n) (os q) (cO s) (cx s) (aw s) d .none .none (.str (os m) k) none (.ref r) .none),#[]⟩
noncomputable abbrev gA(n q:String)(s:Stmt):Obj:=⟨.none,none,.func (FuncData.mk (os n) (os q) (cO s) (FuncBody.stmts (cx s)) (aw s) 0 [] .none .none .none .none none .none .none 0),#[]⟩
noncomputable def kk:JA->Frag:=λP=>(nat_lit 2,⟨(.none),none,.dict ([]).toArray 0,#[]⟩)::
 (nat_lit 3,⟨(.type "dict"),none,.dict (Jx (dE P "__name__" 165 (sv "law_trueleaf_k62_whole_text_set" 818)::dE P "__doc__" 166 (.none)::dE P "__package__" 167 (.none)::dE P "__loader__" 168 (.builtin "__main__.__loader__#opaque")::dE P "__spec__" 169 (.none)::dE P "__annotations__" 170 (.ref 6)::dE P "__builtins__" 171 (.ref 4)::dE P "__file__" 173 (sv "/claim/cut.py" 172)::dE P "__cached__" 174 (.none)::dE P "TrueleafError" 206 (.ref 24)::dE P "BadRow" 222 (.ref 37)::dE P "TooLong" 238 (.ref 49)::dE P "BadCall" 254 (.ref 61)::dE P "Deep" 270 (.ref 73)::dE P "NoShort" 286 (.ref 85)::dE P "BadWord" 302 (.ref 97)::dE P "Twice" 318 (.ref 109)::dE P "NoFoot" 334 (.ref 121)::dE P "NoMark" 350 (.ref 133)::dE P "MOST_WORDS_books" 352 (.int 400 351)::dE P "LONGEST_TEXT" 354 (.int 60 353)::dE P "LETTERS" 358 (sv "abcdefghijklmnopqrstuvwxyz" 357)::dE P "FIGURES" 360 (sv "0123456789" 359)::dE P "LONGEST_NAME" 362 (.int 12 361)::dE P "KINDS" 378 (.ref 136)::dE P "words_in" 384 (.ref 141)::dE P "is_name" 390 (.ref 146)::dE P "figures_of" 397 (.ref 153)::dE P "kind_of" 406 (.ref 160)::dE P "numbers_of" 414 (.ref 165)::dE P "MOST_DEEP" 418 (.int 20 417)::dE P "tree_of" 429 (.ref 173)::dE P "copied" 435 (.ref 178)::dE P "opens_call" 442 (.ref 185)::dE P "with_closed" 452 (.ref 192)::dE P "node_of" 461 (.ref 199)::dE P "looks_like_place" 468 (.ref 206)::dE P "MOST_WORDS_shorts" 472 (.int 400 471)::dE P "MOST_CALLS" 474 (.int 400 473)::dE P "MOST_CALLS_OF_SHORT" 476 (.int 60 475)::dE P "size_of" 486 (.ref 214)::dE P "new_short" 499 (.ref 221)::dE P "put_out" 509 (.ref 228)::dE P "by_name" 515 (.ref 233)::dE P "short_called" 525 (.ref 240)::dE P "size_among" 541 (.ref 247)::dE P "sum_of_rows" 547 (.ref 252)::dE P "words_out" 553 (.ref 257)::dE P "ALONE" 559 (.ref 258)::dE P "HEADS" 563 (.ref 259)::dE P "MOST_FOOT_WORDS" 565 (.int 39 564)::dE P "read_rows" 574 (.ref 266)::dE P "Reader" 662 (.ref 328)::dE P "is_figure" 669 (.ref 339)::dE P "LEAPS" 678 (.ref 340)::dE P "POINTING" 682 (.ref 341)::dE P "set_words" 688 (.ref 346)::dE P "Setter" 817 (.ref 432)::dE P "_law_cell_at" 827 (.ref 443)::dE P "_law_draw" 837 (.ref 450)::dE P "_law_alike" 846 (.ref 457)::dE P "_law_sign_by" 855 (.ref 464)::dE P "_law_is_name" 863 (.ref 471)::dE P "_law_form" 871 (.ref 478)::dE P "_law_name" 877 (.ref 483)::dE P "_law_plain_by" 883 (.ref 488)::dE P "_law_written" 891 (.ref 495)::dE P "_law_word" 905 (.ref 502)::dE P "_law_rows" 918 (.ref 509)::dE P "_law_named" 924 (.ref 514)::dE P "_law_text" 930 (.ref 519)::dE P "_law_titles" 936 (.ref 524)::dE P "_law_stream" 942 (.ref 529)::dE P "_law_heads" 954 (.ref 536)::dE P "_law_leads" 960 (.ref 541)::dE P "_law_said" 972 (.ref 548)::dE P "_law_marked" 984 (.ref 555)::dE P "_law_shape" 993 (.ref 562)::dE P "_law_words" 999 (.ref 567)::dE P "_law_spaced" 1012 (.ref 574)::dE P "law" 1018 (.ref 579)::[])) 81,#[]⟩) ::
 (nat_lit 15,⟨(.type "tuple"),none,(.seq #[.type "ValueError"]),#[]⟩) ::
 (nat_lit 22,⟨(.type "tuple"),none,(.seq #[]),#[]⟩) ::
 (nat_lit 23,⟨(.type "dict"),none,.dict (Jx (dE P "__module__" 196 (sv "trueleaf.errors" 187)::dE P "__firstlineno__" 200 (.int 2 199)::dE P "__static_attributes__" 201 (.ref 22)::dE P "__weakref__" 203 (.ref 25)::dE P "__doc__" 204 (.none)::[])) 3,#[]⟩) ::
 (nat_lit 24,⟨(.type "type"),none,(.cls (JO (os "TrueleafError") [.type "ValueError"] [.ref 24,.type "ValueError",.type "Exception",.type "BaseException",.type "object"] 23 (os "TrueleafError") true [] [.ref 37,.ref 49,.ref 61,.ref 73,.ref 85,.ref 97,.ref 109,.ref 121,.ref 133] false none false)),#[IF (.ref 15),none,IF (sv "TrueleafError" 189),IF (sv "TrueleafError" 197),IF (.builtin "ValueError.__new__"),IF (.bool true)]⟩) ::
 (nat_lit 25,⟨(.type "getset_descriptor"),none,(.fields #[sv "__weakref__" 202,.ref 24,.builtin "ExceptionGroup.__weakref__",.none]),#[]⟩) ::
 (nat_lit 28,⟨(.type "tuple"),none,(.seq #[.ref 24]),#[]⟩) ::
 (nat_lit 35,⟨(.type "tuple"),none,(.seq #[]),#[]⟩) ::
 (nat_lit 36,⟨(.type "dict"),none,.dict (Jx (dE P "__module__" 214 (sv "trueleaf.errors" 187)::dE P "__firstlineno__" 218 (.int 4 217)::dE P "__static_attributes__" 219 (.ref 35)::dE P "__doc__" 220 (.none)::[])) 2,#[]⟩) ::
 (nat_lit 37,⟨(.type "type"),none,(.cls (JO (os "BadRow") [.ref 24] [.ref 37,.ref 24,.type "ValueError",.type "Exception",.type "BaseException",.type "object"] 36 (os "BadRow") true [] [] false none false)),#[IF (.ref 28),none,IF (sv "BadRow" 207),IF (sv "BadRow" 215),IF (.builtin "ValueError.__new__"),IF (.bool true)]⟩) ::
 (nat_lit 40,⟨(.type "tuple"),none,(.seq #[.ref 24]),#[]⟩) ::
 (nat_lit 47,⟨(.type "tuple"),none,(.seq #[]),#[]⟩) ::
 (nat_lit 48,⟨(.type "dict"),none,.dict (Jx (dE P "__module__" 230 (sv "trueleaf.errors" 187)::dE P "__firstlineno__" 234 (.int 6 233)::dE P "__static_attributes__" 235 (.ref 47)::dE P "__doc__" 236 (.none)::[])) 2,#[]⟩) ::
 (nat_lit 49,⟨(.type "type"),none,(.cls (JO (os "TooLong") [.ref 24] [.ref 49,.ref 24,.type "ValueError",.type "Exception",.type "BaseException",.type "object"] 48 (os "TooLong") true [] [] false none false)),#[IF (.ref 40),none,IF (sv "TooLong" 223),IF (sv "TooLong" 231),IF (.builtin "ValueError.__new__"),IF (.bool true)]⟩) ::
 (nat_lit 52,⟨(.type "tuple"),none,(.seq #[.ref 24]),#[]⟩) ::
 (nat_lit 59,⟨(.type "tuple"),none,(.seq #[]),#[]⟩) ::
 (nat_lit 60,⟨(.type "dict"),none,.dict (Jx (dE P "__module__" 246 (sv "trueleaf.errors" 187)::dE P "__firstlineno__" 250 (.int 8 249)::dE P "__static_attributes__" 251 (.ref 59)::dE P "__doc__" 252 (.none)::[])) 2,#[]⟩) ::
 (nat_lit 61,⟨(.type "type"),none,(.cls (JO (os "BadCall") [.ref 24] [.ref 61,.ref 24,.type "ValueError",.type "Exception",.type "BaseException",.type "object"] 60 (os "BadCall") true [] [] false none false)),#[IF (.ref 52),none,IF (sv "BadCall" 239),IF (sv "BadCall" 247),IF (.builtin "ValueError.__new__"),IF (.bool true)]⟩) ::
 (nat_lit 64,⟨(.type "tuple"),none,(.seq #[.ref 24]),#[]⟩) ::
 (nat_lit 71,⟨(.type "tuple"),none,(.seq #[]),#[]⟩) ::
 (nat_lit 72,⟨(.type "dict"),none,.dict (Jx (dE P "__module__" 262 (sv "trueleaf.errors" 187)::dE P "__firstlineno__" 266 (.int 10 265)::dE P "__static_attributes__" 267 (.ref 71)::dE P "__doc__" 268 (.none)::[])) 2,#[]⟩) ::
 (nat_lit 73,⟨(.type "type"),none,(.cls (JO (os "Deep") [.ref 24] [.ref 73,.ref 24,.type "ValueError",.type "Exception",.type "BaseException",.type "object"] 72 (os "Deep") true [] [] false none false)),#[IF (.ref 64),none,IF (sv "Deep" 255),IF (sv "Deep" 263),IF (.builtin "ValueError.__new__"),IF (.bool true)]⟩) ::
 (nat_lit 76,⟨(.type "tuple"),none,(.seq #[.ref 24]),#[]⟩) ::
 (nat_lit 83,⟨(.type "tuple"),none,(.seq #[]),#[]⟩) ::
 (nat_lit 84,⟨(.type "dict"),none,.dict (Jx (dE P "__module__" 278 (sv "trueleaf.errors" 187)::dE P "__firstlineno__" 282 (.int 12 281)::dE P "__static_attributes__" 283 (.ref 83)::dE P "__doc__" 284 (.none)::[])) 2,#[]⟩) ::
 (nat_lit 85,⟨(.type "type"),none,(.cls (JO (os "NoShort") [.ref 24] [.ref 85,.ref 24,.type "ValueError",.type "Exception",.type "BaseException",.type "object"] 84 (os "NoShort") true [] [] false none false)),#[IF (.ref 76),none,IF (sv "NoShort" 271),IF (sv "NoShort" 279),IF (.builtin "ValueError.__new__"),IF (.bool true)]⟩) ::
 (nat_lit 88,⟨(.type "tuple"),none,(.seq #[.ref 24]),#[]⟩) ::
 (nat_lit 95,⟨(.type "tuple"),none,(.seq #[]),#[]⟩) ::
 (nat_lit 96,⟨(.type "dict"),none,.dict (Jx (dE P "__module__" 294 (sv "trueleaf.errors" 187)::dE P "__firstlineno__" 298 (.int 14 297)::dE P "__static_attributes__" 299 (.ref 95)::dE P "__doc__" 300 (.none)::[])) 2,#[]⟩) ::
 (nat_lit 97,⟨(.type "type"),none,(.cls (JO (os "BadWord") [.ref 24] [.ref 97,.ref 24,.type "ValueError",.type "Exception",.type "BaseException",.type "object"] 96 (os "BadWord") true [] [] false none false)),#[IF (.ref 88),none,IF (sv "BadWord" 287),IF (sv "BadWord" 295),IF (.builtin "ValueError.__new__"),IF (.bool true)]⟩) ::
 (nat_lit 100,⟨(.type "tuple"),none,(.seq #[.ref 24]),#[]⟩) ::
 (nat_lit 107,⟨(.type "tuple"),none,(.seq #[]),#[]⟩) ::
 (nat_lit 108,⟨(.type "dict"),none,.dict (Jx (dE P "__module__" 310 (sv "trueleaf.errors" 187)::dE P "__firstlineno__" 314 (.int 16 313)::dE P "__static_attributes__" 315 (.ref 107)::dE P "__doc__" 316 (.none)::[])) 2,#[]⟩) ::
 (nat_lit 109,⟨(.type "type"),none,(.cls (JO (os "Twice") [.ref 24] [.ref 109,.ref 24,.type "ValueError",.type "Exception",.type "BaseException",.type "object"] 108 (os "Twice") true [] [] false none false)),#[IF (.ref 100),none,IF (sv "Twice" 303),IF (sv "Twice" 311),IF (.builtin "ValueError.__new__"),IF (.bool true)]⟩) ::
 (nat_lit 112,⟨(.type "tuple"),none,(.seq #[.ref 24]),#[]⟩) ::
 (nat_lit 119,⟨(.type "tuple"),none,(.seq #[]),#[]⟩) ::
 (nat_lit 120,⟨(.type "dict"),none,.dict (Jx (dE P "__module__" 326 (sv "trueleaf.errors" 187)::dE P "__firstlineno__" 330 (.int 18 329)::dE P "__static_attributes__" 331 (.ref 119)::dE P "__doc__" 332 (.none)::[])) 2,#[]⟩) ::
 (nat_lit 121,⟨(.type "type"),none,(.cls (JO (os "NoFoot") [.ref 24] [.ref 121,.ref 24,.type "ValueError",.type "Exception",.type "BaseException",.type "object"] 120 (os "NoFoot") true [] [] false none false)),#[IF (.ref 112),none,IF (sv "NoFoot" 319),IF (sv "NoFoot" 327),IF (.builtin "ValueError.__new__"),IF (.bool true)]⟩) ::
 (nat_lit 124,⟨(.type "tuple"),none,(.seq #[.ref 24]),#[]⟩) ::
 (nat_lit 131,⟨(.type "tuple"),none,(.seq #[]),#[]⟩) ::
 (nat_lit 132,⟨(.type "dict"),none,.dict (Jx (dE P "__module__" 342 (sv "trueleaf.errors" 187)::dE P "__firstlineno__" 346 (.int 20 345)::dE P "__static_attributes__" 347 (.ref 131)::dE P "__doc__" 348 (.none)::[])) 2,#[]⟩) ::
 (nat_lit 133,⟨(.type "type"),none,(.cls (JO (os "NoMark") [.ref 24] [.ref 133,.ref 24,.type "ValueError",.type "Exception",.type "BaseException",.type "object"] 132 (os "NoMark") true [] [] false none false)),#[IF (.ref 124),none,IF (sv "NoMark" 335),IF (sv "NoMark" 343),IF (.builtin "ValueError.__new__"),IF (.bool true)]⟩) ::
 (nat_lit 136,⟨(.type "dict"),none,.dict (Jx (dE P "#" 363 (sv "mark" 364)::dE P "@" 365 (sv "number" 366)::dE P "&" 367 (sv "page" 368)::dE P "^" 369 (sv "row" 370)::dE P "~" 371 (sv "foot" 372)::[])) 5,#[]⟩) ::
 (nat_lit 140,cV "words_in" "words_in" 379 380 381 29 1 3 137 181 138 .none .none .none (.ref 139) 382 29 383) ::
 (nat_lit 141,fO "words_in" 18 (.none) "trueleaf.signs" 355 140) ::
 (nat_lit 145,cV "is_name" "is_name" 385 386 387 31 1 3 142 181 143 .none .none .none (.ref 144) 388 31 389) ::
 (nat_lit 146,fO "is_name" 19 (.none) "trueleaf.signs" 355 145) ::
 (nat_lit 152,cV "figures_of" "figures_of" 391 392 393 35 1 3 147 181 148 .none (.ref 149) (.ref 150) (.ref 151) 395 35 396) ::
 (nat_lit 153,fO "figures_of" 20 (.none) "trueleaf.signs" 355 152) ::
 (nat_lit 159,cV "kind_of" "kind_of" 398 399 400 37 1 3 154 181 155 .none (.ref 156) (.ref 157) (.ref 158) 404 37 405) ::
 (nat_lit 160,fO "kind_of" 21 (.none) "trueleaf.signs" 355 159) ::
 (nat_lit 164,cV "numbers_of" "numbers_of" 409 410 411 46 1 3 161 181 162 .none .none .none (.ref 163) 412 46 413) ::
 (nat_lit 165,fO "numbers_of" 23 (.none) "trueleaf.heads" 407 164) ::
 (nat_lit 166,⟨(.type "tuple"),none,(.seq #[.none]),#[]⟩) ::
 (nat_lit 172,cV "tree_of" "tree_of" 419 420 421 55 2 3 167 181 168 .none (.ref 169) (.ref 170) (.ref 171) 427 55 428) ::
 (nat_lit 173,fO "tree_of" 26 (.ref 166) "trueleaf.trees" 415 172) ::
 (nat_lit 177,cV "copied" "copied" 430 431 432 74 1 3 174 181 175 .none .none .none (.ref 176) 433 74 434) ::
 (nat_lit 178,fO "copied" 27 (.none) "trueleaf.trees" 415 177) ::
 (nat_lit 184,cV "opens_call" "opens_call" 436 437 438 82 1 3 179 181 180 .none (.ref 181) (.ref 182) (.ref 183) 440 82 441) ::
 (nat_lit 185,fO "opens_call" 28 (.none) "trueleaf.trees" 415 184) ::
 (nat_lit 191,cV "with_closed" "with_closed" 443 444 445 84 2 3 186 181 187 .none (.ref 188) (.ref 189) (.ref 190) 450 84 451) ::
 (nat_lit 192,fO "with_closed" 29 (.none) "trueleaf.trees" 415 191) ::
 (nat_lit 198,cV "node_of" "node_of" 453 454 455 91 2 3 193 181 194 .none (.ref 195) (.ref 196) (.ref 197) 459 91 460) ::
 (nat_lit 199,fO "node_of" 30 (.none) "trueleaf.trees" 415 198) ::
 (nat_lit 205,cV "looks_like_place" "looks_like_place" 462 463 464 98 1 3 200 181 201 .none (.ref 202) (.ref 203) (.ref 204) 466 98 467) ::
 (nat_lit 206,fO "looks_like_place" 31 (.none) "trueleaf.trees" 415 205) ::
 (nat_lit 207,⟨(.type "tuple"),none,(.seq #[.int 0 477]),#[]⟩) ::
 (nat_lit 213,cV "size_of" "size_of" 478 479 480 104 3 3 208 181 209 .none (.ref 210) (.ref 211) (.ref 212) 484 104 485) ::
 (nat_lit 214,fO "size_of" 36 (.ref 207) "trueleaf.shorts" 469 213) ::
 (nat_lit 220,cV "new_short" "new_short" 487 488 489 106 4 3 215 181 216 .none (.ref 217) (.ref 218) (.ref 219) 497 106 498) ::
 (nat_lit 221,fO "new_short" 37 (.none) "trueleaf.shorts" 469 220) ::
 (nat_lit 227,cV "put_out" "put_out" 500 501 502 115 2 3 222 181 223 .none (.ref 224) (.ref 225) (.ref 226) 507 115 508) ::
 (nat_lit 228,fO "put_out" 38 (.none) "trueleaf.shorts" 469 227) ::
 (nat_lit 232,cV "by_name" "by_name" 510 511 512 121 1 3 229 181 230 .none .none .none (.ref 231) 513 121 514) ::
 (nat_lit 233,fO "by_name" 39 (.none) "trueleaf.shorts" 469 232) ::
 (nat_lit 239,cV "short_called" "short_called" 516 517 518 123 2 3 234 181 235 .none (.ref 236) (.ref 237) (.ref 238) 523 123 524) ::
 (nat_lit 240,fO "short_called" 40 (.none) "trueleaf.shorts" 469 239) ::
 (nat_lit 246,cV "size_among" "size_among" 526 527 528 131 3 3 241 181 242 .none (.ref 243) (.ref 244) (.ref 245) 539 131 540) ::
 (nat_lit 247,fO "size_among" 41 (.none) "trueleaf.shorts" 469 246) ::
 (nat_lit 251,cV "sum_of_rows" "sum_of_rows" 542 543 544 148 3 3 248 181 249 .none .none .none (.ref 250) 545 148 546) ::
 (nat_lit 252,fO "sum_of_rows" 42 (.none) "trueleaf.shorts" 469 251) ::
 (nat_lit 256,cV "words_out" "words_out" 548 549 550 150 3 3 253 181 254 .none .none .none (.ref 255) 551 150 552) ::
 (nat_lit 257,fO "words_out" 43 (.none) "trueleaf.shorts" 469 256) ::
 (nat_lit 258,⟨(.type "tuple"),none,(.seq #[sv ".page" 556,sv ".odd" 557,sv ".list" 558]),#[]⟩) ::
 (nat_lit 259,⟨(.type "tuple"),none,(.seq #[sv "=" 560,sv "==" 561,sv "===" 562]),#[]⟩) ::
 (nat_lit 265,cV "read_rows" "read_rows" 566 567 568 165 1 3 260 181 261 .none (.ref 262) (.ref 263) (.ref 264) 572 165 573) ::
 (nat_lit 266,fO "read_rows" 48 (.none) "trueleaf.reading" 554 265) ::
 (nat_lit 279,cV "__init__" "Reader.__init__" 587 588 589 172 1 3 274 181 275 .none (.ref 276) (.ref 277) (.ref 278) 591 172 592) ::
 (nat_lit 280,fM "__init__" "Reader.__init__" (aP 49 0) (.none) "trueleaf.reading" 554 279) ::
 (nat_lit 286,cV "read_row" "Reader.read_row" 594 595 596 178 2 3 281 181 282 .none (.ref 283) (.ref 284) (.ref 285) 600 178 601) ::
 (nat_lit 287,fM "read_row" "Reader.read_row" (aP 49 1) (.none) "trueleaf.reading" 554 286) ::
 (nat_lit 291,cV "read_let" "Reader.read_let" 603 604 605 196 2 3 288 181 289 .none .none .none (.ref 290) 606 196 607) ::
 (nat_lit 292,fM "read_let" "Reader.read_let" (aP 49 2) (.none) "trueleaf.reading" 554 291) ::
 (nat_lit 298,cV "read_foot" "Reader.read_foot" 609 610 611 205 2 3 293 181 294 .none (.ref 295) (.ref 296) (.ref 297) 616 205 617) ::
 (nat_lit 299,fM "read_foot" "Reader.read_foot" (aP 49 3) (.none) "trueleaf.reading" 554 298) ::
 (nat_lit 305,cV "read_alone" "Reader.read_alone" 619 620 621 216 2 3 300 181 301 .none (.ref 302) (.ref 303) (.ref 304) 625 216 626) ::
 (nat_lit 306,fM "read_alone" "Reader.read_alone" (aP 49 4) (.none) "trueleaf.reading" 554 305) ::
 (nat_lit 312,cV "read_words" "Reader.read_words" 628 629 630 222 2 3 307 181 308 .none (.ref 309) (.ref 310) (.ref 311) 634 222 635) ::
 (nat_lit 313,fM "read_words" "Reader.read_words" (aP 49 5) (.none) "trueleaf.reading" 554 312) ::
 (nat_lit 319,cV "add_thing" "Reader.add_thing" 637 638 639 230 2 3 314 181 315 .none (.ref 316) (.ref 317) (.ref 318) 642 230 643) ::
 (nat_lit 320,fM "add_thing" "Reader.add_thing" (aP 49 6) (.none) "trueleaf.reading" 554 319) ::
 (nat_lit 324,cV "words_out" "Reader.words_out" 645 646 647 234 3 3 321 181 322 .none .none .none (.ref 323) 648 234 649) ::
 (nat_lit 325,fM "words_out" "Reader.words_out" (aP 49 7) (.none) "trueleaf.reading" 554 324) ::
 (nat_lit 326,⟨(.type "tuple"),none,(.seq #[sv "feet" 651,sv "going_on" 652,sv "shorts" 653,sv "things" 654]),#[]⟩) ::
 (nat_lit 327,⟨(.type "dict"),none,.dict (Jx (dE P "__module__" 582 (sv "trueleaf.reading" 554)::dE P "__firstlineno__" 586 (.int 170 585)::dE P "__init__" 593 (.ref 280)::dE P "read_row" 602 (.ref 287)::dE P "read_let" 608 (.ref 292)::dE P "read_foot" 618 (.ref 299)::dE P "read_alone" 627 (.ref 306)::dE P "read_words" 636 (.ref 313)::dE P "add_thing" 644 (.ref 320)::dE P "words_out" 650 (.ref 325)::dE P "__static_attributes__" 655 (.ref 326)::dE P "__dict__" 657 (.ref 329)::dE P "__weakref__" 659 (.ref 330)::dE P "__doc__" 660 (.none)::[])) 4,#[]⟩) ::
 (nat_lit 328,⟨(.type "type"),none,(.cls (JO (os "Reader") [.type "object"] [.ref 328,.type "object"] 327 (os "Reader") true [] [] false none false)),#[none,none,IF (sv "Reader" 575),IF (sv "Reader" 583),IF (.builtin "object.__new__"),IF (.bool true)]⟩) ::
 (nat_lit 329,⟨(.type "getset_descriptor"),none,(.fields #[sv "__dict__" 656,.ref 328,.builtin "function.__dict__",.builtin "function.__dict__#set"]),#[]⟩) ::
 (nat_lit 330,⟨(.type "getset_descriptor"),none,(.fields #[sv "__weakref__" 658,.ref 328,.builtin "ExceptionGroup.__weakref__",.none]),#[]⟩) ::
 (nat_lit 338,cV "is_figure" "is_figure" 663 664 665 242 1 3 333 181 334 .none (.ref 335) (.ref 336) (.ref 337) 667 242 668) ::
 (nat_lit 339,fO "is_figure" 50 (.none) "trueleaf.reading" 554 338) ::
 (nat_lit 340,⟨(.type "dict"),none,.dict (Jx (dE P "page" 672 (.int 3 673)::dE P "odd" 674 (.int 4 675)::[])) 2,#[]⟩) ::
 (nat_lit 341,⟨(.type "tuple"),none,(.seq #[sv "number" 679,sv "page" 680,sv "row" 681]),#[]⟩) ::
 (nat_lit 345,cV "set_words" "set_words" 683 684 685 247 2 3 342 181 343 .none .none .none (.ref 344) 686 247 687) ::
 (nat_lit 346,fO "set_words" 54 (.none) "trueleaf.setting" 670 345) ::
 (nat_lit 357,cV "__init__" "Setter.__init__" 701 702 703 257 3 3 354 181 355 .none .none .none (.ref 356) 704 257 705) ::
 (nat_lit 358,fM "__init__" "Setter.__init__" (aP 55 0) (.none) "trueleaf.setting" 670 357) ::
 (nat_lit 364,cV "set_thing" "Setter.set_thing" 707 708 709 268 2 3 359 181 360 .none (.ref 361) (.ref 362) (.ref 363) 713 268 714) ::
 (nat_lit 365,fM "set_thing" "Setter.set_thing" (aP 55 1) (.none) "trueleaf.setting" 670 364) ::
 (nat_lit 371,cV "set_head" "Setter.set_head" 716 717 718 281 2 3 366 181 367 .none (.ref 368) (.ref 369) (.ref 370) 722 281 723) ::
 (nat_lit 372,fM "set_head" "Setter.set_head" (aP 55 2) (.none) "trueleaf.setting" 670 371) ::
 (nat_lit 376,cV "set_list" "Setter.set_list" 725 726 727 286 1 3 373 181 374 .none .none .none (.ref 375) 728 286 729) ::
 (nat_lit 377,fM "set_list" "Setter.set_list" (aP 55 3) (.none) "trueleaf.setting" 670 376) ::
 (nat_lit 383,cV "set_run" "Setter.set_run" 731 732 733 293 4 3 378 181 379 .none (.ref 380) (.ref 381) (.ref 382) 739 293 740) ::
 (nat_lit 384,fM "set_run" "Setter.set_run" (aP 55 4) (.none) "trueleaf.setting" 670 383) ::
 (nat_lit 390,cV "set_mark" "Setter.set_mark" 742 743 744 302 2 3 385 181 386 .none (.ref 387) (.ref 388) (.ref 389) 747 302 748) ::
 (nat_lit 391,fM "set_mark" "Setter.set_mark" (aP 55 5) (.none) "trueleaf.setting" 670 390) ::
 (nat_lit 397,cV "set_word" "Setter.set_word" 750 751 752 307 3 3 392 181 393 .none (.ref 394) (.ref 395) (.ref 396) 757 307 758) ::
 (nat_lit 398,fM "set_word" "Setter.set_word" (aP 55 6) (.none) "trueleaf.setting" 670 397) ::
 (nat_lit 404,cV "next_foot" "Setter.next_foot" 760 761 762 319 2 3 399 181 400 .none (.ref 401) (.ref 402) (.ref 403) 765 319 766) ::
 (nat_lit 405,fM "next_foot" "Setter.next_foot" (aP 55 7) (.none) "trueleaf.setting" 670 404) ::
 (nat_lit 409,cV "check_marks" "Setter.check_marks" 768 769 770 325 1 3 406 181 407 .none .none .none (.ref 408) 771 325 772) ::
 (nat_lit 410,fM "check_marks" "Setter.check_marks" (aP 55 8) (.none) "trueleaf.setting" 670 409) ::
 (nat_lit 414,cV "words_told" "Setter.words_told" 774 775 776 336 1 3 411 181 412 .none .none .none (.ref 413) 777 336 778) ::
 (nat_lit 415,fM "words_told" "Setter.words_told" (aP 55 9) (.none) "trueleaf.setting" 670 414) ::
 (nat_lit 421,cV "saying_of" "Setter.saying_of" 780 781 782 342 2 3 416 181 417 .none (.ref 418) (.ref 419) (.ref 420) 787 342 788) ::
 (nat_lit 422,fM "saying_of" "Setter.saying_of" (aP 55 10) (.none) "trueleaf.setting" 670 421) ::
 (nat_lit 428,cV "number_at" "Setter.number_at" 790 791 792 353 2 3 423 181 424 .none (.ref 425) (.ref 426) (.ref 427) 798 353 799) ::
 (nat_lit 429,fM "number_at" "Setter.number_at" (aP 55 11) (.none) "trueleaf.setting" 670 428) ::
 (nat_lit 430,⟨(.type "tuple"),none,(.seq #[sv "behind_head" 801,sv "feet" 802,sv "feet_set" 803,sv "heads" 804,sv "leap" 805,sv "marks" 806,sv "numbers" 807,sv "titles" 808,sv "words" 809]),#[]⟩) ::
 (nat_lit 431,⟨(.type "dict"),none,.dict (Jx (dE P "__module__" 696 (sv "trueleaf.setting" 670)::dE P "__firstlineno__" 700 (.int 255 699)::dE P "__init__" 706 (.ref 358)::dE P "set_thing" 715 (.ref 365)::dE P "set_head" 724 (.ref 372)::dE P "set_list" 730 (.ref 377)::dE P "set_run" 741 (.ref 384)::dE P "set_mark" 749 (.ref 391)::dE P "set_word" 759 (.ref 398)::dE P "next_foot" 767 (.ref 405)::dE P "check_marks" 773 (.ref 410)::dE P "words_told" 779 (.ref 415)::dE P "saying_of" 789 (.ref 422)::dE P "number_at" 800 (.ref 429)::dE P "__static_attributes__" 810 (.ref 430)::dE P "__dict__" 812 (.ref 433)::dE P "__weakref__" 814 (.ref 434)::dE P "__doc__" 815 (.none)::[])) 4,#[]⟩) ::
 (nat_lit 432,⟨(.type "type"),none,(.cls (JO (os "Setter") [.type "object"] [.ref 432,.type "object"] 431 (os "Setter") true [] [] false none false)),#[none,none,IF (sv "Setter" 689),IF (sv "Setter" 697),IF (.builtin "object.__new__"),IF (.bool true)]⟩) ::
 (nat_lit 433,⟨(.type "getset_descriptor"),none,(.fields #[sv "__dict__" 811,.ref 432,.builtin "function.__dict__",.builtin "function.__dict__#set"]),#[]⟩) ::
 (nat_lit 434,⟨(.type "getset_descriptor"),none,(.fields #[sv "__weakref__" 813,.ref 432,.builtin "ExceptionGroup.__weakref__",.none]),#[]⟩) ::
 (nat_lit 442,cV "_law_cell_at" "_law_cell_at" 820 821 822 360 2 3 437 181 438 .none (.ref 439) (.ref 440) (.ref 441) 825 360 826) ::
 (nat_lit 443,fO "_law_cell_at" 57 (.none) "law_trueleaf_k62_whole_text_set" 818 442) ::
 (nat_lit 449,cV "_law_draw" "_law_draw" 828 829 830 364 3 3 444 181 445 .none (.ref 446) (.ref 447) (.ref 448) 835 364 836) ::
 (nat_lit 450,fO "_law_draw" 58 (.none) "law_trueleaf_k62_whole_text_set" 818 449) ::
 (nat_lit 456,cV "_law_alike" "_law_alike" 838 839 840 367 2 3 451 181 452 .none (.ref 453) (.ref 454) (.ref 455) 844 367 845) ::
 (nat_lit 457,fO "_law_alike" 59 (.none) "law_trueleaf_k62_whole_text_set" 818 456) ::
 (nat_lit 463,cV "_law_sign_by" "_law_sign_by" 847 848 849 385 2 3 458 181 459 .none (.ref 460) (.ref 461) (.ref 462) 853 385 854) ::
 (nat_lit 464,fO "_law_sign_by" 60 (.none) "law_trueleaf_k62_whole_text_set" 818 463) ::
 (nat_lit 470,cV "_law_is_name" "_law_is_name" 856 857 858 388 1 3 465 181 466 .none (.ref 467) (.ref 468) (.ref 469) 861 388 862) ::
 (nat_lit 471,fO "_law_is_name" 61 (.none) "law_trueleaf_k62_whole_text_set" 818 470) ::
 (nat_lit 477,cV "_law_form" "_law_form" 864 865 866 395 1 3 472 181 473 .none (.ref 474) (.ref 475) (.ref 476) 869 395 870) ::
 (nat_lit 478,fO "_law_form" 62 (.none) "law_trueleaf_k62_whole_text_set" 818 477) ::
 (nat_lit 482,cV "_law_name" "_law_name" 872 873 874 398 2 3 479 181 480 .none .none .none (.ref 481) 875 398 876) ::
 (nat_lit 483,fO "_law_name" 63 (.none) "law_trueleaf_k62_whole_text_set" 818 482) ::
 (nat_lit 487,cV "_law_plain_by" "_law_plain_by" 878 879 880 404 1 3 484 181 485 .none .none .none (.ref 486) 881 404 882) ::
 (nat_lit 488,fO "_law_plain_by" 64 (.none) "law_trueleaf_k62_whole_text_set" 818 487) ::
 (nat_lit 494,cV "_law_written" "_law_written" 884 885 886 412 2 3 489 181 490 .none (.ref 491) (.ref 492) (.ref 493) 889 412 890) ::
 (nat_lit 495,fO "_law_written" 65 (.none) "law_trueleaf_k62_whole_text_set" 818 494) ::
 (nat_lit 501,cV "_law_word" "_law_word" 892 893 894 418 6 3 496 181 497 .none (.ref 498) (.ref 499) (.ref 500) 903 418 904) ::
 (nat_lit 502,fO "_law_word" 66 (.none) "law_trueleaf_k62_whole_text_set" 818 501) ::
 (nat_lit 508,cV "_law_rows" "_law_rows" 906 907 908 430 3 3 503 181 504 .none (.ref 505) (.ref 506) (.ref 507) 916 430 917) ::
 (nat_lit 509,fO "_law_rows" 67 (.none) "law_trueleaf_k62_whole_text_set" 818 508) ::
 (nat_lit 513,cV "_law_named" "_law_named" 919 920 921 446 2 3 510 181 511 .none .none .none (.ref 512) 922 446 923) ::
 (nat_lit 514,fO "_law_named" 68 (.none) "law_trueleaf_k62_whole_text_set" 818 513) ::
 (nat_lit 518,cV "_law_text" "_law_text" 925 926 927 465 3 3 515 181 516 .none .none .none (.ref 517) 928 465 929) ::
 (nat_lit 519,fO "_law_text" 69 (.none) "law_trueleaf_k62_whole_text_set" 818 518) ::
 (nat_lit 523,cV "_law_titles" "_law_titles" 931 932 933 472 1 3 520 181 521 .none .none .none (.ref 522) 934 472 935) ::
 (nat_lit 524,fO "_law_titles" 70 (.none) "law_trueleaf_k62_whole_text_set" 818 523) ::
 (nat_lit 528,cV "_law_stream" "_law_stream" 937 938 939 483 2 3 525 181 526 .none .none .none (.ref 527) 940 483 941) ::
 (nat_lit 529,fO "_law_stream" 71 (.none) "law_trueleaf_k62_whole_text_set" 818 528) ::
 (nat_lit 535,cV "_law_heads" "_law_heads" 943 944 945 499 2 3 530 181 531 .none (.ref 532) (.ref 533) (.ref 534) 952 499 953) ::
 (nat_lit 536,fO "_law_heads" 72 (.none) "law_trueleaf_k62_whole_text_set" 818 535) ::
 (nat_lit 540,cV "_law_leads" "_law_leads" 955 956 957 508 2 3 537 181 538 .none .none .none (.ref 539) 958 508 959) ::
 (nat_lit 541,fO "_law_leads" 73 (.none) "law_trueleaf_k62_whole_text_set" 818 540) ::
 (nat_lit 547,cV "_law_said" "_law_said" 961 962 963 545 4 3 542 181 543 .none (.ref 544) (.ref 545) (.ref 546) 970 545 971) ::
 (nat_lit 548,fO "_law_said" 74 (.none) "law_trueleaf_k62_whole_text_set" 818 547) ::
 (nat_lit 554,cV "_law_marked" "_law_marked" 973 974 975 559 2 3 549 181 550 .none (.ref 551) (.ref 552) (.ref 553) 982 559 983) ::
 (nat_lit 555,fO "_law_marked" 75 (.none) "law_trueleaf_k62_whole_text_set" 818 554) ::
 (nat_lit 561,cV "_law_shape" "_law_shape" 985 986 987 570 2 3 556 181 557 .none (.ref 558) (.ref 559) (.ref 560) 991 570 992) ::
 (nat_lit 562,fO "_law_shape" 76 (.none) "law_trueleaf_k62_whole_text_set" 818 561) ::
 (nat_lit 566,cV "_law_words" "_law_words" 994 995 996 579 5 3 563 181 564 .none .none .none (.ref 565) 997 579 998) ::
 (nat_lit 567,fO "_law_words" 77 (.none) "law_trueleaf_k62_whole_text_set" 818 566) ::
 (nat_lit 573,cV "_law_spaced" "_law_spaced" 1000 1001 1002 591 2 3 568 181 569 .none (.ref 570) (.ref 571) (.ref 572) 1010 591 1011) ::
 (nat_lit 574,fO "_law_spaced" 78 (.none) "law_trueleaf_k62_whole_text_set" 818 573) ::
 (nat_lit 578,cV "law" "law" 1013 1014 1015 600 1 3 575 181 576 .none .none .none (.ref 577) 1016 600 1017) ::
 (nat_lit 579,fO "law" 79 (.none) "law_trueleaf_k62_whole_text_set" 818 578)::[]
noncomputable def vw:Jk:={ PySem.Challenge.pw_trueleaf_k62_whole_text_set with main:={ PySem.Challenge.pw_trueleaf_k62_whole_text_set.main with body:=top 1::top 2::top 3::top 4::top 5::top 6::top 7::top 8::top 9::top 10::top 11::top 12::top 14::top 15::top 16::top 17::top 18::top 19::top 20::top 21::top 23::top 25::top 27::top 28::top 29::top 30::top 31::top 33::top 34::top 35::top 37::top 38::top 39::top 40::top 41::top 42::top 43::top 45::top 46::top 47::top 48::top 49::top 50::top 52::top 53::top 54::top 55::top 57::top 58::top 59::top 60::top 61::top 62::top 63::top 64::top 65::top 66::top 67::top 68::top 69::top 70::top 71::top 72::top 73::top 74::top 75::top 76::top 77::top 78::top 79::[] } }
noncomputable abbrev ls:List Str:=[os "KINDS",os "tree_of",os "size_of",os "LEAPS"]
noncomputable abbrev hk:Hook:=kHook kk (nat_lit 2::nat_lit 3::nat_lit 15::nat_lit 22::nat_lit 23::nat_lit 24::nat_lit 25::nat_lit 28::nat_lit 35::nat_lit 36::nat_lit 37::nat_lit 40::nat_lit 47::nat_lit 48::nat_lit 49::nat_lit 52::nat_lit 59::nat_lit 60::nat_lit 61::nat_lit 64::nat_lit 71::nat_lit 72::nat_lit 73::nat_lit 76::nat_lit 83::nat_lit 84::nat_lit 85::nat_lit 88::nat_lit 95::nat_lit 96::nat_lit 97::nat_lit 100::nat_lit 107::nat_lit 108::nat_lit 109::nat_lit 112::nat_lit 119::nat_lit 120::nat_lit 121::nat_lit 124::nat_lit 131::nat_lit 132::nat_lit 133::nat_lit 136::nat_lit 140::nat_lit 141::nat_lit 145::nat_lit 146::nat_lit 152::nat_lit 153::nat_lit 159::nat_lit 160::nat_lit 164::nat_lit 165::nat_lit 166::nat_lit 172::nat_lit 173::nat_lit 177::nat_lit 178::nat_lit 184::nat_lit 185::nat_lit 191::nat_lit 192::nat_lit 198::nat_lit 199::nat_lit 205::nat_lit 206::nat_lit 207::nat_lit 213::nat_lit 214::nat_lit 220::nat_lit 221::nat_lit 227::nat_lit 228::nat_lit 232::nat_lit 233::nat_lit 239::nat_lit 240::nat_lit 246::nat_lit 247::nat_lit 251::nat_lit 252::nat_lit 256::nat_lit 257::nat_lit 258::nat_lit 259::nat_lit 265::nat_lit 266::nat_lit 279::nat_lit 280::nat_lit 286::nat_lit 287::nat_lit 291::nat_lit 292::nat_lit 298::nat_lit 299::nat_lit 305::nat_lit 306::nat_lit 312::nat_lit 313::nat_lit 319::nat_lit 320::nat_lit 324::nat_lit 325::nat_lit 326::nat_lit 327::nat_lit 328::nat_lit 329::nat_lit 330::nat_lit 338::nat_lit 339::nat_lit 340::nat_lit 341::nat_lit 345::nat_lit 346::nat_lit 357::nat_lit 358::nat_lit 364::nat_lit 365::nat_lit 371::nat_lit 372::nat_lit 376::nat_lit 377::nat_lit 383::nat_lit 384::nat_lit 390::nat_lit 391::nat_lit 397::nat_lit 398::nat_lit 404::nat_lit 405::nat_lit 409::nat_lit 410::nat_lit 414::nat_lit 415::nat_lit 421::nat_lit 422::nat_lit 428::nat_lit 429::nat_lit 430::nat_lit 431::nat_lit 432::nat_lit 433::nat_lit 434::nat_lit 442::nat_lit 443::nat_lit 449::nat_lit 450::nat_lit 456::nat_lit 457::nat_lit 463::nat_lit 464::nat_lit 470::nat_lit 471::nat_lit 477::nat_lit 478::nat_lit 482::nat_lit 483::nat_lit 487::nat_lit 488::nat_lit 494::nat_lit 495::nat_lit 501::nat_lit 502::nat_lit 508::nat_lit 509::nat_lit 513::nat_lit 514::nat_lit 518::nat_lit 519::nat_lit 523::nat_lit 524::nat_lit 528::nat_lit 529::nat_lit 535::nat_lit 536::nat_lit 540::nat_lit 541::nat_lit 547::nat_lit 548::nat_lit 554::nat_lit 555::nat_lit 561::nat_lit 562::nat_lit 566::nat_lit 567::nat_lit 573::nat_lit 574::nat_lit 578::nat_lit 579::[]) (λ_=>by kernel_rfl)
noncomputable abbrev rr:RowW:=OpenRow.toRowW (OpenLaw.row PySem.Challenge.rw_trueleaf_k62_whole_text_set)
noncomputable abbrev xt:IG->Bool:=λs=>xlAt vw [] s&&recOk (RowW.records rr) s
noncomputable def E6:List (Addr×Obj)->Nat->Obj
 |[],_=>⟨.none,none,.fields #[],#[]⟩
 |x::_,0=>x.2
 |_::t,n+1=>E6 t n
noncomputable abbrev au(P:JA)(i:Nat):Obj:=E6 (kk P) i
noncomputable def GL(P:JA)(t:List JG):List JG:=dE P "__name__" 165 (sv "trueleaf.errors" 187)::dE P "__doc__" 166 (.none)::dE P "__package__" 167 (.none)::dE P "__loader__" 168 (.builtin "__main__.__loader__#opaque")::dE P "__spec__" 169 (.none)::dE P "__annotations__" 170 (.ref 6)::dE P "__builtins__" 171 (.ref 4)::dE P "__file__" 173 (sv "/claim/cut.py" 172)::t
noncomputable def GM(P:JA)(t:List JG):List JG:=dE P "__cached__" 174 (.none)::dE P "TrueleafError" 206 (.ref 24)::dE P "BadRow" 222 (.ref 37)::dE P "TooLong" 238 (.ref 49)::dE P "BadCall" 254 (.ref 61)::dE P "Deep" 270 (.ref 73)::dE P "NoShort" 286 (.ref 85)::t
noncomputable def E7(P:JA):Obj:=⟨(.type "dict"),none,.dict (Jx (GL P (GM P []))) 15,#[]⟩
noncomputable def GN(P:JA)(t:List JG):List JG:=dE P "__name__" 165 (sv "trueleaf.trees" 415)::dE P "__doc__" 166 (.none)::dE P "__package__" 167 (.none)::dE P "__loader__" 168 (.builtin "__main__.__loader__#opaque")::dE P "__spec__" 169 (.none)::dE P "__annotations__" 170 (.ref 6)::dE P "__builtins__" 171 (.ref 4)::dE P "__file__" 173 (sv "/claim/cut.py" 172)::t
noncomputable def DR(P:JA)(t:List JG):List JG:=dE P "__cached__" 174 (.none)::dE P "TrueleafError" 206 (.ref 24)::dE P "BadRow" 222 (.ref 37)::dE P "TooLong" 238 (.ref 49)::dE P "BadCall" 254 (.ref 61)::dE P "Deep" 270 (.ref 73)::dE P "NoShort" 286 (.ref 85)::dE P "BadWord" 302 (.ref 97)::t
noncomputable def DS(P:JA)(t:List JG):List JG:=dE P "Twice" 318 (.ref 109)::dE P "NoFoot" 334 (.ref 121)::dE P "NoMark" 350 (.ref 133)::dE P "MOST_WORDS_books" 352 (.int 400 351)::dE P "LONGEST_TEXT" 354 (.int 60 353)::dE P "LETTERS" 358 (sv "abcdefghijklmnopqrstuvwxyz" 357)::dE P "FIGURES" 360 (sv "0123456789" 359)::dE P "LONGEST_NAME" 362 (.int 12 361)::t
noncomputable def DT(P:JA)(t:List JG):List JG:=dE P "KINDS" 378 (.ref 136)::dE P "words_in" 384 (.ref 141)::dE P "is_name" 390 (.ref 146)::dE P "figures_of" 397 (.ref 153)::dE P "kind_of" 406 (.ref 160)::dE P "numbers_of" 414 (.ref 165)::dE P "MOST_DEEP" 418 (.int 20 417)::dE P "tree_of" 429 (.ref 173)::t
noncomputable def GO(P:JA)(t:List JG):List JG:=dE P "copied" 435 (.ref 178)::t
noncomputable def E8(P:JA):Obj:=⟨(.type "dict"),none,.dict (Jx (GN P (DR P (DS P (DT P (GO P [])))))) 33,#[]⟩
noncomputable def GP(P:JA)(t:List JG):List JG:=dE P "__name__" 165 (sv "trueleaf.setting" 670)::dE P "__doc__" 166 (.none)::dE P "__package__" 167 (.none)::dE P "__loader__" 168 (.builtin "__main__.__loader__#opaque")::dE P "__spec__" 169 (.none)::dE P "__annotations__" 170 (.ref 6)::dE P "__builtins__" 171 (.ref 4)::dE P "__file__" 173 (sv "/claim/cut.py" 172)::t
noncomputable def GQ(P:JA)(t:List JG):List JG:=dE P "copied" 435 (.ref 178)::dE P "opens_call" 442 (.ref 185)::dE P "with_closed" 452 (.ref 192)::dE P "node_of" 461 (.ref 199)::dE P "looks_like_place" 468 (.ref 206)::dE P "MOST_WORDS_shorts" 472 (.int 400 471)::dE P "MOST_CALLS" 474 (.int 400 473)::dE P "MOST_CALLS_OF_SHORT" 476 (.int 60 475)::t
noncomputable def GR(P:JA)(t:List JG):List JG:=dE P "size_of" 486 (.ref 214)::dE P "new_short" 499 (.ref 221)::dE P "put_out" 509 (.ref 228)::dE P "by_name" 515 (.ref 233)::dE P "short_called" 525 (.ref 240)::dE P "size_among" 541 (.ref 247)::dE P "sum_of_rows" 547 (.ref 252)::dE P "words_out" 553 (.ref 257)::t
noncomputable def E9(P:JA)(t:List JG):List JG:=dE P "ALONE" 559 (.ref 258)::dE P "HEADS" 563 (.ref 259)::dE P "MOST_FOOT_WORDS" 565 (.int 39 564)::dE P "read_rows" 574 (.ref 266)::dE P "Reader" 662 (.ref 328)::dE P "is_figure" 669 (.ref 339)::dE P "LEAPS" 678 (.ref 340)::dE P "POINTING" 682 (.ref 341)::t
noncomputable def E_(P:JA)(t:List JG):List JG:=dE P "set_words" 688 (.ref 346)::dE P "Setter" 817 (.ref 432)::t
noncomputable def Fa(P:JA):Obj:=⟨(.type "dict"),none,.dict (Jx (GP P (DR P (DS P (DT P (GQ P (GR P (E9 P (E_ P []))))))))) 58,#[]⟩
noncomputable def za(P:JA):Obj:=⟨(.none),none,(.fields #[]),#[]⟩
noncomputable def D_(P:JA):Obj:=⟨(.none),none,(.fields #[.int 2 0,.int 0 0,.ref 20,.int 4 0,.int 0 0,.ref 33,.int 6 0,.int 0 0,.ref 45,.int 8 0,.int 0 0,.ref 57,.int 10 0,.int 0 0,.ref 69,.int 12 0,.int 0 0,.ref 81]),#[]⟩
noncomputable def Ea(P:JA):Obj:=⟨(.none),none,(.fields #[.int 2 0,.int 0 0,.ref 20,.int 4 0,.int 0 0,.ref 33,.int 6 0,.int 0 0,.ref 45,.int 8 0,.int 0 0,.ref 57,.int 10 0,.int 0 0,.ref 69,.int 12 0,.int 0 0,.ref 81,.int 14 0,.int 0 0,.ref 93,.int 16 0,.int 0 0,.ref 105,.int 18 0,.int 0 0,.ref 117,.int 20 0,.int 0 0,.ref 129,.int 29 0,.int 0 0,.ref 140,.int 31 0,.int 0 0,.ref 145,.int 35 0,.int 0 0,.ref 152,.int 37 0,.int 0 0,.ref 159,.int 46 0,.int 0 0,.ref 164,.int 55 0,.int 0 0,.ref 172,.int 74 0,.int 0 0,.ref 177]),#[]⟩
noncomputable def Eb(P:JA):Obj:=⟨(.none),none,(.fields #[.int 2 0,.int 0 0,.ref 20,.int 4 0,.int 0 0,.ref 33,.int 6 0,.int 0 0,.ref 45,.int 8 0,.int 0 0,.ref 57,.int 10 0,.int 0 0,.ref 69,.int 12 0,.int 0 0,.ref 81,.int 14 0,.int 0 0,.ref 93,.int 16 0,.int 0 0,.ref 105,.int 18 0,.int 0 0,.ref 117,.int 20 0,.int 0 0,.ref 129,.int 29 0,.int 0 0,.ref 140,.int 31 0,.int 0 0,.ref 145,.int 35 0,.int 0 0,.ref 152,.int 37 0,.int 0 0,.ref 159,.int 46 0,.int 0 0,.ref 164,.int 55 0,.int 0 0,.ref 172,.int 74 0,.int 0 0,.ref 177,.int 82 0,.int 0 0,.ref 184,.int 84 0,.int 0 0,.ref 191,.int 91 0,.int 0 0,.ref 198,.int 98 0,.int 0 0,.ref 205,.int 104 0,.int 0 0,.ref 213,.int 106 0,.int 0 0,.ref 220,.int 115 0,.int 0 0,.ref 227,.int 121 0,.int 0 0,.ref 232,.int 123 0,.int 0 0,.ref 239,.int 131 0,.int 0 0,.ref 246,.int 148 0,.int 0 0,.ref 251,.int 150 0,.int 0 0,.ref 256,.int 165 0,.int 0 0,.ref 265,.int 170 0,.int 0 0,.ref 272,.int 242 0,.int 0 0,.ref 338,.int 247 0,.int 0 0,.ref 345,.int 255 0,.int 0 0,.ref 352]),#[]⟩
noncomputable def zb(P:JA):Obj:=⟨(.none),none,(.fields #[.int 2 0,.int 0 0,.ref 20,.int 4 0,.int 0 0,.ref 33,.int 6 0,.int 0 0,.ref 45,.int 8 0,.int 0 0,.ref 57,.int 10 0,.int 0 0,.ref 69,.int 12 0,.int 0 0,.ref 81,.int 14 0,.int 0 0,.ref 93,.int 16 0,.int 0 0,.ref 105,.int 18 0,.int 0 0,.ref 117,.int 20 0,.int 0 0,.ref 129,.int 29 0,.int 0 0,.ref 140,.int 31 0,.int 0 0,.ref 145,.int 35 0,.int 0 0,.ref 152,.int 37 0,.int 0 0,.ref 159,.int 46 0,.int 0 0,.ref 164,.int 55 0,.int 0 0,.ref 172,.int 74 0,.int 0 0,.ref 177,.int 82 0,.int 0 0,.ref 184,.int 84 0,.int 0 0,.ref 191,.int 91 0,.int 0 0,.ref 198,.int 98 0,.int 0 0,.ref 205,.int 104 0,.int 0 0,.ref 213,.int 106 0,.int 0 0,.ref 220,.int 115 0,.int 0 0,.ref 227,.int 121 0,.int 0 0,.ref 232,.int 123 0,.int 0 0,.ref 239,.int 131 0,.int 0 0,.ref 246,.int 148 0,.int 0 0,.ref 251,.int 150 0,.int 0 0,.ref 256,.int 165 0,.int 0 0,.ref 265,.int 170 0,.int 0 0,.ref 272,.int 242 0,.int 0 0,.ref 338,.int 247 0,.int 0 0,.ref 345,.int 255 0,.int 0 0,.ref 352,.int 360 0,.int 0 0,.ref 442,.int 364 0,.int 0 0,.ref 449,.int 367 0,.int 0 0,.ref 456,.int 385 0,.int 0 0,.ref 463,.int 388 0,.int 0 0,.ref 470,.int 395 0,.int 0 0,.ref 477,.int 398 0,.int 0 0,.ref 482,.int 404 0,.int 0 0,.ref 487,.int 412 0,.int 0 0,.ref 494,.int 418 0,.int 0 0,.ref 501,.int 430 0,.int 0 0,.ref 508,.int 446 0,.int 0 0,.ref 513,.int 465 0,.int 0 0,.ref 518,.int 472 0,.int 0 0,.ref 523,.int 483 0,.int 0 0,.ref 528,.int 499 0,.int 0 0,.ref 535,.int 508 0,.int 0 0,.ref 540,.int 545 0,.int 0 0,.ref 547,.int 559 0,.int 0 0,.ref 554,.int 570 0,.int 0 0,.ref 561,.int 579 0,.int 0 0,.ref 566,.int 591 0,.int 0 0,.ref 573,.int 600 0,.int 0 0,.ref 578]),#[]⟩
noncomputable def Ec(P:JA):Obj:=⟨(.type "type"),none,(.cls (JO (os "TrueleafError") [.type "ValueError"] [.ref 24,.type "ValueError",.type "Exception",.type "BaseException",.type "object"] 23 (os "TrueleafError") true [] [.ref 37,.ref 49,.ref 61,.ref 73,.ref 85] false none false)),#[IF (.ref 15),none,IF (sv "TrueleafError" 189),IF (sv "TrueleafError" 197),IF (.builtin "ValueError.__new__"),IF (.bool true)]⟩
noncomputable abbrev aA:Obj:=⟨(.type "tuple"),none,(.seq #[]),#[]⟩
noncomputable abbrev jo:Obj:=⟨(.type "builtin_function_or_method"),none,(.fields #[.builtin "type.__prepare__",.type "type"]),#[]⟩
noncomputable abbrev aR:Obj:=⟨(.none),none,(.fields #[]),#[]⟩
noncomputable def oG(P:JA)(x3:Obj)(x12:Obj)(t:List Obj):List Obj:=boot_o_0 P::boot_o_1 P::boot_o_2 P::x3::boot_o_4 P::boot_o_5 P::boot_o_6 P::boot_o_7 P::boot_o_8 P::boot_o_9 P::boot_o_10 P::aA::x12::⟨(.type "code"),none,(.fields #[sv "<module>" 182,sv "<module>" 183,sv "/claim/cut.py" 184,.int 1 0,.int 0 0,.int 0 0,.int 0 0,.int 0 0,.ref 11,.bool false,.int 181 0,.ref 12,.none,.none,.none,.none,.int 185 0,.int 1 0,sv "/claim/cut.py" 186]),#[]⟩::⟨(.type "frame"),none,(.plain),#[IF (.ref 13),IF (.ref 3),IF (.ref 3),none,IF (sv "__main__" 164),none,IF (.ref 0)]⟩::t
noncomputable def ue(P:JA)(x24:Obj)(t:List Obj):List Obj:=au P 2::jo::⟨(.type "dict"),none,.dict (Jx (dE P "__module__" 196 (sv "trueleaf.errors" 187)::dE P "__qualname__" 198 (sv "TrueleafError" 197)::dE P "__firstlineno__" 200 (.int 2 199)::dE P "__static_attributes__" 201 (.ref 22)::[])) 4,#[]⟩::aA::aR::⟨(.type "code"),none,(.fields #[sv "TrueleafError" 191,sv "TrueleafError" 192,sv "/claim/cut.py" 193,.int 2 0,.int 0 0,.int 0 0,.int 0 0,.int 0 0,.ref 18,.bool false,.int 181 0,.ref 19,.none,.none,.none,.none,.int 194 0,.int 2 0,sv "/claim/cut.py" 195]),#[]⟩::⟨(.type "frame"),none,(.plain),#[IF (.ref 20),IF (.ref 3),IF (.ref 17),none,IF (sv "trueleaf.errors" 187),none,IF (.ref 0)]⟩::au P 3::au P 4::x24::au P 6::⟨(.type "super"),none,(.fields #[.ref 24,.ref 24,.ref 24]),#[]⟩::⟨(.type "builtin_function_or_method"),none,(.fields #[.builtin "object.__init_subclass__",.ref 24]),#[]⟩::au P 7::jo::⟨(.type "dict"),none,.dict (Jx (dE P "__module__" 214 (sv "trueleaf.errors" 187)::dE P "__qualname__" 216 (sv "BadRow" 215)::dE P "__firstlineno__" 218 (.int 4 217)::dE P "__static_attributes__" 219 (.ref 35)::[])) 4,#[]⟩::t
noncomputable def uf(P:JA)(t:List Obj):List Obj:=aA::aR::⟨(.type "code"),none,(.fields #[sv "BadRow" 209,sv "BadRow" 210,sv "/claim/cut.py" 211,.int 4 0,.int 0 0,.int 0 0,.int 0 0,.int 0 0,.ref 31,.bool false,.int 181 0,.ref 32,.none,.none,.none,.none,.int 212 0,.int 4 0,sv "/claim/cut.py" 213]),#[]⟩::⟨(.type "frame"),none,(.plain),#[IF (.ref 33),IF (.ref 3),IF (.ref 30),none,IF (sv "trueleaf.errors" 187),none,IF (.ref 0)]⟩::au P 8::au P 9::au P 10::⟨(.type "super"),none,(.fields #[.ref 37,.ref 37,.ref 37]),#[]⟩::⟨(.type "builtin_function_or_method"),none,(.fields #[.builtin "object.__init_subclass__",.ref 37]),#[]⟩::au P 11::jo::⟨(.type "dict"),none,.dict (Jx (dE P "__module__" 230 (sv "trueleaf.errors" 187)::dE P "__qualname__" 232 (sv "TooLong" 231)::dE P "__firstlineno__" 234 (.int 6 233)::dE P "__static_attributes__" 235 (.ref 47)::[])) 4,#[]⟩::aA::aR::⟨(.type "code"),none,(.fields #[sv "TooLong" 225,sv "TooLong" 226,sv "/claim/cut.py" 227,.int 6 0,.int 0 0,.int 0 0,.int 0 0,.int 0 0,.ref 43,.bool false,.int 181 0,.ref 44,.none,.none,.none,.none,.int 228 0,.int 6 0,sv "/claim/cut.py" 229]),#[]⟩::⟨(.type "frame"),none,(.plain),#[IF (.ref 45),IF (.ref 3),IF (.ref 42),none,IF (sv "trueleaf.errors" 187),none,IF (.ref 0)]⟩::t
noncomputable def ug(P:JA)(t:List Obj):List Obj:=au P 12::au P 13::au P 14::⟨(.type "super"),none,(.fields #[.ref 49,.ref 49,.ref 49]),#[]⟩::⟨(.type "builtin_function_or_method"),none,(.fields #[.builtin "object.__init_subclass__",.ref 49]),#[]⟩::au P 15::jo::⟨(.type "dict"),none,.dict (Jx (dE P "__module__" 246 (sv "trueleaf.errors" 187)::dE P "__qualname__" 248 (sv "BadCall" 247)::dE P "__firstlineno__" 250 (.int 8 249)::dE P "__static_attributes__" 251 (.ref 59)::[])) 4,#[]⟩::aA::aR::⟨(.type "code"),none,(.fields #[sv "BadCall" 241,sv "BadCall" 242,sv "/claim/cut.py" 243,.int 8 0,.int 0 0,.int 0 0,.int 0 0,.int 0 0,.ref 55,.bool false,.int 181 0,.ref 56,.none,.none,.none,.none,.int 244 0,.int 8 0,sv "/claim/cut.py" 245]),#[]⟩::⟨(.type "frame"),none,(.plain),#[IF (.ref 57),IF (.ref 3),IF (.ref 54),none,IF (sv "trueleaf.errors" 187),none,IF (.ref 0)]⟩::au P 16::au P 17::au P 18::⟨(.type "super"),none,(.fields #[.ref 61,.ref 61,.ref 61]),#[]⟩::t
noncomputable def uh(P:JA)(t:List Obj):List Obj:=⟨(.type "builtin_function_or_method"),none,(.fields #[.builtin "object.__init_subclass__",.ref 61]),#[]⟩::au P 19::jo::⟨(.type "dict"),none,.dict (Jx (dE P "__module__" 262 (sv "trueleaf.errors" 187)::dE P "__qualname__" 264 (sv "Deep" 263)::dE P "__firstlineno__" 266 (.int 10 265)::dE P "__static_attributes__" 267 (.ref 71)::[])) 4,#[]⟩::aA::aR::⟨(.type "code"),none,(.fields #[sv "Deep" 257,sv "Deep" 258,sv "/claim/cut.py" 259,.int 10 0,.int 0 0,.int 0 0,.int 0 0,.int 0 0,.ref 67,.bool false,.int 181 0,.ref 68,.none,.none,.none,.none,.int 260 0,.int 10 0,sv "/claim/cut.py" 261]),#[]⟩::⟨(.type "frame"),none,(.plain),#[IF (.ref 69),IF (.ref 3),IF (.ref 66),none,IF (sv "trueleaf.errors" 187),none,IF (.ref 0)]⟩::au P 20::au P 21::au P 22::⟨(.type "super"),none,(.fields #[.ref 73,.ref 73,.ref 73]),#[]⟩::⟨(.type "builtin_function_or_method"),none,(.fields #[.builtin "object.__init_subclass__",.ref 73]),#[]⟩::au P 23::jo::⟨(.type "dict"),none,.dict (Jx (dE P "__module__" 278 (sv "trueleaf.errors" 187)::dE P "__qualname__" 280 (sv "NoShort" 279)::dE P "__firstlineno__" 282 (.int 12 281)::dE P "__static_attributes__" 283 (.ref 83)::[])) 4,#[]⟩::t
noncomputable def ui(P:JA)(t:List Obj):List Obj:=aA::aR::⟨(.type "code"),none,(.fields #[sv "NoShort" 273,sv "NoShort" 274,sv "/claim/cut.py" 275,.int 12 0,.int 0 0,.int 0 0,.int 0 0,.int 0 0,.ref 79,.bool false,.int 181 0,.ref 80,.none,.none,.none,.none,.int 276 0,.int 12 0,sv "/claim/cut.py" 277]),#[]⟩::⟨(.type "frame"),none,(.plain),#[IF (.ref 81),IF (.ref 3),IF (.ref 78),none,IF (sv "trueleaf.errors" 187),none,IF (.ref 0)]⟩::au P 24::au P 25::au P 26::⟨(.type "super"),none,(.fields #[.ref 85,.ref 85,.ref 85]),#[]⟩::⟨(.type "builtin_function_or_method"),none,(.fields #[.builtin "object.__init_subclass__",.ref 85]),#[]⟩::t
noncomputable def wJ(P:JA)(t:List Obj):List Obj:=au P 27::jo::⟨(.type "dict"),none,.dict (Jx (dE P "__module__" 294 (sv "trueleaf.errors" 187)::dE P "__qualname__" 296 (sv "BadWord" 295)::dE P "__firstlineno__" 298 (.int 14 297)::dE P "__static_attributes__" 299 (.ref 95)::[])) 4,#[]⟩::aA::aR::⟨(.type "code"),none,(.fields #[sv "BadWord" 289,sv "BadWord" 290,sv "/claim/cut.py" 291,.int 14 0,.int 0 0,.int 0 0,.int 0 0,.int 0 0,.ref 91,.bool false,.int 181 0,.ref 92,.none,.none,.none,.none,.int 292 0,.int 14 0,sv "/claim/cut.py" 293]),#[]⟩::⟨(.type "frame"),none,(.plain),#[IF (.ref 93),IF (.ref 3),IF (.ref 90),none,IF (sv "trueleaf.errors" 187),none,IF (.ref 0)]⟩::au P 28::au P 29::au P 30::⟨(.type "super"),none,(.fields #[.ref 97,.ref 97,.ref 97]),#[]⟩::⟨(.type "builtin_function_or_method"),none,(.fields #[.builtin "object.__init_subclass__",.ref 97]),#[]⟩::au P 31::jo::⟨(.type "dict"),none,.dict (Jx (dE P "__module__" 310 (sv "trueleaf.errors" 187)::dE P "__qualname__" 312 (sv "Twice" 311)::dE P "__firstlineno__" 314 (.int 16 313)::dE P "__static_attributes__" 315 (.ref 107)::[])) 4,#[]⟩::aA::t
noncomputable def wK(P:JA)(t:List Obj):List Obj:=aR::⟨(.type "code"),none,(.fields #[sv "Twice" 305,sv "Twice" 306,sv "/claim/cut.py" 307,.int 16 0,.int 0 0,.int 0 0,.int 0 0,.int 0 0,.ref 103,.bool false,.int 181 0,.ref 104,.none,.none,.none,.none,.int 308 0,.int 16 0,sv "/claim/cut.py" 309]),#[]⟩::⟨(.type "frame"),none,(.plain),#[IF (.ref 105),IF (.ref 3),IF (.ref 102),none,IF (sv "trueleaf.errors" 187),none,IF (.ref 0)]⟩::au P 32::au P 33::au P 34::⟨(.type "super"),none,(.fields #[.ref 109,.ref 109,.ref 109]),#[]⟩::⟨(.type "builtin_function_or_method"),none,(.fields #[.builtin "object.__init_subclass__",.ref 109]),#[]⟩::au P 35::jo::⟨(.type "dict"),none,.dict (Jx (dE P "__module__" 326 (sv "trueleaf.errors" 187)::dE P "__qualname__" 328 (sv "NoFoot" 327)::dE P "__firstlineno__" 330 (.int 18 329)::dE P "__static_attributes__" 331 (.ref 119)::[])) 4,#[]⟩::aA::aR::⟨(.type "code"),none,(.fields #[sv "NoFoot" 321,sv "NoFoot" 322,sv "/claim/cut.py" 323,.int 18 0,.int 0 0,.int 0 0,.int 0 0,.int 0 0,.ref 115,.bool false,.int 181 0,.ref 116,.none,.none,.none,.none,.int 324 0,.int 18 0,sv "/claim/cut.py" 325]),#[]⟩::⟨(.type "frame"),none,(.plain),#[IF (.ref 117),IF (.ref 3),IF (.ref 114),none,IF (sv "trueleaf.errors" 187),none,IF (.ref 0)]⟩::au P 36::t
noncomputable def wL(P:JA)(t:List Obj):List Obj:=au P 37::au P 38::⟨(.type "super"),none,(.fields #[.ref 121,.ref 121,.ref 121]),#[]⟩::⟨(.type "builtin_function_or_method"),none,(.fields #[.builtin "object.__init_subclass__",.ref 121]),#[]⟩::au P 39::jo::⟨(.type "dict"),none,.dict (Jx (dE P "__module__" 342 (sv "trueleaf.errors" 187)::dE P "__qualname__" 344 (sv "NoMark" 343)::dE P "__firstlineno__" 346 (.int 20 345)::dE P "__static_attributes__" 347 (.ref 131)::[])) 4,#[]⟩::aA::aR::⟨(.type "code"),none,(.fields #[sv "NoMark" 337,sv "NoMark" 338,sv "/claim/cut.py" 339,.int 20 0,.int 0 0,.int 0 0,.int 0 0,.int 0 0,.ref 127,.bool false,.int 181 0,.ref 128,.none,.none,.none,.none,.int 340 0,.int 20 0,sv "/claim/cut.py" 341]),#[]⟩::⟨(.type "frame"),none,(.plain),#[IF (.ref 129),IF (.ref 3),IF (.ref 126),none,IF (sv "trueleaf.errors" 187),none,IF (.ref 0)]⟩::au P 40::au P 41::au P 42::⟨(.type "super"),none,(.fields #[.ref 133,.ref 133,.ref 133]),#[]⟩::⟨(.type "builtin_function_or_method"),none,(.fields #[.builtin "object.__init_subclass__",.ref 133]),#[]⟩::t
noncomputable def wM(P:JA)(t:List Obj):List Obj:=au P 43::aA::aR::gA "words_in" "words_in" (top 18)::au P 44::au P 45::aA::aR::gA "is_name" "is_name" (top 19)::au P 46::au P 47::aA::aR::⟨(.type "tuple"),none,(.seq #[sv "number" 394]),#[]⟩::aA::gA "figures_of" "figures_of" (top 20)::t
noncomputable def uj(P:JA)(t:List Obj):List Obj:=au P 48::au P 49::aA::aR::⟨(.type "tuple"),none,(.seq #[sv "word" 401,sv "first" 402,sv "rest" 403]),#[]⟩::aA::gA "kind_of" "kind_of" (top 21)::au P 50::au P 51::aA::aR::gA "numbers_of" "numbers_of" (top 23)::au P 52::au P 53::au P 54::aA::t
noncomputable def uk(P:JA)(t:List Obj):List Obj:=aR::⟨(.type "tuple"),none,(.seq #[sv "words" 422,sv "count" 423,sv "nodes" 424,sv "pending" 425,sv "word" 426]),#[]⟩::aA::gA "tree_of" "tree_of" (top 26)::au P 55::au P 56::aA::aR::gA "copied" "copied" (top 27)::au P 57::au P 58::t
noncomputable def wZ(P:JA)(t:List Obj):List Obj:=aA::aR::⟨(.type "tuple"),none,(.seq #[sv "word" 439]),#[]⟩::aA::gA "opens_call" "opens_call" (top 28)::au P 59::au P 60::aA::aR::⟨(.type "tuple"),none,(.seq #[sv "call" 446,sv "last" 447,sv "arguments" 448,sv "nodes" 449]),#[]⟩::aA::gA "with_closed" "with_closed" (top 29)::au P 61::au P 62::aA::aR::t
noncomputable def w_(P:JA)(t:List Obj):List Obj:=⟨(.type "tuple"),none,(.seq #[sv "word" 456,sv "count" 457,sv "k" 458]),#[]⟩::aA::gA "node_of" "node_of" (top 30)::au P 63::au P 64::aA::aR::⟨(.type "tuple"),none,(.seq #[sv "word" 465]),#[]⟩::aA::gA "looks_like_place" "looks_like_place" (top 31)::au P 65::au P 66::au P 67::aA::aR::⟨(.type "tuple"),none,(.seq #[sv "shorts" 481,sv "nodes" 482,sv "count" 483]),#[]⟩::t
noncomputable def xa(P:JA)(t:List Obj):List Obj:=aA::gA "size_of" "size_of" (top 36)::au P 68::au P 69::aA::aR::⟨(.type "tuple"),none,(.seq #[sv "shorts" 490,sv "name" 491,sv "count" 492,sv "nodes" 493,sv "size" 494,sv "row" 495,sv "calls" 496]),#[]⟩::aA::gA "new_short" "new_short" (top 37)::au P 70::au P 71::aA::aR::⟨(.type "tuple"),none,(.seq #[sv "shorts" 503,sv "nodes" 504,sv "named" 505,sv "size" 506]),#[]⟩::aA::gA "put_out" "put_out" (top 38)::t
noncomputable def xb(P:JA)(t:List Obj):List Obj:=au P 72::au P 73::aA::aR::gA "by_name" "by_name" (top 39)::au P 74::au P 75::aA::aR::⟨(.type "tuple"),none,(.seq #[sv "named" 519,sv "call" 520,sv "name" 521,sv "short" 522]),#[]⟩::aA::gA "short_called" "short_called" (top 40)::au P 76::au P 77::aA::aR::t
noncomputable def xc(P:JA)(t:List Obj):List Obj:=⟨(.type "tuple"),none,(.seq #[sv "named" 529,sv "nodes" 530,sv "count" 531,sv "row" 532,sv "calls" 533,sv "node" 534,sv "short" 535,sv "k" 536,sv "argument" 537,sv "size" 538]),#[]⟩::aA::gA "size_among" "size_among" (top 41)::au P 78::au P 79::aA::aR::gA "sum_of_rows" "sum_of_rows" (top 42)::au P 80::au P 81::aA::aR::gA "words_out" "words_out" (top 43)::au P 82::au P 83::au P 84::t
noncomputable def xf(P:JA)(t:List Obj):List Obj:=au P 85::aA::aR::⟨(.type "tuple"),none,(.seq #[sv "rows" 569,sv "reader" 570,sv "row" 571]),#[]⟩::aA::gA "read_rows" "read_rows" (top 48)::au P 86::au P 87::aA::jo::⟨(.type "dict"),none,.dict (Jx (dE P "__module__" 582 (sv "trueleaf.reading" 554)::dE P "__qualname__" 584 (sv "Reader" 583)::dE P "__firstlineno__" 586 (.int 170 585)::dE P "__init__" 593 (.ref 280)::dE P "read_row" 602 (.ref 287)::dE P "read_let" 608 (.ref 292)::dE P "read_foot" 618 (.ref 299)::dE P "read_alone" 627 (.ref 306)::dE P "read_words" 636 (.ref 313)::dE P "add_thing" 644 (.ref 320)::dE P "words_out" 650 (.ref 325)::dE P "__static_attributes__" 655 (.ref 326)::[])) 12,#[]⟩::aA::⟨(.none),none,(.fields #[.int 172 0,.int 4 0,.ref 279,.int 178 0,.int 4 0,.ref 286,.int 196 0,.int 4 0,.ref 291,.int 205 0,.int 4 0,.ref 298,.int 216 0,.int 4 0,.ref 305,.int 222 0,.int 4 0,.ref 312,.int 230 0,.int 4 0,.ref 319,.int 234 0,.int 4 0,.ref 324]),#[]⟩::⟨(.type "code"),none,(.fields #[sv "Reader" 577,sv "Reader" 578,sv "/claim/cut.py" 579,.int 170 0,.int 0 0,.int 0 0,.int 0 0,.int 0 0,.ref 270,.bool false,.int 181 0,.ref 271,.none,.none,.none,.none,.int 580 0,.int 170 0,sv "/claim/cut.py" 581]),#[]⟩::⟨(.type "frame"),none,(.plain),#[IF (.ref 272),IF (.ref 3),IF (.ref 269),none,IF (sv "trueleaf.reading" 554),none,IF (.ref 0)]⟩::aA::t
noncomputable def xg(P:JA)(t:List Obj):List Obj:=aR::⟨(.type "tuple"),none,(.seq #[sv "self" 590]),#[]⟩::aA::gA "__init__" "Reader.__init__" (aP 49 0)::au P 88::au P 89::aA::aR::⟨(.type "tuple"),none,(.seq #[sv "self" 597,sv "words" 598,sv "first" 599]),#[]⟩::aA::gA "read_row" "Reader.read_row" (aP 49 1)::au P 90::au P 91::aA::aR::gA "read_let" "Reader.read_let" (aP 49 2)::t
noncomputable def xh(P:JA)(t:List Obj):List Obj:=au P 92::au P 93::aA::aR::⟨(.type "tuple"),none,(.seq #[sv "self" 612,sv "words" 613,sv "name" 614,sv "text" 615]),#[]⟩::aA::gA "read_foot" "Reader.read_foot" (aP 49 3)::au P 94::au P 95::aA::aR::⟨(.type "tuple"),none,(.seq #[sv "self" 622,sv "words" 623,sv "first" 624]),#[]⟩::aA::gA "read_alone" "Reader.read_alone" (aP 49 4)::au P 96::au P 97::t
noncomputable def xi(P:JA)(t:List Obj):List Obj:=aA::aR::⟨(.type "tuple"),none,(.seq #[sv "self" 631,sv "words" 632,sv "read" 633]),#[]⟩::aA::gA "read_words" "Reader.read_words" (aP 49 5)::au P 98::au P 99::aA::aR::⟨(.type "tuple"),none,(.seq #[sv "self" 640,sv "thing" 641]),#[]⟩::aA::gA "add_thing" "Reader.add_thing" (aP 49 6)::au P 100::au P 101::aA::aR::t
noncomputable def xj(P:JA)(t:List Obj):List Obj:=gA "words_out" "Reader.words_out" (aP 49 7)::au P 102::au P 103::au P 104::au P 105::au P 106::au P 107::au P 108::⟨(.type "super"),none,(.fields #[.ref 328,.ref 328,.ref 328]),#[]⟩::⟨(.type "builtin_function_or_method"),none,(.fields #[.builtin "object.__init_subclass__",.ref 328]),#[]⟩::aA::aR::⟨(.type "tuple"),none,(.seq #[sv "word" 666]),#[]⟩::aA::gA "is_figure" "is_figure" (top 50)::au P 109::t
noncomputable def xk(P:JA)(t:List Obj):List Obj:=au P 110::au P 111::au P 112::aA::aR::gA "set_words" "set_words" (top 54)::au P 113::au P 114::aA::jo::⟨(.type "dict"),none,.dict (Jx (dE P "__module__" 696 (sv "trueleaf.setting" 670)::dE P "__qualname__" 698 (sv "Setter" 697)::dE P "__firstlineno__" 700 (.int 255 699)::dE P "__init__" 706 (.ref 358)::dE P "set_thing" 715 (.ref 365)::dE P "set_head" 724 (.ref 372)::dE P "set_list" 730 (.ref 377)::dE P "set_run" 741 (.ref 384)::dE P "set_mark" 749 (.ref 391)::dE P "set_word" 759 (.ref 398)::dE P "next_foot" 767 (.ref 405)::dE P "check_marks" 773 (.ref 410)::dE P "words_told" 779 (.ref 415)::dE P "saying_of" 789 (.ref 422)::dE P "number_at" 800 (.ref 429)::dE P "__static_attributes__" 810 (.ref 430)::[])) 16,#[]⟩::aA::⟨(.none),none,(.fields #[.int 257 0,.int 4 0,.ref 357,.int 268 0,.int 4 0,.ref 364,.int 281 0,.int 4 0,.ref 371,.int 286 0,.int 4 0,.ref 376,.int 293 0,.int 4 0,.ref 383,.int 302 0,.int 4 0,.ref 390,.int 307 0,.int 4 0,.ref 397,.int 319 0,.int 4 0,.ref 404,.int 325 0,.int 4 0,.ref 409,.int 336 0,.int 4 0,.ref 414,.int 342 0,.int 4 0,.ref 421,.int 353 0,.int 4 0,.ref 428]),#[]⟩::⟨(.type "code"),none,(.fields #[sv "Setter" 691,sv "Setter" 692,sv "/claim/cut.py" 693,.int 255 0,.int 0 0,.int 0 0,.int 0 0,.int 0 0,.ref 350,.bool false,.int 181 0,.ref 351,.none,.none,.none,.none,.int 694 0,.int 255 0,sv "/claim/cut.py" 695]),#[]⟩::⟨(.type "frame"),none,(.plain),#[IF (.ref 352),IF (.ref 3),IF (.ref 349),none,IF (sv "trueleaf.setting" 670),none,IF (.ref 0)]⟩::aA::t
noncomputable def xm(P:JA)(t:List Obj):List Obj:=aR::gA "__init__" "Setter.__init__" (aP 55 0)::au P 115::au P 116::aA::aR::⟨(.type "tuple"),none,(.seq #[sv "self" 710,sv "thing" 711,sv "kind" 712]),#[]⟩::aA::gA "set_thing" "Setter.set_thing" (aP 55 1)::au P 117::au P 118::aA::aR::⟨(.type "tuple"),none,(.seq #[sv "self" 719,sv "k" 720,sv "number" 721]),#[]⟩::aA::gA "set_head" "Setter.set_head" (aP 55 2)::t
noncomputable def xn(P:JA)(t:List Obj):List Obj:=au P 119::au P 120::aA::aR::gA "set_list" "Setter.set_list" (aP 55 3)::au P 121::au P 122::aA::aR::⟨(.type "tuple"),none,(.seq #[sv "self" 734,sv "lead" 735,sv "words" 736,sv "by_head" 737,sv "word" 738]),#[]⟩::aA::gA "set_run" "Setter.set_run" (aP 55 4)::au P 123::au P 124::aA::aR::t
noncomputable def xo(P:JA)(t:List Obj):List Obj:=⟨(.type "tuple"),none,(.seq #[sv "self" 745,sv "name" 746]),#[]⟩::aA::gA "set_mark" "Setter.set_mark" (aP 55 5)::au P 125::au P 126::aA::aR::⟨(.type "tuple"),none,(.seq #[sv "self" 753,sv "lead" 754,sv "word" 755,sv "foot" 756]),#[]⟩::aA::gA "set_word" "Setter.set_word" (aP 55 6)::au P 127::au P 128::aA::aR::⟨(.type "tuple"),none,(.seq #[sv "self" 763,sv "name" 764]),#[]⟩::aA::t
noncomputable def xp(P:JA)(t:List Obj):List Obj:=gA "next_foot" "Setter.next_foot" (aP 55 7)::au P 129::au P 130::aA::aR::gA "check_marks" "Setter.check_marks" (aP 55 8)::au P 131::au P 132::aA::aR::gA "words_told" "Setter.words_told" (aP 55 9)::au P 133::au P 134::aA::aR::⟨(.type "tuple"),none,(.seq #[sv "self" 783,sv "word" 784,sv "kind" 785,sv "rest" 786]),#[]⟩::t
noncomputable def xq(P:JA)(t:List Obj):List Obj:=aA::gA "saying_of" "Setter.saying_of" (aP 55 10)::au P 135::au P 136::aA::aR::⟨(.type "tuple"),none,(.seq #[sv "self" 793,sv "k" 794,sv "number" 795,sv "text" 796,sv "at" 797]),#[]⟩::aA::gA "number_at" "Setter.number_at" (aP 55 11)::au P 137::au P 138::au P 139::au P 140::au P 141::au P 142::au P 143::t
noncomputable def xr(P:JA)(t:List Obj):List Obj:=⟨(.type "super"),none,(.fields #[.ref 432,.ref 432,.ref 432]),#[]⟩::⟨(.type "builtin_function_or_method"),none,(.fields #[.builtin "object.__init_subclass__",.ref 432]),#[]⟩::t
noncomputable def A5(P:JA)(t:List Obj):List Obj:=aA::aR::⟨(.type "tuple"),none,(.seq #[sv "script" 823,sv "k" 824]),#[]⟩::aA::gA "_law_cell_at" "_law_cell_at" (top 57)::au P 144::au P 145::aA::aR::⟨(.type "tuple"),none,(.seq #[sv "cell" 831,sv "k" 832,sv "many" 833,sv "number" 834]),#[]⟩::aA::gA "_law_draw" "_law_draw" (top 58)::au P 146::au P 147::aA::aR::t
noncomputable def A6(P:JA)(t:List Obj):List Obj:=⟨(.type "tuple"),none,(.seq #[sv "found" 841,sv "due" 842,sv "k" 843]),#[]⟩::aA::gA "_law_alike" "_law_alike" (top 59)::au P 148::au P 149::aA::aR::⟨(.type "tuple"),none,(.seq #[sv "cell" 850,sv "k" 851,sv "some" 852]),#[]⟩::aA::gA "_law_sign_by" "_law_sign_by" (top 60)::au P 150::au P 151::aA::aR::⟨(.type "tuple"),none,(.seq #[sv "word" 859,sv "sign" 860]),#[]⟩::aA::t
noncomputable def A7(P:JA)(t:List Obj):List Obj:=gA "_law_is_name" "_law_is_name" (top 61)::au P 152::au P 153::aA::aR::⟨(.type "tuple"),none,(.seq #[sv "cell" 867,sv "wide" 868]),#[]⟩::aA::gA "_law_form" "_law_form" (top 62)::au P 154::au P 155::aA::aR::gA "_law_name" "_law_name" (top 63)::au P 156::au P 157::aA::t
noncomputable def A8(P:JA)(t:List Obj):List Obj:=aR::gA "_law_plain_by" "_law_plain_by" (top 64)::au P 158::au P 159::aA::aR::⟨(.type "tuple"),none,(.seq #[sv "kind" 887,sv "rest" 888]),#[]⟩::aA::gA "_law_written" "_law_written" (top 65)::au P 160::au P 161::aA::aR::⟨(.type "tuple"),none,(.seq #[sv "first" 895,sv "kind" 896,sv "cell" 897,sv "at" 898,sv "marks" 899,sv "feet" 900,sv "many" 901,sv "rest" 902]),#[]⟩::aA::gA "_law_word" "_law_word" (top 66)::t
noncomputable def A9(P:JA)(t:List Obj):List Obj:=au P 162::au P 163::aA::aR::⟨(.type "tuple"),none,(.seq #[sv "script" 909,sv "ways" 910,sv "kinds" 911,sv "rows" 912,sv "cell" 913,sv "way" 914,sv "kind" 915]),#[]⟩::aA::gA "_law_rows" "_law_rows" (top 67)::au P 164::au P 165::aA::aR::gA "_law_named" "_law_named" (top 68)::au P 166::au P 167::aA::aR::t
noncomputable def A_(P:JA)(t:List Obj):List Obj:=gA "_law_text" "_law_text" (top 69)::au P 168::au P 169::aA::aR::gA "_law_titles" "_law_titles" (top 70)::au P 170::au P 171::aA::aR::gA "_law_stream" "_law_stream" (top 71)::au P 172::au P 173::aA::aR::⟨(.type "tuple"),none,(.seq #[sv "stream" 946,sv "titles" 947,sv "heads" 948,sv "at" 949,sv "kind" 950,sv "rest" 951]),#[]⟩::t
noncomputable def Ba(P:JA)(t:List Obj):List Obj:=aA::gA "_law_heads" "_law_heads" (top 72)::au P 174::au P 175::aA::aR::gA "_law_leads" "_law_leads" (top 73)::au P 176::au P 177::aA::aR::⟨(.type "tuple"),none,(.seq #[sv "kind" 964,sv "rest" 965,sv "marks" 966,sv "heads" 967,sv "number" 968,sv "one" 969]),#[]⟩::aA::gA "_law_said" "_law_said" (top 74)::au P 178::au P 179::t
noncomputable def Bb(P:JA)(t:List Obj):List Obj:=aA::aR::⟨(.type "tuple"),none,(.seq #[sv "stream" 976,sv "marks" 977,sv "at" 978,sv "many" 979,sv "kind" 980,sv "rest" 981]),#[]⟩::aA::gA "_law_marked" "_law_marked" (top 75)::au P 180::au P 181::aA::aR::⟨(.type "tuple"),none,(.seq #[sv "found" 988,sv "form" 989,sv "word" 990]),#[]⟩::aA::gA "_law_shape" "_law_shape" (top 76)::au P 182::au P 183::aA::aR::t
noncomputable def Bc(P:JA)(t:List Obj):List Obj:=gA "_law_words" "_law_words" (top 77)::au P 184::au P 185::aA::aR::⟨(.type "tuple"),none,(.seq #[sv "rows" 1003,sv "first" 1004,sv "spaced" 1005,sv "k" 1006,sv "row" 1007,sv "ahead" 1008,sv "end" 1009]),#[]⟩::aA::gA "_law_spaced" "_law_spaced" (top 78)::au P 186::au P 187::aA::aR::gA "law" "law" (top 79)::au P 188::au P 189::t
noncomputable def zzhA(P:JA):Heap:=⟨⟨(oG P (boot_o_3 P) (za P) [])⟩,{}⟩
noncomputable def zzhB(P:JA):Heap:=⟨⟨(oG P (boot_o_3 P) (za P) [])⟩,{}⟩
noncomputable def zzh1(P:JA):Heap:=⟨⟨(oG P (E7 P) (D_ P) (ue P (Ec P) (uf P (ug P (uh P (ui P []))))))⟩,{}⟩
noncomputable def zzh2(P:JA):Heap:=⟨⟨(oG P (E8 P) (Ea P) (ue P (au P 5) (uf P (ug P (uh P (ui P (wJ P (wK P (wL P (wM P (uj P (uk P []))))))))))))⟩,{}⟩
noncomputable def zzh3(P:JA):Heap:=⟨⟨(oG P (Fa P) (Eb P) (ue P (au P 5) (uf P (ug P (uh P (ui P (wJ P (wK P (wL P (wM P (uj P (uk P (wZ P (w_ P (xa P (xb P (xc P (xf P (xg P (xh P (xi P (xj P (xk P (xm P (xn P (xo P (xp P (xq P (xr P [])))))))))))))))))))))))))))))⟩,{}⟩
noncomputable def zzh4(P:JA):Heap:=⟨⟨(oG P (au P 1) (zb P) (ue P (au P 5) (uf P (ug P (uh P (ui P (wJ P (wK P (wL P (wM P (uj P (uk P (wZ P (w_ P (xa P (xb P (xc P (xf P (xg P (xh P (xi P (xj P (xk P (xm P (xn P (xo P (xp P (xq P (xr P (A5 P (A6 P (A7 P (A8 P (A9 P (A_ P (Ba P (Bb P (Bc P []))))))))))))))))))))))))))))))))))))))⟩,{}⟩
noncomputable def zzhF(P:JA):Heap:=⟨⟨(oG P (au P 1) (zb P) (ue P (au P 5) (uf P (ug P (uh P (ui P (wJ P (wK P (wL P (wM P (uj P (uk P (wZ P (w_ P (xa P (xb P (xc P (xf P (xg P (xh P (xi P (xj P (xk P (xm P (xn P (xo P (xp P (xq P (xr P (A5 P (A6 P (A7 P (A8 P (A9 P (A_ P (Ba P (Bb P (Bc P []))))))))))))))))))))))))))))))))))))))⟩,{}⟩
noncomputable abbrev zzbE:List Stmt:=behindTheImports PySem.Challenge.pw_trueleaf_k62_whole_text_set
noncomputable abbrev zzev:Env:={ scope:=PySem.Challenge.pw_trueleaf_k62_whole_text_set.main.scope,locals:=mainNs,globals:=mainNs,cells:=[],code:=.ref 13,frame:=some 14 }
noncomputable abbrev zzcE:Code:=.body zzbE zzev
noncomputable abbrev zzbF:List Frame:=[topFrame (JM 0 0 0 0)]
set_option maxHeartbeats 0 in
theorem zzpreL(w:Jo)(os:J_):topGo JY PySem.Challenge.pw_trueleaf_k62_whole_text_set w 11 (some (.ref 6)) 12 ⟨boot_heap w.params,JZ [],boot_drawn,boot_toks,os⟩ (topStub PySem.Challenge.pw_trueleaf_k62_whole_text_set)=some (⟨zzhA w.params,JZ [],⟨0,0,0,0⟩,187,os⟩,⟨denote JY zzcE,zzcE,JM 0 0 0 0,zzbF⟩):=by kernel_rfl
set_option maxHeartbeats 0 in
theorem zzblkL(w:Jo)(os:J_):segRun JY PySem.Challenge.pw_trueleaf_k62_whole_text_set w 11 (some (.ref 6)) 1 1 ⟨zzhA w.params,JZ [],⟨0,0,0,0⟩,187,os⟩ (blockOf zzbE zzev zzcE (JM 0 0 0 0) zzbF)=some (.next,⟨zzhB w.params,JZ [],⟨0,0,0,0⟩,187,os⟩,zzcE,JM 0 0 0 0):=by kernel_rfl
set_option maxHeartbeats 0 in
theorem zzseg0(w:Jo)(os:J_):segRun JY PySem.Challenge.pw_trueleaf_k62_whole_text_set w 11 (some (.ref 6)) 1 1261 ⟨zzhB w.params,JZ [],⟨0,0,0,0⟩,187,os⟩ (piecesOf ((zzbE.drop 0).take 7) zzev zzcE (JM 0 0 0 0) zzbF)=some (.next,⟨zzh1 w.params,JZ [],⟨0,0,0,0⟩,287,os⟩,zzcE,JM 12 0 13 8):=by kernel_rfl
def zzsegP1(w:Jo):Prop:=∀os:J_,segRun JY PySem.Challenge.pw_trueleaf_k62_whole_text_set w 11 (some (.ref 6)) 1 1217 ⟨zzh1 w.params,JZ [],⟨0,0,0,0⟩,287,os⟩ (piecesOf ((zzbE.drop 7).take 21) zzev zzcE (JM 12 0 13 8) zzbF)=some (.next,⟨zzh2 w.params,JZ [],⟨0,0,0,0⟩,436,os⟩,zzcE,JM 74 0 81 15)
set_option maxHeartbeats 0 in
theorem zzsegF1(w:Jo):zzsegP1 (w.withFollow "special-get-raises" false):=λos=>by kernel_rfl
set_option maxHeartbeats 0 in
theorem zzsegT1(w:Jo):zzsegP1 (w.withFollow "special-get-raises" true):=λos=>by kernel_rfl
theorem zzseg1(w:Jo)(os:J_):segRun JY PySem.Challenge.pw_trueleaf_k62_whole_text_set w 11 (some (.ref 6)) 1 1217 ⟨zzh1 w.params,JZ [],⟨0,0,0,0⟩,287,os⟩ (piecesOf ((zzbE.drop 7).take 21) zzev zzcE (JM 12 0 13 8) zzbF)=some (.next,⟨zzh2 w.params,JZ [],⟨0,0,0,0⟩,436,os⟩,zzcE,JM 74 0 81 15):=byRow2 "special-get-raises" (P:=zzsegP1) zzsegF1 zzsegT1 w os
def zzsegP2(w:Jo):Prop:=∀os:J_,segRun JY PySem.Challenge.pw_trueleaf_k62_whole_text_set w 11 (some (.ref 6)) 1 1621 ⟨zzh2 w.params,JZ [],⟨0,0,0,0⟩,436,os⟩ (piecesOf ((zzbE.drop 28).take 28) zzev zzcE (JM 74 0 81 15) zzbF)=some (.next,⟨zzh3 w.params,JZ [],⟨0,0,0,0⟩,818,os⟩,zzcE,JM 255 0 358 21)
set_option maxHeartbeats 0 in
theorem zzsegF2(w:Jo):zzsegP2 (w.withFollow "special-get-raises" false):=λos=>by kernel_rfl
set_option maxHeartbeats 0 in
theorem zzsegT2(w:Jo):zzsegP2 (w.withFollow "special-get-raises" true):=λos=>by kernel_rfl
theorem zzseg2(w:Jo)(os:J_):segRun JY PySem.Challenge.pw_trueleaf_k62_whole_text_set w 11 (some (.ref 6)) 1 1621 ⟨zzh2 w.params,JZ [],⟨0,0,0,0⟩,436,os⟩ (piecesOf ((zzbE.drop 28).take 28) zzev zzcE (JM 74 0 81 15) zzbF)=some (.next,⟨zzh3 w.params,JZ [],⟨0,0,0,0⟩,818,os⟩,zzcE,JM 255 0 358 21):=byRow2 "special-get-raises" (P:=zzsegP2) zzsegF2 zzsegT2 w os
set_option maxHeartbeats 0 in
theorem zzseg3(w:Jo)(os:J_):segRun JY PySem.Challenge.pw_trueleaf_k62_whole_text_set w 11 (some (.ref 6)) 1 697 ⟨zzh3 w.params,JZ [],⟨0,0,0,0⟩,818,os⟩ (piecesOf ((zzbE.drop 56).take 24) zzev zzcE (JM 255 0 358 21) zzbF)=some (.next,⟨zzh4 w.params,JZ [],⟨0,0,0,0⟩,1019,os⟩,zzcE,JM 600 0 628 71):=by kernel_rfl
set_option maxHeartbeats 0 in
theorem zzfinL(w:Jo)(os:J_):topRun JY PySem.Challenge.pw_trueleaf_k62_whole_text_set w 11 (some (.ref 6)) 2 ⟨zzh4 w.params,JZ [],⟨0,0,0,0⟩,1019,os⟩ ⟨doneF .next,zzcE,JM 600 0 628 71,zzbF⟩=some ⟨zzhF w.params,JZ [],⟨0,0,0,0⟩,1019,os⟩:=by kernel_rfl
set_option maxHeartbeats 0 in
theorem zzbodyE:zzbE=(((zzbE.drop 0).take 7)++(((zzbE.drop 7).take 21)++(((zzbE.drop 28).take 28)++(((zzbE.drop 56).take 24)++[])))):=by kernel_rfl
theorem zzrunL(w:Jo)(os:J_):topRun JY PySem.Challenge.pw_trueleaf_k62_whole_text_set w 11 (some (.ref 6)) (12+(1+(1261+(1217+(1621+(697+2)))))) ⟨boot_heap w.params,JZ [],boot_drawn,boot_toks,os⟩ (topStub PySem.Challenge.pw_trueleaf_k62_whole_text_set)=some ⟨zzhF w.params,JZ [],⟨0,0,0,0⟩,1019,os⟩:=by
 have k0:topRun JY PySem.Challenge.pw_trueleaf_k62_whole_text_set w 11 (some (.ref 6)) (1261+(1217+(1621+(697+2)))) ⟨zzhB w.params,JZ [],⟨0,0,0,0⟩,187,os⟩ (restOf (((zzbE.drop 0).take 7)++(((zzbE.drop 7).take 21)++(((zzbE.drop 28).take 28)++(((zzbE.drop 56).take 24)++[])))) zzev zzcE (JM 0 0 0 0) zzbF)=some ⟨zzhF w.params,JZ [],⟨0,0,0,0⟩,1019,os⟩:=piece_app (zzseg0 w os) (piece_app (zzseg1 w os) (piece_app (zzseg2 w os) (piece_app (zzseg3 w os) (piece_nil (env:=zzev) (q:=JM 0 0 0 0) (zzfinL w os)))));have k1:topRun JY PySem.Challenge.pw_trueleaf_k62_whole_text_set w 11 (some (.ref 6)) (1261+(1217+(1621+(697+2)))) ⟨zzhB w.params,JZ [],⟨0,0,0,0⟩,187,os⟩ (restOf zzbE zzev zzcE (JM 0 0 0 0) zzbF)=some ⟨zzhF w.params,JZ [],⟨0,0,0,0⟩,1019,os⟩:=(congrArg (λb=>topRun JY PySem.Challenge.pw_trueleaf_k62_whole_text_set w 11 (some (.ref 6)) (1261+(1217+(1621+(697+2)))) ⟨zzhB w.params,JZ [],⟨0,0,0,0⟩,187,os⟩ (restOf b zzev zzcE (JM 0 0 0 0) zzbF)) zzbodyE).trans k0;exact go_top (zzpreL w os) (piece_block (zzblkL w os) k1)
set_option maxHeartbeats 0 in
theorem zzopE:opening PySem.Challenge.pw_trueleaf_k62_whole_text_set=plainProg PySem.Challenge.pw_trueleaf_k62_whole_text_set.main.scope.names:=by kernel_rfl
set_option maxHeartbeats 0 in
theorem GS(w:Jo):((boot_heap w.params).isNs Jt&&(JZ []:Array Ni).size==0,(boot_heap w.params).objs.size,(boot_heap w.params).nsMap Jt "__annotations__")=(true,11,some (.ref 6)):=by kernel_rfl
set_option maxHeartbeats 0 in
theorem zzlkA(w:Jo)(os:J_):staticsOk (L9 PySem.Challenge.pw_trueleaf_k62_whole_text_set.main.body) (boot_heap w.params) (zzhF w.params)=true:=by kernel_rfl
set_option maxHeartbeats 0 in
theorem zzlkB(w:Jo)(os:J_):namesBound PySem.Challenge.pw_trueleaf_k62_whole_text_set (zzhF w.params)=true:=by kernel_rfl
set_option maxHeartbeats 0 in
theorem zzlkC(w:Jo)(os:J_):gensDone (⟨zzhF w.params,JZ [],⟨0,0,0,0⟩,1019,os⟩)=true:=by kernel_rfl
set_option maxHeartbeats 0 in
theorem zzlkD(w:Jo)(os:J_):laidKept (boot_heap w.params) (zzhF w.params)=true:=by kernel_rfl
noncomputable abbrev zzzF(w:Jo)(os:J_):IG:=⟨zzhF w.params,JZ [],⟨0,0,0,0⟩,1019,os⟩
set_option maxHeartbeats 0 in
theorem zzlc0(w:Jo)(os:J_):seen ((recsOf vw).map (·.name)) (ownsOf vw) [] { zzzF w os with gens:=#[] }=expectedOf vw:=by kernel_rfl
set_option maxHeartbeats 0 in
theorem zzlc1(w:Jo)(os:J_):(zzzF w os).heap.bltView=bltViewBooted:=by kernel_rfl
set_option maxHeartbeats 0 in
theorem zzlc2(w:Jo)(os:J_):((zzzF w os).heap.keysOk (looseW vw ls) ((recsOf vw).map (·.name)) ((litsOf vw).map (·.1)) ((clssOf vw (looseW vw ls)).map (·.name))&&(zzzF w os).heap.accountedOkI (L9 PySem.Challenge.pw_trueleaf_k62_whole_text_set.main.body)&&(zzzF w os).heap.isNs Jt&&(zzzF w os).heap.isNs Nf&&tablesOk vw (zzzF w os).heap&&xt (zzzF w os)&&(if true=true then(zzzF w os).gens.size==0 else !leftWithCleanup (zzzF w os).gens))=true:=by kernel_rfl
set_option maxHeartbeats 0 in
theorem zzlc3(w:Jo)(os:J_):tabsOk vw (zzzF w os)=true:=by kernel_rfl
set_option maxHeartbeats 0 in
theorem zzlc4(w:Jo)(os:J_):pinSeenD vw (drecsOf vw) (zzzF w os)=pinGoodD (drecsOf vw):=by kernel_rfl
set_option maxHeartbeats 0 in
theorem zzlc5(w:Jo)(os:J_):plainSeenE vw (looseW vw ls) (zzzF w os)=plainGoodE vw (looseW vw ls):=by kernel_rfl
set_option maxHeartbeats 0 in
theorem zzlc6(w:Jo)(os:J_):plainSeenD vw ls (zzzF w os)=plainGoodD vw ls:=by kernel_rfl
set_option maxHeartbeats 0 in
theorem zzlc7(w:Jo)(os:J_):wideSeen vw (zzzF w os)=wideGood vw:=by kernel_rfl
set_option maxHeartbeats 0 in
theorem zzlc8(w:Jo)(os:J_):clsSeenW vw ls (zzzF w os)=clsGoodW vw ls:=by kernel_rfl
theorem zzmk9{A B C D E F G H I:Type}{a a':A}{b b':B}{c c':C}{d d':D}{e e':E}{f f':F}{g g':G}{h h':H}{i i':I}(zzh0:a=a')(zzh1:b=b')(zzh2:c=c')(zzh3:d=d')(zzh4:e=e')(zzh5:f=f')(zzh6:g=g')(zzh7:h=h')(zzh8:i=i'):(a,b,c,d,e,f,g,h,i)=(a',b',c',d',e',f',g',h',i'):=by
 subst zzh0 zzh1 zzh2 zzh3 zzh4 zzh5 zzh6 zzh7 zzh8;rfl
theorem zzlkO(w:Jo)(os:J_):openSeen vw ls (L9 PySem.Challenge.pw_trueleaf_k62_whole_text_set.main.body) xt true (zzzF w os)=openGood vw ls:=zzmk9 (zzlc0 w os) (zzlc1 w os) (zzlc2 w os) (zzlc3 w os) (zzlc4 w os) (zzlc5 w os) (zzlc6 w os) (zzlc7 w os) (zzlc8 w os)
set_option maxHeartbeats 0 in
theorem GT(w:Jo)(os:J_):Hook.obs hk (⟨zzhF w.params,JZ [],⟨0,0,0,0⟩,1019,os⟩)=Hook.val hk w:=by kernel_rfl
theorem zzlkP(w:Jo)(os:J_):(staticsOk (L9 PySem.Challenge.pw_trueleaf_k62_whole_text_set.main.body) (boot_heap w.params) (zzhF w.params)&&namesBound PySem.Challenge.pw_trueleaf_k62_whole_text_set (zzhF w.params)&&gensDone (⟨zzhF w.params,JZ [],⟨0,0,0,0⟩,1019,os⟩)&&laidKept (boot_heap w.params) (zzhF w.params))=true:=by rw[zzlkA w os,zzlkB w os,zzlkC w os,zzlkD w os];rfl
theorem left:LeftO PySem.Challenge.pw_trueleaf_k62_whole_text_set vw ls xt (Hook.obs hk) (Hook.val hk) 9710:=
 LeftO.of_pieces (boot_open zzopE (by decide) (λs=>rfl)) GS zzrunL (by decide) λw=>funext λos=>Prod.ext (zzlkP w os) (Prod.ext (zzlkO w os) (GT w os))

end K62
set_option maxHeartbeats 4000000
namespace L2
open PySem PySem.Spec PyProof.Rows

abbrev Key:=Sum Int Str
def mO:Key->IE->Bool
 |.inl k,v=>Value.isInt k v
 |.inr x,v=>Value.isStrOf x v
def Fb(w:Jo):Key->Int
 |.inl k=>hashInt k
 |.inr x=>hashStr w x
theorem dC:∀{k:Key}{v:IE},mO k v=true->(∃i t,k=M7 i/\v=LB i t)\/(∃x t,k=Lq x/\v=KD x t)
 |.inl i,v,h=>by
  obtain⟨t,e⟩:=Value.isInt_shape (k:=i) (v:=v) h;exact .inl ⟨i,t,rfl,e⟩
 |.inr x,v,h=>by
  obtain⟨t,e⟩:=Value.isStrOf_shape (x:=x) (v:=v) h;exact .inr ⟨x,t,rfl,e⟩
theorem Be(i:Int)(t:Tok):mO (.inl i) (.int i t)=true:=by simp[mO,Value.isInt]
theorem Bf(x:Str)(t:Tok):mO (.inr x) (.str x t)=true:=by simp[mO,Value.isStrOf]
theorem Fc(a b:Int):decide ((M7 a:Key)=M7 b)=(a==b):=by
 by_cases e:a=b
 .subst e;simp
 .have h:¬ (M7 a:Key)=M7 b:=λq=>e (Sum.inl.inj q);rw[decide_eq_false h];exact(beq_eq_false_iff_ne.mpr e).symm
theorem Fd(a b:Str):decide ((Lq a:Key)=Lq b)=decide (a=b):=by
 by_cases e:a=b
 .subst e;simp
 .have h:¬ (Lq a:Key)=Lq b:=λq=>e (Sum.inr.inj q);rw[decide_eq_false h,decide_eq_false e]
theorem Fe(a:Int)(b:Str):decide ((M7 a:Key)=Lq b)=false:=decide_eq_false (λq=>nomatch q)
theorem Ff(a:Str)(b:Int):decide ((Lq a:Key)=M7 b)=false:=decide_eq_false (λq=>nomatch q)

def bR(prog:Jk)(w:Jo):PySem.KeyKind prog w Key where
 is:=mO
 hash:=Fb w
 inj:=λv a b ha hb=>by
  rcases dC ha with⟨i,t,rfl,rfl⟩|⟨x,t,rfl,rfl⟩
  .rcases dC hb with⟨j,u,rfl,e⟩|⟨y,u,rfl,e⟩
   .injection e with e1 _;rw[e1]
   .exact nomatch e
  .rcases dC hb with⟨j,u,rfl,e⟩|⟨y,u,rfl,e⟩
   .exact nomatch e
   .injection e with e1 _;rw[e1]
 byValue:=λk v h=>by
  rcases dC h with⟨i,t,rfl,rfl⟩|⟨x,t,rfl,rfl⟩<;>rfl
 pyHash:=λhv h=>by
  rcases dC hv with⟨i,t,rfl,rfl⟩|⟨x,t,rfl,rfl⟩
  .exact wpAny_pyHash_int h
  .exact wpAny_pyHash_str h
 eqBool:=λhu hv h=>by
  rcases dC hu with⟨i,t,rfl,rfl⟩|⟨x,t,rfl,rfl⟩
  .rcases dC hv with⟨j,u,rfl,rfl⟩|⟨y,u,rfl,rfl⟩
   .rw[Fc]at h;exact wpAny_eqBool_int h
   .rw[Fe]at h;exact SeqAt.EqAt.int_str i t y u _ _ _ _ h
  .rcases dC hv with⟨j,u,rfl,rfl⟩|⟨y,u,rfl,rfl⟩
   .rw[Ff]at h;exact SeqAt.EqAt.str_int x t j u _ _ _ _ h
   .rw[Fd]at h;exact wpAny_eqBool_str h
 «strs»:=λk x t v h=>by
  rcases dC h with⟨i,u,rfl,e⟩|⟨y,u,rfl,e⟩
  .exact nomatch e
  .injection e with e1 _;subst e1;cases v<;>rfl

theorem yN(prog:Jk)(w:Jo)(i:Int)(t:Tok):(bR prog w).is (.inl i) (.int i t)=true:=Be i t
theorem yO(prog:Jk)(w:Jo)(x:Str)(t:Tok):(bR prog w).is (.inr x) (.str x t)=true:=Bf x t

inductive V where
 |non|bl (b:Bool)|int (i:Int)|str (x:Str)|byt (b:Array UInt8)|flt (b:UInt64)|ref (a:Addr)|ty (n:String)
 deriving DecidableEq

def bx:V->IE->Prop
 |.non,u=>u=Lv
 |.bl b,u=>u=MK b
 |.int i,u=>∃t,u=LB i t
 |.str x,u=>∃t,u=KD x t
 |.byt b,u=>∃t,u=Value.bytes b t
 |.flt b,u=>∃t,u=Nt b t
 |.ref a,u=>u=JE a
 |.ty n,u=>u=Lf n

abbrev bo:List V->List IE->Prop:=Paired bx
theorem bo.length{xs:List V}{us:List IE}(r:bo xs us):xs.length=us.length:=Paired.length r
theorem bo.get:∀{xs:List V}{us:List IE}{i:Nat}{x:V},bo xs us->xs[i]?=some x->∃u,us[i]?=some u/\bx x u
 |_,_,_,_,.nil,e=>by simp at e
 |_,_,0,_,.cons r _,e=>by simp at e;subst e;exact⟨_,rfl,r⟩
 |_,_,i+1,x,.cons _ t,e=>by
  obtain⟨u,h1,h2⟩:=bo.get (i:=i) (x:=x) t (by simpa using e);exact⟨u,by simpa using h1,h2⟩
theorem bo.set{x:V}{u:IE}(r:bx x u):∀{xs:List V}{us:List IE}(i:Nat),bo xs us->bo (xs.set i x) (us.set i u)
 |_,_,_,.nil=>.nil
 |_,_,0,.cons _ t=>.cons r t
 |_,_,i+1,.cons q t=>.cons q (bo.set r i t)
theorem bo.append:∀{xs ys:List V}{us ws:List IE},bo xs us->bo ys ws->bo (xs++ys) (us++ws)
 |_,_,_,_,.nil,s=>s
 |_,_,_,_,.cons r t,s=>.cons r (bo.append t s)
theorem bo.take:∀{xs:List V}{us:List IE}(n:Nat),bo xs us->bo (xs.take n) (us.take n)
 |_,_,0,_=>.nil
 |_,_,_+1,.nil=>.nil
 |_,_,n+1,.cons r t=>.cons r (bo.take n t)
theorem bo.drop:∀{xs:List V}{us:List IE}(n:Nat),bo xs us->bo (xs.drop n) (us.drop n)
 |_,_,0,r=>r
 |_,_,_+1,.nil=>.nil
 |_,_,n+1,.cons _ t=>bo.drop n t
def il:Option V->Option IE->Prop
 |some v,some u=>bx v u
 |none,none=>True
 |_,_=>False
def KV{κ:Type}:List (κ×V)->List (κ×IE)->Prop:=Paired λ(p:κ×V)(q:κ×IE)=>p.1=q.1/\bx p.2 q.2

def kV:Key->V
 |.inl i=>.int i
 |.inr x=>.str x

inductive HO where
  |lst (xs:List V)
  |tup (xs:List V)
  |dK (kvs:List (Key×V))|dT (kvs:List (List Key×V))
  |set (S:Int->Bool) (n:Nat)
  |ins (C dx:Addr) (fs:List (Str×V))
  |own (x:Addr)
  |xd (fs:List (Str×V))
  |met (f x:Addr)
  |rng (lo hi:Int)
  |frz (o:Obj) (u:HO)
  |tbl (ps:Array IE)
  |ext (φ:Heap->Prop)

abbrev Hp:=Addr->Option HO
def upd(H:Hp)(a:Addr)(o:HO):Hp:=λb=>if b=a then some o else H b
theorem ah{H:Hp}{a:Addr}{o:HO}:upd H a o a=some o:=by unfold upd;rw[if_pos rfl]
theorem aq{H:Hp}{a b:Addr}{o:HO}(h:b≠a):upd H a o b=H b:=by unfold upd;rw[if_neg h]
theorem GU{H:Hp}{a b:Addr}{o u:HO}(h:H a=some o)(h':H b=some u)(d:o≠u):a≠b:=by
 intro e;subst e;rw[h]at h';exact d (Jy h')
theorem cH{H:Hp}{a b:Addr}{o:HO}(h:H a=some o)(h':H b=none):a≠b:=by
 intro e;subst e;rw[h]at h';cases h'

section
variable (P:Jk)(w:Jo)
def cw(H:Hp)(h:Heap)(a:Addr):HO->Prop
 |.lst xs=>xs.length<=I0/\∃(its:List IE)(n:Nat),bo xs its/\h.get? a=some { cls:=.type "list",data:=.seq its.toArray n }
 |.tup xs=>xs.length<=I0/\∃its:List IE,bo xs its/\IsTup h a its.toArray
 |.dK kvs=>kvs.length<=I0/\(a==Kn)=false/\∃vs,KV kvs vs/\h.DictOf (bR P w) a vs
 |.dT kvs=>kvs.length<=I0/\(a==Kn)=false/\∃xs:List (List Key×Addr×IE),
   Paired (λ(p:List Key×V)(q:List Key×Addr×IE)=>p.1=q.1/\H q.2.1=some (.tup (p.1.map kV))/\bx p.2 q.2.2) kvs xs/\
   ∃o es ep,h.get? a=some o/\o.ExactDict/\o.data=.dict es ep/\es.toList=xs.map (entryOfKey (M8 (bR P w)))/\(xs.map (·.1)).Nodup
 |.set S n=>h.SetOf (intKind P w) a S n
 |.ins C dx fs=>H dx=some (.own a)/\fs.length<=1000/\dx≠a/\h.get? a=some (Kz C dx)/\
   ∃mA,h.Ns1 dx mA/\(∀f,il (fs.lookup f) (mA f))/\Nj mA (fs.map (·.1))
 |.own _=>∃o,h.get? a=some o
 |.xd fs=>∃mA,h.Ns1 a mA/\∀f,il (fs.lookup f) (mA f)
 |.rng lo hi=>∃t u v,h.get? a=some { cls:=.type "range",data:=.fields #[.int lo t,.int hi u,.int 1 v] }
 |.frz o u=>h.get? a=some o/\cw H h a u
 |.tbl ps=>h.get? a=some { cls:=.none,data:=.fields ps }
 |.met f x=>h.get? a=some (Mx (.ref f) (.ref x))
 |.ext φ=>φ h/\(∃o,h.get? a=some o)/\∀h1 h2:Heap,φ h1->(∀o,h1.get? a=some o->h2.get? a=some o)->φ h2
def HOk(H:Hp)(h:Heap):Prop:=∀a o,H a=some o->cw P w H h a o
end

section
variable {P:Jk}{w:Jo}{H H':Hp}{h h':Heap}{a:Addr}{o:HO}
theorem cw.lt(x:cw P w H h a o):a<h.objs.size:=by
 cases o with
 |lst xs=>obtain⟨_,_,_,_,e⟩:=x;exact IS e
 |tup xs=>obtain⟨_,_,_,p⟩:=x;exact p.lt
 |dK kvs=>obtain⟨_,_,_,_,o,_,_,e,_⟩:=x;exact IS e
 |dT kvs=>obtain⟨_,_,_,_,o,_,_,e,_⟩:=x;exact IS e
 |set S n=>obtain⟨o,_,_,_,e,_⟩:=x;exact IS e
 |ins C dx fs=>obtain⟨_,_,_,e,_⟩:=x;exact IS e
 |own y=>obtain⟨_,e⟩:=x;exact IS e
 |xd fs=>obtain⟨_,⟨_,_,_,e,_⟩,_⟩:=x;exact IS e
 |rng lo hi=>obtain⟨_,_,_,e⟩:=x;exact IS e
 |frz ob u=>obtain⟨e,_⟩:=x;exact IS e
 |tbl ps=>exact IS (show h.get? a=some _ from x)
 |met f y=>exact IS (show h.get? a=some _ from x)
 |ext φ=>obtain⟨_,⟨_,e⟩,_⟩:=x;exact IS e
theorem Paired.mapP{α β:Type}{F G:α->β->Prop}:∀{l₁:List α}{l₂:List β},Paired F l₁ l₂->(∀a b,F a b->G a b)->Paired G l₁ l₂
 |_,_,.nil,_=>.nil
 |_,_,.cons r t,f=>.cons (f _ _ r) (Paired.mapP t f)
theorem cw.stay(x:cw P w H h a o)(k:∀b u,(b=a\/H b=some (.own a))->h.get? b=some u->h'.get? b=some u)
  (ho:∀b,H b=some (.own a)->H' b=some (.own a))(ht:∀b xs,H b=some (.tup xs)->H' b=some (.tup xs)):cw P w H' h' a o:=by
 induction o with
 |lst xs=>obtain⟨z,its,n,r,e⟩:=x;exact⟨z,its,n,r,k _ _ (.inl rfl) e⟩
 |tup xs=>obtain⟨z,its,r,ob,e,c⟩:=x;exact⟨z,its,r,ob,k _ _ (.inl rfl) e,c⟩
 |dK kvs=>obtain⟨z,y,vs,r,ob,es,ep,e,c⟩:=x;exact⟨z,y,vs,r,ob,es,ep,k _ _ (.inl rfl) e,c⟩
 |dT kvs =>
  obtain⟨z,y,xs,r,ob,es,ep,e,c⟩:=x;exact⟨z,y,xs,Paired.mapP r λp q z=>⟨z.1,ht _ _ z.2.1,z.2.2⟩,ob,es,ep,k _ _ (.inl rfl) e,c⟩
 |set S n=>obtain⟨ob,es,ep,t,e,c⟩:=x;exact⟨ob,es,ep,t,k _ _ (.inl rfl) e,c⟩
 |ins C dx fs =>
  obtain⟨d,z,ne,e,mA,⟨od,es,ep,e2,c⟩,r⟩:=x;exact⟨ho _ d,z,ne,k _ _ (.inl rfl) e,mA,⟨od,es,ep,k _ _ (.inr d) e2,c⟩,r⟩
 |own y=>obtain⟨ob,e⟩:=x;exact⟨ob,k _ _ (.inl rfl) e⟩
 |xd fs=>obtain⟨mA,⟨od,es,ep,e,c⟩,r⟩:=x;exact⟨mA,⟨od,es,ep,k _ _ (.inl rfl) e,c⟩,r⟩
 |rng lo hi=>obtain⟨t,u,v,e⟩:=x;exact⟨t,u,v,k _ _ (.inl rfl) e⟩
 |frz ob u ih=>obtain⟨e,q⟩:=x;exact⟨k _ _ (.inl rfl) e,ih q⟩
 |tbl ps =>
  have e:h.get? a=some { cls:=.none,data:=.fields ps }:=x;show h'.get? a=some { cls:=.none,data:=.fields ps };exact k a _ (.inl rfl) e
 |met f y =>
  have e:h.get? a=some (Mx (.ref f) (.ref y)):=x;show h'.get? a=some (Mx (.ref f) (.ref y));exact k a _ (.inl rfl) e
 |ext φ=>obtain⟨p,⟨o,e⟩,st⟩:=x;exact⟨st _ _ p λo q=>k _ _ (.inl rfl) q,⟨o,k _ _ (.inl rfl) e⟩,st⟩
theorem HOk.lt(x:HOk P w H h)(e:H a=some o):a<h.objs.size:=(x a o e).lt
theorem HOk.fresh(x:HOk P w H h)(e:h.objs.size<=a):H a=none:=by
 cases q:H a with
 |none=>rfl
 |some u=>exact absurd (Jl (x.lt q) e) (J7 _)
theorem HOk.kept(x:HOk P w H h)(k:∀b u,h.get? b=some u->h'.get? b=some u):HOk P w H h':=λa o e =>
 (x a o e).stay (λb u _ q=>k b u q) (λ_ q=>q) λ_ _ q=>q
theorem HOk.laid(x:HOk P w H h)(k:∀b u,h.get? b=some u->h'.get? b=some u)(hp:h.objs.size<=a)(new:cw P w (upd H a o) h' a o):HOk P w (upd H a o) h':=λb u e=>by
 have hn:=x.fresh hp;by_cases hb:b=a
 .subst hb;rw[ah]at e;cases e;exact new
 .rw[aq hb]at e;exact(x b u e).stay (λc v _ q=>k c v q) (λc q=>by rw[aq (cH q hn)];exact q) λc xs q=>by rw[aq (cH q hn)];exact q
end

def Rd(H:Hp)(a:Addr)(u:HO):Prop:=H a=some u\/∃o,H a=some (.frz o u)
theorem Rd.ok{P:Jk}{w:Jo}{H:Hp}{h:Heap}{a:Addr}{u:HO}(r:Rd H a u)(x:HOk P w H h):cw P w H h a u:=by
 rcases r with r|⟨o,r⟩
 .exact x a u r
 .obtain⟨_,q⟩:=x a _ r;exact q
def Mut:Option HO->Prop
 |some (.lst _)=>True
 |some (.dK _)=>True
 |some (.dT _)=>True
 |some (.set _ _)=>True
 |some (.ins _ _ _)=>True
 |some (.ext _)=>True
 |_=>False
section
variable {P:Jk}{w:Jo}{H:Hp}{h h':Heap}{x e:Addr}{o':HO}
theorem HOk.write(ok:HOk P w H h)(mu:Mut (H x))(he:e=x\/H e=some (.own x))(k:∀b u,b≠e->h.get? b=some u->h'.get? b=some u)(heo:∃u,h'.get? e=some u)
  (new:cw P w (upd H x o') h' x o'):HOk P w (upd H x o') h':=λb u q=>by
 have nown:∀c y,H c=some (.own y)->c≠x:=λc y r z=>by subst z;rw[r]at mu;exact mu
 have ntup:∀c xs,H c=some (.tup xs)->c≠x:=λc xs r z=>by subst z;rw[r]at mu;exact mu
 by_cases hb:b=x
 .subst hb;rw[ah]at q;cases q;exact new
 .rw[aq hb]at q;by_cases hbe:b=e
  .have q':H b=some (.own x):=by
    rcases he with z|z
    .exact absurd (hbe.trans z) hb
    .rw[hbe];exact z
   rw[q]at q';cases q';obtain⟨v,hv⟩:=heo;exact⟨v,by rw[hbe];exact hv⟩
  .refine(ok b u q).stay (λc v hc r=>k c v ?_ r) (λc r=>by rw[aq (nown c b r)];exact r) λc xs r=>by rw[aq (ntup c xs r)];exact r
   rcases hc with rfl|hc
   .exact hbe
   .rintro rfl;rcases he with z|z
    .exact nown c b hc z
    .rw[hc]at z;cases z;exact hb rfl
end

structure Un(fs ex:List Addr)(H H':Hp)(h h':Heap):Prop where
 keep:∀b o,h.get? b=some o->H b=none->b∉fs->b∉ex->h'.get? b=some o
 slot:∀b o,h.get? b=some o->H b=none->b∈fs->b∉ex->∃sl,h'.get? b=some { o with slots:=sl }
 free:∀b o,h.get? b=some o->H b=none->b∉ex->H' b=none
 there:∀b o,h.get? b=some o->b∉ex->∃o',h'.get? b=some o'
 tups:∀b xs,H b=some (.tup xs)->H' b=some (.tup xs)
 frzs:∀b o u,H b=some (.frz o u)->H' b=some (.frz o u)
 tbls:∀b ps,H b=some (.tbl ps)->∃more,H' b=some (.tbl (ps++more))
section
variable {fs fs' ex ex':List Addr}{H H1 H2:Hp}{h h1 h2 h':Heap}{a x e:Addr}{o:HO}
theorem Un.any(u:Un fs ex H H1 h h1){b:Addr}{ob:Obj}(q:h.get? b=some ob)(n:H b=none)(hx:b∉ex):∃sl,h1.get? b=some { ob with slots:=sl }:=by
 by_cases hb:b∈fs
 .exact u.slot b ob q n hb hx
 .exact⟨ob.slots,u.keep b ob q n hb hx⟩
theorem Un.trans(a:Un fs ex H H1 h h1)(b:Un fs ex H1 H2 h1 h2):Un fs ex H H2 h h2 where
 keep:=λc ob q n hc hx=>b.keep c ob (a.keep c ob q n hc hx) (a.free c ob q n hx) hc hx
 slot:=λc ob q n hc hx=>by
  obtain⟨sl,e1⟩:=a.slot c ob q n hc hx;obtain⟨sl',e2⟩:=b.slot c _ e1 (a.free c ob q n hx) hc hx;exact⟨sl',e2⟩
 free:=λc ob q n hx=>by
  obtain⟨o',e1⟩:=a.there c ob q hx;exact b.free c o' e1 (a.free c ob q n hx) hx
 there:=λc ob q hx=>by
  obtain⟨o',e1⟩:=a.there c ob q hx;exact b.there c o' e1 hx
 tups:=λc xs q=>b.tups c xs (a.tups c xs q)
 frzs:=λc ob xs q=>b.frzs c ob xs (a.frzs c ob xs q)
 tbls:=λc ps q=>by
  obtain⟨m1,e1⟩:=a.tbls c ps q;obtain⟨m2,e2⟩:=b.tbls c _ e1;exact⟨m1++m2,by rw[e2,Mo]⟩
theorem Un.kept(k:∀b u,h.get? b=some u->h'.get? b=some u):Un fs ex H H h h':=
 ⟨λb ob q _ _ _=>k b ob q,λb ob q _ _ _=>⟨ob.slots,k b ob q⟩,λ_ _ _ n _=>n,λb ob q _=>⟨ob,k b ob q⟩,λ_ _ q=>q,λ_ _ _ q=>q,λ_ ps q=>⟨#[],by rw[q];simp⟩⟩
theorem Un.refl:Un fs ex H H h h:=Un.kept λ_ _ q=>q
theorem Un.laid(k:∀b u,h.get? b=some u->h'.get? b=some u)(hp:h.objs.size<=a)(hn:H a=none):Un fs ex H (upd H a o) h h' where
 keep:=λb u q _ _ _=>k b u q
 slot:=λb u q _ _ _=>⟨u.slots,k b u q⟩
 free:=λb u q n _=>by rw[aq (Jd (Jl (IS q) hp))];exact n
 there:=λb u q _=>⟨u,k b u q⟩
 tups:=λb xs q=>by rw[aq (cH q hn)];exact q
 frzs:=λb u xs q=>by rw[aq (cH q hn)];exact q
 tbls:=λb ps q=>⟨#[],by rw[aq (cH q hn),q];simp⟩
theorem Un.write(mu:Mut (H x))(he:e=x\/H e=some (.own x))(k:∀b u,b≠e->h.get? b=some u->h'.get? b=some u)(heo:∃u,h'.get? e=some u):Un fs ex H (upd H x o) h h':=by
 have hx:∀b,H b=none->b≠x:=λb n z=>by subst z;rw[n]at mu;exact mu
 have hb:∀b,H b=none->b≠e:=λb n z=>by
  subst z;rcases he with r|r
  .exact hx b n r
  .rw[n]at r;cases r
 have hm:∀b u,H b=some u->¬ Mut (some u)->b≠x:=λb u q nm z=>by subst z;rw[q]at mu;exact nm mu
 refine⟨λb u q n _ _=>k b u (hb b n) q,λb u q n _ _=>⟨u.slots,k b u (hb b n) q⟩,λb u q n _=>by rw[aq (hx b n)];exact n,λb u q _=>?_,
  λb xs q=>by rw[aq (hm b _ q λz=>z)];exact q,λb u xs q=>by rw[aq (hm b _ q λz=>z)];exact q,λb ps q=>⟨#[],by rw[aq (hm b _ q λz=>z),q];simp⟩⟩
 by_cases hbe:b=e
 .subst hbe;exact heo
 .exact⟨u,k b u hbe q⟩
end

def trk(h:Heap)(H:Hp):List Addr:=(Kj h.objs.size).filter λa=>(H a).isSome
def oH(h:Heap)(H:Hp):Heap:=Lr h (trk h H)
theorem Bg(h:Heap)(H:Hp):(oH h H).objs.size=h.objs.size:=PySem.W.hideAll_size _ _
theorem CG{h:Heap}{H:Hp}{b:Addr}{o:Obj}(e:h.get? b=some o)(n:H b=none):(oH h H).get? b=some o:=
 Ll _ e λhm=>by
  have q:(H b).isSome=true:=(List.mem_filter.mp hm).2;rw[n]at q;simp at q
theorem Ed{h:Heap}{H:Hp}{b:Addr}{o:Obj}(e:(oH h H).get? b=some o):h.get? b=some o/\H b=none:=by
 have e':h.get? b=some o:=PySem.W.of_hideAll (trk h H) e;refine⟨e',?_⟩;cases q:H b with
 |none=>rfl
 |some x =>
  have hm:b∈trk h H:=List.mem_filter.mpr ⟨List.mem_range.mpr (IS e'),by simp[q]⟩;have z:(oH h H).get? b=none:=PySem.W.hideAll_none (trk h H) hm;rw[z]at e;cases e


structure Mod(K:IC)(mg:Str->Option IE)(base:Heap):Prop where
 kin:K.In base
 glob:base.Ns Jt mg
 blt:∃mb,base.Ns Nf mb/\∀x:Str,x≠"__name__"->mb x=K2 x
 nolimit:base.NoLimit

structure Cx where
 prog:Jk
 w:Jo
 K:IC
 mg:Str->Option IE
 base:Heap
 A:JF
 N:List Str
 s₀:IG
 H₀:Hp
 env:Env
 outer:List Env
 stack:List Env
 ex:List Addr
 fn:Str->Bool
 calm:Bool
 pn:List (Addr×Obj)
 xe:IE->IG->Prop
def frs(l:List Env):List Addr:=l.filterMap (·.frame)
abbrev Cx.fs(X:Cx):List Addr:=frs X.outer

def Vis(sc:Scope)(x:Str):Prop:=sc.names.lookup x=some .local\/sc.names.lookup x=some .cell\/sc.names.lookup x=some .free
def Loc(sc:Scope)(x:Str):Prop:=sc.names.lookup x=some .local\/sc.names.lookup x=some .cell
def HK(env:Env)(h:Heap)(m:Str->Option IE)(x:Str)(u:IE):Prop:=
 (env.kindOf x=some .local/\m x=some u)\/((env.kindOf x=some .cell\/env.kindOf x=some .free)/\∃c,env.cells.lookup x=some c/\h.IsCell c (some u))

structure Cx.Ok(X:Cx):Prop where
 mod:Mod X.K X.mg X.base
 kind:X.env.scope.kind=.function
 glob:X.env.globals=Jt
 blt:X.env.builtins=Nf
 above:X.s₀.heap.objs.size<=X.env.locals
 inj:∀x y c,X.env.cells.lookup x=some c->X.env.cells.lookup y=some c->x=y
 has:∀x,(X.env.kindOf x=some .cell\/X.env.kindOf x=some .free)->∃c,X.env.cells.lookup x=some c
 cab:∀x c,X.fn x=true->X.env.cells.lookup x=some c->X.s₀.heap.objs.size<=c
 hd:X.calm=true->X.A.handled=none
 frames:X.A.frames=some X.stack
 stk:X.stack=X.outer\/(X.stack=X.env::X.outer/\X.env.frame=some X.env.locals)
 exf:∀b∈X.ex,b≠X.env.locals/\∀x c,X.env.cells.lookup x=some c->c≠b
 bs:∀b o,X.base.get? b=some o->X.s₀.heap.get? b=some o/\X.H₀ b=none
 bsz:X.base.objs.size<=X.s₀.heap.objs.size
 noex:∀b o,X.base.get? b=some o->b∉X.ex
 exfs:∀b∈X.ex,b∉X.fs
 funs:X.s₀.heap.FunFrames X.base X.outer
 frf:∀b∈X.fs,X.H₀ b=none

structure Inv(X:Cx)(pins:List (Addr×Obj))(σ:List (Option V))(H:Hp)(s:IG):Prop where
 ok:X.Ok
 os:s.os=X.s₀.os
 bare:LU s.gens
 base:Un X.fs X.ex X.H₀ H X.s₀.heap s.heap
 loc:∃m,s.heap.Ns X.env.locals m/\∀(i:Nat)(x:Str)(v:V),X.N[i]?=some x->σ[i]?=some (some v)->Vis X.env.scope x->∃u,bx v u/\HK X.env s.heap m x u
 cell:∀x c,X.env.cells.lookup x=some c->∃v,s.heap.IsCell c v
 free:H X.env.locals=none
 freeC:∀x c,X.env.cells.lookup x=some c->H c=none
 pin:∀p∈X.pn++pins,s.heap.get? p.1=some p.2/\H p.1=none/\p.1≠X.env.locals/\p.1∉X.fs/\∀v,p.2.data≠.cell v
 hok:HOk X.prog X.w H s.heap
 len:σ.length=X.N.length

section
variable {X:Cx}{pins:List (Addr×Obj)}{σ:List (Option V)}{H H':Hp}{s:IG}{h':Heap}

theorem Cx.Ok.nofr(ok:X.Ok){b:Addr}{o:Obj}(e:X.base.get? b=some o):b∉X.fs:=λhb=>by
 have:=(ok.funs.mem hb).1;rw[e]at this;cases this
theorem Inv.bs(I:Inv X pins σ H s):∀b o,X.base.get? b=some o->s.heap.get? b=some o/\H b=none:=λb o e =>
 ⟨I.base.keep b o (I.ok.bs b o e).1 (I.ok.bs b o e).2 (I.ok.nofr e) (I.ok.noex b o e),I.base.free b o (I.ok.bs b o e).1 (I.ok.bs b o e).2 (I.ok.noex b o e)⟩
theorem Inv.bk(I:Inv X pins σ H s):∀b o,X.base.get? b=some o->s.heap.get? b=some o:=λb o e=>(I.bs b o e).1
theorem Inv.mod(I:Inv X pins σ H s):Mod X.K X.mg X.base:=I.ok.mod
theorem Inv.kIn(I:Inv X pins σ H s):X.K.In s.heap:=I.ok.mod.kin.keeps I.bk
theorem Inv.lt(I:Inv X pins σ H s):X.env.locals<s.heap.objs.size:=let⟨_,hn,_⟩:=I.loc;hn.lt
theorem Inv.sz(I:Inv X pins σ H s):X.s₀.heap.objs.size<=s.heap.objs.size:=JC I.ok.above (Jj I.lt)
theorem Inv.nofs(I:Inv X pins σ H s){a:Addr}(h:s.heap.objs.size<=a):a∉X.fs:=λhb=>by
 obtain⟨_,o,ho,_⟩:=I.ok.funs.mem hb;exact absurd (Jl (IS ho) (JC I.sz h)) (J7 _)
theorem Inv.cne(I:Inv X pins σ H s):∀x c,X.env.cells.lookup x=some c->c≠X.env.locals:=λx c e z=>by
 obtain⟨v,o,ho,hd⟩:=I.cell x c e;obtain⟨m,⟨o',es,ep,ho',hd',_⟩,_⟩:=I.loc;rw[z,ho']at ho;cases ho;rw[hd']at hd;cases hd
theorem Inv.funs(I:Inv X pins σ H s):s.heap.FunFrames X.base X.outer:=by
 have all:∀(l:List Env),(∀b∈frs l,b∈X.fs)->X.s₀.heap.FunFrames X.base l->s.heap.FunFrames X.base l:=by
  intro l;induction l with
  |nil=>intro _ _;trivial
  |cons env r ih =>
   intro hs hl;obtain⟨hk,⟨L,o,hf,hn,ho,hd⟩,hr⟩:=hl;have hL:L∈X.fs:=hs L (by unfold frs;rw[KA,hf];exact IL);obtain⟨sl,e⟩:=I.base.slot L o ho (I.ok.frf L hL) hL λz=>I.ok.exfs L z hL;exact⟨hk,⟨L,_,hf,hn,e,hd⟩,ih (λb hb=>hs b (by unfold frs;rw[KA,hf];exact IH _ hb)) hr⟩
 exact all X.outer (λ_ hb=>hb) I.ok.funs

theorem Inv.stack(I:Inv X pins σ H s):s.heap.FunFrames X.base X.stack:=by
 rcases I.ok.stk with e|⟨e,hf⟩
 .rw[e];exact I.funs
 .rw[e];obtain⟨m,hn,_⟩:=I.loc;refine .cons (by rw[I.ok.kind];decide) hf hn ?_ I.funs;exact Heap.get?_none_of_le (JC I.ok.bsz I.ok.above)
theorem Inv.stkSub(I:Inv X pins σ H s):∀b∈frs X.stack,b∈X.env.locals::X.fs:=λb hb=>by
 rcases I.ok.stk with e|⟨e,hf⟩
 .rw[e]at hb;exact IH _ hb
 .rw[e]at hb;unfold frs at hb;rw[KA,hf]at hb;exact hb
theorem Inv.stkFree(I:Inv X pins σ H s):∀b∈frs X.stack,H b=none:=λb hb=>by
 rcases List.mem_cons.mp (I.stkSub b hb)with e|hb
 .rw[e];exact I.free
 .obtain⟨_,o,ho,_⟩:=I.ok.funs.mem hb;exact I.base.free b o ho (I.ok.frf b hb) λz=>I.ok.exfs b z hb

theorem Inv.step{g':Array Ni}{t':Nat}{d':Drawn}{ch:List Addr}(I:Inv X pins σ H s)
  (hch:∀b∈ch,(b∈X.ex\/X.s₀.heap.objs.size<=b)/\b≠X.env.locals/\(∀x c,X.env.cells.lookup x=some c->c≠b)/\∀p∈X.pn++pins,p.1≠b)
  (keep:∀b o,b≠X.env.locals->b∉X.fs->b∉ch->s.heap.get? b=some o->H b=none->h'.get? b=some o)
  (slot:∀b o,b≠X.env.locals->b∈X.fs->b∉ch->s.heap.get? b=some o->H b=none->∃sl,h'.get? b=some { o with slots:=sl })(free:∀b o,b∉ch->s.heap.get? b=some o->H b=none->H' b=none)
  (there:∀b o,b∉ch->s.heap.get? b=some o->∃o',h'.get? b=some o')
  (tups:∀b xs,H b=some (.tup xs)->H' b=some (.tup xs))(frzs:∀b o u,H b=some (.frz o u)->H' b=some (.frz o u))(tbls:∀b ps,H b=some (.tbl ps)->∃more,H' b=some (.tbl (ps++more)))
  (ns:∀m,s.heap.Ns X.env.locals m->h'.Ns X.env.locals m)(hok:HOk X.prog X.w H' h')(hg:LU g') :
  Inv X pins σ H' { s with heap:=h',gens:=g',drawn:=d',toks:=t' }:=by
 have neL:∀b o,X.s₀.heap.get? b=some o->b≠X.env.locals:=λb o e=>Jd (Jl (IS e) I.ok.above);have neC:∀b o,X.s₀.heap.get? b=some o->b∉X.ex->b∉ch:=λb o e hx hb=>by
  rcases(hch b hb).1 with z|z
  .exact hx z
  .exact absurd (Jl (IS e) z) (J7 _)
 have cellK:∀x c,X.env.cells.lookup x=some c->∀v,s.heap.IsCell c v->h'.IsCell c v:=λx c e v ⟨o,ho,hd⟩=>by
  have nch:c∉ch:=λz=>(hch c z).2.2.1 x c e rfl;by_cases hc:c∈X.fs
  .obtain⟨sl,q⟩:=slot c o (I.cne x c e) hc nch ho (I.freeC x c e);exact⟨_,q,hd⟩
  .exact⟨o,keep c o (I.cne x c e) hc nch ho (I.freeC x c e),hd⟩
 refine⟨I.ok,I.os,hg,⟨λb o e n hb hx=>?_,λb o e n hb hx=>?_,λb o e n hx=>?_,λb o e hx=>?_,λb xs e=>tups b xs (I.base.tups b xs e),λb o xs e=>frzs b o xs (I.base.frzs b o xs e),λb ps e=>?_⟩,?_,λx c e=>?_,?_,λx c e=>?_,λp hp=>?_,hok,I.len⟩
 .exact keep b o (neL b o e) hb (neC b o e hx) (I.base.keep b o e n hb hx) (I.base.free b o e n hx)
 .obtain⟨sl,e1⟩:=I.base.slot b o e n hb hx;obtain⟨sl',e2⟩:=slot b _ (neL b o e) hb (neC b o e hx) e1 (I.base.free b o e n hx);exact⟨sl',e2⟩
 .obtain⟨o',e1⟩:=I.base.there b o e hx;exact free b o' (neC b o e hx) e1 (I.base.free b o e n hx)
 .obtain⟨o',e1⟩:=I.base.there b o e hx;exact there b o' (neC b o e hx) e1
 .obtain⟨m1,e1⟩:=I.base.tbls b ps e;obtain⟨m2,e2⟩:=tbls b _ e1;exact⟨m1++m2,by rw[e2,Mo]⟩
 .obtain⟨m,hn,hl⟩:=I.loc;refine⟨m,ns m hn,λi x v e1 e2 e3=>?_⟩;obtain⟨u,r,l⟩:=hl i x v e1 e2 e3;refine⟨u,r,?_⟩;rcases l with l|⟨k,c,e,z⟩
  .exact .inl l
  .exact .inr ⟨k,c,e,cellK x c e _ z⟩
 .obtain⟨v,z⟩:=I.cell x c e;exact⟨v,cellK x c e v z⟩
 .obtain⟨m,⟨o,_,_,ho,_⟩,_⟩:=I.loc;exact free _ o (λz=>(hch _ z).2.1 rfl) ho I.free
 .obtain⟨v,o,ho,hd⟩:=I.cell x c e;exact free c o (λz=>(hch c z).2.2.1 x c e rfl) ho (I.freeC x c e)
 .obtain⟨e,n,ne,nf,d⟩:=I.pin p hp;have nch:p.1∉ch:=λz=>(hch p.1 z).2.2.2 p hp rfl;exact⟨keep p.1 p.2 ne nf nch e n,free p.1 p.2 nch e n,ne,nf,d⟩
theorem Inv.un{t':Nat}(I:Inv X pins σ H s)(u:Un X.fs [] H H' s.heap h')(hok:HOk X.prog X.w H' h'):Inv X pins σ H' { s with heap:=h',toks:=t' }:=by
 obtain⟨m,⟨o,es,ep,ho,r⟩,_⟩:=id I.loc;obtain⟨sl,hL⟩:=u.any ho I.free (by simp);exact I.step (g':=s.gens) (d':=s.drawn) (ch:=[]) (λ_ z=>nomatch z) (λb o _ hb _ e n=>u.keep b o e n hb (by simp)) (λb o _ hb _ e n=>u.slot b o e n hb (by simp)) (λb o _ e n=>u.free b o e n (by simp)) (λb o _ e=>u.there b o e (by simp)) u.tups u.frzs u.tbls (λm' hm=>by
  obtain⟨o',es',ep',ho',r'⟩:=hm;rw[ho]at ho';cases ho';exact⟨_,es',ep',hL,r'⟩) hok I.bare
theorem Inv.call{g':Array Ni}{t':Nat}{d':Drawn}{ch:List Addr}(I:Inv X pins σ H s)(u:Un (frs X.stack) ch H H' s.heap h')(hok:HOk X.prog X.w H' h')(hg:LU g')
  (hch:∀b∈ch,(b∈X.ex\/X.s₀.heap.objs.size<=b)/\b≠X.env.locals/\(∀x c,X.env.cells.lookup x=some c->c≠b)/\∀p∈X.pn++pins,p.1≠b) :
  Inv X pins σ H' { s with heap:=h',gens:=g',drawn:=d',toks:=t' }:=by
 obtain⟨m,⟨o,es,ep,ho,r⟩,_⟩:=id I.loc;obtain⟨sl,hL⟩:=u.any ho I.free λz=>(hch _ z).2.1 rfl;exact I.step (ch:=ch) hch (λb o hL hb hc e n=>u.keep b o e n (λz=>(List.mem_cons.mp (I.stkSub b z)).elim hL hb) hc) (λb o _ _ hc e n=>u.any e n hc) (λb o hc e n=>u.free b o e n hc) (λb o hc e=>u.there b o e hc) u.tups u.frzs u.tbls (λm' hm=>by
  obtain⟨o',es',ep',ho',r'⟩:=hm;rw[ho]at ho';cases ho';exact⟨_,es',ep',hL,r'⟩) hok hg
theorem Inv.turned{t':Nat}{it:Addr}(I:Inv X pins σ H s)(k:∀b o,b≠it->s.heap.get? b=some o->h'.get? b=some o)(hn:H it=none)(hL:it≠X.env.locals)
  (h1:it∈X.ex\/X.s₀.heap.objs.size<=it)(h2:∀x c,X.env.cells.lookup x=some c->c≠it)(h3:∀p∈X.pn++pins,p.1≠it):Inv X pins σ H { s with heap:=h',toks:=t' }:=by
 have nit:∀b u,H b=some u->b≠it:=λb u e z=>by rw[z,hn]at e;cases e
 refine I.step (g':=s.gens) (d':=s.drawn) (ch:=[it]) (λb hb=>?_) (λb o _ _ hc e _=>k b o (λz=>hc (by simp[z])) e) (λb o _ _ hc e _=>⟨o.slots,k b o (λz=>hc (by simp[z])) e⟩) (λ_ _ _ _ n=>n)
  (λb o hc e=>⟨o,k b o (λz=>hc (by simp[z])) e⟩) (λ_ _ e=>e) (λ_ _ _ e=>e) (λb ps e=>⟨#[],by rw[e];simp⟩) (λm hm=>?_) (λb u e=>?_) I.bare
 .have e:b=it:=by simpa using hb
  subst e;exact⟨h1,hL,h2,h3⟩
 .obtain⟨o,es,ep,ho,r⟩:=hm;exact⟨o,es,ep,k _ o (JH hL) ho,r⟩
 .refine(I.hok b u e).stay (λc v hc q=>k c v ?_ q) (λ_ q=>q) λ_ _ q=>q;rcases hc with z|z
  .rw[z];exact nit b u e
  .exact nit c _ z
theorem Inv.tok(I:Inv X pins σ H s)(t:Nat):Inv X pins σ H { s with toks:=t }:=I.un (h':=s.heap) (t':=t) Un.refl I.hok
theorem Inv.kept{t':Nat}(I:Inv X pins σ H s)(k:∀b u,s.heap.get? b=some u->h'.get? b=some u):Inv X pins σ H { s with heap:=h',toks:=t' }:=I.un (Un.kept k) (I.hok.kept k)
theorem Inv.laid{a:Addr}{o:HO}{t':Nat}(I:Inv X pins σ H s)(k:∀b u,s.heap.get? b=some u->h'.get? b=some u)(hp:s.heap.objs.size<=a)(new:cw X.prog X.w (upd H a o) h' a o) :
  Inv X pins σ (upd H a o) { s with heap:=h',toks:=t' }:=I.un (Un.laid k hp (I.hok.fresh hp)) (I.hok.laid k hp new)
theorem Inv.write{x e:Addr}{o:HO}{t':Nat}(I:Inv X pins σ H s)(mu:Mut (H x))(he:e=x\/H e=some (.own x))(k:∀b u,b≠e->s.heap.get? b=some u->h'.get? b=some u)(heo:∃u,h'.get? e=some u)
  (new:cw X.prog X.w (upd H x o) h' x o):Inv X pins σ (upd H x o) { s with heap:=h',toks:=t' }:=I.un (Un.write mu he k heo) (I.hok.write mu he k heo new)
theorem Inv.pins_of{pins':List (Addr×Obj)}(I:Inv X pins σ H s)(h:∀p∈pins',s.heap.get? p.1=some p.2/\H p.1=none/\p.1≠X.env.locals/\p.1∉X.fs/\∀v,p.2.data≠.cell v):Inv X pins' σ H s:=
 ⟨I.ok,I.os,I.bare,I.base,I.loc,I.cell,I.free,I.freeC,λp hp=>(List.mem_append.mp hp).elim (λz=>I.pin p (Ku _ z)) (h p),I.hok,I.len⟩

theorem xu{N:List Str}(hN:N.Nodup){i j:Nat}{x:Str}(a:N[i]?=some x)(b:N[j]?=some x):i=j:=by
 obtain⟨h1,e1⟩:=List.getElem?_eq_some_iff.mp a;obtain⟨h2,e2⟩:=List.getElem?_eq_some_iff.mp b;exact(List.getElem_inj hN).mp (e1.trans e2.symm)

theorem vx{M:Model}{A:JF}{E:IE->IG->Prop}{i:Nat}{x:Str}{v:V}{u:IE}{Q:Unit->IG->Prop}(I:Inv X pins σ H s)(hN:X.N.Nodup)(hi:X.N[i]?=some x)(hx:Loc X.env.scope x)(r:bx v u)
  (h:∀s',Inv X pins (σ.set i (some v)) H s'->(∃a,Mi a s.heap s'.heap/\(a=X.env.locals\/X.env.cells.lookup x=some a))->Q () s')(hf:X.fn x=true\/X.env.scope.names.lookup x=some .local:=by first|exact .inl rfl|exact .inr rfl|assumption):Ju M A (storeName X.env x u) Q E s:=by
 obtain⟨m,hn,hl⟩:=id I.loc;have hcls:(X.env.scope.kind==.class||(X.env.scope.kind==.module&&X.env.locals != X.env.globals))=false:=by rw[I.ok.kind];rfl
 have hiσ:i<σ.length:=by rw[I.len];exact(List.getElem?_eq_some_iff.mp hi).1
 have cne:=I.cne;have tracked:∀{a:Addr}{h':Heap},(∃o,s.heap.get? a=some o/\H a=none)->Mi a s.heap h'->HOk X.prog X.w H h':=λ{a h'} ha hs b ob e=>by
  obtain⟨_,_,hfree⟩:=ha;refine(I.hok b ob e).stay (λc w' hc q=>(hs.2 c ?_).trans q) (λ_ q=>q) λ_ _ q=>q;rintro rfl;rcases hc with rfl|hc
  .rw[hfree]at e;cases e
  .rw[hfree]at hc;cases hc
 rcases hx with hk|hk
 .refine wpAny_storeName_local hk hn (λh' hn' hs=>?_) hcls;obtain⟨oL,_,_,hoL,_⟩:=id hn;refine h _ ⟨I.ok,I.os,I.bare,⟨λb o e n hb hx=>?_,λb o e n hb hx=>?_,I.base.free,λb o e hx=>?_,I.base.tups,I.base.frzs,I.base.tbls⟩,⟨_,hn',λj y v' e1 e2 e3=>?_⟩,λy c e=>?_,I.free,I.freeC,λp hp=>?_,tracked ⟨oL,hoL,I.free⟩ hs,by simpa using I.len⟩ ⟨_,hs,.inl rfl⟩
  .exact(hs.2 b (Jd (Jl (IS e) I.ok.above))).trans (I.base.keep b o e n hb hx)
  .obtain⟨sl,e1⟩:=I.base.slot b o e n hb hx;exact⟨sl,(hs.2 b (Jd (Jl (IS e) I.ok.above))).trans e1⟩
  .obtain⟨o',e1⟩:=I.base.there b o e hx;exact⟨o',(hs.2 b (Jd (Jl (IS e) I.ok.above))).trans e1⟩
  .by_cases hj:j=i
   .subst hj;rw[hi]at e1;cases e1;rw[List.getElem?_set_self hiσ]at e2;cases e2;exact⟨u,r,.inl ⟨hk,by simp⟩⟩
   .rw[List.getElem?_set_ne (JH hj)]at e2;obtain⟨u',r',q⟩:=hl j y v' e1 e2 e3;refine⟨u',r',?_⟩;rcases q with⟨k,e⟩|⟨k,c,e,z⟩
    .refine .inl ⟨k,?_⟩;have:y≠x:=λe=>hj (xu hN e1 (e▸hi));simp[this,e]
    .exact .inr ⟨k,c,e,z.sameBut hs (cne y c e)⟩
  .obtain⟨w',z⟩:=I.cell y c e;exact⟨w',z.sameBut hs (cne y c e)⟩
  .obtain⟨e,n,ne,nf,d⟩:=I.pin p hp;exact⟨(hs.2 p.1 ne).trans e,n,ne,nf,d⟩
 .have hfn:X.fn x=true:=by
   rcases hf with z|z
   .exact z
   .rw[z]at hk;cases hk
  obtain⟨c,hc⟩:=I.ok.has x (.inl hk);obtain⟨w',z⟩:=I.cell x c hc;refine wpAny_storeName_cell I.ok.kind hk hc z (λh' hc' hs=>?_);obtain⟨oc,hoc,hocd⟩:=id z;refine h { s with heap:=h' } ⟨I.ok,I.os,I.bare,⟨λb o e n hb hx=>?_,λb o e n hb hx=>?_,I.base.free,λb o e hx=>?_,I.base.tups,I.base.frzs,I.base.tbls⟩,⟨m,hn.sameBut hs (JH (cne x c hc)),λj y v' e1 e2 e3=>?_⟩,λy c' e=>?_,I.free,I.freeC,λp hp=>?_,tracked ⟨oc,hoc,I.freeC x c hc⟩ hs,by simpa using I.len⟩ ⟨c,hs,.inr hc⟩
  .exact(hs.2 b (Jd (Jl (IS e) (I.ok.cab x c hfn hc)))).trans (I.base.keep b o e n hb hx)
  .obtain⟨sl,e1⟩:=I.base.slot b o e n hb hx;exact⟨sl,(hs.2 b (Jd (Jl (IS e) (I.ok.cab x c hfn hc)))).trans e1⟩
  .obtain⟨o',e1⟩:=I.base.there b o e hx;exact⟨o',(hs.2 b (Jd (Jl (IS e) (I.ok.cab x c hfn hc)))).trans e1⟩
  .by_cases hj:j=i
   .subst hj;rw[hi]at e1;cases e1;rw[List.getElem?_set_self hiσ]at e2;cases e2;exact⟨u,r,.inr ⟨.inl hk,c,hc,hc'⟩⟩
   .rw[List.getElem?_set_ne (JH hj)]at e2;obtain⟨u',r',q⟩:=hl j y v' e1 e2 e3;refine⟨u',r',?_⟩;rcases q with q|⟨k,c',e,z'⟩
    .exact .inl q
    .refine .inr ⟨k,c',e,z'.sameBut hs ?_⟩;rintro rfl;exact hj (xu hN e1 (I.ok.inj _ _ _ e hc▸hi))
  .by_cases hcc:c'=c
   .subst hcc;exact⟨_,hc'⟩
   .obtain⟨w2,z2⟩:=I.cell y c' e;exact⟨w2,z2.sameBut hs hcc⟩
  .obtain⟨e,n,ne,nf,d⟩:=I.pin p hp;refine⟨(hs.2 p.1 ?_).trans e,n,ne,nf,d⟩;intro q;rw[q,hoc]at e;have q':oc=p.2:=Jy e;exact d w' (by rw[<-q'];exact hocd)
theorem oI{M:Model}{A:JF}{E:IE->IG->Prop}{i:Nat}{x:Str}{v:V}{u:IE}{Q:Unit->IG->Prop}(I:Inv X pins σ H s)(hN:X.N.Nodup)(hi:X.N[i]?=some x)(hx:Loc X.env.scope x)(r:bx v u)
  (h:∀s',Inv X pins (σ.set i (some v)) H s'->Q () s')(hf:X.fn x=true\/X.env.scope.names.lookup x=some .local:=by first|exact .inl rfl|exact .inr rfl|assumption):Ju M A (storeName X.env x u) Q E s:=
 vx I hN hi hx r (λs' I' _=>h s' I') hf
theorem Inv.call'{s':IG}{ch:List Addr}(I:Inv X pins σ H s)(ho:s'.os=s.os)(u:Un (frs X.stack) ch H H' s.heap s'.heap)(hok:HOk X.prog X.w H' s'.heap)(hg:LU s'.gens)
  (hch:∀b∈ch,(b∈X.ex\/X.s₀.heap.objs.size<=b)/\b≠X.env.locals/\(∀x c,X.env.cells.lookup x=some c->c≠b)/\∀p∈X.pn++pins,p.1≠b):Inv X pins σ H' s':=by
 obtain⟨h',g',d',t',o'⟩:=s';have e:o'=s.os:=ho;subst e;exact I.call (g':=g') (t':=t') (d':=d') u hok hg hch
end

abbrev XK:=IE->Option Addr->Hp->Prop
abbrev St:=List (Option V)
abbrev VK:=V->Hp->Prop
abbrev TE:=St->Hp->VK->Prop
abbrev TT:=St->Hp->(Bool->Hp->Prop)->Prop
abbrev TA:=St->Hp->(List V->Hp->Prop)->Prop
structure e9 where
 nx:St->Hp->Prop
 rt:VK
 bk:St->Hp->Prop:=λ_ _=>False
 ct:St->Hp->Prop:=λ_ _=>False
abbrev TS:=e9->St->Hp->Prop

inductive EP(X:Cx)(pins:List (Addr×Obj))(σ:St)(Q:VK)(u:IE)(s':IG):Prop
 |mk(v H')(_:Inv X pins σ H' s')(_:bx v u)(_:Q v H')
def TP(X:Cx)(pins:List (Addr×Obj))(σ:St)(Q:Bool->Hp->Prop)(b:Bool)(s':IG):Prop:=∃H',Inv X pins σ H' s'/\Q b H'
inductive AP(X:Cx)(pins:List (Addr×Obj))(σ:St)(Q:List V->Hp->Prop)(us:List IE)(s':IG):Prop
 |mk(vs H')(_:Inv X pins σ H' s')(_:bo vs us)(_:Q vs H')
def SP(X:Cx)(pins:List (Addr×Obj))(D:e9)(f:Flow)(s':IG):Prop:=
 match f with
 |.next=>∃σ' H',Inv X pins σ' H' s'/\D.nx σ' H'
 |.brk=>∃σ' H',Inv X pins σ' H' s'/\D.bk σ' H'
 |.cont=>∃σ' H',Inv X pins σ' H' s'/\D.ct σ' H'
 |.ret u=>∃v σ' H',Inv X pins σ' H' s'/\bx v u/\D.rt v H'

def PE(X:Cx)(e:Expr)(t:TE):Prop:=
 ∀(pins:List (Addr×Obj))(s:IG)(σ:St)(H:Hp)(Q:VK),Inv X pins σ H s->t σ H Q->Ju (Jv X.prog X.w) X.A (eval e X.env) (EP X pins σ Q) X.xe s
def PT(X:Cx)(e:Expr)(t:TT):Prop:=
 ∀(pins:List (Addr×Obj))(s:IG)(σ:St)(H:Hp)(Q:Bool->Hp->Prop),Inv X pins σ H s->t σ H Q->Ju (Jv X.prog X.w) X.A (isTrue e X.env (eval e X.env)) (TP X pins σ Q) X.xe s
def PW(X:Cx)(e:Expr)(t:TT):Prop:=
 ∀(whole:Sem IE)(pins:List (Addr×Obj))(s:IG)(σ:St)(H:Hp)(Q:Bool->Hp->Prop),Inv X pins σ H s->t σ H Q->Ju (Jv X.prog X.w) X.A (isTrue e X.env whole) (TP X pins σ Q) X.xe s
theorem PW.pt{X:Cx}{e:Expr}{t:TT}(h:PW X e t):PT X e t:=h _
def PA(X:Cx)(es:List Expr)(t:TA):Prop:=
 ∀(pos:Pos)(pins:List (Addr×Obj))(s:IG)(σ:St)(H:Hp)(Q:List V->Hp->Prop),Inv X pins σ H s->t σ H Q->Ju (Jv X.prog X.w) X.A (spliced (KF pos (Jn es X.env))) (AP X pins σ Q) X.xe s
def PS(X:Cx)(st:Stmt)(t:TS):Prop:=
 ∀(pins:List (Addr×Obj))(s:IG)(σ:St)(H:Hp)(D:e9),Inv X pins σ H s->t D σ H->Ju (Jv X.prog X.w) X.A (exec st X.env) (SP X pins D) X.xe s
def PSs(X:Cx)(st:List Stmt)(t:TS):Prop:=
 ∀(pins:List (Addr×Obj))(s:IG)(σ:St)(H:Hp)(D:e9),Inv X pins σ H s->t D σ H->Ju (Jv X.prog X.w) X.A (execs st X.env) (SP X pins D) X.xe s
theorem thn{α:Type}{t:Sem α}{Q Q':α->IG->Prop}{M:Model}{A:JF}{E:IE->IG->Prop}{s:IG}(h:Ju M A t Q E s)(hQ:∀a s,Q a s->Q' a s):Ju M A t Q' E s:=JX h hQ λ_ _ x=>x
section
variable {X:Cx}

inductive CI(i:Nat)(σ:St)(H:Hp)(Q:VK):Prop
 |mk(v)(_:σ[i]?=some (some v))(_:Q v H)
def tC(v:V):TE:=λ_ H Q=>Q v H
theorem Fg{i:Nat}{x:Str}{pos:Pos}(hN:X.N[i]?=some x)(hv:Vis X.env.scope x)(hd:(x==("__debug__" : Str))=false:=by decide)(hcd:(x==("__classdict__" : Str))=false:=by decide):PE X (.Name x pos) (CI i):=by
 intro pins s σ H Q I h;obtain⟨v,e,h⟩:=h;obtain⟨m,hn,hl⟩:=I.loc;obtain⟨u,r,l⟩:=hl i x v hN e hv;have fin:EP X pins σ Q u s:=⟨v,H,I,r,h⟩;rcases l with⟨hk,hm⟩|⟨hk,c,hc,hcell⟩
 .exact Ny (wpAny_loadName_local I.ok.kind hk hn hm fin) hd
 .rcases hk with hk|hk
  .exact Ny (wpAny_loadName_cell I.ok.kind hk hc hcell fin) hd
  .exact Ny (wpAny_loadName_free I.ok.kind hk hc hcell fin hcd) hd
theorem ag{i j pos}:PE X (.Constant (.int i) j pos) (tC (.int i)):=λ_ _ _ H _ I h=>wpAny_Constant_int ⟨.int i,H,I.tok _,⟨_,rfl⟩,h⟩
theorem cC{b j pos}:PE X (.Constant (.bool b) j pos) (tC (.bl b)):=λ_ _ _ H _ I h=>Constant_bool ⟨.bl b,H,I,rfl,h⟩
theorem Bh{j pos}:PE X (.Constant .none j pos) (tC .non):=λ_ _ _ H _ I h=>Constant_none ⟨.non,H,I,rfl,h⟩
theorem am{x j pos}:PE X (.Constant (.str x) j pos) (tC (.str x)):=λ_ _ _ H _ I h=>Lw ⟨.str x,H,I.tok _,⟨_,rfl⟩,h⟩

def Gl(X:Cx)(x:Str):Prop:=X.env.kindOf x=some .globalImplicit
theorem jU{E:IE->IG->Prop}{pins:List (Addr×Obj)}{s:IG}{σ:St}{H:Hp}{x:Str}{u:IE}{pos:Pos}{Q:IE->IG->Prop}(I:Inv X pins σ H s)(hg:Gl X x)(hm:X.mg x=some u)(h:Q u s)
  (hd:(x==("__debug__" : Str))=false:=by decide):Ju (Jv X.prog X.w) X.A (eval (.Name x pos) X.env) Q E s:=
 Calls.Name_function_global I.ok.kind hg (Calls.loadGlobal_global (by rw[I.ok.glob];exact I.mod.glob.keeps I.bk) hm h) hd
theorem lQ{E:IE->IG->Prop}{pins:List (Addr×Obj)}{s:IG}{σ:St}{H:Hp}{x:Str}{u:IE}{pos:Pos}{Q:IE->IG->Prop}(I:Inv X pins σ H s)(hg:Gl X x)(hm:X.mg x=none)(hv:K2 x=some u)(h:Q u s)
  (hn:x≠"__name__":=by decide)(hd:(x==("__debug__" : Str))=false:=by decide):Ju (Jv X.prog X.w) X.A (eval (.Name x pos) X.env) Q E s:=by
 obtain⟨mb,h1,h2⟩:=I.mod.blt;exact Calls.Name_function_global I.ok.kind hg (Calls.loadGlobal_builtin (by rw[I.ok.glob];exact I.mod.glob.keeps I.bk) hm (by rw[I.ok.blt];exact h1.keeps I.bk) ((h2 x hn).trans hv) h) hd
theorem dm{x:Str}{v:V}{u:IE}{pos:Pos}(hg:Gl X x)(hm:X.mg x=some u)(r:bx v u)(hd:(x==("__debug__" : Str))=false:=by decide):PE X (.Name x pos) (tC v):=
 λ_ _ _ H _ I h=>jU I hg hm ⟨v,H,I,r,h⟩ hd
theorem dq{x:Str}{v:V}{u:IE}{pos:Pos}(hg:Gl X x)(hm:X.mg x=none)(hv:K2 x=some u)(r:bx v u)(hn:x≠"__name__":=by decide)(hd:(x==("__debug__" : Str))=false:=by decide):PE X (.Name x pos) (tC v):=
 λ_ _ _ H _ I h=>lQ I hg hm hv ⟨v,H,I,r,h⟩ hn hd

variable {a b:Expr}{ta tb:TE}{pos:Pos}
inductive tBI(Q:Bool->Hp->Prop)(x:V)(H1:Hp):Prop
 |mk(c)(_:x=.bl c)(_:Q c H1)
def tB(t:TE):TT:=λσ H Q=>t σ H (tBI Q)
theorem cz{e:Expr}{t:TE}(h:PE X e t)(he:∀whole,isTrue e X.env whole=(do let v<-whole;Nk e.pos;ML [v] (truthy v)):=by intro _;rfl):PT X e (tB t):=by
 intro pins s σ H Q I hw;refine isTrue_plain (thn (h pins s σ H _ I hw) λv s1 ⟨x,H1,I1,r1,q1⟩=>?_) (he _);obtain⟨d,rfl,q⟩:=q1;cases r1;exact Kv ⟨H1,I1,q⟩

variable {tA tB':TT}{rest:List Expr}
def Fh(t u:TT):TT:=λσ H Q=>t σ H λc H1=>if c=true then u σ H1 Q else Q false H1
def tOr(t u:TT):TT:=λσ H Q=>t σ H λc H1=>if c=true then Q true H1 else u σ H1 Q
def HL(t:TT):TT:=λσ H Q=>t σ H λc H1=>Q (!c) H1
theorem dQ(ha:PT X a tA):PW X (.BoolOp .And [a] pos) tA:=by
 intro wh pins s σ H Q I h;refine Nz (thn (ha pins s σ H Q I h) λc s1 e=>?_);cases c with
 |true=>exact isTrue_and_nil e
 |false=>exact e
theorem fS(ha:PT X a tA):PW X (.BoolOp .Or [a] pos) tA:=by
 intro wh pins s σ H Q I h;refine isTrue_or (thn (ha pins s σ H Q I h) λc s1 e=>?_);cases c with
 |false=>exact isTrue_or_nil e
 |true=>exact e
theorem fT(ha:PT X a tA)(hb:PW X (.BoolOp .And (b::rest) pos) tB'):PW X (.BoolOp .And (a::b::rest) pos) (Fh tA tB'):=by
 intro wh pins s σ H Q I h;refine Nz (thn (ha pins s σ H _ I h) λc s1 ⟨H1,I1,q1⟩=>?_);cases c with
 |true=>exact hb wh pins s1 σ H1 Q I1 q1
 |false=>exact⟨H1,I1,q1⟩
theorem eP(ha:PT X a tA)(hb:PW X (.BoolOp .Or (b::rest) pos) tB'):PW X (.BoolOp .Or (a::b::rest) pos) (tOr tA tB'):=by
 intro wh pins s σ H Q I h;refine isTrue_or (thn (ha pins s σ H _ I h) λc s1 ⟨H1,I1,q1⟩=>?_);cases c with
 |true=>exact⟨H1,I1,q1⟩
 |false=>exact hb wh pins s1 σ H1 Q I1 q1
theorem fC(ha:PT X a tA):PT X (.UnaryOp .Not a pos) (HL tA):=by
 intro pins s σ H Q I h;exact isTrue_not (ha pins s σ H (λc H1=>Q (!c) H1) I h)
inductive Fi(tb:TE)(σ:St)(Q:VK)(x:V)(H1:Hp):Prop
 |mk(c)(_:x=.bl c)(_:if c=true then tb σ H1 Q else Q (.bl false) H1)
def GV(ta tb:TE):TE:=λσ H Q=>ta σ H (Fi tb σ Q)
inductive GW(tb:TE)(σ:St)(Q:VK)(x:V)(H1:Hp):Prop
 |mk(c)(_:x=.bl c)(_:if c=true then Q (.bl true) H1 else tb σ H1 Q)
def HM(ta tb:TE):TE:=λσ H Q=>ta σ H (GW tb σ Q)
inductive Fj(Q:VK)(x:V)(H1:Hp):Prop
 |mk(c)(_:x=.bl c)(_:Q (.bl (!c)) H1)
def GX(ta:TE):TE:=λσ H Q=>ta σ H (Fj Q)
theorem jl{op}{t:TE}(h:PE X a t):PE X (.BoolOp op [a] pos) t:=λpins s σ H Q I hw=>BoolOp_one (h pins s σ H Q I hw)
theorem jE(ha:PE X a ta)(hb:PE X (.BoolOp .And (b::rest) pos) tb):PE X (.BoolOp .And (a::b::rest) pos) (GV ta tb):=by
 intro pins s σ H Q I h;refine BoolOp_and (thn (ha pins s σ H _ I h) λv s1 ⟨x,H1,I1,r1,q1⟩=>?_);obtain⟨c,rfl,q1⟩:=q1;cases r1;refine Kv ?_;cases c with
 |true=>exact hb pins s1 σ H1 Q I1 q1
 |false=>exact⟨.bl false,H1,I1,rfl,q1⟩
theorem DU(ha:PE X a ta)(hb:PE X (.BoolOp .Or (b::rest) pos) tb):PE X (.BoolOp .Or (a::b::rest) pos) (HM ta tb):=by
 intro pins s σ H Q I h;refine BoolOp_or (thn (ha pins s σ H _ I h) λv s1 ⟨x,H1,I1,r1,q1⟩=>?_);obtain⟨c,rfl,q1⟩:=q1;cases r1;refine Kv ?_;cases c with
 |false=>exact hb pins s1 σ H1 Q I1 q1
 |true=>exact⟨.bl true,H1,I1,rfl,q1⟩
theorem Fk(ha:PE X a ta):PE X (.UnaryOp .Not a pos) (GX ta):=by
 intro pins s σ H Q I h;refine UnaryOp_ (thn (ha pins s σ H _ I h) λv s1 ⟨x,H1,I1,r1,q1⟩=>?_);obtain⟨c,rfl,q1⟩:=q1;cases r1;exact not_of (Kv ⟨.bl (!c),H1,I1,rfl,q1⟩)
end

def SqL(K:IC)(H:Hp)(a:Addr)(xs:List V):Prop:=
 Rd H a (.lst xs)\/
  ∃(o:Obj)(its:Array IE)(n:Nat),K.lookup a=some o/\o.cls=.type "list"/\o.dict=none/\o.data=.seq its n/\its.size<=I0/\bo xs its.toList
def SqT(K:IC)(H:Hp)(a:Addr)(xs:List V):Prop:=
 Rd H a (.tup xs)\/
  ∃(o:Obj)(its:Array IE)(n:Nat),K.lookup a=some o/\o.cls=.type "tuple"/\o.data=.seq its n/\its.size<=I0/\bo xs its.toList
def HN:IE->Option V
 |.none=>some .non
 |.bool b=>some (.bl b)
 |.int i _=>some (.int i)
 |.str x _=>some (.str x)
 |.bytes b _=>some (.byt b)
 |.float b _=>some (.flt b)
 |.ref a=>some (.ref a)
 |.type n=>some (.ty n)
 |_=>none
theorem bx.abs{x:V}{u:IE}(r:bx x u):HN u=some x:=by
 cases x with
 |non=>cases r;rfl
 |bl _=>cases r;rfl
 |int _=>obtain⟨t,rfl⟩:=r;rfl
 |str _=>obtain⟨t,rfl⟩:=r;rfl
 |byt _=>obtain⟨t,rfl⟩:=r;rfl
 |flt _=>obtain⟨t,rfl⟩:=r;rfl
 |ref _=>cases r;rfl
 |ty _=>cases r;rfl
theorem bx.inj{x y:V}{u:IE}(r:bx x u)(q:bx y u):x=y:=Jy (r.abs.symm.trans q.abs)
theorem bo.inj:∀{xs ys:List V}{us:List IE},bo xs us->bo ys us->xs=ys
 |_,_,_,.nil,.nil=>rfl
 |_,_,_,.cons r t,.cons r' t'=>by rw[r.inj r',bo.inj t t']
section
variable {X:Cx}{pins:List (Addr×Obj)}{σ:St}{H:Hp}{s:IG}{a:Addr}{xs ys:List V}
theorem SqL.of{K:IC}(h:H a=some (.lst xs)):SqL K H a xs:=.inl (.inl h)
theorem SqT.of{K:IC}(h:H a=some (.tup xs)):SqT K H a xs:=.inl (.inl h)
theorem Inv.list(I:Inv X pins σ H s)(h:SqL X.K H a xs):∃its:List IE,bo xs its/\PlainL s.heap a its.toArray/\xs.length<=I0:=by
 rcases h with h|⟨o,its,n,hk,hc,hd,hs,hz,r⟩
 .obtain⟨z,its,n,r,e⟩:=h.ok I.hok;exact⟨its,r,⟨_,n,e,rfl,rfl,rfl⟩,z⟩
 .refine⟨its.toList,r,⟨o,n,I.kIn a o hk,hc,hd,by simpa using hs⟩,?_⟩;have e:=r.length;simp only[Lm]at e;omega
theorem Inv.tuple(I:Inv X pins σ H s)(h:SqT X.K H a xs):∃its:List IE,bo xs its/\IsTup s.heap a its.toArray/\xs.length<=I0:=by
 rcases h with h|⟨o,its,n,hk,hc,hs,hz,r⟩
 .obtain⟨z,its,r,p⟩:=h.ok I.hok;exact⟨its,r,p,z⟩
 .refine⟨its.toList,r,⟨o,I.kIn a o hk,hc,n,by simpa using hs⟩,?_⟩;have e:=r.length;simp only[Lm]at e;omega
theorem Inv.list_inj(I:Inv X pins σ H s)(h:SqL X.K H a xs)(h':SqL X.K H a ys):xs=ys:=by
 obtain⟨its,r,⟨o,n,e,_,_,d⟩,_⟩:=I.list h;obtain⟨its',r',⟨o',n',e',_,_,d'⟩,_⟩:=I.list h';rw[e]at e';cases e';rw[d]at d';injection d' with d1 _;have:its=its':=by simpa using congrArg Array.toList d1
 subst this;exact r.inj r'
end

abbrev Cx.wish(X:Cx)(E:IE->IG->Prop):Cx:={ X with xe:=E }
abbrev Cx.nox(X:Cx):Cx:=X.wish λ_ _=>False
theorem Cx.Ok.wish{X:Cx}(ok:X.Ok)(E:IE->IG->Prop):(X.wish E).Ok:=
 ⟨ok.mod,ok.kind,ok.glob,ok.blt,ok.above,ok.inj,ok.has,ok.cab,ok.hd,ok.frames,ok.stk,ok.exf,ok.bs,ok.bsz,ok.noex,ok.exfs,ok.funs,ok.frf⟩
theorem Cx.Ok.unwish{X:Cx}{E:IE->IG->Prop}(ok:(X.wish E).Ok):X.Ok:=
 ⟨ok.mod,ok.kind,ok.glob,ok.blt,ok.above,ok.inj,ok.has,ok.cab,ok.hd,ok.frames,ok.stk,ok.exf,ok.bs,ok.bsz,ok.noex,ok.exfs,ok.funs,ok.frf⟩
section
variable {X:Cx}{pins:List (Addr×Obj)}{σ:St}{H:Hp}{s:IG}{E:IE->IG->Prop}
theorem Inv.wish(I:Inv X pins σ H s)(E:IE->IG->Prop):Inv (X.wish E) pins σ H s:=⟨I.ok.wish E,I.os,I.bare,I.base,I.loc,I.cell,I.free,I.freeC,I.pin,I.hok,I.len⟩
theorem Inv.unwish(I:Inv (X.wish E) pins σ H s):Inv X pins σ H s:=⟨I.ok.unwish,I.os,I.bare,I.base,I.loc,I.cell,I.free,I.freeC,I.pin,I.hok,I.len⟩
theorem SP.unwish{D:e9}{f:Flow}{s':IG}(h:SP (X.wish E) pins D f s'):SP X pins D f s':=by
 cases f with
 |next=>obtain⟨σ',H',I,q⟩:=h;exact⟨σ',H',I.unwish,q⟩
 |brk=>obtain⟨σ',H',I,q⟩:=h;exact⟨σ',H',I.unwish,q⟩
 |cont=>obtain⟨σ',H',I,q⟩:=h;exact⟨σ',H',I.unwish,q⟩
 |ret u=>obtain⟨v,σ',H',I,r,q⟩:=h;exact⟨v,σ',H',I.unwish,r,q⟩
theorem PSs.nox{st:List Stmt}{t:TS}(h:PSs X.nox st t):PSs X st t:=λpins s σ H D I hw =>
 JX (h pins s σ H D (I.wish _) hw) (λ_ _ q=>q.unwish) λ_ _ z=>Ke z
end

section
variable {X:Cx}{st:Stmt}{rest:List Stmt}{t u:TS}{e:Expr}{te:TE}{pos:Pos}
def cY:TS:=λD σ H=>D.nx σ H
def CJ(t u:TS):TS:=λD σ H=>t { D with nx:=u D } σ H
theorem aE:PSs X [] cY:=λ_ _ σ H _ I h=>K7 ⟨σ,H,I,h⟩
theorem ae(h1:PS X st t)(h2:PSs X rest u):PSs X (st::rest) (CJ t u):=by
 intro pins s σ H D I h;refine LP (thn (h1 pins s σ H { D with nx:=u D } I h) λf s1 q=>?_);cases f with
 |next =>
  obtain⟨σ',H',I',q⟩:=q;exact h2 pins s1 σ' H' D I' q
 |ret v=>exact q
 |brk=>exact q
 |cont=>exact q
theorem af(h1:PS X st t):PSs X [st] t:=by
 intro pins s σ H D I h;refine LP (thn (h1 pins s σ H D I h) λf s1 q=>?_);cases f with
 |next=>exact K7 q
 |ret v=>exact q
 |brk=>exact q
 |cont=>exact q
theorem Inv.quiet{pins:List (Addr×Obj)}{σ:St}{H:Hp}{s:IG}(I:Inv X pins σ H s):interactive X.env=false:=by simp[interactive,I.ok.kind]
def GY(te:TE):TS:=λD σ H=>te σ H λ_ H1=>D.nx σ H1
theorem bf(he:PE X e te)(hs:LC e none pos.line X.env=pure false:=by rfl):PS X (.Expr e pos) (GY te):=by
 intro pins s σ H D I h;exact wpAny_Expr_any (thn (he pins s σ H _ I h) λv s1 ⟨x,H1,I1,r1,q1⟩=>⟨σ,H1,I1,q1⟩) I.quiet hs
def HP(te:TE):TS:=λD σ H=>te σ H D.rt
theorem aM(he:PE X e te):PS X (.Return (some e) pos) (HP te):=by
 intro pins s σ H D I h;exact wpAny_Return_some (thn (he pins s σ H _ I h) λv s1 ⟨x,H1,I1,r1,q1⟩=>⟨x,σ,H1,I1,r1,q1⟩)
def GZ:TS:=λD _ H=>D.rt .non H
theorem Ee:PS X (.Return none pos) GZ:=λ_ _ σ H _ I h=>wpAny_Return_none ⟨.non,σ,H,I,rfl,h⟩
def Fl(c:TT)(t u:TS):TS:=λD σ H=>c σ H λb H1=>if b=true then t D σ H1 else u D σ H1
theorem aG{c:Expr}{a b:List Stmt}{tc:TT}(hc:PT X c tc)(ha:PSs X a t)(hb:PSs X b u):PS X (.If c a b pos) (Fl tc t u):=by
 intro pins s σ H D I h;refine wpAny_If (thn (hc pins s σ H _ I h) λd s1 ⟨H1,I1,q1⟩=>?_);cases d with
 |true=>exact ha pins s1 σ H1 D I1 q1
 |false=>exact hb pins s1 σ H1 D I1 q1
def Bi:TS:=λ_ _ _=>False
theorem gD:PS X st Bi:=λ_ _ _ _ _ _ h=>h.elim
theorem im{sts:List Stmt}:PSs X sts Bi:=λ_ _ _ _ _ _ h=>h.elim
end

abbrev TG:=V->St->Hp->(St->Hp->Prop)->Prop
abbrev TGs:=List V->St->Hp->(St->Hp->Prop)->Prop
def PG(X:Cx)(target:Expr)(t:TG):Prop:=
 ∀(pins:List (Addr×Obj))(s:IG)(σ:St)(H:Hp)(v:V)(u:IE)(Q:St->Hp->Prop),Inv X pins σ H s->bx v u->t v σ H Q->
  Ju (Jv X.prog X.w) X.A (Ng target X.env u) (λ_ s'=>∃σ' H',Inv X pins σ' H' s'/\Q σ' H') X.xe s
def PGs(X:Cx)(ts:List Expr)(t:TGs):Prop:=
 ∀(pins:List (Addr×Obj))(s:IG)(σ:St)(H:Hp)(vs:List V)(us:List IE)(Q:St->Hp->Prop),Inv X pins σ H s->bo vs us->t vs σ H Q->
  Ju (Jv X.prog X.w) X.A (assignInOrder ((Mp ts X.env).map (·.2)) us) (λ_ s'=>∃σ' H',Inv X pins σ' H' s'/\Q σ' H') X.xe s
abbrev CK:=V->V->V->Hp->(Hp->Prop)->Prop
def Fn(X:Cx)(t:CK):Prop:=
 ∀(pins:List (Addr×Obj))(s:IG)(σ:St)(H:Hp)(o i v:V)(ov iv u:IE)(Q:Hp->Prop),Inv X pins σ H s->bx o ov->bx i iv->bx v u->t o i v H Q->
  Ju (Jv X.prog X.w) X.A (setItem ov iv u) (λ_ s'=>∃H',Inv X pins σ H' s'/\Q H') X.xe s
section
variable {X:Cx}{pos:Pos}
def bA(i:Nat):TG:=λv σ H Q=>Q (σ.set i (some v)) H
theorem aJ{i:Nat}{x:Str}(hN:X.N.Nodup)(hi:X.N[i]?=some x)(hx:Loc X.env.scope x)(hf:X.fn x=true\/X.env.scope.names.lookup x=some .local:=by first|exact .inl rfl|exact .inr rfl|assumption):PG X (.Name x pos) (bA i):=by
 intro pins s σ H v u Q I r h;exact wpAny_assign_Name (oI I hN hi hx r (λs' I'=>⟨_,H,I',h⟩) hf)
def CM:TGs:=λvs σ H Q=>vs=[]/\Q σ H
inductive se(t:TG)(u:TGs)(vs:List V)(σ:St)(H:Hp)(Q:St->Hp->Prop):Prop
 |mk(v r)(_:vs=v::r)(_:t v σ H λσ' H'=>u r σ' H' Q)
theorem cQ:PGs X [] CM:=by
 intro pins s σ H vs us Q I r h;obtain⟨e,h⟩:=h;subst e;cases r;exact assignInOrder_nil ⟨σ,H,I,h⟩
theorem aU{e:Expr}{es:List Expr}{t:TG}{u:TGs}(h1:PG X e t)(h2:PGs X es u)
  (hs:(Mp (e::es) X.env).map (·.2)=Ng e X.env::(Mp es X.env).map (·.2):=by rfl):PGs X (e::es) (se t u):=by
 intro pins s σ H vs us Q I r h;obtain⟨v,vr,e1,h⟩:=h;subst e1;cases r with
 |cons r rr =>
  rw[hs];refine assignInOrder_cons (thn (h1 pins s σ H _ _ _ I r h) λ_ s1 ⟨σ1,H1,I1,q1⟩=>?_);exact h2 pins s1 σ1 H1 _ _ Q I1 rr q1
inductive CN(K:IC)(n:Nat)(t:TGs)(v:V)(σ:St)(H:Hp)(Q:St->Hp->Prop):Prop
 |mk(a xs)(_:v=.ref a)(_:SqT K H a xs)(_:xs.length=n)(_:t xs σ H Q)
theorem dD{es:List Expr}{k:Nat}{t:TGs}{n:Nat}(hc:X.calm=true)(h:PGs X es t)
  (hn:(Mp es X.env).length=n:=by rfl)(hst:(Mp es X.env).findIdx? (·.1)=none:=by rfl):PG X (.Tuple es k pos) (CN X.K n t):=by
 intro pins s σ H v u Q I r hw;obtain⟨a,xs,e1,hq,hl,hw⟩:=hw;subst e1;cases r;obtain⟨its,rv,ht,hz⟩:=I.tuple hq;refine assign_Tuple_tuple (I.ok.hd hc) ht (by simp[hn,<-hl,rv.length]) hst λh' hx=>?_;have I1:Inv X pins σ H { s with heap:=h' }:=I.kept (t':=s.toks) λb o e=>hx b o (Jd (IS e)) e;exact h pins _ σ H xs _ Q I1 (by simpa using rv) hw
def HQ(to ti:TE)(t:CK):TG:=λv σ H Q=>to σ H λo H1=>ti σ H1 λi H2=>t o i v H2 λH3=>Q σ H3
theorem nY{o i:Expr}{to ti:TE}{t:CK}(ho:PE X o to)(hi:PE X i ti)(hs:Fn X t)
  (ha:∀ v,Ng (.Subscript o i pos) X.env v=(do
   let ov<-ML [v] (eval o X.env)
   let iv<-ML [v,ov] (eval i X.env)
   Nk pos
   ML [v,ov,iv] (setItem ov iv v)
   release [v,ov,iv] []):=by intro _;rfl):PG X (.Subscript o i pos) (HQ to ti t):=by
 intro pins s σ H v u Q I r h;rw[ha];refine Jp (M_ (thn (ho pins s σ H _ I h) λov s1 ⟨x,H1,I1,r1,q1⟩=>?_));refine Jp (M_ (thn (hi pins s1 σ H1 _ I1 q1) λiv s2 ⟨y,H2,I2,r2,q2⟩=>?_));refine Jp (Na (Jp (M_ (thn (hs pins s2 σ H2 x y v ov iv u _ I2 r1 r2 r q2) λ_ s3 ⟨H3,I3,q3⟩=>?_))));exact wpAny_release ⟨σ,H3,I3,q3⟩
def qw(te:TE)(g:TG):TS:=λD σ H=>te σ H λx H1=>g x σ H1 D.nx
theorem nZ{tg e:Expr}{te:TE}{g:TG}(he:PE X e te)(hg:PG X tg g)(hs:swapsWithSole [tg] e pos.line X.env=pure false:=by rfl)(hw:swappedStores [tg] e X.env=pure none:=by rfl)
  (h1:(Mp [tg] X.env).map (·.2)=[Ng tg X.env]:=by rfl):PS X (.Assign [tg] e pos) (qw te g):=by
 intro pins s σ H D I h;refine wpAny_Assign_stores (thn (he pins s σ H _ I h) λv s1 ⟨x,H1,I1,r1,q1⟩=>?_) hs hw;rw[h1];exact thn (hg pins s1 σ H1 x v _ I1 r1 q1) λ_ s2 q=>q
theorem av{i:Nat}{x:Str}{e:Expr}{te:TE}{pos':Pos}(hN:X.N.Nodup)(hi:X.N[i]?=some x)(hx:Loc X.env.scope x)(he:PE X e te)(hs:LC e (some (.Name x pos')) pos.line X.env=pure false:=by rfl)(hf:X.fn x=true\/X.env.scope.names.lookup x=some .local:=by first|exact .inl rfl|exact .inr rfl|assumption) :
  PS X (.Assign [.Name x pos'] e pos) (qw te (bA i)):=by
 intro pins s σ H D I h;refine My (thn (he pins s σ H _ I h) λv s1 ⟨y,H1,I1,r1,q1⟩=>?_) hs;exact oI I1 hN hi hx r1 (λs2 I2=>⟨_,H1,I2,q1⟩) hf
end

section
variable {X:Cx}{pos:Pos}
end

structure It where
 go:Nat->Hp->Prop
 yld:Nat->Hp->V->Hp->Prop
 stop:Nat->Hp->Prop
def qx(X:Cx)(pins:List (Addr×Obj))(H:Hp)(b:Addr):Prop:=
 H b=none/\b≠X.env.locals/\b∉X.fs/\(b∈X.ex\/X.s₀.heap.objs.size<=b)/\(∀x c,X.env.cells.lookup x=some c->c≠b)/\∀p∈X.pn++pins,p.1≠b
theorem Inv.fpOk{X:Cx}{pins:List (Addr×Obj)}{σ:St}{H H':Hp}{s:IG}{b:Addr}(I:Inv X pins σ H s)(hb:s.heap.objs.size<=b)(hn:H' b=none):qx X pins H' b:=by
 refine⟨hn,KC (Jl I.lt hb),I.nofs hb,.inr (JC I.sz hb),λx c e z=>?_,λp hp z=>?_⟩
 .obtain⟨v,q⟩:=I.cell x c e;exact absurd (Jl q.lt (by rw[z];exact hb)) (J7 _)
 .exact absurd (Jl (IS (I.pin p hp).1) (by rw[z];exact hb)) (J7 _)
structure oJ(P:Jk)(w:Jo)(K:IC)(tg:Expr)(J:It)(fp:List Addr)(it:Addr)(tn:Nat->Heap->Prop):Prop where
 mem:it∈fp
 obj:∀i h,tn i h->∀b∈fp,∃o,h.get? b=some o/\∀v,o.data≠.cell v
 keep:∀i h h',tn i h->(∀b∈fp,∀o,h.get? b=some o->h'.get? b=some o)->tn i h'
 item:∀(X:Cx),X.prog=P->X.w=w->X.K=K->X.calm=true->∀(i:Nat)(pins:List (Addr×Obj))(s:IG)(σ:St)(H:Hp)(E:IE->IG->Prop),Inv X pins σ H s->(∀b∈fp,qx X pins H b)->tn i s.heap->J.go i H->
  Ju (Jv P w) X.A (pyNext (.ref it)) (λr s1=>∃u,r=some u/\
   Ju (Jv P w) X.A (L_ tg (.ref it) u) (λ_ s2=>∃x H',Inv X pins σ H' s2/\bx x u/\J.yld i H x H'/\tn (i+1) s2.heap/\∀b∈fp,H' b=none) E s1) E s
 done:∀(X:Cx),X.prog=P->X.w=w->X.K=K->X.calm=true->∀(i:Nat)(pins:List (Addr×Obj))(s:IG)(σ:St)(H:Hp)(E:IE->IG->Prop),Inv X pins σ H s->(∀b∈fp,qx X pins H b)->tn i s.heap->J.stop i H->
  Ju (Jv P w) X.A (pyNext (.ref it)) (λr s1=>r=none/\Inv X pins σ H s1) E s
 self:∀(A:JF)(i:Nat)(s:IG)(Q:IE->IG->Prop)(E:IE->IG->Prop),tn i s.heap->Q (.ref it) s->Ju (Jv P w) A (NA (.ref it)) Q E s
abbrev TI:=St->Hp->(It->Hp->Prop)->Prop
inductive PIE(X:Cx)(pins:List (Addr×Obj))(σ:St)(tg:Expr)(R:It->Hp->Prop)(itv:IE)(s2:IG):Prop
 |mk(it:Addr)(fp:List Addr)(tn:Nat->Heap->Prop)(J:It)(H':Hp)(_:itv=.ref it)(_:Inv X pins σ H' s2)(_:oJ X.prog X.w X.K tg J fp it tn)(_:tn 0 s2.heap)(_:∀b∈fp,qx X pins H' b)(_:R J H')
def PI(X:Cx)(tg iter:Expr)(wi:TI):Prop:=
 ∀(pins:List (Addr×Obj))(s:IG)(σ:St)(H:Hp)(R:It->Hp->Prop),Inv X pins σ H s->wi σ H R->
  Ju (Jv X.prog X.w) X.A (eval iter X.env) (λv s1=>Ju (Jv X.prog X.w) X.A (NA v) (PIE X pins σ tg R) X.xe s1) X.xe s

theorem wN{M:Model}{A:JF}{E:IE->IG->Prop}{s:IG}{tg:Expr}{it:Addr}{u:IE}{o:Obj}{n:String}{vs:Array IE}{Q:Unit->IG->Prop}(ho:s.heap.get? it=some o)(hc:o.cls=.type n)(hd:o.data=.fields vs)
  (hn:["enumerate","zip","dict_itemiterator","dict_reverseitemiterator","odict_iterator","itertools.zip_longest","itertools.pairwise"].contains n=false)(hQ:Q () s):Ju M A (L_ tg (.ref it) u) Q E s:=by
 unfold L_;cases tg<;>first
  |exact JS hQ
  |(cases u<;>first
    |exact JS hQ
    | (refine Jp (wpAny_load ho ?_)
       rw[hc,hd];show Ju M A (if(["enumerate","zip","dict_itemiterator","dict_reverseitemiterator","odict_iterator","itertools.zip_longest","itertools.pairwise"].contains n&&vs[0]?==some (rawInt _))=true then _ else _) Q E s;rw[if_neg (by intro h;rw[hn,Mq]at h;cases h)];exact JS hQ))

def Itl(K:IC)(a:Addr):It:=
 ⟨λi H=>∃xs x,SqL K H a xs/\xs[i]?=some x,λi H x H'=>H'=H/\∀xs,SqL K H a xs->xs[i]?=some x,λi H=>∃xs,SqL K H a xs/\xs.length<=i⟩
def Itr(lo:Int)(n:Nat):It:=⟨λi _=>i<n,λi H x H'=>H'=H/\x=.int (lo+i),λi _=>n<=i⟩
theorem Bj{P:Jk}{w:Jo}{K:IC}{tg:Expr}(a it:Addr):oJ P w K tg (Itl K a) [it] it (λi h=>h.IsListIter it a i) where
 mem:=by simp
 obj:=λi h st b hb=>by
  have e:b=it:=by simpa using hb
  subst e;obtain⟨o,e,c,d⟩:=st;exact⟨o,e,λv z=>by rw[d]at z;cases z⟩
 keep:=λi h h' st k=>st.at λo e=>k it (by simp) o e
 item:=by
  intro X hP hw hK hc i pins s σ H E I hf st hg;subst hP hw hK;obtain⟨xs,x,hq,hx⟩:=hg;obtain⟨its,rv,p,hz⟩:=I.list hq;obtain⟨u,hu,ru⟩:=rv.get hx;obtain⟨f0,f1,f2,f3,f4,f5⟩:=hf it (by simp);refine wpAny_pyNext_list_item st p.isList (x:=u) (by simpa using hu) λh' st' sb=>?_;have I1:Inv X pins σ H { s with heap:=h' }:=I.turned (t':=s.toks) (λb o hb e=>(sb.2 b hb).trans e) f0 f1 f3 f4 f5;obtain⟨o,e,c,d⟩:=id st';exact⟨u,rfl,wN (s:={ s with heap:=h' }) e c d (by decide) ⟨x,H,I1,ru,⟨rfl,λys hy=>by rw[I.list_inj hy hq];exact hx⟩,st',λb hb=>(hf b hb).1⟩⟩
 done:=by
  intro X hP hw hK hc i pins s σ H E I hf st hg;subst hP hw hK;obtain⟨xs,hq,hx⟩:=hg;obtain⟨its,rv,p,hz⟩:=I.list hq;obtain⟨f0,f1,f2,f3,f4,f5⟩:=hf it (by simp);have hl:=rv.length;exact wpAny_pyNext_list_end (I.ok.hd hc) st p.isList (by simp;omega) λh' eb=>⟨rfl,I.turned (t':=s.toks) (λb o hb e=>eb b o hb e) f0 f1 f3 f4 f5⟩
 self:=λ_ _ _ _ _ st h=>wpAny_pyIter_listiter st h
theorem zX{P:Jk}{w:Jo}{K:IC}{tg:Expr}(it:Addr)(lo:Int)(n:Nat):oJ P w K tg (Itr lo n) [it] it (λi h=>IsRangeIter h it (lo+(i:Nat)*1) ((n:Int)-(i:Nat)) 1) where
 mem:=by simp
 obj:=λi h st b hb=>by
  have e:b=it:=by simpa using hb
  subst e;exact⟨_,st,λv z=>by
   have z':LD _=Data.cell v:=z;cases z'⟩
 keep:=λi h h' st k=>k it (by simp) _ st
 item:=by
  intro X hP hw hK hc i pins s σ H E I hf st hg;subst hP hw hK;obtain⟨f0,f1,f2,f3,f4,f5⟩:=hf it (by simp);have W:=Walks.range (prog:=X.prog) (w:=X.w) (I.ok.hd hc) it lo 1 n;refine W.item i s _ _ hg st λv h' tk hv st' kk=>?_;obtain⟨t,rfl⟩:=hv;have I1:Inv X pins σ H { s with heap:=h',toks:=tk }:=I.turned (λb o hb e=>kk b o (by simpa using hb) e) f0 f1 f3 f4 f5;refine⟨_,rfl,wN (s:={ s with heap:=h',toks:=tk }) (n := "range_iterator") st' rfl rfl (by decide) ⟨.int (lo+i),H,I1,⟨t,?_⟩,⟨rfl,rfl⟩,st',λb hb=>(hf b hb).1⟩⟩;rw[Int.mul_one]
 done:=by
  intro X hP hw hK hc i pins s σ H E I hf st hg;subst hP hw hK;obtain⟨f0,f1,f2,f3,f4,f5⟩:=hf it (by simp);exact wpAny_pyNext_range_end (I.ok.hd hc) st (by have:n<=i:=hg;omega) λh' eb=>⟨rfl,I.turned (t':=s.toks) (λb o hb e=>eb b o hb e) f0 f1 f3 f4 f5⟩
 self:=λ_ _ _ _ _ st h=>wpAny_pyIter_rangeiter st h
section
variable {X:Cx}{tg:Expr}
inductive Fo(K:IC)(R:It->Hp->Prop)(x:V)(H1:Hp):Prop
 |mk(a)(_:x=.ref a)(_:∃xs,SqL K H1 a xs)(_:R (Itl K a) H1)
def DV(K:IC)(tl:TE):TI:=λσ H R=>tl σ H (Fo K R)
theorem bj{l:Expr}{tl:TE}(hl:PE X l tl):PI X tg l (DV X.K tl):=by
 intro pins s σ H R I h;refine thn (hl pins s σ H _ I h) λv s1 ⟨x,H1,I1,r1,q1⟩=>?_;obtain⟨a,e,⟨xs,hq⟩,q⟩:=q1;subst e;cases r1;obtain⟨its,rv,p,hz⟩:=I1.list hq;refine LH p.isList ?_;refine⟨s1.heap.objs.size,[s1.heap.objs.size],_,_,H1,rfl,I1.kept (t':=s1.toks) λb o e=>IV _ e,Bj a _,⟨_,Jr _ rfl,rfl,rfl⟩,λb hb=>?_,q⟩;have e:b=s1.heap.objs.size:=by simpa using hb
 subst e;exact I1.fpOk (IM _) (I1.hok.fresh (IM _))
theorem xv{pins:List (Addr×Obj)}{σ:St}{H:Hp}{s:IG}{R:It->Hp->Prop}{E:IE->IG->Prop}{lo hi:Int}{t u v:Tok}{tk:Nat}(I:Inv X pins σ H s)(h1:-(2^62)<=lo)(h2:lo<2^62)(h3:-(2^62)<=hi)(h4:hi<2^62)
  (q:R (Itr lo (hi-lo).toNat) H):Ju (Jv X.prog X.w) X.A (NA (.ref s.heap.objs.size)) (PIE X pins σ tg R) E { s with heap:=s.heap.push { cls:=.type "range",data:=.fields #[.int lo t,.int hi u,.int 1 v] },toks:=tk }:=by
 refine wpAny_pyIter_range (IsRange.new ..) (small_one h1 h2 h3 h4) ?_;have I1:Inv X pins σ H { s with heap:=s.heap.push { cls:=.type "range",data:=.fields #[.int lo t,.int hi u,.int 1 v] },toks:=tk }:=I.kept λb o e=>IV _ e;refine⟨(s.heap.push { cls:=.type "range",data:=.fields #[.int lo t,.int hi u,.int 1 v] }).objs.size,[(s.heap.push { cls:=.type "range",data:=.fields #[.int lo t,.int hi u,.int 1 v] }).objs.size],_,_,H,rfl,
  I1.kept (t':=tk) λb o e=>IV _ e,zX _ lo (hi-lo).toNat,?_,λb hb=>?_,q⟩
 .have e1:lo+((0:Nat):Int)*1=lo:=by simp
  have e2:(((hi-lo).toNat:Nat):Int)-((0:Nat):Int)=Builtin.Range.rangeSize lo hi 1:=by rw[rangeSize_one];split<;>omega
  show IsRangeIter _ _ (lo+((0:Nat):Int)*1) ((((hi-lo).toNat:Nat):Int)-((0:Nat):Int)) 1;rw[e1,e2];exact Jr _ rfl
 .have e:b=(s.heap.push { cls:=.type "range",data:=.fields #[.int lo t,.int hi u,.int 1 v] }).objs.size:=by simpa using hb
  subst e;exact I1.fpOk (IM _) (I1.hok.fresh (IM _))
inductive Fp(R:It->Hp->Prop)(vs:List V)(H1:Hp):Prop
 |mk(j:Int)(_:vs=[.int j])(_:-(2^62)<=j)(_:j<2^62)(_:R (Itr 0 j.toNat) H1)
def G_(ta:TA):TI:=λσ H R=>ta σ H (Fp R)
inductive Fq(R:It->Hp->Prop)(vs:List V)(H1:Hp):Prop
 |mk(i j:Int)(_:vs=[.int i,.int j])(_:-(2^62)<=i/\i<2^62/\-(2^62)<=j/\j<2^62)(_:R (Itr i (j-i).toNat) H1)
def Ha(ta:TA):TI:=λσ H R=>ta σ H (Fq R)
theorem kA{a:Expr}{ta:TA}{p pos:Pos}(hg:Gl X "range")(hm:X.mg "range" = none)(ha:PA X [a] ta)(hs:Jn [a] X.env=[(false,eval a X.env)]:=by rfl):PI X tg (.Call (.Name "range" p) [a] [] pos) (G_ ta):=by
 intro pins s σ H R I h;refine Call_ (lQ I hg hm boot_range (Kl (thn (ha pos pins s σ H _ I h) λus s1 ⟨vs,H1,I1,r1,q1⟩=>?_) hs rfl));obtain⟨j,e,q1,q2,q⟩:=q1;subst e;cases r1 with
 |cons r rr =>
  cases rr;obtain⟨t,rfl⟩:=r;exact call_range_1 (xv I1 (by omega) (by omega) q1 q2 (by simpa using q))
theorem vz{a b:Expr}{ta:TA}{p pos:Pos}(hg:Gl X "range")(hm:X.mg "range" = none)(ha:PA X [a,b] ta)(hs:Jn [a,b] X.env=[(false,eval a X.env),(false,eval b X.env)]:=by rfl)(hs2:Jn [b] X.env=[(false,eval b X.env)]:=by rfl) :
  PI X tg (.Call (.Name "range" p) [a,b] [] pos) (Ha ta):=by
 intro pins s σ H R I h;refine Call_ (lQ I hg hm boot_range (Kl (thn (ha pos pins s σ H _ I h) λus s1 ⟨vs,H1,I1,r1,q1⟩=>?_) (by rw[hs,hs2]) (by rw[hs2];rfl)));obtain⟨i,j,e,⟨q1,q2,q3,q4⟩,q⟩:=q1;subst e;cases r1 with
 |cons r rr =>
  cases rr with
  |cons r' rr =>
   cases rr;obtain⟨t,rfl⟩:=r;obtain⟨t',rfl⟩:=r';exact call_range_2 (xv I1 q1 q2 q3 q4 q)

def Fs(wi:TI)(g:TG)(tb:TS):TS:=λD σ H=>wi σ H λJ H1=>∃W:Nat->Nat->St->Hp->Prop,(∃m,W 0 m σ H1)/\∀i m σ H,W i m σ H->
 (J.stop i H/\D.nx σ H)\/(J.go i H/\∃N:St->Hp->Prop,(∀σ' H',N σ' H'->∃m',m'<m/\W (i+1) m' σ' H')/\∀x H',J.yld i H x H'->g x σ H' λσ2 H2=>tb { D with nx:=N,ct:=N,bk:=D.nx } σ2 H2)
def qy(fp:List Addr)(h:Heap):List (Addr×Obj):=fp.filterMap λb=>(h.get? b).map λo=>(b,o)
theorem lA{fp:List Addr}{h:Heap}{b:Addr}{o:Obj}(hb:b∈fp)(e:h.get? b=some o):(b,o)∈qy fp h:=List.mem_filterMap.mpr ⟨b,hb,by rw[e];rfl⟩
theorem Bk{fp:List Addr}{h:Heap}{p:Addr×Obj}(hp:p∈qy fp h):p.1∈fp/\h.get? p.1=some p.2:=by
 obtain⟨b,hb,e⟩:=List.mem_filterMap.mp hp;cases q:h.get? b with
 |none=>rw[q]at e;cases e
 |some o =>
  rw[q]at e;have e':(b,o)=p:=Jy e;subst e';exact⟨hb,q⟩
theorem Inv.pinned{pins:List (Addr×Obj)}{σ:St}{H:Hp}{s:IG}{fp:List Addr}(I:Inv X pins σ H s)(hf:∀b∈fp,qx X pins H b)(ho:∀b∈fp,∃o,s.heap.get? b=some o/\∀v,o.data≠.cell v):Inv X (pins++qy fp s.heap) σ H s:=
 I.pins_of λp hp=>(List.mem_append.mp hp).elim (λz=>I.pin p (JB _ z)) λz=>by
  obtain⟨hb,e⟩:=Bk z;obtain⟨f0,f1,f2,_⟩:=hf p.1 hb;obtain⟨o,e',d⟩:=ho p.1 hb;rw[e]at e';cases e';exact⟨e,f0,f1,f2,d⟩
theorem Inv.unpinned{pins pl:List (Addr×Obj)}{σ:St}{H:Hp}{s:IG}(I:Inv X (pins++pl) σ H s):Inv X pins σ H s:=I.pins_of λp hp=>I.pin p (JB _ (Ku _ hp))
theorem bY{iter:Expr}{body:List Stmt}{wi:TI}{g:TG}{tb:TS}{pos:Pos}(hp:PassesOwn (Jv X.prog X.w) X.A X.env X.xe)(hc:X.calm=true)(hi:PI X tg iter wi)(hg:PG X tg g)(hb:PSs X body tb)
  (hs:∀x,Kf iter X.env x=pure x:=by intro _;rfl):PS X (.For tg iter body [] pos) (Fs wi g tb):=by
 intro pins s σ H D I h;refine wpAny_For (thn (hi pins s σ H _ I h) λv s1 h1=>thn h1 λitv s2 h2=>?_) hs;obtain⟨it,fp,tn,J,H2,e,I2,T,st2,f2,W,⟨m0,w0⟩,turn⟩:=h2;subst e
 -- what stays true of the iterator's objects through the loop
 have stat:∀{H':Hp},(∀b∈fp,H' b=none)->∀b∈fp,qx X pins H' b:=λhn b hb=>⟨hn b hb,(f2 b hb).2⟩;refine codeAny_forLoop_any (λn s'=>∃i σ' H',Inv X pins σ' H' s'/\tn i s'.heap/\(∀b∈fp,H' b=none)/\W i n σ' H') ?_ m0 ⟨0,σ,H2,I2,st2,λb hb=>(f2 b hb).1,w0⟩;rintro n s3 ⟨i,σ3,H3,I3,st3,fr3,w3⟩;rcases turn i n σ3 H3 w3 with⟨stop,qn⟩|⟨go,N,hN,step⟩
 .refine Ls hp (thn (T.done X rfl rfl rfl hc i pins s3 σ3 H3 X.xe I3 (stat fr3) st3 stop) λr s4 ⟨hr,I4⟩=>?_);subst hr;exact K7 ⟨σ3,H3,I4,qn⟩
 .refine Ls hp (thn (T.item X rfl rfl rfl hc i pins s3 σ3 H3 X.xe I3 (stat fr3) st3 go) λr s4 ⟨u,hr,h4⟩=>?_);subst hr;refine Ls hp (thn h4 λ_ s5 ⟨x,H5,I5,r5,y5,st5,fr5⟩=>?_);have I5':=I5.pinned (stat fr5) (T.obj _ _ st5);refine Ls hp (thn (hg _ s5 σ3 H5 x u _ I5' r5 (step x H5 y5)) λ_ s6 ⟨σ6,H6,I6,q6⟩=>?_);refine Ls hp (thn (hb _ s6 σ6 H6 _ I6 q6) λf s7 q7=>?_);have again:∀{σ7:St}{H7:Hp},Inv X (pins++qy fp s5.heap) σ7 H7 s7->N σ7 H7->∃m,m<n/\∃i σ' H',Inv X pins σ' H' s7/\tn i s7.heap/\(∀b∈fp,H' b=none)/\W i m σ' H':=λ{σ7 H7} I7 n7=>by
   obtain⟨m',hm,w7⟩:=hN σ7 H7 n7;refine⟨m',hm,i+1,σ7,H7,I7.unpinned,T.keep _ _ _ st5 λb hb o e=>(I7.pin (b,o) (JB _ (JB _ (lA hb e)))).1,λb hb=>?_,w7⟩;obtain⟨o,e,d⟩:=T.obj _ _ st5 b hb;exact(I7.pin (b,o) (JB _ (JB _ (lA hb e)))).2.1
  cases f with
  |next=>obtain⟨σ7,H7,I7,n7⟩:=q7;exact again I7 n7
  |cont=>obtain⟨σ7,H7,I7,n7⟩:=q7;exact again I7 n7
  |brk=>obtain⟨σ7,H7,I7,q7⟩:=q7;exact⟨σ7,H7,I7.unpinned,q7⟩
  |ret v=>obtain⟨x7,σ7,H7,I7,r7,q7⟩:=q7;exact⟨x7,σ7,H7,I7.unpinned,r7,q7⟩
end

theorem bZ{K:IC}{a:Addr}{xs:List V}{g:TG}{tb:TS}{D:e9}{σ:St}{H:Hp}(Pv:Nat->St->Hp->Prop)(h0:Pv 0 σ H)(hl:∀i σ H,i<=xs.length->Pv i σ H->SqL K H a xs)
  (hs:∀i x σ H,xs[i]?=some x->Pv i σ H->g x σ H λσ2 H2=>tb { D with nx:=Pv (i+1),ct:=Pv (i+1),bk:=D.nx } σ2 H2)(hd:∀σ H,Pv xs.length σ H->D.nx σ H) :
  ∃W:Nat->Nat->St->Hp->Prop,(∃m,W 0 m σ H)/\∀i m σ H,W i m σ H->
   ((Itl K a).stop i H/\D.nx σ H)\/((Itl K a).go i H/\∃N:St->Hp->Prop,(∀σ' H',N σ' H'->∃m',m'<m/\W (i+1) m' σ' H')/\∀x H',(Itl K a).yld i H x H'->g x σ H' λσ2 H2=>tb { D with nx:=N,ct:=N,bk:=D.nx } σ2 H2):=by
 refine⟨λi m σ H=>m=xs.length-i/\i<=xs.length/\Pv i σ H,⟨xs.length,by simp,Jw _,h0⟩,?_⟩;rintro i m σ H ⟨rfl,hi,p⟩;have q:=hl i σ H hi p;by_cases hlt:i<xs.length
 .refine .inr ⟨⟨xs,xs[i],q,by simp[hlt]⟩,Pv (i+1),λσ' H' p'=>⟨xs.length-(i+1),by omega,rfl,hlt,p'⟩,λx H' y=>?_⟩;obtain⟨e,y⟩:=y;subst e;exact hs i x σ _ (y xs q) p
 .have e:i=xs.length:=by omega
  subst e;exact .inl ⟨⟨xs,q,IM _⟩,hd σ H p⟩
theorem kC{lo:Int}{n:Nat}{g:TG}{tb:TS}{D:e9}{σ:St}{H:Hp}(Pv:Nat->St->Hp->Prop)(h0:Pv 0 σ H)
  (hs:∀i σ H,i<n->Pv i σ H->g (.int (lo+i)) σ H λσ2 H2=>tb { D with nx:=Pv (i+1),ct:=Pv (i+1),bk:=D.nx } σ2 H2)(hd:∀σ H,Pv n σ H->D.nx σ H) :
  ∃W:Nat->Nat->St->Hp->Prop,(∃m,W 0 m σ H)/\∀i m σ H,W i m σ H->
   ((Itr lo n).stop i H/\D.nx σ H)\/((Itr lo n).go i H/\∃N:St->Hp->Prop,(∀σ' H',N σ' H'->∃m',m'<m/\W (i+1) m' σ' H')/\∀x H',(Itr lo n).yld i H x H'->g x σ H' λσ2 H2=>tb { D with nx:=N,ct:=N,bk:=D.nx } σ2 H2):=by
 refine⟨λi m σ H=>m=n-i/\i<=n/\Pv i σ H,⟨n,by simp,Jw _,h0⟩,?_⟩;rintro i m σ H ⟨rfl,hi,p⟩;by_cases hlt:i<n
 .refine .inr ⟨hlt,Pv (i+1),λσ' H' p'=>⟨n-(i+1),by omega,rfl,hlt,p'⟩,λx H' y=>?_⟩;obtain⟨e,y⟩:=y;subst e y;exact hs i σ _ hlt p
 .have e:i=n:=by omega
  subst e;exact .inl ⟨IM _,hd σ H p⟩

abbrev R2:=V->V->Hp->VK->Prop
def OpR(X:Cx)(f:IE->IE->Sem IE)(r:R2):Prop:=
 ∀(pins:List (Addr×Obj))(s:IG)(σ:St)(H:Hp)(x y:V)(v u:IE)(Q:VK),Inv X pins σ H s->bx x v->bx y u->r x y H Q->
  Ju (Jv X.prog X.w) X.A (f v u) (EP X pins σ Q) X.xe s
def UnR(X:Cx)(f:IE->Sem IE)(r:V->Hp->VK->Prop):Prop:=
 ∀(pins:List (Addr×Obj))(s:IG)(σ:St)(H:Hp)(x:V)(v:IE)(Q:VK),Inv X pins σ H s->bx x v->r x H Q->
  Ju (Jv X.prog X.w) X.A (f v) (EP X pins σ Q) X.xe s
def ii(X:Cx)(f:IE)(r:List V->Hp->VK->Prop):Prop:=
 ∀(pins:List (Addr×Obj))(s:IG)(σ:St)(H:Hp)(xs:List V)(us:List IE)(Q:VK),Inv X pins σ H s->bo xs us->r xs H Q->
  Ju (Jv X.prog X.w) X.A (call f us) (EP X pins σ Q) X.xe s
def tOp(r:R2)(ta tb:TE):TE:=λσ H Q=>ta σ H λx H1=>tb σ H1 λy H2=>r x y H2 Q
def tUn(r:V->Hp->VK->Prop)(ta:TE):TE:=λσ H Q=>ta σ H λx H1=>r x H1 Q
inductive rI(C:Int->Int->Prop)(g:Int->Int->V)(x:V)(y:V)(H:Hp)(Q:VK):Prop
 |mk(i j)(_:x=.int i)(_:y=.int j)(_:C i j)(_:Q (g i j) H)
inductive rI0(g:Int->Int->V)(x:V)(y:V)(H:Hp)(Q:VK):Prop
 |mk(i j)(_:x=.int i)(_:y=.int j)(_:Q (g i j) H)
inductive rU(g:Int->V)(x:V)(H:Hp)(Q:VK):Prop
 |mk(i)(_:x=.int i)(_:Q (g i) H)

section
variable {X:Cx}{a b c:Expr}{ta tb tc:TE}{pos:Pos}

theorem CO(ha:PE X a ta)(hb:PE X b tb){pins:List (Addr×Obj)}{s:IG}{σ:St}{H:Hp}{R:V->V->Hp->Prop}(I:Inv X pins σ H s)
  (h:ta σ H λx H1=>tb σ H1 λy H2=>R x y H2){Q:IE->IG->Prop}{f:IE->IE->Sem IE}
  (hf:∀v u s2 x y H2,Inv X pins σ H2 s2->bx x v->bx y u->R x y H2->Ju (Jv X.prog X.w) X.A (f v u) Q X.xe s2) :
  Ju (Jv X.prog X.w) X.A (eval a X.env) (λv s₁=>Ju (Jv X.prog X.w) X.A (eval b X.env) (λu s₂=>Ju (Jv X.prog X.w) X.A (f v u) Q X.xe s₂) X.xe s₁) X.xe s:=by
 refine thn (ha pins s σ H _ I h) λv s1 ⟨x,H1,I1,r1,q1⟩=>?_;refine thn (hb pins s1 σ H1 _ I1 q1) λu s2 ⟨y,H2,I2,r2,q2⟩=>?_;exact hf v u s2 x y H2 I2 r1 r2 q2

theorem aH{op:Operator}{r:R2}(ho:OpR X (K8 op) r)(ha:PE X a ta)(hb:PE X b tb):PE X (.BinOp a op b pos) (tOp r ta tb):=by
 intro pins s σ H Q I h;exact wpAny_BinOp (CO ha hb I h λv u s2 x y H2 I2 rx ry q=>ho pins s2 σ H2 x y v u Q I2 rx ry q)
theorem sf{op:UnaryOp}{r:V->Hp->VK->Prop}(ho:UnR X (unaryOp op) r)(ha:PE X a ta):PE X (.UnaryOp op a pos) (tUn r ta):=by
 intro pins s σ H Q I h;exact UnaryOp_ (thn (ha pins s σ H _ I h) λv s1 ⟨x,H1,I1,r1,q1⟩=>ho pins s1 σ H1 x v Q I1 r1 q1)
theorem opI{f:IE->IE->Sem IE}{C:Int->Int->Prop}{g:Int->Int->Int}
  (rule:∀(i j:Int)(t u:Tok)(s:IG)(Q:IE->IG->Prop)(E:IE->IG->Prop),C i j->Q (.int (g i j) s.toks) { s with toks:=s.toks+1 }->Ju (Jv X.prog X.w) X.A (f (.int i t) (.int j u)) Q E s) :
  OpR X f (rI C λi j=>.int (g i j)):=by
 intro pins s σ H x y v u Q I rx ry h;obtain⟨i,j,rfl,rfl,hc,q⟩:=h;obtain⟨t,rfl⟩:=rx;obtain⟨t',rfl⟩:=ry;exact rule i j t t' s _ _ hc ⟨.int (g i j),H,I.tok _,⟨_,rfl⟩,q⟩
theorem Ft{f:IE->IE->Sem IE}{g:Int->Int->Int}
  (rule:∀(i j:Int)(t u:Tok)(s:IG)(Q:IE->IG->Prop)(E:IE->IG->Prop),Q (.int (g i j) s.toks) { s with toks:=s.toks+1 }->Ju (Jv X.prog X.w) X.A (f (.int i t) (.int j u)) Q E s) :
  OpR X f (rI0 λi j=>.int (g i j)):=by
 intro pins s σ H x y v u Q I rx ry h;obtain⟨i,j,rfl,rfl,q⟩:=h;obtain⟨t,rfl⟩:=rx;obtain⟨t',rfl⟩:=ry;exact rule i j t t' s _ _ ⟨.int (g i j),H,I.tok _,⟨_,rfl⟩,q⟩
theorem CP{f:IE->IE->Sem IE}{g:Int->Int->Bool}
  (rule:∀(i j:Int)(t u:Tok)(s:IG)(Q:IE->IG->Prop)(E:IE->IG->Prop),Q (.bool (g i j)) s->Ju (Jv X.prog X.w) X.A (f (.int i t) (.int j u)) Q E s) :
  OpR X f (rI0 λi j=>.bl (g i j)):=by
 intro pins s σ H x y v u Q I rx ry h;obtain⟨i,j,rfl,rfl,q⟩:=h;obtain⟨t,rfl⟩:=rx;obtain⟨t',rfl⟩:=ry;exact rule i j t t' s _ _ ⟨.bl (g i j),H,I,rfl,q⟩

def HR(i j:Int):Prop:=0<j/\j<1073741824
def HS(i j:Int):Prop:=0<=j/\j<=1000000/\i.natAbs<2^64
def CQ(i j:Int):Prop:=(-(2^64)<i/\i<2^64)\/(-(2^64)<j/\j<2^64)
theorem CQ.ok{i j:Int}(h:CQ i j):IntMulOk i j:=by
 rcases h with⟨h1,h2⟩|⟨h1,h2⟩
 .exact .of_left (intBits_le_64 h1 h2)
 .exact .of_right (intBits_le_64 h1 h2)
theorem bS:OpR X (K8 .Add) (rI0 λi j=>.int (i+j)):=Ft λ_ _ _ _ _ _ _ q=>add_int q
theorem kD:OpR X (K8 .Sub) (rI0 λi j=>.int (i-j)):=Ft λ_ _ _ _ _ _ _ q=>sub_int q
theorem um:OpR X (K8 .Mult) (rI CQ λi j=>.int (i*j)):=opI λ_ _ _ _ _ _ _ hc q=>mul_int q hc.ok
theorem zc:OpR X (K8 .FloorDiv) (rI HR λi j=>.int (i/j)):=opI λi j _ _ _ _ _ hc q=>by
 have h1:(0:Int)<j:=hc.1;have h2:j<1073741824:=hc.2;exact floordiv_int (by omega) (by rw[Int.fdiv_eq_ediv_of_nonneg i (by omega)];exact q) (.inl (PyProof.noPylong_small (by omega)))
theorem n9:OpR X (K8 .Mod) (rI (λ_ j=>0<j) λi j=>.int (i%j)):=opI λi j _ _ _ _ _ hc q=>by
 have h1:(0:Int)<j:=hc;exact mod_int' (by omega) (by rw[Int.fmod_eq_emod_of_nonneg i (by omega)];exact q)
theorem Fu:OpR X (K8 .Pow) (rI HS λi j=>.int (i^j.toNat)):=opI λ_ _ _ _ _ _ _ hc q=>pow_int_small hc.1 hc.2.1 hc.2.2 q
theorem unI{f:IE->Sem IE}{g:Int->Int}
  (rule:∀(i:Int)(t:Tok)(s:IG)(Q:IE->IG->Prop)(E:IE->IG->Prop),Q (.int (g i) s.toks) { s with toks:=s.toks+1 }->Ju (Jv X.prog X.w) X.A (f (.int i t)) Q E s) :
  UnR X f (rU λi=>.int (g i)):=by
 intro pins s σ H x v Q I rx h;obtain⟨i,rfl,q⟩:=h;obtain⟨t,rfl⟩:=rx;exact rule i t s _ _ ⟨.int (g i),H,I.tok _,⟨_,rfl⟩,q⟩
theorem n_:UnR X (unaryOp .USub) (rU λi=>.int (-i)):=unI λ_ _ _ _ _ q=>neg_int q
end

def Fv:V->V->Bool
 |.non,.non=>true|.non,.int _=>true|.int _,.non=>true|.non,.bl _=>true|.bl _,.non=>true|.non,.str _=>true|.str _,.non=>true
 |.int _,.int _=>true|.bl _,.bl _=>true|.str _,.str _=>true|.byt _,.byt _=>true
 |.int _,.str _=>true|.str _,.int _=>true|.bl _,.str _=>true|.str _,.bl _=>true
 |_,_=>false
def rEq:R2:=λx y H Q=>Fv x y=true/\Q (.bl (decide (x=y))) H
def rNe:R2:=λx y H Q=>Fv x y=true/\Q (.bl (!decide (x=y))) H

theorem zd{i j:Int}:decide (V.int i=V.int j)=(i==j):=by
 rw[Ma];simp
theorem Bl{i j:Bool}:decide (V.bl i=V.bl j)=(i==j):=by
 rw[Ma];simp
theorem ze{i j:Str}:decide (V.str i=V.str j)=(i==j):=by
 rw[Ma];simp
theorem zf{i j:Array UInt8}:decide (V.byt i=V.byt j)=(i.toList==j.toList):=by
 rw[Ma];cases i;cases j;simp

section
variable {X:Cx}{a b c:Expr}{ta tb tc:TE}{pos:Pos}
theorem bQ{pins:List (Addr×Obj)}{σ:St}{H:Hp}{s:IG}{Q:VK}{k k':Bool}(I:Inv X pins σ H s)(q:Q (.bl k) H)(e:k=k'):EP X pins σ Q (.bool k') s:=by
 subst e;exact⟨.bl k,H,I,rfl,q⟩
theorem bn:OpR X (Kc .Eq) rEq:=by
 intro pins s σ H x y v u Q I rx ry h;obtain⟨hs,q⟩:=h;cases x with
 |non =>
  cases rx;cases y with
  |non=>cases ry;exact PySem.EqNone.eq_none_none (bQ I q (by simp))
  |bl j=>cases ry;exact PySem.EqNone.eq_none_bool (bQ I q (by simp))
  |int j=>obtain⟨t',rfl⟩:=ry;exact PySem.EqNone.eq_none_int (bQ I q (by simp))
  |str j=>obtain⟨t',rfl⟩:=ry;exact PySem.EqNone.eq_none_str (bQ I q (by simp))
  |_=>exact absurd (show false=true from hs) Jh
 |bl i =>
  cases rx;cases y with
  |non=>cases ry;exact PySem.EqNone.eq_bool_none (bQ I q (by simp))
  |bl j=>cases ry;exact eq_bool (bQ I q Bl)
  |str j=>obtain⟨t',rfl⟩:=ry;exact PySem.EqMixed.eq_bool_str (bQ I q (by simp))
  |_=>exact absurd (show false=true from hs) Jh
 |int i =>
  obtain⟨t,rfl⟩:=rx;cases y with
  |non=>cases ry;exact PySem.EqNone.eq_int_none (bQ I q (by simp))
  |int j=>obtain⟨t',rfl⟩:=ry;exact eq_int (bQ I q zd)
  |str j=>obtain⟨t',rfl⟩:=ry;exact PySem.EqMixed.eq_int_str (bQ I q (by simp))
  |_=>exact absurd (show false=true from hs) Jh
 |str i =>
  obtain⟨t,rfl⟩:=rx;cases y with
  |non=>cases ry;exact PySem.EqNone.eq_str_none (bQ I q (by simp))
  |bl j=>cases ry;exact PySem.EqMixed.eq_str_bool (bQ I q (by simp))
  |int j=>obtain⟨t',rfl⟩:=ry;exact PySem.EqMixed.eq_str_int (bQ I q (by simp))
  |str j=>obtain⟨t',rfl⟩:=ry;exact eq_str (bQ I q ze)
  |_=>exact absurd (show false=true from hs) Jh
 |byt i =>
  obtain⟨t,rfl⟩:=rx;cases y with
  |byt j=>obtain⟨t',rfl⟩:=ry;exact PySem.W.eq_bytes (bQ I q zf)
  |_=>exact absurd (show false=true from hs) Jh
 |_=>cases y<;>exact absurd (show false=true from hs) Jh
theorem dZ:OpR X (Kc .NotEq) rNe:=by
 intro pins s σ H x y v u Q I rx ry h;obtain⟨hs,q⟩:=h;cases x with
 |non =>
  cases rx;cases y with
  |non=>cases ry;exact PySem.EqNone.ne_none_none (bQ I q (by simp))
  |bl j=>cases ry;exact PySem.EqNone.ne_none_bool (bQ I q (by simp))
  |int j=>obtain⟨t',rfl⟩:=ry;exact PySem.EqNone.ne_none_int (bQ I q (by simp))
  |str j=>obtain⟨t',rfl⟩:=ry;exact PySem.EqNone.ne_none_str (bQ I q (by simp))
  |_=>exact absurd (show false=true from hs) Jh
 |bl i =>
  cases rx;cases y with
  |non=>cases ry;exact PySem.EqNone.ne_bool_none (bQ I q (by simp))
  |bl j=>cases ry;exact ne_bool (bQ I q (congrArg not Bl))
  |str j=>obtain⟨t',rfl⟩:=ry;exact PySem.EqMixed.ne_bool_str (bQ I q (by simp))
  |_=>exact absurd (show false=true from hs) Jh
 |int i =>
  obtain⟨t,rfl⟩:=rx;cases y with
  |non=>cases ry;exact PySem.EqNone.ne_int_none (bQ I q (by simp))
  |int j=>obtain⟨t',rfl⟩:=ry;exact ne_int (bQ I q (congrArg not zd))
  |str j=>obtain⟨t',rfl⟩:=ry;exact PySem.EqMixed.ne_int_str (bQ I q (by simp))
  |_=>exact absurd (show false=true from hs) Jh
 |str i =>
  obtain⟨t,rfl⟩:=rx;cases y with
  |non=>cases ry;exact PySem.EqNone.ne_str_none (bQ I q (by simp))
  |bl j=>cases ry;exact PySem.EqMixed.ne_str_bool (bQ I q (by simp))
  |int j=>obtain⟨t',rfl⟩:=ry;exact PySem.EqMixed.ne_str_int (bQ I q (by simp))
  |str j=>obtain⟨t',rfl⟩:=ry;exact ne_str (bQ I q (congrArg not ze))
  |_=>exact absurd (show false=true from hs) Jh
 |byt i =>
  obtain⟨t,rfl⟩:=rx;cases y with
  |byt j=>obtain⟨t',rfl⟩:=ry;exact PySem.W.ne_bytes (bQ I q (congrArg not zf))
  |_=>exact absurd (show false=true from hs) Jh
 |_=>cases y<;>exact absurd (show false=true from hs) Jh

theorem wO:OpR X (Kc .Lt) (rI0 λi j=>.bl (decide (i<j))):=CP λ_ _ _ _ _ _ _ q=>lt_int q
theorem zY:OpR X (Kc .LtE) (rI0 λi j=>.bl (decide (i<=j))):=CP λ_ _ _ _ _ _ _ q=>le_int q
theorem iV:OpR X (Kc .Gt) (rI0 λi j=>.bl (decide (j<i))):=CP λ_ _ _ _ _ _ _ q=>gt_int q
inductive zZ(x:V)(y:V)(H:Hp)(Q:VK):Prop
 |mk(i j)(_:x=.str i)(_:y=.str j)(_:Q (.bl (!(J4 j i 0 j.length 1).isEmpty)) H)
theorem kE:OpR X (Kc .In) zZ:=by
 intro pins s σ H x y v u Q I rx ry h;obtain⟨i,j,rfl,rfl,q⟩:=h;obtain⟨t,rfl⟩:=rx;obtain⟨t',rfl⟩:=ry;exact in_str (bQ I q rfl)

theorem Fw:OpR X (Kc .Is) (λx y H Q=>y=.non/\Q (.bl (decide (x=.non))) H):=by
 intro pins s σ H x y v u Q I rx ry h;obtain⟨rfl,q⟩:=h;cases ry;refine is_none_gen (bQ I q ?_);cases x<;>first
  |(cases rx;rfl)
  |(obtain⟨t,rfl⟩:=rx;rfl)
inductive v_(x:V)(y:V)(H:Hp)(Q:VK):Prop
 |mk(i j)(_:x=.str i)(_:y=.str j)(_:Q (.bl (!(!(J4 j i 0 j.length 1).isEmpty))) H)
theorem qz:OpR X (Kc .NotIn) v_:=by
 intro pins s σ H x y v u Q I rx ry h;obtain⟨i,j,rfl,rfl,q⟩:=h;obtain⟨t,rfl⟩:=rx;obtain⟨t',rfl⟩:=ry;exact notIn_str (bQ I q rfl)
theorem nomark(b:Expr){op:CmpOp}(h:op≠.In:=by decide)(h2:op≠.NotIn:=by decide):LV op b=false:=by
 have e1:(op==CmpOp.In)=false:=by cases op<;>first|rfl|exact absurd rfl h
 have e2:(op==CmpOp.NotIn)=false:=by cases op<;>first|rfl|exact absurd rfl h2
 cases b<;>simp[LV,e1,e2]
theorem dL{op:CmpOp}{r:R2}(ho:OpR X (Kc op) r)(ha:PE X a ta)(hb:PE X b tb)(hm:LV op b=false):PE X (.Compare a [op] [b] pos) (tOp r ta tb):=by
 intro pins s σ H Q I h;exact wpAny_Compare1 (CO ha hb I h λv u s2 x y H2 I2 rx ry q=>ho pins s2 σ H2 x y v u Q I2 rx ry q) hm
inductive Fx(Q:Bool->Hp->Prop)(x:V)(H':Hp):Prop
 |mk(k)(_:x=.bl k)(_:Q k H')
def DW(t:TE):TT:=λσ H Q=>t σ H (Fx Q)
theorem ao{op:CmpOp}{r:R2}(ho:OpR X (Kc op) r)(ha:PE X a ta)(hb:PE X b tb)(hm:LV op b=false):PT X (.Compare a [op] [b] pos) (DW (tOp r ta tb)):=by
 intro pins s σ H Q I h;refine wpAny_isTrue_Compare1 (thn (ha pins s σ H _ I h) λv s1 ⟨x,H1,I1,r1,q1⟩=>thn (hb pins s1 σ H1 _ I1 q1) λu s2 ⟨y,H2,I2,r2,q2⟩ =>
  thn (ho pins s2 σ H2 x y v u _ I2 r1 r2 q2) λc s3 ⟨z,H3,I3,r3,k,e,q3⟩=>?_) hm
 subst e;cases r3;exact Kv ⟨H3,I3,q3⟩
theorem lR:(I0:Nat)<2^63:=by rw[M1];decide
inductive yP(x:V)(y:V)(H:Hp)(Q:VK):Prop
 |mk(i j)(_:x=.str i)(_:y=.str j)(_:i.length+j.length<=I0)(_:Q (.str (i++j)) H)
theorem de:OpR X (K8 .Add) yP:=by
 intro pins s σ H x y v u Q I rx ry h;obtain⟨i,j,rfl,rfl,hz,q⟩:=h;obtain⟨t,rfl⟩:=rx;obtain⟨t',rfl⟩:=ry;exact add_str (λt' tk=>⟨.str (i++j),H,I.tok _,⟨_,rfl⟩,q⟩) hz
theorem iW{x:V}{us:List IE}(r:bo [x] us):∃u,us=[u]/\bx x u:=by
 cases r with
 |cons r1 r2=>cases r2;exact⟨_,rfl,r1⟩
theorem wP{x y:V}{us:List IE}(r:bo [x,y] us):∃u w',us=[u,w']/\bx x u/\bx y w':=by
 cases r with
 |cons r1 r2 =>
  cases r2 with
  |cons r3 r4=>cases r4;exact⟨_,_,rfl,r1,r3⟩
inductive z5(xs:List V)(H:Hp)(Q:VK):Prop
 |mk(i j)(_:xs=[.int i,.int j])(_:Q (.int (if j>i then j else i)) H)
theorem mP(hc:X.calm=true):ii X (.builtin "max") z5:=by
 intro pins s σ H xs us Q I r h;obtain⟨i,j,rfl,q⟩:=h;obtain⟨u,w',rfl,⟨t,rfl⟩,⟨t',rfl⟩⟩:=wP r;refine max_two_ints (I.ok.hd hc) λh' tk k=>⟨_,H,I.kept k,?_,q⟩;by_cases hj:j>i
 .rw[if_pos hj,if_pos hj];exact⟨_,rfl⟩
 .rw[if_neg hj,if_neg hj];exact⟨_,rfl⟩
theorem mQ:ii X (.type "int") (λxs H Q=>(∃i,xs=[.int i]/\Q (.int i) H)\/∃k,xs=[.bl k]/\Q (.int (if k then 1 else 0)) H):=by
 intro pins s σ H xs us Q I r h;rcases h with⟨i,rfl,q⟩|⟨k,rfl,q⟩
 .obtain⟨u,rfl,t,rfl⟩:=iW r;exact call_int_int ⟨.int i,H,I,⟨_,rfl⟩,q⟩
 .obtain⟨u,rfl,r1⟩:=iW r;cases r1;exact call_int_bool ⟨.int (if k then 1 else 0),H,I.tok _,⟨_,rfl⟩,q⟩
inductive wc(xs:List V)(H:Hp)(Q:VK):Prop
 |mk(i)(_:xs=[.int i])(_:i.natAbs.log2<1920)(_:Q (.str (toString i)) H)
theorem lS:ii X (.type "str") wc:=by
 intro pins s σ H xs us Q I r h;obtain⟨i,rfl,hz,q⟩:=h;obtain⟨u,rfl,t,rfl⟩:=iW r;exact PySem.P.str_of_int hz ⟨.str _,H,I.tok _,⟨_,rfl⟩,q⟩
def HU(K:IC)(x:V)(H:Hp)(n:Nat):Prop:=
 match x with
 |.str y=>y.length<=I0/\n=y.length
 |.byt y=>y.size<=I0/\n=y.size
 |.ref p=>(∃xs,SqL K H p xs/\n=xs.length)\/∃xs,SqT K H p xs/\n=xs.length
 |_=>False
inductive Bm(K:IC)(xs:List V)(H:Hp)(Q:VK):Prop
 |mk(x n)(_:xs=[x])(_:HU K x H n)(_:Q (.int n) H)
theorem oK:ii X (.builtin "len") (Bm X.K):=by
 intro pins s σ H xs us Q I r h;obtain⟨x,n,rfl,e,q⟩:=h;obtain⟨u,rfl,rx⟩:=iW r;have hl:=lR;have hs:I0=16777216:=M1;cases x with
 |str y =>
  obtain⟨t,rfl⟩:=rx;obtain⟨hy,e'⟩:y.length<=I0/\n=y.length:=e;subst e';exact len_str (by omega) ⟨.int _,H,I.tok _,⟨_,rfl⟩,q⟩
 |byt y =>
  obtain⟨t,rfl⟩:=rx;obtain⟨hy,e'⟩:y.size<=I0/\n=y.size:=e;subst e';exact PySem.W.len_bytes (by omega) ⟨.int _,H,I.tok _,⟨_,rfl⟩,q⟩
 |ref p =>
  cases rx;have e':(∃xs,SqL X.K H p xs/\n=xs.length)\/∃xs,SqT X.K H p xs/\n=xs.length:=e;rcases e' with⟨xs,hx,e'⟩|⟨xs,hx,e'⟩
  .subst e';obtain⟨its,r',pl,hz⟩:=I.list hx;have hlen:=r'.length;exact Calls.call_len_list pl.isList (by simp only[I_];omega) ⟨.int xs.length,H,I.tok _,⟨_,by simp only[I_];rw[hlen]⟩,q⟩
  .subst e';obtain⟨its,r',pl,hz⟩:=I.tuple hx;have hlen:=r'.length;exact len_tuple pl (by simp only[I_];omega) ⟨.int xs.length,H,I.tok _,⟨_,by simp only[I_];rw[hlen]⟩,q⟩
 |_=>exact(show False from e).elim
end

structure sW(h:Heap)(x dx C:Addr)(mA:Str->Option IE):Prop where
 obj:h.get? x=some (Kz C dx)
 ns:h.Ns1 dx mA
 ne:dx≠x

theorem Bn{h:Heap}{dx:Addr}{mA:Str->Option IE}(n:h.Ns1 dx mA):∃od,h.get? dx=some od/\∀name,Mr name od=some (mA name):=by
 obtain⟨o,es,ep,ho,hd,hk,_,hm⟩:=n;refine⟨o,ho,λname=>?_⟩;have e:=hm name;unfold nsFind findBy at e;rw[<-Array.find?_toList]at e;unfold Mr;rw[hd];dsimp only
 split
 .rename_i y q
  rw[q]at e;exact congrArg some e
 .rename_i q
  rw[q]at e;have a:es.toList.any (·.refKey)=false:=by
   rw[KN];intro y hy;obtain⟨z,t,hkey⟩:=hk y (Array.mem_toList_iff.mp hy);simp[DictEntry.refKey,hkey]
  have a':¬ es.toList.any (·.refKey)=true:=by rw[a];exact Jh
  rw[if_neg a'];exact congrArg some e

theorem sW.look{h:Heap}{x dx C:Addr}{mA:Str->Option IE}(I:sW h x dx C mA):∃od,PySem.W.InstAt h x (Kz C dx) C (some od)/\∀name,Mr name od=some (mA name):=
 let⟨od,ho,hl⟩:=Bn I.ns
 ⟨od,⟨I.obj,rfl,rfl,ho⟩,hl⟩

section
variable {prog:Jk}{w:Jo}{A:JF}{E:IE->IG->Prop}{s:IG}{K:IC}{x dx C f:Addr}{mA:Str->Option IE}{name:Str}{v:IE}

theorem Ef{expr:Bool}{Q:IE->IG->Prop}(X:K.In s.heap)(I:sW s.heap x dx C mA)(hg:LQ K C name=true)(hh:Mz K C=true)
  (ha:Ka K (.ref C) name=some none)(hv:mA name=some v)(hv':PySem.W.handedIn v=true)(h:Q v { s with toks:=s.toks+1 }) :
  Ju (Jv prog w) A (getAttr (.ref x) name expr) Q E s:=by
 obtain⟨od,J,hl⟩:=I.look;exact PySem.W.get_value X J (Mf hg).1 (PySem.W.findObj_own hh ha rfl (by rw[hl,hv])) hv' h

theorem CS{pl:Sem Bool}{Q:IE×List IE->IG->Prop}(X:K.In s.heap)(I:sW s.heap x dx C mA)(hg:LQ K C name=true)
  (hf:Ka K (.ref C) name=some (some (.ref f)))(ht:MM K (.ref f)=true)(hv:mA name=none)(h:Q (.ref f,[.ref x]) s) :
  Ju (Jv prog w) A (MH (.ref x) name pl) Q E s:=by
 obtain⟨od,J,hl⟩:=I.look;exact PySem.W.method_fn X J (Mf hg).1 (Mf hg).2 hf (beq_iff_eq.mp ht) (by show(Mr name od).map (·.isSome)=some false;rw[hl,hv];rfl) h

theorem Eg{ns:List Str}{Q:Unit->IG->Prop}(X:K.In s.heap)(I:sW s.heap x dx C mA)
  (hs:Ka K (.ref C) "__setattr__" = some (some (.builtin "object.__setattr__")))(hp:PySem.W.plainOver K C=true)(ht:MT K C name=some none)(hh:Mz K C=true)
  (hw:Nj mA ns)(hsz:ns.length<=I0)
  (h:∀h',sW h' x dx C (λy=>if y=name then some v else mA y)->Mi dx s.heap h'->Q () { s with heap:=h',toks:=s.toks+2 }) :
  Ju (Jv prog w) A (setAttr (.ref x) name v) Q E s:=by
 obtain⟨od,J,hl⟩:=I.look;refine PySem.W.set_plain X J hs (PySem.W.osa_open (s:={ s with toks:=s.toks+1 }) (r:=none) X J hp ht λb=>?_);obtain⟨cd,hc,hd'⟩:=PySem.W.any_some hh;have hx:s.heap.get? x=some ⟨.ref C,some dx,.plain,#[]⟩:=I.obj;refine Jp (JS (Jp (Jp (wpAny_loadPart hx (Jp (PySem.W.Looks.here (s:={ s with toks:=s.toks+1 }) (PySem.W.looks_clsIn X hc) ?_))))));rw[hd'];refine JS (a:=some dx) (Jp (JS (Jp ?_)));refine wpAny_nsSet1 (s:={ s with toks:=s.toks+1 }) I.ns λh' hn2 hs2=>?_;obtain⟨oD,esD,epD,hoD,hdD,hcD⟩:=hn2.count (PySem.Within.cons name v hw);refine Jp (wpAny_lookBehind hoD (by rw[hdD];exact pastItsLine_dict (JC hcD (by rw[ID];omega))) ?_);exact JS (h _ ⟨(hs2.2 _ (JH I.ne)).trans I.obj,hn2,I.ne⟩ hs2)

theorem CT{R:MF->IG->Prop}{vs:List IE}{kw:List (Str×IE)}(X:K.In s.heap)(hm:MU K C=true)
  (hi:Ka K (.ref C) "__init__" = some (some (.ref f)))(hf:PySem.W.typeIn K (.ref f)=some (.type "function"))
  (h:Mj (Jv prog w) (A.under (.builtin "type.__call__" ⟨.ref C :: vs,kw⟩)) (.call (.ref f) ⟨.ref (s.heap.objs.size+1) :: vs,kw⟩) (PySem.W.InitBack (s.heap.objs.size+1) R)
   { s with heap:=(s.heap.push Kg).push (Kz C s.heap.objs.size) }) :
  Mj (Jv prog w) A (.call (.ref C) ⟨vs,kw⟩) R s:=by
 obtain⟨hh,g,d,t,os⟩:=s;exact PySem.W.make_core (PySem.W.makes_of X hm) (PySem.W.looks_findIn X hi) (λself=>PySem.W.bind_fn X self hf) (.inl rfl) h
end

def bW(f:Str)(v:V):List (Str×V)->List (Str×V)
 |[]=>[(f,v)]
 |(g,x)::r=>if g=f then(g,v)::r else(g,x)::bW f v r
theorem sK(f g:Str)(v:V):∀fs:List (Str×V),(bW f v fs).lookup g=if g=f then some v else fs.lookup g
 |[]=>by
  show Jz g [(f,v)]=_;by_cases h:g=f
  .have hb:(g==f)=true:=beq_iff_eq.mpr h;simp only[Jz,hb,if_pos h]
  .have hb:(g==f)=false:=beq_eq_false_iff_ne.mpr h;simp only[Jz,hb,if_neg h]
 |(k,x)::r=>by
  have ih:=sK f g v r;rw[show bW f v ((k,x)::r)=(if k=f then(k,v)::r else(k,x)::bW f v r)from rfl];by_cases hk:k=f
  .rw[if_pos hk];by_cases h:g=k
   .have hb:(g==k)=true:=beq_iff_eq.mpr h;simp only[Jz,hb,if_pos (h.trans hk)]
   .have hb:(g==k)=false:=beq_eq_false_iff_ne.mpr h;simp only[Jz,hb,if_neg (λe:g=f=>h (e.trans hk.symm))]
  .rw[if_neg hk];by_cases h:g=k
   .have hb:(g==k)=true:=beq_iff_eq.mpr h;simp only[Jz,hb,if_neg (λe:g=f=>hk (h.symm.trans e))]
   .have hb:(g==k)=false:=beq_eq_false_iff_ne.mpr h;simp only[Jz,hb];exact ih
theorem qA(f:Str)(v:V):∀fs:List (Str×V),f∈(bW f v fs).map (·.1)/\∀g,g∈fs.map (·.1)->g∈(bW f v fs).map (·.1)
 |[]=>⟨by simp[bW],λg h=>by simp at h⟩
 |(k,x)::r=>by
  obtain⟨i1,i2⟩:=qA f v r;rw[show bW f v ((k,x)::r)=(if k=f then(k,v)::r else(k,x)::bW f v r)from rfl];by_cases hk:k=f
  .rw[if_pos hk];subst hk;exact⟨by simp,λg h=>by simpa using h⟩
  .rw[if_neg hk];refine⟨?_,λg h=>?_⟩
   .rw[IQ];exact IH _ i1
   .rw[IQ]at h⊢;rcases List.mem_cons.mp h with e|e
    .exact List.mem_cons.mpr (.inl e)
    .exact IH _ (i2 g e)
theorem sM(f:Str)(v:V):∀fs:List (Str×V),(bW f v fs).length<=fs.length+1
 |[]=>by simp[bW]
 |(k,x)::r=>by
  have ih:=sM f v r;rw[show bW f v ((k,x)::r)=(if k=f then(k,v)::r else(k,x)::bW f v r)from rfl];by_cases hk:k=f
  .rw[if_pos hk,ID,ID];omega
  .rw[if_neg hk,ID,ID];omega

theorem il.some_of{v:V}{o:Option IE}(r:il (some v) o):∃u,o=some u/\bx v u:=by
 cases o with
 |none=>exact(show False from r).elim
 |some u=>exact⟨u,rfl,r⟩
theorem il.none_of{o:Option IE}(r:il none o):o=none:=by
 cases o with
 |none=>rfl
 |some u=>exact(show False from r).elim
theorem Bo{v:V}{u:IE}(r:bx v u):PySem.W.handedIn u=true:=by
 cases v with
 |non=>cases (show u=Lv from r);rfl
 |bl b=>cases (show u=MK b from r);rfl
 |int i=>obtain⟨t,e⟩:=(show ∃t,u=LB i t from r);cases e;rfl
 |str x=>obtain⟨t,e⟩:=(show ∃t,u=KD x t from r);cases e;rfl
 |byt b=>obtain⟨t,e⟩:=(show ∃t,u=Value.bytes b t from r);cases e;rfl
 |flt b=>obtain⟨t,e⟩:=(show ∃t,u=Nt b t from r);cases e;rfl
 |ref a=>cases (show u=JE a from r);rfl
 |ty n=>cases (show u=Lf n from r);rfl

section
variable {P:Jk}{w:Jo}{H H':Hp}{h h':Heap}{a C dx:Addr}{fs fs':List (Str×V)}
theorem sh(hok:HOk P w H h)(e:H a=some (.ins C dx fs)):∃mA,sW h a dx C mA/\(∀f,il (fs.lookup f) (mA f))/\Nj mA (fs.map (·.1))/\fs.length<=1000/\H dx=some (.own a):=by
 obtain⟨d,z,ne,ob,mA,n,r,q⟩:=(show cw P w H h a (.ins C dx fs)from hok a _ e);exact⟨mA,⟨ob,n,ne⟩,r,q,z,d⟩
end

structure Cls(K:IC)(C:Addr):Prop where
 pg:LQ K C JV=true
 hd:Mz K C=true
 po:PySem.W.plainOver K C=true
 sa:Ka K (.ref C) "__setattr__" = some (some (.builtin "object.__setattr__"))
theorem Cls.get{K:IC}{C:Addr}(c:Cls K C)(f:Str):LQ K C f=true:=c.pg
def dF(K:IC)(C:Addr)(f:Str):Prop:=Ka K (.ref C) f=some none
theorem dF.taker{K:IC}{C:Addr}{f:Str}(n:dF K C f):MT K C f=some none:=by
 unfold MT;rw[show Ka K (.ref C) f=some none from n];rfl
structure z6(K:IC)(C:Addr)(m:Str)(f:Addr):Prop where
 at_:Ka K (.ref C) m=some (some (.ref f))
 fn:MM K (.ref f)=true
 kp:Ko K (.ref f)=true

section
variable {X:Cx}{pins:List (Addr×Obj)}{σ:St}{H:Hp}{s:IG}{a C dx:Addr}{fs:List (Str×V)}{f:Str}{v:V}{A:JF}{E:IE->IG->Prop}

theorem z7{b:Bool}{Q:IE->IG->Prop}(I:Inv X pins σ H s)(e:H a=some (.ins C dx fs))(c:Cls X.K C)(n:dF X.K C f)(l:fs.lookup f=some v)
  (h:∀u s',Inv X pins σ H s'->bx v u->Q u s'):Ju (Jv X.prog X.w) A (getAttr (.ref a) f b) Q E s:=by
 obtain⟨mA,O,r,_,_,_⟩:=sh I.hok e;obtain⟨u,hu,ru⟩:=il.some_of (v:=v) (o:=mA f) (by rw[<-l];exact r f);exact Ef I.kIn O (c.get f) c.hd n hu (Bo ru) (h u _ (I.tok _) ru)

theorem uo{m:Str}{g:Addr}{pl:Sem Bool}{Q:IE×List IE->IG->Prop}(I:Inv X pins σ H s)(e:H a=some (.ins C dx fs))(c:Cls X.K C)(k:z6 X.K C m g)(l:fs.lookup m=none)
  (h:Q (.ref g,[.ref a]) s):Ju (Jv X.prog X.w) A (MH (.ref a) m pl) Q E s:=by
 obtain⟨mA,O,r,_,_,_⟩:=sh I.hok e;have hn:mA m=none:=il.none_of (by rw[<-l];exact r m);exact CS I.kIn O (c.get m) k.at_ k.fn hn h

theorem z8{y:V}{u:IE}{Q:Unit->IG->Prop}(I:Inv X pins σ H s)(e:H a=some (.ins C dx fs))(c:Cls X.K C)(n:dF X.K C f)(hl:fs.length<1000)(ry:bx y u)
  (h:∀s',Inv X pins σ (upd H a (.ins C dx (bW f y fs))) s'->Q () s'):Ju (Jv X.prog X.w) A (setAttr (.ref a) f u) Q E s:=by
 obtain⟨mA,O,r,wi,_,ho⟩:=sh I.hok e;have hz:(fs.map (·.1)).length<=I0:=by rw[Iz,M1];omega
 refine Eg I.kIn O c.sa c.po n.taker c.hd wi hz λh' O' sb=>h _ ?_;have hd:∃o,h'.get? dx=some o:=let⟨o,_,_,e',_⟩:=O'.ns;⟨o,e'⟩;refine I.write (x:=a) (e:=dx) (by rw[e];exact KR) (.inr ho) (λb q hb z=>(sb.2 b hb).trans z) hd ?_;refine⟨by rw[aq O.ne];exact ho,?_,O.ne,O'.obj,_,O'.ns,λg=>?_,λg hg=>?_⟩
 .have:=sM f y fs;omega
 .show il ((bW f y fs).lookup g) (if g=f then some u else mA g);rw[sK];by_cases q:g=f
  .rw[if_pos q,if_pos q];exact ry
  .rw[if_neg q,if_neg q];exact r g
 .by_cases q:g=f
  .rw[q];exact(qA f y fs).1
  .refine(qA f y fs).2 g (wi g λz=>hg ?_);show(if g=f then some u else mA g)=none;rw[if_neg q];exact z

theorem Inv.made(I:Inv X pins σ H s):Inv X pins σ (upd (upd H s.heap.objs.size (.own (s.heap.objs.size+1))) (s.heap.objs.size+1) (.ins C s.heap.objs.size []))
  { s with heap:=(s.heap.push Kg).push (Kz C s.heap.objs.size) }:=by
 have e1:(s.heap.push Kg).get? s.heap.objs.size=some Kg:=Jr s.heap rfl;have e2:((s.heap.push Kg).push (Kz C s.heap.objs.size)).get? (s.heap.objs.size+1)=some (Kz C s.heap.objs.size):=by
  have:=Jr (s.heap.push Kg) (o:=Kz C s.heap.objs.size) rfl
  rwa[LI]at this
 have e3:(s.heap.push Kg).Ns s.heap.objs.size (λ_=>none):=⟨Kg,#[],_,e1,rfl,(λe he=>absurd he (by simp)),λ_=>rfl⟩;have I1:=I.laid (a:=s.heap.objs.size) (o:=.own (s.heap.objs.size+1)) (h':=s.heap.push Kg) (t':=s.toks) (λb u q=>IV _ q) (IM _) ⟨_,e1⟩;refine I1.laid (a:=s.heap.objs.size+1) (o:=.ins C s.heap.objs.size []) (t':=s.toks) (λb u q=>IV _ q) (Nl (LI _ _)) ?_;have ne:s.heap.objs.size≠s.heap.objs.size+1:=Jd (KY _);refine⟨by rw[aq ne,ah],Jw _,ne,e2,λ_=>none,(Heap.Ns1.of_empty e3).at λo q=>IV _ q,λ_=>KR,λy hy=>absurd rfl hy⟩

theorem Eh{prog:Jk}{w:Jo}{env:Env}{e:Expr}{f:Str}{pos:Pos}{s:IG}{Q:IE->IG->Prop}(hb:Lo e f env (eval e env)=eval e env)
  (h:Ju (Jv prog w) A (eval e env) (λo s₁=>Ju (Jv prog w) A (getAttr o f true) Q E s₁) E s):Ju (Jv prog w) A (eval (.Attribute e f pos) env) Q E s:=
 Attribute_any_ h (by rw[arm_eval_Attribute,hb])
end

inductive Hb(K:IC)(f:Str)(Q:VK)(x:V)(H1:Hp):Prop
 |mk(a C dx fs v)(_:x=.ref a)(_:H1 a=some (.ins C dx fs))(_:Cls K C)(_:dF K C f)(_:fs.lookup f=some v)(_:Q v H1)
def HV(K:IC)(ta:TE)(f:Str):TE:=λσ H Q=>ta σ H (Hb K f Q)
inductive Hc(K:IC)(f:Str)(D:e9)(σ:St)(y:V)(x:V)(H2:Hp):Prop
 |mk(a C dx fs)(_:x=.ref a)(_:H2 a=some (.ins C dx fs))(_:Cls K C)(_:dF K C f)(_:fs.length<1000)(_:D.nx σ (upd H2 a (.ins C dx (bW f y fs))))
def HW(K:IC)(ta tv:TE)(f:Str):TS:=λD σ H=>tv σ H λy H1=>ta σ H1 (Hc K f D σ y)
section
variable {X:Cx}{o e value:Expr}{f:Str}{pos pos' tpos:Pos}{ta tv:TE}
theorem bz(he:PE X e ta)(hb:Lo e f X.env (eval e X.env)=eval e X.env):PE X (.Attribute e f pos) (HV X.K ta f):=by
 intro pins s σ H Q I h;refine Eh hb (thn (he pins s σ H _ I h) λu s1 ⟨x,H1,I1,rx,a,C,dx,fs,v,ex,ea,c,n,l,q⟩=>?_);subst ex;obtain rfl:u=JE a:=rx;exact z7 I1 ea c n l λu' s2 I2 ru=>⟨v,H1,I2,ru,q⟩
theorem dr(ha:PE X o ta)(hv:PE X value tv)(hs:LC value (some (.Attribute o f pos')) pos.line X.env=pure false):PS X (.Assign [.Attribute o f pos'] value pos) (HW X.K ta tv f):=by
 intro pins s σ H D I h;refine plainObj_wpAny_Assign_Attribute (thn (hv pins s σ H _ I h) λu s1 ⟨y,H1,I1,ry,q⟩=>thn (ha pins s1 σ H1 _ I1 q) λov s2 ⟨x,H2,I2,rx,a,C,dx,fs,ex,ea,c,n,l,q2⟩=>?_) hs;subst ex;obtain rfl:ov=JE a:=rx;exact z8 I2 ea c n l ry λs3 I3=>⟨σ,_,I3,q2⟩
end

section
variable {X:Cx}{pins:List (Addr×Obj)}{σ:St}{H:Hp}{s:IG}{A:JF}{E:IE->IG->Prop}{Q:IE->IG->Prop}{c:IE}{b:Bool}
inductive kP(K:IC)(H:Hp):V->IE->Prop where
 |non:kP K H .non (.type "NoneType")
 |bl (x:Bool):kP K H (.bl x) (.type "bool")
 |int (i:Int):kP K H (.int i) (.type "int")
 |str (x:Str):kP K H (.str x) (.type "str")
 |flt (x:UInt64):kP K H (.flt x) (.type "float")
 |lst {a:Addr} {xs:List V} (e:H a=some (.lst xs)):kP K H (.ref a) (.type "list")
 |frz {a:Addr} {o:Obj} {xs:List V} (e:H a=some (.frz o (.lst xs))):kP K H (.ref a) (.type "list")
 |tup {a:Addr} {xs:List V} (e:H a=some (.tup xs)):kP K H (.ref a) (.type "tuple")
 |dK {a:Addr} {kvs:List (Key×V)} (e:H a=some (.dK kvs)):kP K H (.ref a) (.type "dict")
 |dT {a:Addr} {kvs:List (List Key×V)} (e:H a=some (.dT kvs)):kP K H (.ref a) (.type "dict")
 |ins {a C dx:Addr} {fs:List (Str×V)} (e:H a=some (.ins C dx fs)) (cl:Cls K C) (ha:Ka K (.ref C) "__class__" = some (some (.builtin "object.__class__")))
   (hn:PySem.W.specialIn K (.builtin "object.__class__") "__get__" = some (some (.builtin "getset_descriptor.__get__"))) (htk:PySem.W.takesIn K (.builtin "object.__class__")=some true)
   (hm:PySem.W.mroIn K C (.type "object")=some true):kP K H (.ref a) (.ref C)
theorem Bp{x:V}{u t:IE}(I:Inv X pins σ H s)(rx:bx x u)(ty:kP X.K H x t)(e:PySem.W.kitOne X.K t c=some b)(h:∀tk,Q (.bool b) { s with toks:=tk }) :
  Ju (Jv X.prog X.w) A (call (.builtin "isinstance") [u,c]) Q E s:=by
 cases ty with
 |non=>cases (show u=Lv from rx);exact Kb PySem.W.kitx_none I.kIn KR e (λz=>nomatch z) h
 |bl y=>cases (show u=MK y from rx);exact Kb PySem.W.kitx_bool I.kIn KR e (λz=>nomatch z) h
 |int i=>obtain⟨t,q⟩:=(show ∃t,u=LB i t from rx);cases q;exact Kb PySem.W.kitx_int I.kIn KR e (λz=>nomatch z) h
 |str y=>obtain⟨t,q⟩:=(show ∃t,u=KD y t from rx);cases q;exact Kb PySem.W.kitx_str I.kIn KR e (λz=>nomatch z) h
 |flt y=>obtain⟨t,q⟩:=(show ∃t,u=Nt y t from rx);cases q;exact Kb PySem.W.kitx_float I.kIn KR e (λz=>nomatch z) h
 |@lst a xs ea =>
  cases (show u=JE a from rx);obtain⟨_,_,n,_,h1⟩:=(show cw X.prog X.w H s.heap a (.lst xs)from I.hok a _ ea);exact Kb PySem.W.kitx_list I.kIn ⟨_,h1,rfl⟩ e (λz=>nomatch z) h
 |@frz a ob xs ea =>
  cases (show u=JE a from rx);obtain⟨_,_,_,n,_,h1⟩:=(show cw X.prog X.w H s.heap a (.frz ob (.lst xs))from I.hok a _ ea);exact Kb PySem.W.kitx_list I.kIn ⟨_,h1,rfl⟩ e (λz=>nomatch z) h
 |@tup a xs ea =>
  cases (show u=JE a from rx);obtain⟨_,_,_,p⟩:=(show cw X.prog X.w H s.heap a (.tup xs)from I.hok a _ ea);obtain⟨o,h1,h2,_⟩:=p;exact Kb PySem.W.kitx_tuple I.kIn ⟨o,h1,h2⟩ e (λz=>nomatch z) h
 |@dK a kvs ea =>
  cases (show u=JE a from rx);obtain⟨_,_,vs,_,p⟩:=(show cw X.prog X.w H s.heap a (.dK kvs)from I.hok a _ ea);obtain⟨o,es,ep,h1,h2,_⟩:=p;exact Kb PySem.W.kitx_dict I.kIn ⟨o,h1,h2.1⟩ e (λz=>nomatch z) h
 |@dT a kvs ea =>
  cases (show u=JE a from rx);obtain⟨_,_,xs,_,o,es,ep,h1,h2,_⟩:=(show cw X.prog X.w H s.heap a (.dT kvs)from I.hok a _ ea);exact Kb PySem.W.kitx_dict I.kIn ⟨o,h1,h2.1⟩ e (λz=>nomatch z) h
 |@ins a C dx fs ea cl ha hn htk hm =>
  cases (show u=JE a from rx);obtain⟨mA,O,_⟩:=sh I.hok ea;obtain⟨od,J,_⟩:=O.look;exact Kb (PySem.W.kitx_own (cl.get _) cl.hd ha hn htk hm) I.kIn J e (λz=>nomatch z) h
end

structure cA(k:Nat)(A:JF):Prop where
 hd:A.handled=none
 dp:A.depth+3*k+5<recursionLimit
 un:A.units+16*k+200<MV
theorem cA.mono{j k:Nat}{A:JF}(r:cA k A)(h:j<=k):cA j A:=⟨r.hd,by have:=r.dp;omega,by have:=r.un;omega⟩
theorem cA.deeper{k:Nat}{A:JF}(r:cA (k+1) A)(env:Env):cA k (A.deeper env):=
 ⟨r.hd,by have:=r.dp;show A.depth+1+3*k+5<_;omega,by have:=r.un;show A.units+3+16*k+200<_;omega⟩
theorem z9{A:JF}{C:Addr}{us:List IE}{kw:List (Str×IE)}:(A.under (.builtin "type.__call__" ⟨.ref C::us,kw⟩)).depth=A.depth+1:=by
 first|rfl|simp[Nm,Code.weight,Code.isCreation,Code.isGuard,Code.isCaller,Code.frames,Nn,guardIds]
theorem z_{A:JF}{C:Addr}{us:List IE}{kw:List (Str×IE)}:(A.under (.builtin "type.__call__" ⟨.ref C::us,kw⟩)).units=A.units+1:=by
 first|rfl|simp[Nm,Code.cUnits,Code.frames,Nn]
theorem cA.make{k:Nat}{A:JF}(r:cA (k+1) A)(C:Addr)(us:List IE)(kw:List (Str×IE)):cA k (A.under (.builtin "type.__call__" ⟨.ref C::us,kw⟩)):=
 ⟨r.hd,by have:=r.dp;rw[z9];omega,by have:=r.un;rw[z_];omega⟩
theorem cA.depth{k:Nat}{A:JF}(r:cA k A):A.depth<recursionLimit:=by have:=r.dp;omega
theorem cA.units{k:Nat}{A:JF}(r:cA k A):A.units+64<MV:=by have:=r.un;omega
def sX:TA:=λ_ H Q=>Q [] H
def wQ(ta:TE)(tr:TA):TA:=λσ H Q=>ta σ H λx H1=>tr σ H1 λxs H2=>Q (x::xs) H2
section
variable {X:Cx}{e:Expr}{es:List Expr}{te:TE}{t:TA}{pos:Pos}
theorem ac:PA X [] sX:=λ_ _ _ _ H Q I h=>Calls.spliced_nil ⟨[],H,I,.nil,h⟩
theorem aa(ha:PE X e te)(hr:PA X es t)(hs:Jn (e::es) X.env=(false,eval e X.env)::Jn es X.env:=by rfl):PA X (e::es) (wQ te t):=by
 intro pos pins s σ H Q I h;rw[hs];show Ju _ _ (spliced ((false,eval e X.env)::KF pos (Jn es X.env))) _ _ s;refine Ms (thn (ha pins s σ H _ I h) λu s1 ⟨x,H1,I1,r1,q1⟩=>?_);exact thn (hr pos pins s1 σ H1 _ I1 q1) λus s2 ⟨xs,H2,I2,r2,q2⟩=>⟨x::xs,H2,I2,.cons r1 r2,q2⟩

def HX(t:TA):TE:=λσ H Q=>t σ H λxs H1=>xs.length<=I0/\∀p,H1 p=none->Q (.ref p) (upd H1 p (.tup xs))
def Fy(t:TA):TE:=λσ H Q=>t σ H λxs H1=>xs.length<=I0/\∀p,H1 p=none->Q (.ref p) (upd H1 p (.lst xs))
theorem a_{x1}(h:PA X es t):PE X (.Tuple es x1 pos) (HX t):=by
 intro pins s σ H Q I hq;refine wpAny_Tuple_spliced (thn (h pos pins s σ H _ I hq) λus s1 ⟨xs,H1,I1,r,z,q⟩=>⟨by rw[<-r.length];exact z,?_⟩);have hf:H1 s1.heap.objs.size=none:=I1.hok.fresh (IM _);refine⟨.ref s1.heap.objs.size,upd H1 s1.heap.objs.size (.tup xs),I1.laid (t':=s1.toks) (λb u e=>IV _ e) (IM _) ?_,rfl,q _ hf⟩;exact⟨z,us,r,⟨_,Jr _ rfl,rfl,_,rfl⟩⟩
theorem aQ(h:PA X es t):PE X (.List es pos) (Fy t):=by
 intro pins s σ H Q I hq;refine wpAny_List_spliced (thn (h pos pins s σ H _ I hq) λus s1 ⟨xs,H1,I1,r,z,q⟩=>⟨by rw[<-r.length];exact z,?_⟩);have hf:H1 s1.heap.objs.size=none:=I1.hok.fresh (IM _);refine⟨.ref s1.heap.objs.size,upd H1 s1.heap.objs.size (.lst xs),I1.laid (t':=s1.toks) (λb u e=>IV _ e) (IM _) ?_,rfl,q _ hf⟩;exact⟨z,us,0,r,Jr _ rfl⟩
end

abbrev Sp:=List V->Hp->VK->XK->Prop
abbrev CXT:=List Env->Hp->IG->XK->IE->IG->Prop

structure sY(P:Jk)(w:Jo)(K:IC)(mg:Str->Option IE)(base:Heap)(A:JF)(outer:List Env)(s:IG)(H:Hp):Prop where
 frames:A.frames=some outer
 mod:Mod K mg base
 bs:∀b o,base.get? b=some o->s.heap.get? b=some o/\H b=none
 bsz:base.objs.size<=s.heap.objs.size
 funs:s.heap.FunFrames base outer
 frf:∀b∈frs outer,H b=none
 hok:HOk P w H s.heap
 bare:LU s.gens
inductive CE(outer:List Env)(P:Jk)(w:Jo)(H:Hp)(s:IG)(Q:VK)(u:IE)(s':IG):Prop
 |mk(v H')(_:s'.os=s.os)(_:LU s'.gens)(_:Un (frs outer) [] H H' s.heap s'.heap)(_:HOk P w H' s'.heap)(_:bx v u)(_:Q v H')
def CR(CX:CXT)(outer:List Env)(P:Jk)(w:Jo)(H:Hp)(s:IG)(Q:VK)(E:XK)(r:MF)(s':IG):Prop:=
 match r with
 |.ok (.ret u)=>CE outer P w H s Q u s'
 |.ok _=>False
 |.error e=>CX outer H s E e s'
structure bi(P:Jk)(w:Jo)(K:IC)(mg:Str->Option IE)(base:Heap)(CX:CXT)(k:Nat)(f:Addr)(fd:IW)(ps:List Str)(sp:Sp):Prop where
 len:∀vs H Q E,sp vs H Q E->vs.length=ps.length
 run:∀(A:JF)(outer:List Env)(s:IG)(H:Hp)(args:Args)(us:List IE)(vs:List V)(Q:VK)(E:XK),cA k A->sY P w K mg base A outer s H->BindsTo s fd args (ps.zip us)->bo vs us->sp vs H Q E->
  Mj (Jv P w) A (.call (.ref f) args) (CR CX outer P w H s Q E) s
theorem sY.make{P:Jk}{w:Jo}{K:IC}{mg:Str->Option IE}{base:Heap}{A:JF}{outer:List Env}{s:IG}{H:Hp}(e:sY P w K mg base A outer s H)(C:Addr)(us:List IE)(kw:List (Str×IE)) :
  sY P w K mg base (A.under (.builtin "type.__call__" ⟨.ref C::us,kw⟩)) outer s H:=⟨by first|exact e.frames|(simpa[Nm,Code.envs,Nn,pushEnvs]using e.frames),e.mod,e.bs,e.bsz,e.funs,e.frf,e.hok,e.bare⟩
section
variable {X:Cx}{pins:List (Addr×Obj)}{σ:St}{H:Hp}{s s':IG}
theorem Inv.env0(I:Inv X pins σ H s):sY X.prog X.w X.K X.mg X.base X.A X.stack s H:=
 ⟨I.ok.frames,I.ok.mod,I.bs,JC I.ok.bsz I.sz,I.stack,I.stkFree,I.hok,I.bare⟩
theorem Inv.after{Q:VK}{u:IE}(I:Inv X pins σ H s)(h:CE X.stack X.prog X.w H s Q u s'):EP X pins σ Q u s':=by
 obtain⟨v,H',os,bare,un,hok,r,q⟩:=h;obtain⟨hh,g,d,t,os'⟩:=s';obtain rfl:os'=s.os:=os;exact⟨v,H',I.call (h':=hh) (g':=g) (d':=d) (t':=t) (ch:=[]) un hok bare (λb z=>absurd z (by simp)),r,q⟩
end

def Aa(sp:Sp)(dvs:List V)(E:XK)(t:TA):TE:=λσ H Q=>t σ H λvs H1=>sp (vs++dvs) H1 Q E
inductive Fz(C:Addr)(m:Str)(sp:Sp)(dvs:List V)(E:XK)(t:TA)(σ:St)(Q:VK)(x:V)(H1:Hp):Prop
 |mk(a dx fs)(_:x=.ref a)(_:H1 a=some (.ins C dx fs))(_:fs.lookup m=none)(_:t σ H1 λvs H2=>sp (x::(vs++dvs)) H2 Q E)
def wR(C:Addr)(m:Str)(sp:Sp)(dvs:List V)(E:XK)(ta:TE)(t:TA):TE:=λσ H Q=>ta σ H (Fz C m sp dvs E t σ Q)
def wS(C:Addr)(sp:Sp)(dvs:List V)(E:XK)(t:TA):TE:=λσ H Q=>t σ H λvs H1=>∀x dx,H1 x=none->H1 dx=none->dx≠x->
 sp (.ref x::(vs++dvs)) (upd (upd H1 dx (.own x)) x (.ins C dx [])) (λv H2=>v=.non/\Q (.ref x) H2) E

def ij(K:IC)(fd:IW)(ps:List Str)(ds:List IE):Prop:=
 ∀(s:IG)(us:List IE),K.In s.heap->(us++ds).length=ps.length->BindsTo s fd ⟨us,[]⟩ (ps.zip (us++ds))
theorem ij.all{K:IC}{fd:IW}{ps:List Str}(h:∀us:List IE,us.length=ps.length->MI fd ⟨us,[]⟩=pure (ps.zip us)):ij K fd ps []:=λs us _ hl=>by
 rw[IY]at hl⊢;exact .of_eq (h us hl)

def gh(CX:CXT)(X:Cx)(E:XK):Prop:=∀(pins:List (Addr×Obj))(σ:St)(H:Hp)(s:IG)(e:IE)(s':IG),Inv X pins σ H s->CX X.stack H s E e s'->X.xe e s'

section
variable {X:Cx}{CX:CXT}{k:Nat}{f C:Addr}{fd:IW}{ps:List Str}{sp:Sp}{dvs:List V}{ds:List IE}{E:XK}{x m:Str}{p pos apos:Pos}{e o:Expr}{es:List Expr}{ta:TE}{t:TA}

theorem xw{pins:List (Addr×Obj)}{σ:St}{H:Hp}{s:IG}{Q:VK}{us:List IE}{vs:List V}(F:bi X.prog X.w X.K X.mg X.base CX k f fd ps sp)(hr:cA k X.A)(hb:ij X.K fd ps ds)(hd:bo dvs ds)(hx:gh CX X E)
  (I:Inv X pins σ H s)(r:bo vs us)(h:sp (vs++dvs) H Q E):Ju (Jv X.prog X.w) X.A (call (.ref f) us) (EP X pins σ Q) X.xe s:=by
 have r2:bo (vs++dvs) (us++ds):=r.append hd;have hl:(us++ds).length=ps.length:=by rw[<-r2.length];exact F.len _ _ _ _ h
 refine NB (Ml (F.run X.A X.stack s H ⟨us,[]⟩ (us++ds) (vs++dvs) Q E hr I.env0 (hb s us I.kIn hl) r2 h) λr s' hq=>?_);cases r with
 |error e=>exact hx pins σ H s e s' I hq
 |ok fl =>
  cases fl with
  |ret u=>exact I.after hq
  |next=>exact Ke hq
  |brk=>exact Ke hq
  |cont=>exact Ke hq

theorem zg(F:bi X.prog X.w X.K X.mg X.base CX k f fd ps sp)(hr:cA k X.A)(hg:Gl X x)(hm:X.mg x=some (.ref f))(hk:Ko X.K (.ref f)=true)(hb:ij X.K fd ps ds)(hd:bo dvs ds)(hx:gh CX X E)
  (ha:PA X (e::es) t)(hdb:(x==("__debug__" : Str))=false:=by decide)(he:Jn (e::es) X.env=(false,eval e X.env)::Jn es X.env:=by rfl)(hpl:(KF pos (Jn es X.env)).any (·.1)=false:=by rfl) :
  PE X (.Call (.Name x p) (e::es) [] pos) (Aa sp dvs E t):=by
 intro pins s σ H Q I h;refine KG (jU I hg hm ?_ hdb);refine Lx (h₀:=X.base) I.ok.mod.kin hk (thn (ha pos pins s σ H _ I h) λus s1 ⟨vs,H1,I1,r,q⟩=>⟨I1.kIn,?_⟩) he hpl;exact xw F hr hb hd hx I1 r q
theorem Ei{pl:Sem Bool}(he:PE X o ta)(c:Cls X.K C)(hm:z6 X.K C m f)(F:bi X.prog X.w X.K X.mg X.base CX k f fd ps sp)(hr:cA k X.A)(hb:ij X.K fd ps ds)(hd:bo dvs ds)(hx:gh CX X E)(ha:PA X (e::es) t)
  (hst:Jn (e::es) X.env=(false,eval e X.env)::Jn es X.env:=by rfl)(hpl:(KF pos (Jn es X.env)).any (·.1)=false:=by rfl)
  (ht:eval (.Call (.Attribute o m apos) (e :: es) [] pos) X.env=(do
   let ov<-eval o X.env
   Nk apos.atName
   let(f,first)<-ML [ov] (MH ov m pl)
   NC pos f first (KF pos (Jn (e::es) X.env)) (M2 pos (LX [] X.env))):=by rfl) :
  PE X (.Call (.Attribute o m apos) (e::es) [] pos) (wR C m sp dvs E ta t):=by
 intro pins s σ H Q I h;refine PySem.W.methodCall_KW (pl:=pl) (thn (he pins s σ H _ I h) λu s1 ⟨x,H1,I1,rx,a,dx,fs,ex,ea,l,q⟩=>?_) ht;subst ex;obtain rfl:u=JE a:=rx;refine uo I1 ea c hm l ?_;refine Lx (first:=[.ref a]) (h₀:=X.base) I.ok.mod.kin hm.kp (thn (ha pos pins s1 σ H1 _ I1 q) λus s2 ⟨vs,H2,I2,r,q2⟩=>⟨I2.kIn,?_⟩) hst hpl
 exact xw (us:=.ref a::us) (vs:=.ref a::vs) F hr hb hd hx I2 (.cons rfl r) q2
theorem CU{pl:Sem Bool}(he:PE X o ta)(c:Cls X.K C)(hm:z6 X.K C m f)(F:bi X.prog X.w X.K X.mg X.base CX k f fd ps sp)(hr:cA k X.A)(hb:ij X.K fd ps ds)(hd:bo dvs ds)(hx:gh CX X E)
  (ht:eval (.Call (.Attribute o m apos) [] [] pos) X.env=(do
   let ov<-eval o X.env
   Nk apos.atName
   let(f,first)<-ML [ov] (MH ov m pl)
   NC pos f first (KF pos (Jn [] X.env)) (M2 pos (LX [] X.env))):=by rfl) :
  PE X (.Call (.Attribute o m apos) [] [] pos) (wR C m sp dvs E ta sX):=by
 intro pins s σ H Q I h;refine PySem.W.methodCall_KW (pl:=pl) (thn (he pins s σ H _ I h) λu s1 ⟨x,H1,I1,rx,a,dx,fs,ex,ea,l,q⟩=>?_) ht;subst ex;obtain rfl:u=JE a:=rx;refine uo I1 ea c hm l ?_;exact PySem.W.callWith_K0 (first:=[.ref a]) I1.kIn hm.kp (xw (us:=[.ref a]) (vs:=[.ref a]) F hr hb hd hx I1 (.cons rfl .nil) q)

structure Mk(K:IC)(C f:Addr):Prop where
 makes:MU K C=true
 init:Ka K (.ref C) "__init__" = some (some (.ref f))
 fn:MM K (.ref f)=true
 kp:Ko K (.ref C)=true

theorem xx{pins:List (Addr×Obj)}{σ:St}{H:Hp}{s:IG}{Q:VK}{us:List IE}{vs:List V}(M:Mk X.K C f)(F:bi X.prog X.w X.K X.mg X.base CX k f fd ps sp)(hr:cA (k+1) X.A)(hb:ij X.K fd ps ds)(hd:bo dvs ds)
  (hx:gh CX X E)(I:Inv X pins σ H s)(r:bo vs us)
  (h:∀x dx,H x=none->H dx=none->dx≠x->sp (.ref x::(vs++dvs)) (upd (upd H dx (.own x)) x (.ins C dx [])) (λv H2=>v=.non/\Q (.ref x) H2) E) :
  Ju (Jv X.prog X.w) X.A (call (.ref C) us) (EP X pins σ Q) X.xe s:=by
 have hq:=h (s.heap.objs.size+1) s.heap.objs.size (I.hok.fresh (Kq _)) (I.hok.fresh (IM _)) (Jd (KY _));have I2:=Inv.made (C:=C) I;have r2:bo (V.ref (s.heap.objs.size+1)::(vs++dvs)) (JE (s.heap.objs.size+1)::(us++ds)):=.cons rfl (r.append hd);have hl:(JE (s.heap.objs.size+1)::us++ds).length=ps.length:=by
  have e:=r2.length;rw[F.len _ _ _ _ hq]at e;exact e.symm
 refine NB (CT (f:=f) I.kIn M.makes M.init (beq_iff_eq.mp M.fn) (Ml (F.run _ X.stack _ _ ⟨JE (s.heap.objs.size+1)::us,[]⟩ (JE (s.heap.objs.size+1)::(us++ds)) _ _ E (hr.make C us [])
  (I2.env0.make C us []) (hb _ (JE (s.heap.objs.size+1)::us) I2.kIn hl) r2 hq) λr s' hq'=>?_))
 cases r with
 |error e=>exact hx pins σ _ _ e s' I2 hq'
 |ok fl =>
  cases fl with
  |ret u =>
   obtain⟨v,H',I3,rv,ev,q3⟩:=I2.after hq';subst ev;exact⟨rv,⟨V.ref (s.heap.objs.size+1),H',I3,rfl,q3⟩⟩
  |next=>exact Ke hq'
  |brk=>exact Ke hq'
  |cont=>exact Ke hq'
theorem Ej(M:Mk X.K C f)(F:bi X.prog X.w X.K X.mg X.base CX k f fd ps sp)(hr:cA (k+1) X.A)(hg:Gl X x)(hm:X.mg x=some (.ref C))(hb:ij X.K fd ps ds)(hd:bo dvs ds)(hx:gh CX X E)
  (ha:PA X (e::es) t)(hdb:(x==("__debug__" : Str))=false:=by decide)(he:Jn (e::es) X.env=(false,eval e X.env)::Jn es X.env:=by rfl)(hpl:(KF pos (Jn es X.env)).any (·.1)=false:=by rfl) :
  PE X (.Call (.Name x p) (e::es) [] pos) (wS C sp dvs E t):=by
 intro pins s σ H Q I h;refine KG (jU I hg hm ?_ hdb);refine Lx (h₀:=X.base) I.ok.mod.kin M.kp (thn (ha pos pins s σ H _ I h) λus s1 ⟨vs,H1,I1,r,q⟩=>⟨I1.kIn,?_⟩) he hpl;exact xx M F hr hb hd hx I1 r q
theorem CV(M:Mk X.K C f)(F:bi X.prog X.w X.K X.mg X.base CX k f fd ps sp)(hr:cA (k+1) X.A)(hg:Gl X x)(hm:X.mg x=some (.ref C))(hb:ij X.K fd ps ds)(hd:bo dvs ds)(hx:gh CX X E)
  (hdb:(x==("__debug__" : Str))=false:=by decide):PE X (.Call (.Name x p) [] [] pos) (wS C sp dvs E sX):=by
 intro pins s σ H Q I h;refine KG (jU I hg hm ?_ hdb);exact PySem.W.callWith_K0 I.kIn M.kp (xx (us:=[]) M F hr hb hd hx I .nil h)
end

section
variable {X:Cx}{CX:CXT}{k:Nat}{f C:Addr}{fd:IW}{ps ks:List Str}{sp:Sp}{E:XK}{x m:Str}{p pos apos kpos:Pos}{e o:Expr}{es:List Expr}{kws:List Nw}{te ta:TE}{t tk:TA}{nm:Option Str}
variable {g:List IE->List IE->List IE}{gV:List V->List V->List V}
end

structure aN(N P:List Str)(sc:Scope):Prop where
 kind:sc.kind=.function
 co:sc.isCoroutine=false
 gen:sc.isGenerator=false
 nd:N.Nodup
 pre:N.take P.length=P
 par:∀x∈P,sc.names.lookup x=some .local\/sc.names.lookup x=some .cell
 nofree:∀y∈sc.names,y.2≠.free

theorem vA{LR:Str->Option M3}{x:Str}:∀{binds:List (Str×IE)}{m:Str->Option IE},(∀v,(x,v)∉binds)->ND LR binds m x=m x
 |[],_,_=>rfl
 |(n,v)::r,m,h=>by
  unfold ND;rw[vA λw hw=>h w (IH _ hw)]
  split
  .have:x≠n:=by rintro rfl;exact h v IL
   simp[this]
  .rfl
theorem vB{LR:Str->Option M3}{x:Str}:∀{binds:List (Str×IE)}{m:Str->Option IE},(∀v,(x,v)∉binds)->NE LR binds m x=m x
 |[],_,_=>rfl
 |(n,v)::r,m,h=>by
  unfold NE;rw[vB λw hw=>h w (IH _ hw)]
  split
  .rfl
  .have:x≠n:=by rintro rfl;exact h v IL
   simp[this]
theorem vC{LR:Str->Option M3}{x:Str}{v:IE}:∀{P:List Str}{vs:List IE}{i:Nat}{m:Str->Option IE},P.Nodup->P[i]?=some x->vs[i]?=some v->LR x=some .local->
  ND LR (P.zip vs) m x=some v
 |[],_,_,_,_,h,_,_=>by simp at h
 |_::_,[],_,_,_,_,h,_=>by simp at h
 |p::P,w::vs,0,m,nd,h1,h2,hk=>by
  simp at h1 h2;subst h1;subst h2;show ND LR ((p,w)::P.zip vs) m p=_;unfold ND;rw[vA λv hv=>(List.nodup_cons.mp nd).1 (MW hv).1,if_pos hk];simp
 |p::P,w::vs,i+1,m,nd,h1,h2,hk=>by
  show ND LR ((p,w)::P.zip vs) m x=_;unfold ND;exact vC (i:=i) (List.nodup_cons.mp nd).2 (by simpa using h1) (by simpa using h2) hk
theorem vD{LR:Str->Option M3}{x:Str}{v:IE}:∀{P:List Str}{vs:List IE}{i:Nat}{m:Str->Option IE},P.Nodup->P[i]?=some x->vs[i]?=some v->LR x≠some .local->
  NE LR (P.zip vs) m x=some v
 |[],_,_,_,_,h,_,_=>by simp at h
 |_::_,[],_,_,_,_,h,_=>by simp at h
 |p::P,w::vs,0,m,nd,h1,h2,hk=>by
  simp at h1 h2;subst h1;subst h2;show NE LR ((p,w)::P.zip vs) m p=_;unfold NE;rw[vB λv hv=>(List.nodup_cons.mp nd).1 (MW hv).1,if_neg hk];simp
 |p::P,w::vs,i+1,m,nd,h1,h2,hk=>by
  show NE LR ((p,w)::P.zip vs) m x=_;unfold NE;exact vD (i:=i) (List.nodup_cons.mp nd).2 (by simpa using h1) (by simpa using h2) hk

def jp(N:List Str)(vs:List V):St:=vs.map some++IN (N.length-vs.length) none

def lT(CX:CXT)(P:Jk)(w:Jo)(K:IC)(mg:Str->Option IE)(base:Heap)(N:List Str)(qual:Str)(scope:Scope)(f:Addr)(cd:IE)(A:JF)(outer:List Env)(s:IG)(H:Hp)(E:XK):Cx where
 prog:=P
 w:=w
 K:=K
 mg:=mg
 base:=base
 A:=A.deeper (Kr qual scope s.heap.objs.size f cd)
 N:=N
 s₀:=s
 H₀:=H
 env:=Kr qual scope s.heap.objs.size f cd
 outer:=outer
 stack:=Kr qual scope s.heap.objs.size f cd::outer
 ex:=[]
 calm:=true
 fn:=λ_=>true
 pn:=[]
 xe:=λe s'=>Ju (Jv P w) (A.deeper (Kr qual scope s.heap.objs.size f cd)) (leaving (Kr qual scope s.heap.objs.size f cd) e) (λ_ s''=>CX outer H s E e s'') (λe' s''=>CX outer H s E e' s'') s'

theorem xy{sc:Scope}{n:Nat}{x:Str}(h:sc.names.lookup x=some .cell):∃c,(cellsFrom n sc.names []).lookup x=some c:=by
 have q:=PySem.W.cellsFrom_some sc.names n [] (.inl h);exact Option.isSome_iff_exists.mp q

theorem Bq{CX:CXT}{P:Jk}{w:Jo}{K:IC}{mg:Str->Option IE}{base:Heap}{N ps:List Str}{qual:Str}{scope:Scope}{f:Addr}{cd:IE}{A:JF}{outer:List Env}{s s1:IG}{H:Hp}{E:XK}{us:List IE}{vs:List V}
  (S:aN N ps scope)(hd:A.handled=none)(e0:sY P w K mg base A outer s H)(hl:vs.length=ps.length)(r:bo vs us)
  (x:InCallC s s.heap.objs.size (ND (Kr qual scope s.heap.objs.size f cd).kindOf (ps.zip us) λ_=>none) (cellsFrom (s.heap.objs.size+1) scope.names []) (NE (Kr qual scope s.heap.objs.size f cd).kindOf (ps.zip us) λ_=>none) s1) :
  Inv (lT CX P w K mg base N qual scope f cd A outer s H E) [] (jp N vs) H s1:=by
 have hpl:ps.length<=N.length:=by have:=congrArg LF S.pre;rw[Jm]at this;omega
 obtain⟨h1,tk,rfl,hk⟩:=x.done;have noA:∀b:Addr,b∉(lT CX P w K mg base N qual scope f cd A outer s H E).ex:=λb z=>absurd (show b∈([]:List Addr)from z) (by simp);refine⟨⟨e0.mod,S.kind,rfl,rfl,IM _,λy z c h1 h2=>?_,λy hy=>?_,λy c _ h=>?_,λ_=>hd,Around.frames_deeper e0.frames,.inr ⟨rfl,rfl⟩,λb z=>absurd z (noA b),e0.bs,e0.bsz,λb _ _=>noA b,λb z=>absurd z (noA b),e0.funs,e0.frf⟩,
  rfl,e0.bare,Un.kept hk,⟨_,x.toInCall.ns,λi y v h1 h2 h3=>?_⟩,λy c h=>⟨_,x.cell y c h⟩,e0.hok.fresh (IM _),λy c h=>?_,λp hp=>absurd (show p∈([]:List (Addr×Obj))from hp) (by simp),e0.hok.kept hk,?_⟩
 .exact name_of_addr x.apart (KU h1) (KU h2)
 .have hy:scope.names.lookup y=some .cell\/scope.names.lookup y=some .free:=hy;rcases hy with hy|hy
  .exact xy hy
  .exact absurd rfl (S.nofree _ (KU hy))
 .exact Jj (x.above y c (KU h))
 .have hi:i<vs.length:=by
   unfold jp at h2;by_cases hi:i<vs.length
   .exact hi
   .rw[KH (by simpa using hi)]at h2;rw[List.getElem?_replicate]at h2
    split at h2<;>cases h2
  have ha:vs[i]?=some v:=by
   unfold jp at h2;rw[List.getElem?_append_left (by simpa using hi),Jc]at h2;cases e:vs[i]? with
   |none=>rw[e]at h2;cases h2
   |some a=>rw[e]at h2;cases h2;rfl
  obtain⟨u,hu,rv⟩:=r.get ha;have hp:ps[i]?=some y:=by
   rw[<-S.pre,List.getElem?_take_of_lt (by omega)];exact h1
  have ndP:ps.Nodup:=by rw[<-S.pre];exact S.nd.sublist (List.take_sublist _ _)
  refine⟨u,rv,?_⟩;rcases S.par y (IK hp)with k|k
  .exact .inl ⟨k,vC ndP hp hu k⟩
  .obtain⟨c,e⟩:=xy (n:=s.heap.objs.size+1) k;refine .inr ⟨.inl k,c,e,?_⟩;have q:=x.cell y c e;rw[vD ndP hp hu (by show scope.names.lookup y≠_;rw[k];decide)]at q;exact q
 .exact e0.hok.fresh (Jj (x.above y c (KU h)))
 .unfold jp;show _=N.length;rw[IB,Iz,JI];omega

theorem Ab{CX:CXT}{P:Jk}{w:Jo}{K:IC}{mg:Str->Option IE}{base:Heap}{k:Nat}{f:Addr}{name qual:Str}{params:Arguments}{body:List Stmt}{scope:Scope}{dV kV doc pm cdv ct oc:IE}{an od:Option Addr}
  {osl:Array (Option IE)}{N ps:List Str}{sp:Sp}(lk:K.lookup f=some ⟨oc,od,.func (J3 name qual params body scope dV kV doc pm an cdv ct),osl⟩)(hcd:KZ K cdv qual=true)(S:aN N ps scope)
  (len:∀vs H Q E,sp vs H Q E->vs.length=ps.length)
  (hbody:∀ (A:JF) (outer:List Env) (s:IG) (H:Hp) (vs:List V) (Q:VK) (E:XK),cA k (A.deeper (Kr qual scope s.heap.objs.size f cdv))→sp vs H Q E →
   ∃t,PSs (lT CX P w K mg base N qual scope f cdv A outer s H E) body t/\t { nx:=λ_ H'=>Q .non H',rt:=Q } (jp N vs) H) :
  bi P w K mg base CX (k+1) f (J3 name qual params body scope dV kV doc pm an cdv ct) ps sp:=by
 refine⟨len,λA outer s H args us vs Q E hr e0 hb r hsp=>?_⟩;have hl:=len _ _ _ _ hsp;have KX:K.In s.heap:=e0.mod.kin.keeps λb o e=>(e0.bs b o e).1;have lim:s.heap.NoLimit:=e0.mod.nolimit.keeps λb o e=>(e0.bs b o e).1;have hkind:∀y∈ps.zip us,scope.names.lookup y.1=some .local\/(scope.names.lookup y.1=some .cell/\((cellsFrom (s.heap.objs.size+1) scope.names []).lookup y.1).isSome=true):=λ⟨n,v⟩ hy=>by
  rcases S.par n (MW hy).1 with q|q
  .exact .inl q
  .exact .inr ⟨q,PySem.W.cellsFrom_some _ _ _ (.inl q)⟩
 refine codeAny_call_function hr.depth (KX _ _ lk) rfl S.co S.gen rfl (PySem.W.codeRec_of KX hcd) (hb _ _ _ _ ?_);refine wpAny_newFunctionEnv_cells S.kind hkind λenv he s1 x=>?_;subst he;refine⟨lim.keeps x.toInCall.keep,codeAny_func ?_⟩;obtain⟨t,ht,hq⟩:=hbody A outer s H vs Q E (hr.deeper _) hsp;have I:Inv (lT CX P w K mg base N qual scope f cdv A outer s H E) [] (jp N vs) H s1:=Bq S hr.hd e0 hl r x;refine JX (ht [] s1 (jp N vs) H _ I hq) (λfl s' hs=>?_) λe s' hs=>hs;have fin:∀{σ':St}{H':Hp}{v:V}{u:IE},Inv (lT CX P w K mg base N qual scope f cdv A outer s H E) [] σ' H' s'->bx v u->Q v H'->CE outer P w H s Q u s':=
  λ{σ' H' v u} J rv q=>⟨v,H',J.os,J.bare,J.base,J.hok,rv,q⟩
 cases fl with
 |ret u =>
  obtain⟨v,σ',H',J,rv,q⟩:=hs;exact fin J rv q
 |next =>
  obtain⟨σ',H',J,q⟩:=hs;exact fin (v:=V.non) (u:=Lv) J rfl q
 |brk =>
  obtain⟨_,_,_,q⟩:=hs;exact Ke q
 |cont =>
  obtain⟨_,_,_,q⟩:=hs;exact Ke q
section
variable {X:Cx}{x:Str}{p pos:Pos}{e:Expr}{es:List Expr}{t:TA}{id T:String}{r:List V->Hp->VK->Prop}

def tCB(r:List V->Hp->VK->Prop)(t:TA):TE:=λσ H Q=>t σ H λvs H1=>r vs H1 Q
theorem aF(hc:ii X (.builtin id) r)(hg:Gl X x)(hm:X.mg x=none)(hv:K2 x=some (.builtin id))(ha:PA X (e::es) t)(hn:x≠"__name__":=by decide)(hdb:(x==("__debug__" : Str))=false:=by decide)
  (he:Jn (e::es) X.env=(false,eval e X.env)::Jn es X.env:=by rfl)(hpl:(KF pos (Jn es X.env)).any (·.1)=false:=by rfl):PE X (.Call (.Name x p) (e::es) [] pos) (tCB r t):=by
 intro pins s σ H Q I h;refine KG (lQ I hg hm hv ?_ hn hdb);exact PyProof.Rows.callWith_builtin1 (thn (ha pos pins s σ H _ I h) λus s1 ⟨vs,H1,I1,r1,q1⟩=>hc pins s1 σ H1 vs us Q I1 r1 q1) he hpl
theorem gy(hc:ii X (.type T) r)(hg:Gl X x)(hm:X.mg x=none)(hv:K2 x=some (.type T))(ha:PA X (e::es) t)(hn:x≠"__name__":=by decide)(hdb:(x==("__debug__" : Str))=false:=by decide)
  (he:Jn (e::es) X.env=(false,eval e X.env)::Jn es X.env:=by rfl)(hpl:(KF pos (Jn es X.env)).any (·.1)=false:=by rfl):PE X (.Call (.Name x p) (e::es) [] pos) (tCB r t):=by
 intro pins s σ H Q I h;refine KG (lQ I hg hm hv ?_ hn hdb);exact Kl (thn (ha pos pins s σ H _ I h) λus s1 ⟨vs,H1,I1,r1,q1⟩=>hc pins s1 σ H1 vs us Q I1 r1 q1) he hpl
end
end L2

namespace HT
open PySem PyProof.Rows

section
open PySem.SeqAt
open PySem.AutoSeq1 (wpAny_loadPart')
open PySem.MeetsSeq PySem.MeetsSeq2 PySem.MeetsSeq3

end

section
variable {prog:Jk}{w:Jo}{A:JF}{E:IE->IG->Prop}{s:IG}

theorem cat_tup{t b:Addr}{vs ws:List IE}{Q:IE->IG->Prop}(ht:IsTup s.heap t vs.toArray)(hb:IsTup s.heap b ws.toArray)(hv:vs≠[])
  (h1:ws=[]->Q (.ref t) s)(h2:ws≠[]->Q (.ref s.heap.objs.size) { s with heap:=s.heap.push { cls:=.type "tuple",data:=.seq (vs++ws).toArray } })
  (hsz:vs.length+ws.length<=I0):Ju (Jv prog w) A (K8 .Add (.ref t) (.ref b)) Q E s:=by
 obtain⟨⟨cls,dd,data,sl⟩,ho,hc,n,hd⟩:=id ht;obtain⟨⟨cls2,dd2,data2,sl2⟩,ho2,hc2,n2,hd2⟩:=id hb;simp only at hc hd hc2 hd2;subst hc hd hc2 hd2;have e:vs.toArray++ws.toArray=(vs++ws).toArray:=by simp
 by_cases hw:ws=[]
 .exact concat_meets ⟨_,ho,rfl⟩ ⟨_,ho2,rfl⟩ noFill_tuple_add seq_tuple_add PySem.F.slot_tuple_add PySem.F.entry_tuple_add (PySem.F.args_tuple_add_2 _ _)
   (tuple_addW1 t b vs.toArray ws.toArray n n2 dd dd2 sl sl2 (by simpa using hv) (by simp[hw])) ⟨ho,ho2,h1 hw⟩
 .refine concat_meets ⟨_,ho,rfl⟩ ⟨_,ho2,rfl⟩ noFill_tuple_add seq_tuple_add PySem.F.slot_tuple_add PySem.F.entry_tuple_add (PySem.F.args_tuple_add_2 _ _)
   (tuple_addW2 t b vs.toArray ws.toArray n n2 dd dd2 sl sl2 (by simpa using hv) (by simpa using hw) (by rw[I_,I_];exact hsz)) ⟨ho,ho2,?_⟩
  rw[e];exact h2 hw

def sIx(n d:Nat):Option Int->Nat
 |none=>d
 |some v=>if v<0 then(v+(n:Int)).toNat else min v.toNat n
theorem sIx_none(n d:Nat):sIx n d none=d:=rfl
theorem sIx_nat(n d k:Nat):sIx n d (some (k:Int))=min k n:=by
 show(if(k:Int)<0 then((k:Int)+(n:Int)).toNat else min (k:Int).toNat n)=min k n;rw[if_neg (by omega),J0]
theorem sIx_le(n d:Nat)(hd:d<=n)(o:Option Int):sIx n d o<=n:=by
 cases o with
 |none=>exact hd
 |some v =>
  show(if v<0 then(v+(n:Int)).toNat else min v.toNat n)<=n;by_cases hv:v<0
  .rw[if_pos hv];omega
  .rw[if_neg hv];exact Nat.min_le_right _ _
end
end HT

namespace L2
open PySem PySem.Spec PyProof.Rows

abbrev TO:=St->Hp->(Option Int->Hp->Prop)->Prop
def PO(X:Cx)(e:Option Expr)(t:TO):Prop:=
 ∀(pins:List (Addr×Obj))(s:IG)(σ:St)(H:Hp)(Q:Option Int->Hp->Prop),Inv X pins σ H s->t σ H Q->
  Ju (Jv X.prog X.w) X.A (evalPart e X.env) (λu s'=>∃o H',Inv X pins σ H' s'/\IsPart u o/\Q o H') X.xe s
def Ek:TO:=λ_ H Q=>Q none H
inductive FA(Q:Option Int->Hp->Prop)(x:V)(H1:Hp):Prop
 |mk(i)(_:x=.int i)(_:Q (some i) H1)
def Hd(t:TE):TO:=λσ H Q=>t σ H (FA Q)

section
variable {X:Cx}{e:Expr}{te:TE}{lo hi:Option Expr}{tl th:TO}{pos p2:Pos}

theorem fN:PO X none Ek:=by
 intro pins s σ H Q I h;rw[evalPart_none];exact JS ⟨none,H,I,.none,h⟩
theorem eQ(h:PE X e te):PO X (some e) (Hd te):=by
 intro pins s σ H Q I hw;rw[evalPart_some];refine thn (h pins s σ H _ I hw) λu s1 ⟨x,H1,I1,r1,q1⟩=>?_;obtain⟨i,rfl,q⟩:=q1;obtain⟨t,rfl⟩:=r1;exact⟨some i,H1,I1,.int i t,q⟩

def SlR(X:Cx)(r:V->Option Int->Option Int->Hp->VK->Prop):Prop:=
 ∀(pins:List (Addr×Obj))(s:IG)(σ:St)(H:Hp)(x:V)(v vl vu:IE)(lo hi:Option Int)(sl:Addr)(Q:VK),Inv X pins σ H s->bx x v->s.heap.IsSliceOf sl vl vu .none->IsPart vl lo->IsPart vu hi->r x lo hi H Q->
  ∃T id,Nh (.type T) "__getitem__" = pure (some (.builtin id))/\s.TypeIs v T/\Ju (Jv X.prog X.w) X.A (No v (.ref sl)) (EP X pins σ Q) X.xe s
def tSl(r:V->Option Int->Option Int->Hp->VK->Prop)(te:TE)(tl th:TO):TE:=λσ H Q=>te σ H λx H1=>tl σ H1 λl H2=>th σ H2 λu H3=>r x l u H3 Q
theorem dR{r:V->Option Int->Option Int->Hp->VK->Prop}(hr:SlR X r)(he:PE X e te)(hl:PO X lo tl)(hu:PO X hi th):PE X (.Subscript e (.Slice lo hi none p2) pos) (tSl r te tl th):=by
 intro pins s σ H Q I h;refine NF (thn (he pins s σ H _ I h) λv s1 ⟨x,H1,I1,r1,q1⟩=>?_);refine wpAny_Slice (thn (hl pins s1 σ H1 _ I1 q1) λvl s2 ⟨l,H2,I2,pl,q2⟩=>thn (hu pins s2 σ H2 _ I2 q2) λvu s3 ⟨u,H3,I3,pu,q3⟩=>?_);rw[evalPart_none];refine JS ?_;have I4:Inv X pins σ H3 { s3 with heap:=s3.heap.push { cls:=.type "slice",data:=.fields #[vl,vu,.none] } }:=I3.kept (t':=s3.toks) λb ob q=>IV _ q;obtain⟨T,id,hT,ht,hg⟩:=hr pins { s3 with heap:=s3.heap.push { cls:=.type "slice",data:=.fields #[vl,vu,.none] } } σ H3 x v vl vu l u s3.heap.objs.size Q I4 r1 (Heap.IsSliceOf.new ..) pl pu q3;show Ju (Jv X.prog X.w) X.A (Nb e (.Slice lo hi none p2) v (.ref s3.heap.objs.size)) (EP X pins σ Q) X.xe { s3 with heap:=s3.heap.push { cls:=.type "slice",data:=.fields #[vl,vu,.none] } };exact tail_any (ops:=[.ref s3.heap.objs.size,v]) ht hT hg (by with_unfolding_all rfl)

def io(xs:List V)(lo hi:Option Int):List V:=(xs.drop (HT.sIx xs.length 0 lo)).take (HT.sIx xs.length xs.length hi-HT.sIx xs.length 0 lo)
theorem yQ(xs:List V)(lo hi:Option Int):(io xs lo hi).length<=xs.length:=by
 unfold io;rw[Jm,Lh];omega
inductive He(K:IC)(x:V)(y:V)(H:Hp)(Q:VK):Prop
 |mk(a b xs ys)(_:x=.ref a)(_:y=.ref b)(_:SqT K H a xs)(_:SqT K H b ys)(_:xs≠[])(_:xs.length+ys.length<=I0)(_:ys=[]->Q (.ref a) H)(_:ys≠[]->∀p,H p=none->Q (.ref p) (upd H p (.tup (xs++ys))))
theorem bo.nil_iff{xs:List V}{us:List IE}(r:bo xs us):us=[]↔xs=[]:=by
 cases r with
 |nil=>simp
 |cons _ _=>simp
theorem zh:OpR X (K8 .Add) (He X.K):=by
 intro pins s σ H x y v u Q I rx ry h;obtain⟨a,b,xs,ys,rfl,rfl,ha,hb,hx,hz,q1,q2⟩:=h;cases rx;cases ry;obtain⟨its,r1,p1,_⟩:=I.tuple ha;obtain⟨its2,r2,p2,_⟩:=I.tuple hb;refine HT.cat_tup p1 p2 (λz=>hx (r1.nil_iff.mp z)) (λz=>⟨.ref a,H,I,rfl,q1 (r2.nil_iff.mp z)⟩) (λz=>?_) (by rw[<-r1.length,<-r2.length];exact hz);refine⟨.ref s.heap.objs.size,_,I.laid (t':=s.toks) (o:=.tup (xs++ys)) (λb ob q=>IV _ q) (IM _) ?_,rfl,q2 (λw=>z (r2.nil_iff.mpr w)) _ (I.hok.fresh (IM _))⟩;exact⟨by rw[IB];exact hz,_,r1.append r2,IsTup.new _ _⟩
end

def ixN(n:Nat)(i:Int):Option Nat:=if 0<=i then(if i<n then some i.toNat else none)else if -(n:Int)<=i then some (i+n).toNat else none
def atI{α:Type}(xs:List α)(i:Int):Option α:=(ixN xs.length i).bind λj=>xs[j]?
theorem zi{n:Nat}{i:Int}{j:Nat}(h:ixN n i=some j):seqIndex? i n=some j/\j<n/\-(n:Int)<=i/\i<n:=by
 unfold ixN at h;by_cases h0:0<=i
 .rw[if_pos h0]at h;by_cases h1:i<n
  .rw[if_pos h1]at h;have e:i.toNat=j:=Jy h;exact⟨by rw[Nu h0 h1,e],by omega,by omega,h1⟩
  .rw[if_neg h1]at h;cases h
 .rw[if_neg h0]at h;by_cases h1:-(n:Int)<=i
  .rw[if_pos h1]at h;have e:(i+n).toNat=j:=Jy h;exact⟨by rw[Np (by omega) h1,e],by omega,h1,by omega⟩
  .rw[if_neg h1]at h;cases h
theorem uQ{α:Type}{xs:List α}{i:Int}{v:α}(h:atI xs i=some v):∃j,seqIndex? i xs.length=some j/\xs[j]?=some v/\j<xs.length/\-(xs.length:Int)<=i/\i<xs.length:=by
 unfold atI at h;cases e:ixN xs.length i with
 |none=>rw[e]at h;cases h
 |some j =>
  rw[e]at h;obtain⟨h1,h2,h3,h4⟩:=zi e;exact⟨j,h1,h,h2,h3,h4⟩
theorem bX{α:Type}{xs:List α}{j:Nat}{v:α}(h:xs[j]?=some v):atI xs (j:Int)=some v:=by
 have hj:j<xs.length:=(List.getElem?_eq_some_iff.mp h).1;have e:ixN xs.length (j:Int)=some j:=by
  unfold ixN;rw[if_pos (by omega),if_pos (by omega)];simp
 unfold atI;rw[e];exact h
def El(b:Expr):Prop:=∀o i,M4 b false o i=operate [o,i] (No o i)
def IxR(X:Cx)(r:R2):Prop:=
 ∀(value slice:Expr)(pins:List (Addr×Obj))(s:IG)(σ:St)(H:Hp)(x y:V)(v u:IE)(Q:VK),Inv X pins σ H s->bx x v->bx y u->r x y H Q->
  M4 slice false v u=operate [v,u] (No v u)->Ju (Jv X.prog X.w) X.A (Nb value slice v u) (EP X pins σ Q) X.xe s
def MtR(X:Cx)(id:String)(r:V->List V->Hp->VK->Prop):Prop:=
 ∀(pins:List (Addr×Obj))(s:IG)(σ:St)(H:Hp)(x:V)(xs:List V)(v:IE)(us:List IE)(Q:VK),Inv X pins σ H s->bx x v->bo xs us->r x xs H Q->
  Ju (Jv X.prog X.w) X.A (call (.builtin id) (v::us)) (EP X pins σ Q) X.xe s
section
variable {X:Cx}{a b:Expr}{ta tb:TE}{pos:Pos}
theorem IxR.or{r r':R2}(h:IxR X r)(h':IxR X r'):IxR X (λx y H Q=>r x y H Q\/r' x y H Q):=by
 intro value slice pins s σ H x y v u Q I rx ry q hs;rcases q with q|q
 .exact h value slice pins s σ H x y v u Q I rx ry q hs
 .exact h' value slice pins s σ H x y v u Q I rx ry q hs
theorem aB{r:R2}(hr:IxR X r)(ha:PE X a ta)(hb:PE X b tb)(hs:El b):PE X (.Subscript a b pos) (tOp r ta tb):=by
 intro pins s σ H Q I h;exact NF (CO ha hb I h λv u s2 x y H2 I2 rx ry q=>hr a b pins s2 σ H2 x y v u Q I2 rx ry q (hs _ _))

inductive CW(K:IC)(x:V)(y:V)(H:Hp)(Q:VK):Prop
 |mk(p xs i v)(_:x=.ref p)(_:y=.int i)(_:SqL K H p xs)(_:atI xs i=some v)(_:Q v H)
inductive kQ(K:IC)(x:V)(y:V)(H:Hp)(Q:VK):Prop
 |mk(p xs i v)(_:x=.ref p)(_:y=.int i)(_:SqT K H p xs)(_:atI xs i=some v)(_:Q v H)
inductive FB(x:V)(y:V)(H:Hp)(Q:VK):Prop
 |mk(z i c)(_:x=.str z)(_:y=.int i)(_:z.length<=I0)(_:atI z.cps.toList i=some c)(_:Q (.str ⟨#[c]⟩) H)
theorem bC:IxR X (CW X.K):=by
 intro value slice pins s σ H x y v u Q I rx ry h hs;obtain⟨p,xs,i,z,rfl,rfl,hq,he,q⟩:=h;cases rx;obtain⟨t,rfl⟩:=ry;obtain⟨its,r,pl,hz⟩:=I.list hq;obtain⟨j,h1,h2,h3,h4,h5⟩:=uQ he;obtain⟨w,ew,rw'⟩:=r.get h2;have hl:=r.length;have hn:=lR;have fin:EP X pins σ Q w s:=⟨z,H,I,rw',q⟩;by_cases h0:0<=i
 .have hj:i.toNat=j:=by
   rw[Nu h0 h5]at h1;exact Jy h1
  exact item_listR pl.isList h0 (by omega) (by rw[hj];simpa using ew) fin hs
 .have hj:(i+(its.toArray.size:Int)).toNat=j:=by
   rw[Np (by omega) h4]at h1;rw[I_,<-hl];exact Jy h1
  exact subscriptTail_builtinR (x:=w) pl.isList.typeIs slot_list_getitem.lookup
   (wpAny_getItem_list_neg (Q:=λr s'=>r=w/\EP X pins σ Q r s') pl.isList (by omega) (by rw[I_]<;>omega) (by omega) (by rw[hj];simpa using ew) ⟨rfl,fin⟩) hs
theorem aZ:IxR X (kQ X.K):=by
 intro value slice pins s σ H x y v u Q I rx ry h hs;obtain⟨p,xs,i,z,rfl,rfl,hq,he,q⟩:=h;cases rx;obtain⟨t,rfl⟩:=ry;obtain⟨its,r,pl,hz⟩:=I.tuple hq;obtain⟨j,h1,h2,h3,h4,h5⟩:=uQ he;obtain⟨w,ew,rw'⟩:=r.get h2;have hl:=r.length;have hn:=lR;have fin:EP X pins σ Q w s:=⟨z,H,I,rw',q⟩;exact subscriptTail_builtinR (x:=w) pl.typeIs slot_tuple_getitem.lookup
  (getItem_tuple (j:=j) (Q:=λr s'=>r=w/\EP X pins σ Q r s') pl (by omega) (by omega) (by rw[I_,<-hl];exact h1) (by simpa using ew) ⟨rfl,fin⟩) hs
theorem eu:IxR X FB:=by
 intro value slice pins s σ H x y v u Q I rx ry h hs;obtain⟨z,i,c,rfl,rfl,hz,he,q⟩:=h;obtain⟨t,rfl⟩:=rx;obtain⟨t',rfl⟩:=ry;obtain⟨j,h1,h2,h3,h4,h5⟩:=uQ he;have hl:z.cps.toList.length=z.length:=by simp[Str.length]
 rw[hl]at h1 h4 h5;have hn:=lR;exact tail_any (Mt s z t) slot_str_getitem.lookup (getItem_str (c:=c) (by
  have e1:decide (i < -(2^63:Int))=false:=decide_eq_false (by omega);have e2:decide (i>=2^63)=false:=decide_eq_false (by omega);rw[e1,e2,Bool.or_false]) (by rw[h1];simpa using h2) ⟨.str ⟨#[c]⟩,H,I.tok _,⟨_,rfl⟩,q⟩) hs
def rIx(K:IC):R2:=λx y H Q=>CW K x y H Q\/kQ K x y H Q\/FB x y H Q
theorem Br:IxR X (rIx X.K):=bC.or (aZ.or eu)

theorem Ac(its:List IE)(n j:Nat)(u:IE):MN (·.setIfInBounds j u) { cls:=.type "list",data:=.seq its.toArray n }={ cls:=.type "list",data:=.seq (its.set j u).toArray n }:=by
 simp[MN]
theorem Inv.lst{pins:List (Addr×Obj)}{σ:St}{H:Hp}{s:IG}{p:Addr}{xs:List V}(I:Inv X pins σ H s)(h:H p=some (.lst xs)) :
  ∃(its:List IE)(n:Nat),bo xs its/\s.heap.get? p=some { cls:=.type "list",data:=.seq its.toArray n }/\xs.length<=I0:=by
 obtain⟨z,its,n,r,e⟩:=I.hok p _ h;exact⟨its,n,r,e,z⟩
theorem Inv.lstUpd{pins:List (Addr×Obj)}{σ:St}{H:Hp}{s:IG}{p:Addr}{xs ys:List V}{its its':List IE}{n n':Nat}{f:Obj->Obj}(I:Inv X pins σ H s)(h:H p=some (.lst xs))
  (ho:s.heap.get? p=some { cls:=.type "list",data:=.seq its.toArray n })(hf:f { cls:=.type "list",data:=.seq its.toArray n }={ cls:=.type "list",data:=.seq its'.toArray n' })(r:bo ys its')(hz:ys.length<=I0)(t:Nat) :
  Inv X pins σ (upd H p (.lst ys)) { s with heap:=s.heap.update p f,toks:=t }:=by
 have e:(s.heap.update p f).get? p=some { cls:=.type "list",data:=.seq its'.toArray n' }:=by
  rw[Heap.get?_update_self f ho (by rw[hf]<;>rfl),hf]
 refine I.write (x:=p) (e:=p) (by rw[h];trivial) (.inl rfl) (λb u hb q=>(LJ _ _ (JH hb)).trans q) ⟨_,e⟩ ?_;exact⟨hz,its',n',r,e⟩
inductive Hg(o:V)(i:V)(v:V)(H:Hp)(Q:Hp->Prop):Prop
 |mk(p xs k j)(_:o=.ref p)(_:i=.int k)(_:H p=some (.lst xs))(_:ixN xs.length k=some j)(_:Q (upd H p (.lst (xs.set j v))))
theorem jV:Fn X Hg:=by
 intro pins s σ H o i v ov iv u Q I ro ri rv h;obtain⟨p,xs,k,j,rfl,rfl,hp,hj,q⟩:=h;cases ro;obtain⟨t,rfl⟩:=ri;obtain⟨its,n,r,ho,hz⟩:=I.lst hp;obtain⟨h1,h2,h3,h4⟩:=zi hj;have hl:=r.length;have hn:=lR;have I':Inv X pins σ (upd H p (.lst (xs.set j v))) { s with heap:=s.heap.update p (MN (·.setIfInBounds j u)) }:=
  I.lstUpd hp ho (Ac its n j u) (r.set rv j) (by rw[MY];exact hz) s.toks
 by_cases h0:0<=k
 .have hk:k.toNat=j:=by
   rw[Nu h0 h4]at h1;exact Jy h1
  exact PySem.W.ki_setAt ho h0 (by omega) (by rw[I_,<-hl];exact h4) (by rw[hk];exact⟨_,I',q⟩)
 .have hk:(k+(its.toArray.size:Int)).toNat=j:=by
   rw[Np (by omega) h3]at h1;rw[I_,<-hl];exact Jy h1
  exact PySem.W.ki_setBack ho (by omega) (by rw[I_,<-hl];exact h3) (by omega) (by rw[hk];exact⟨_,I',q⟩)

theorem xz(lo hi:Option Int)(n:Nat):(LG lo hi none n).1=((HT.sIx n 0 lo:Nat):Int)/\(LG lo hi none n).2.1=((HT.sIx n n hi:Nat):Int)/\(LG lo hi none n).2.2=1:=by
 refine⟨?_,?_,rfl⟩
 .cases lo with
  |none=>simp[LG,HT.sIx]
  |some i =>
   simp only[LG,HT.sIx,Option.getD_none,show(1:Int)>0 by decide,if_true];by_cases h:i<0
   .simp only[h,if_true]<;>omega
   .simp only[h,if_false]<;>omega
 .cases hi with
  |none=>simp[LG,HT.sIx]
  |some i =>
   simp only[LG,HT.sIx,Option.getD_none,show(1:Int)>0 by decide,if_true];by_cases h:i<0
   .simp only[h,if_true]<;>omega
   .simp only[h,if_false]<;>omega
theorem we(its:List IE)(lo hi:Option Int):slicePick its.toArray lo hi none=((its.drop (HT.sIx its.length 0 lo)).take (HT.sIx its.length its.length hi-HT.sIx its.length 0 lo)).toArray:=by
 obtain⟨h1,h2,h3⟩:=xz lo hi its.toArray.size;unfold slicePick;rw[h1,h2,h3];simp only[sliceRange_one,pick_run,I_]<;>rfl
inductive HY(K:IC)(x:V)(lo:Option Int)(hi:Option Int)(H:Hp)(Q:VK):Prop
 |mk(a xs)(_:x=.ref a)(_:SqL K H a xs)(_:∀p,H p=none->Q (.ref p) (upd H p (.lst (io xs lo hi))))
theorem oa:SlR X (HY X.K):=by
 intro pins s σ H x v vl vu lo hi sl Q I rx hs pl pu h;obtain⟨a,xs,rfl,hx,q⟩:=h;cases rx;obtain⟨its,r,ht,hz⟩:=I.list hx;have hlen:=r.length;refine⟨"list",_,slot_list_getitem.lookup,ht.isList.typeIs,?_⟩;refine wpAny_getItem_list_slice ht.isList hs pl pu .none (by simp) ?_ (by rw[I_]<;>omega)
 rw[we,<-hlen];refine⟨.ref s.heap.objs.size,_,I.laid (t':=s.toks) (o:=.lst (io xs lo hi)) (λb ob q=>IV _ q) (IM _) ?_,rfl,q _ (I.hok.fresh (IM _))⟩;exact⟨JC (yQ xs lo hi) hz,_,0,(r.drop (HT.sIx xs.length 0 lo)).take (HT.sIx xs.length xs.length hi-HT.sIx xs.length 0 lo),Jr _ rfl⟩

def jq:V->Bool
 |.non=>true
 |.bl _=>true
 |.int _=>true
 |.str _=>true
 |_=>false
def eqV:V->V->Bool
 |.non,.non=>true
 |.bl a,.bl b=>a==b
 |.bl a,.int b=>(if a then 1 else 0)==b
 |.int a,.bl b=>a==(if b then 1 else 0)
 |.int a,.int b=>a==b
 |.str a,.str b=>a==b
 |_,_=>false
theorem FC{A:JF}{s:IG}{y x:V}{u v:IE}(ry:bx y u)(rx:bx x v)(fy:jq y=true)(fx:jq x=true):SeqAt.EqAt A s u v (eqV y x):=by
 cases y with
 |non =>
  cases ry;cases x with
  |non=>cases rx;exact SeqAt.EqAt.same _
  |bl b=>cases rx;exact SeqAt.EqAt.none_bool b
  |int b=>obtain⟨t,rfl⟩:=rx;exact SeqAt.EqAt.none_int b t
  |str b=>obtain⟨t,rfl⟩:=rx;exact SeqAt.EqAt.none_str b t
  |_=>exact absurd (show false=true from fx) Jh
 |bl a =>
  cases ry;cases x with
  |non=>cases rx;exact SeqAt.EqAt.bool_none a
  |bl b=>cases rx;exact SeqAt.EqAt.bool_bool a b
  |int b=>obtain⟨t,rfl⟩:=rx;exact SeqAt.EqAt.bool_int a b t
  |str b=>obtain⟨t,rfl⟩:=rx;exact SeqAt.EqAt.bool_str a b t
  |_=>exact absurd (show false=true from fx) Jh
 |int a =>
  obtain⟨t',rfl⟩:=ry;cases x with
  |non=>cases rx;exact SeqAt.EqAt.int_none a t'
  |bl b=>cases rx;exact SeqAt.EqAt.int_bool a t' b
  |int b=>obtain⟨t,rfl⟩:=rx;exact SeqAt.EqAt.int_int a t' b t
  |str b=>obtain⟨t,rfl⟩:=rx;exact SeqAt.EqAt.int_str a t' b t
  |_=>exact absurd (show false=true from fx) Jh
 |str a =>
  obtain⟨t',rfl⟩:=ry;cases x with
  |non=>cases rx;exact SeqAt.EqAt.str_none a t'
  |bl b=>cases rx;exact SeqAt.EqAt.str_bool a t' b
  |int b=>obtain⟨t,rfl⟩:=rx;exact SeqAt.EqAt.str_int a t' b t
  |str b=>obtain⟨t,rfl⟩:=rx;exact SeqAt.EqAt.str_str a t' b t
  |_=>exact absurd (show false=true from fx) Jh
 |_=>exact absurd (show false=true from fy) Jh
def eqU(x:V)(u:IE):Bool:=match u with
 |.none=>eqV .non x
 |.bool b=>eqV (.bl b) x
 |.int i _=>eqV (.int i) x
 |.str z _=>eqV (.str z) x
 |_=>false
theorem xA{x y:V}{u:IE}(r:bx y u)(f:jq y=true):eqU x u=eqV y x:=by
 cases y with
 |non=>cases r;rfl
 |bl b=>cases r;rfl
 |int i=>obtain⟨t,rfl⟩:=r;rfl
 |str z=>obtain⟨t,rfl⟩:=r;rfl
 |_=>exact absurd (show false=true from f) Jh
theorem oe{x:V}:∀{xs:List V}{us:List IE},bo xs us->xs.all jq=true->us.any (eqU x)=xs.any λy=>eqV y x
 |_,_,.nil,_=>rfl
 |y::xs,u::us,.cons r t,f=>by
  rw[Lp,Kt]at f;rw[K_,K_,xA r f.1,oe t f.2]
theorem jW{A:JF}{s:IG}{x:V}{v:IE}(rx:bx x v)(fx:jq x=true):∀{xs:List V}{us:List IE},bo xs us->xs.all jq=true->∀u∈us,SeqAt.EqAt A s u v (eqU x u)
 |_,_,.nil,_=>λu hu=>by cases hu
 |y::xs,u::us,.cons r t,f=>λu' hu=>by
  rw[Lp,Kt]at f;rcases List.mem_cons.mp hu with rfl|hu
  .rw[xA r f.1];exact FC r rx f.1 fx
  .exact jW rx fx t f.2 u' hu
def inV(x:V)(xs:List V):Bool:=xs.any λy=>eqV y x
inductive rIn(K:IC)(neg:Bool)(x:V)(y:V)(H:Hp)(Q:VK):Prop
 |mk(p xs)(_:y=.ref p)(_:SqL K H p xs\/SqT K H p xs)(_:jq x=true)(_:xs.all jq=true)(_:Q (.bl (if neg then !inV x xs else inV x xs)) H)
theorem gz:OpR X (Kc .In) (rIn X.K false):=by
 intro pins s σ H x y v u Q I rx ry h;obtain⟨p,xs,rfl,hq,fx,fs,q⟩:=h;cases ry;rcases hq with hq|hq
 .obtain⟨its,r,pl,hz⟩:=I.list hq;refine SeqAt.in_listAt (eqU x) pl.isList (λw hw=>jW rx fx r fs w (by simpa using hw)) ⟨.bl _,H,I,rfl,?_⟩;rw[show its.toArray.any (eqU x)=its.any (eqU x) by simp,oe r fs];exact q
 .obtain⟨its,r,pl,hz⟩:=I.tuple hq;refine SeqAt.in_tupleAt (eqU x) pl (λw hw=>jW rx fx r fs w (by simpa using hw)) ⟨.bl _,H,I,rfl,?_⟩;rw[show its.toArray.any (eqU x)=its.any (eqU x) by simp,oe r fs];exact q
theorem xB:OpR X (Kc .NotIn) (rIn X.K true):=by
 intro pins s σ H x y v u Q I rx ry h;obtain⟨p,xs,rfl,hq,fx,fs,q⟩:=h;cases ry;rcases hq with hq|hq
 .obtain⟨its,r,pl,hz⟩:=I.list hq;refine SeqAt.notIn_listAt (eqU x) pl.isList (λw hw=>jW rx fx r fs w (by simpa using hw)) ⟨.bl _,H,I,rfl,?_⟩;rw[show its.toArray.any (eqU x)=its.any (eqU x) by simp,oe r fs];exact q
 .obtain⟨its,r,pl,hz⟩:=I.tuple hq;refine SeqAt.notIn_tupleAt (eqU x) pl (λw hw=>jW rx fx r fs w (by simpa using hw)) ⟨.bl _,H,I,rfl,?_⟩;rw[show its.toArray.any (eqU x)=its.any (eqU x) by simp,oe r fs];exact q
inductive qc(K:IC)(xs:List V)(H:Hp)(Q:VK):Prop
 |mk(p ys)(_:xs=[.ref p])(_:SqL K H p ys\/SqT K H p ys)(_:Q (.int ys.length) H)
theorem bp:ii X (.builtin "len") (qc X.K):=by
 intro pins s σ H xs us Q I r h;obtain⟨p,ys,rfl,hq,q⟩:=h;obtain⟨u,rfl,rx⟩:=iW r;cases rx;have hn:=lR;rcases hq with hq|hq
 .obtain⟨its,r',pl,hz⟩:=I.list hq;have hlen:=r'.length;exact Calls.call_len_list pl.isList (by simp only[I_]<;>omega) ⟨.int ys.length,H,I.tok _,⟨s.toks+1,by rw[I_,hlen]⟩,q⟩
 .obtain⟨its,r',pl,hz⟩:=I.tuple hq;have hlen:=r'.length;exact len_tuple pl (by simp only[I_]<;>omega) ⟨.int ys.length,H,I.tok _,⟨s.toks+1,by rw[I_,hlen]⟩,q⟩
inductive wj(xs:List V)(H:Hp)(Q:VK):Prop
 |mk(z)(_:xs=[.str z])(_:z.length<=I0)(_:Q (.int z.length) H)
theorem dG:ii X (.builtin "len") wj:=by
 intro pins s σ H xs us Q I r h;obtain⟨z,rfl,hz,q⟩:=h;obtain⟨u,rfl,t,rfl⟩:=iW r;have hn:=lR;exact len_str (by omega) ⟨.int z.length,H,I.tok _,⟨_,rfl⟩,q⟩
def tyV(K:IC)(T:String)(x:V)(H:Hp):Prop:=match x with
 |.str _=>T = "str"
 |.int _=>T = "int"
 |.ref p=>(T = "list"/\∃xs,SqL K H p xs)\/(T = "tuple"/\∃o,K.lookup p=some o/\o.cls=.type "tuple"/\o.dict=none)\/
   (T = "dict"/\((∃kvs,H p=some (.dK kvs))\/∃kvs,H p=some (.dT kvs)))\/(T = "set"/\∃S n,H p=some (.set S n))
 |_=>False
theorem FD{pins:List (Addr×Obj)}{σ:St}{H:Hp}{s:IG}{T:String}{x:V}{v:IE}(I:Inv X pins σ H s)(r:bx x v)(ty:tyV X.K T x H) :
  s.TypeIs v T/\∀a,v=.ref a->∃ob,s.heap.get? a=some ob/\ob.dict=none:=by
 cases x with
 |str z =>
  obtain⟨t,rfl⟩:=r;cases (show T = "str" from ty);exact⟨Mt s z t,λ_ e=>nomatch e⟩
 |int i =>
  obtain⟨t,rfl⟩:=r;cases (show T = "int" from ty);exact⟨NG s i t,λ_ e=>nomatch e⟩
 |ref p =>
  cases r;rcases ty with⟨rfl,xs,hq⟩|⟨rfl,o,hk,hc,hd⟩|⟨rfl,hk⟩|⟨rfl,S,n,hk⟩
  .obtain⟨its,_,pl,_⟩:=I.list hq;refine⟨pl.isList.typeIs,λa e=>?_⟩;cases e;obtain⟨o,n,e,c,hd,_⟩:=pl;exact⟨o,e,hd⟩
  .refine⟨⟨o,I.kIn p o hk,hc⟩,λa e=>?_⟩;cases e;exact⟨o,I.kIn _ o hk,hd⟩
  .have z:∃o,s.heap.get? p=some o/\o.ExactDict:=by
    rcases hk with⟨kvs,hk⟩|⟨kvs,hk⟩
    .obtain⟨_,_,_,_,o,_,_,e,ex,_⟩:=I.hok p _ hk;exact⟨o,e,ex⟩
    .obtain⟨_,_,_,_,o,_,_,e,ex,_⟩:=I.hok p _ hk;exact⟨o,e,ex⟩
   obtain⟨o,e,ex⟩:=z;refine⟨⟨o,e,ex.1⟩,λa e2=>?_⟩;cases e2;exact⟨o,e,ex.2.1⟩
  .obtain⟨o,_,_,_,e,ex,_⟩:=I.hok p _ hk;refine⟨⟨o,e,ex.1⟩,λa e2=>?_⟩;cases e2;exact⟨o,e,ex.2.1⟩
 |_=>exact Ke ty
def tBM(K:IC)(T:String)(r:V->List V->Hp->VK->Prop)(to:TE)(t:TA):TE:=λσ H Q=>to σ H λx H1=>tyV K T x H1/\t σ H1 λxs H2=>r x xs H2 Q
variable {o e:Expr}{es:List Expr}{to:TE}{t:TA}{name:Str}{apos cpos:Pos}{T id:String}{r:V->List V->Hp->VK->Prop}
theorem b_(pa:PlainAttrs T)(slot:Slot T name id)(hty:typeOf (.builtin id)=pure (.type "method_descriptor"))(hm:MtR X id r)(ho:PE X o to)(ha:PA X (e::es) t)
  (hbase:Lo o name X.env (eval o X.env)=eval o X.env:=by rfl)
  (hfew:((KF cpos (Jn (e :: es) X.env)).all (fun x=>!x.1) && (M2 cpos (LX [] X.env)).all (fun x=>x.1.isSome)
   && decide ((e::es).length+([]:List Nw).length+(if([]:List Nw).isEmpty then 0 else 1)<30))=true:=by rfl)
  (hline:(apos.endLine==cpos.line)=true:=by rfl) (hs:Jn (e::es) X.env=(false,eval e X.env)::Jn es X.env:=by rfl) (hplain:(KF cpos (Jn es X.env)).any (·.1)=false:=by rfl) :
  PE X (.Call (.Attribute o name apos) (e::es) [] cpos) (tBM X.K T r to t):=by
 intro pins s σ H Q I h;refine wpAny_Call_method_late hbase hfew hline rfl (thn (ho pins s σ H _ I h) λv s1 ⟨x,H1,I1,r1,ty,q1⟩=>?_);obtain⟨h1,h2⟩:=FD I1 r1 ty;refine⟨T,id,pa,slot,hty,h1,h2,?_⟩;have hA:=ha cpos pins s1 σ H1 _ I1 q1;rw[hs]at hA⊢;refine K3 (by show(false||(KF cpos (Jn es X.env)).any (·.1))=false;rw[hplain]<;>rfl) (LY ?_)
 exact thn hA λus s2 ⟨vs,H2,I2,r2,q2⟩=>hm pins s2 σ H2 x vs v us Q I2 r1 r2 q2
end

def MtM(X:Cx)(id:String)(r:V->List V->Hp->VK->Prop):Prop:=
 ∀(pins:List (Addr×Obj))(s:IG)(σ:St)(H:Hp)(x:V)(xs:List V)(v:IE)(us:List IE)(Q:VK),Inv X pins σ H s->bx x v->bo xs us->r x xs H Q->
  Ju (Jv X.prog X.w) X.A (call (.builtin id) (v::us)) (EP X pins σ Q) X.xe s

theorem bo.one:∀{x:V}{us:List IE},bo [x] us->∃u,us=[u]/\bx x u
 |_,_,.cons r .nil=>⟨_,rfl,r⟩
theorem bo.rep{xs:List V}{us:List IE}(h:bo xs us):∀k:Nat,bo (IN k xs).flatten (IN k us).flatten
 |0=>.nil
 |k+1=>by
  rw[JD,JD,KO,KO];exact bo.append h (bo.rep h k)
theorem vE(its:List IE):∀(k:Nat)(acc:List IE),
  NH (λx1 x2=>x1++x2) acc.toArray (IN k its.toArray)=(acc++(IN k its).flatten).toArray
 |0,acc=>by simp
 |k+1,acc=>by
  have e:acc.toArray++its.toArray=(acc++its).toArray:=by simp
  have e2:(acc++its)++(IN k its).flatten=acc++(IN (k+1) its).flatten:=by
   rw[JD,KO,IT]
  rw[<-e2,<-vE its k (acc++its),<-e,JD,MZ]

section
variable {X:Cx}{pins:List (Addr×Obj)}{σ:St}{H:Hp}{s:IG}{l b:Addr}{xs ys zs:List V}

theorem Inv.lset{its its':List IE}{n:Nat}{f:Array IE->Array IE}{t':Nat}(I:Inv X pins σ H s)(hH:H l=some (.lst xs))
  (e:s.heap.get? l=some { cls:=.type "list",data:=.seq its.toArray n })(hf:f its.toArray=its'.toArray)(hv:bo ys its')(hz:ys.length<=I0) :
  Inv X pins σ (upd H l (.lst ys)) { s with heap:=s.heap.update l (MN f),toks:=t' }:=by
 have q:=PySem.IsL.update e f;rw[hf]at q;refine I.write (x:=l) (e:=l) (by rw[hH];exact trivial) (.inl rfl) (λb' u hb hu=>(LJ s.heap (MN f) (JH hb)).trans hu) ⟨_,q⟩ ?_;exact⟨hz,its',_,hv,q⟩
theorem Inv.lnew{its:List IE}{t':Nat}(I:Inv X pins σ H s)(hv:bo ys its)(hz:ys.length<=I0) :
  Inv X pins σ (upd H s.heap.objs.size (.lst ys)) { s with heap:=s.heap.push { cls:=.type "list",data:=.seq its.toArray },toks:=t' }:=
 I.laid (λ_ _ q=>IV _ q) (IM _) ⟨hz,its,0,hv,Jr _ rfl⟩
theorem Inv.fresh(I:Inv X pins σ H s):H s.heap.objs.size=none:=I.hok.fresh (IM _)
theorem Inv.lstM(I:Inv X pins σ H s)(hH:H l=some (.lst xs)):xs.length<=I0/\∃(its:List IE)(n:Nat),bo xs its/\xs.length=its.length/\s.heap.get? l=some { cls:=.type "list",data:=.seq its.toArray n }:=by
 obtain⟨z,its,n,r,e⟩:=I.hok l _ hH;exact⟨z,its,n,r,r.length,e⟩

theorem xC{n:Nat}(h:n<=I0):KS n=false:=by
 unfold KS;exact decide_eq_false (by omega)
end

section
variable {X:Cx}

inductive Em(x:V)(vs:List V)(H:Hp)(Q:VK):Prop
 |mk(l xs y)(_:x=.ref l)(_:vs=[y])(_:H l=some (.lst xs))(_:xs.length<I0)(_:Q .non (upd H l (.lst (xs++[y]))))
theorem bT:MtM X "list.append" Em:=by
 intro pins s σ H x vs v us Q I rx rv h;obtain⟨l,xs,y,rfl,rfl,hH,hz,q⟩:=h;cases rx;obtain⟨u,rfl,ru⟩:=rv.one;obtain⟨z,its,n,r,hl,e⟩:=I.lstM hH;refine Ly F.slot_list_append ⟨_,e,rfl⟩ F.entry_list_append (F.args_list_append_2 _ _) (PySem.list_append l its.toArray n u (by rw[I_];omega)) ⟨e,?_⟩;refine⟨.non,_,I.lset (its':=its++[u]) hH e (by simp) (r.append (.cons ru .nil)) ?_,rfl,q⟩;rw[IB,Lb];omega

inductive En(x:V)(vs:List V)(H:Hp)(Q:VK):Prop
 |mk(l b xs zs)(_:x=.ref l)(_:vs=[.ref b])(_:H l=some (.lst xs))(_:H b=some (.lst zs))(_:xs.length+zs.length<=I0)(_:Q .non (upd H l (.lst (xs++zs))))
theorem gB:MtM X "list.extend" En:=by
 intro pins s σ H x vs v us Q I rx rv h;obtain⟨l,b,xs,zs,rfl,rfl,hH,hB,hz,q⟩:=h;cases rx;obtain⟨u,rfl,ru⟩:=rv.one;cases ru;obtain⟨z,its,n,r,hl,e⟩:=I.lstM hH;obtain⟨z2,its2,n2,r2,hl2,e2⟩:=I.lstM hB;have hsz:its.toArray.size+its2.toArray.size<=I0:=by rw[I_,I_];omega
 have hlong:¬ (!its.toArray.isEmpty&&KS (its.toArray.size+its2.toArray.size))=true:=by
  rw[xC hsz,M5];exact Jh
 refine Ly F.slot_list_extend ⟨_,e,rfl⟩ F.entry_list_extend (F.args_list_extend_2 _ _)
  (AutoSeq1.list_extend_list_list_0 l its.toArray n b its2.toArray n2 hlong (by rw[I_];omega) (by omega)) ⟨e,e2,?_⟩
 refine⟨.non,_,I.lset (its':=its++its2) hH e (by simp) (r.append r2) ?_,rfl,q⟩;rw[IB];omega

inductive HZ(x:V)(y:V)(H:Hp)(Q:VK):Prop
 |mk(l b xs zs)(_:x=.ref l)(_:y=.ref b)(_:H l=some (.lst xs))(_:H b=some (.lst zs))(_:xs.length+zs.length<=I0)(_:∀p,H p=none->Q (.ref p) (upd H p (.lst (xs++zs))))
theorem fU:OpR X (K8 .Add) HZ:=by
 intro pins s σ H x y v u Q I rx ry h;obtain⟨l,b,xs,zs,rfl,rfl,hH,hB,hz,q⟩:=h;cases rx;cases ry;obtain⟨z,its,n,r,hl,e⟩:=I.lstM hH;obtain⟨z2,its2,n2,r2,hl2,e2⟩:=I.lstM hB;refine PySem.P.add_list e e2 ?_ (by rw[I_,I_];omega);have ea:its.toArray++its2.toArray=(its++its2).toArray:=by simp
 rw[ea];exact⟨.ref _,_,I.lnew (t':=s.toks) (r.append r2) (by rw[IB];omega),rfl,q _ I.fresh⟩
inductive H_(x:V)(y:V)(H:Hp)(Q:VK):Prop
 |mk(l k xs)(_:x=.ref l)(_:y=.int k)(_:H l=some (.lst xs))(_:-(2^63)<=k)(_:k<2^63)(_:xs.length*k.toNat<=I0)(_:∀p,H p=none->Q (.ref p) (upd H p (.lst (IN k.toNat xs).flatten)))
theorem zj{α:Type}(xs:List α)(k:Nat):(IN k xs).flatten.length=k*xs.length:=by
 induction k with
 |zero=>simp
 |succ k ih=>rw[JD,KO,IB,ih,Nat.succ_mul,Mm]
theorem kG:OpR X (K8 .Mult) H_:=by
 intro pins s σ H x y v u Q I rx ry h;obtain⟨l,k,xs,rfl,rfl,hH,h1,h2,hz,q⟩:=h;cases rx;obtain⟨t,rfl⟩:=ry;obtain⟨z,its,n,r,hl,e⟩:=I.lstM hH;have hlen:its.toArray.size*k.toNat<=I0:=by rw[I_,<-hl];exact hz
 have hcap:¬ its.toArray.size*k.toNat>(2^63-1)/8:=by
  have:(I0:Nat)<=(2^63-1)/8:=by decide
  omega
 have hfit:¬ (!Builtin.List.listFitsIndex k)=true:=by
  rw[fitsIndex_both h1 h2];exact Jh
 have hlong:¬ KS (its.toArray.size*k.toNat)=true:=by
  rw[xC hlen];exact Jh
 have hnew:NH (λx1 x2=>x1++x2) #[] (IN (if its.toArray.isEmpty=true then 0 else k.toNat) its.toArray)=(IN k.toNat its).flatten.toArray:=by
  have f0:∀m:Nat,NH (λx1 x2=>x1++x2) #[] (IN m its.toArray)=(IN m its).flatten.toArray:=λm=>by
   have:=vE its m [];rw[M0]at this;exact this
  rw[f0];cases its with
  |nil=>simp
  |cons a r'=>rw[if_neg (by simp)]
 refine wpAny_binaryOp_repeat_ref (T := "list") (U := "int") (by decide) ⟨_,e,rfl⟩ (λs'=>NG s' k t) noFill_list_mul F.fills_int_mul F.slot_int_rmul repeat_list F.slot_int_index.lookup
  (Ly F.slot_int_rmul (NG s k t) F.entry_int_rmul (F.args_int_rmul_2 _ _) (int___rmul___int_list k t l its.toArray n)
   ⟨e,rfl,⟨_,e,rfl⟩,Ly F.slot_list_mul ⟨_,e,rfl⟩ F.entry_list_mul (F.args_list_mul_2 _ _) (AutoListH.list___mul___list_int_3 l its.toArray n k t hfit hcap hlong) ⟨e,?_⟩⟩)
 rw[hnew];exact⟨.ref _,_,I.lnew (t':=s.toks) (r.rep k.toNat) (by rw[zj,Nat.mul_comm];exact hz),rfl,q _ I.fresh⟩

end

section
variable {prog:Jk}{w:Jo}{A:JF}{E:IE->IG->Prop}{s:IG}
end

section
variable {X:Cx}
end

section
variable {κ:Type}[DecidableEq κ]
def dh(kvs:List (κ×V))(k:κ):Option V:=(kvs.find? λkv=>decide (kv.1=k)).map (·.2)
def jX(kvs:List (κ×V))(k:κ)(v:V):List (κ×V):=
 if(kvs.any λkv=>decide (kv.1=k))=true then kvs.map (λkv=>if kv.1=k then(kv.1,v)else kv)else kvs++[(k,v)]
theorem lU{p:κ×V}{r:List (κ×V)}{k:κ}(e:p.1=k):dh (p::r) k=some p.2:=by simp[dh,K9,e]
theorem eV{p:κ×V}{r:List (κ×V)}{k:κ}(e:¬ p.1=k):dh (p::r) k=dh r k:=by simp[dh,K9,e]
theorem s_(k:κ):∀kvs:List (κ×V),(kvs.any λkv=>decide (kv.1=k))=(dh kvs k).isSome
 |[]=>rfl
 |p::r=>by
  rw[K_];by_cases e:p.1=k
  .simp only[lU e,decide_eq_true e,Bool.true_or,Option.isSome_some]
  .rw[eV e,decide_eq_false e,Nc];exact s_ k r
theorem sN(kvs:List (κ×V))(k:κ)(v:V):(jX kvs k v).length<=kvs.length+1:=by
 unfold jX
 split
 .rw[Iz];omega
 .rw[IB,ID,Ja];omega
theorem tf{kvs:List (κ×V)}{k:κ}(v:V)(h:dh kvs k=none):jX kvs k v=kvs++[(k,v)]:=by
 unfold jX;rw[s_,h];exact if_neg (by decide)

theorem il.isSome_eq{o:Option V}{u:Option IE}(r:il o u):o.isSome=u.isSome:=by
 cases o with
 |none=>cases u with
  |none=>rfl
  |some _=>exact(show False from r).elim
 |some _=>cases u with
  |none=>exact(show False from r).elim
  |some _=>rfl
theorem KV.val{kvs:List (κ×V)}{vs:List (κ×IE)}(r:KV kvs vs)(k:κ):il (dh kvs k) (MO vs k):=by
 unfold KV at r;induction r with
 |nil=>exact KR
 |@cons p q ps qs h t ih =>
  obtain⟨h1,h2⟩:=h;by_cases e:p.1=k
  .have e':q.1=k:=h1.symm.trans e;have b:MO (q::qs) k=some q.2:=by simp[MO,K9,e']
   rw[lU e,b];exact h2
  .have e':¬ q.1=k:=λz=>e (h1.trans z);have b:MO (q::qs) k=MO qs k:=by simp[MO,K9,e']
   rw[eV e,b];exact ih
theorem KV.any{kvs:List (κ×V)}{vs:List (κ×IE)}(r:KV kvs vs)(k:κ):(kvs.any λkv=>decide (kv.1=k))=vs.any λkv=>decide (kv.1=k):=by
 unfold KV at r;induction r with
 |nil=>rfl
 |cons h t ih=>rw[K_,K_,ih,h.1]
theorem KV.repl{kvs:List (κ×V)}{vs:List (κ×IE)}(r:KV kvs vs)(k:κ){y:V}{u:IE}(ry:bx y u) :
  KV (kvs.map λkv=>if kv.1=k then(kv.1,y)else kv) (vs.map λkv=>if kv.1=k then(kv.1,u)else kv):=by
 unfold KV at r⊢;induction r with
 |nil=>exact .nil
 |@cons p q ps qs h t ih =>
  rw[IQ,IQ];refine .cons ?_ ih;obtain⟨h1,h2⟩:=h;by_cases e:p.1=k
  .rw[if_pos e,if_pos (h1.symm.trans e)];exact⟨h1,ry⟩
  .rw[if_neg e,if_neg (λz=>e (h1.trans z))];exact⟨h1,h2⟩
theorem KV.put{kvs:List (κ×V)}{vs:List (κ×IE)}(r:KV kvs vs)(k:κ){y:V}{u:IE}(ry:bx y u):KV (jX kvs k y) (stored vs k u):=by
 unfold jX stored;rw[r.any k];by_cases e:(vs.any λkv=>decide (kv.1=k))=true
 .rw[if_pos e,if_pos e];exact r.repl k ry
 .rw[if_neg e,if_neg e];exact Paired.snoc r ⟨rfl,ry⟩
theorem KV.length{kvs:List (κ×V)}{vs:List (κ×IE)}(r:KV kvs vs):kvs.length=vs.length:=Paired.length r
end


theorem oM{P:Jk}{w:Jo}{k:Key}{u:IE}(r:bx (kV k) u):(bR P w).is k u=true:=by
 cases k with
 |inl i=>obtain⟨t,e⟩:=(show ∃t,u=LB i t from r);subst e;exact yN P w i t
 |inr x=>obtain⟨t,e⟩:=(show ∃t,u=KD x t from r);subst e;exact yO P w x t
theorem vF{P:Jk}{w:Jo}:∀{ks:List Key}{us:List IE},bo (ks.map kV) us->ItemsAre (bR P w) ks us
 |[],_,r=>by rw[K4]at r;cases r;exact .nil
 |k::ks,_,r=>by
  rw[IQ]at r;cases r with
  |cons h t=>exact .cons (oM h) (vF t)

abbrev KT(H:Hp):List (List Key×V)->List (List Key×Addr×IE)->Prop:=Paired λp q=>p.1=q.1/\H q.2.1=some (.tup (p.1.map kV))/\bx p.2 q.2.2
theorem KT.val{H:Hp}{kvs:List (List Key×V)}{xs:List (List Key×Addr×IE)}(r:KT H kvs xs)(k:List Key):il (dh kvs k) ((Nv xs k).map (·.2)):=by
 induction r with
 |nil=>exact KR
 |@cons p q ps qs h t ih =>
  obtain⟨h1,_,h2⟩:=h;by_cases e:p.1=k
  .have e':q.1=k:=h1.symm.trans e;have b:Nv (q::qs) k=some q.2:=by simp[Nv,K9,e']
   rw[lU e,b];exact h2
  .have e':¬ q.1=k:=λz=>e (h1.trans z);have b:Nv (q::qs) k=Nv qs k:=by simp[Nv,K9,e']
   rw[eV e,b];exact ih
theorem KT.repl{H:Hp}{kvs:List (List Key×V)}{xs:List (List Key×Addr×IE)}(r:KT H kvs xs)(k:List Key){y:V}{u:IE}(ry:bx y u) :
  KT H (kvs.map λkv=>if kv.1=k then(kv.1,y)else kv) (xs.map (putAt k u)):=by
 induction r with
 |nil=>exact .nil
 |@cons p q ps qs h t ih =>
  rw[IQ,IQ];refine .cons ?_ ih;obtain⟨h1,h2,h3⟩:=h;unfold putAt;by_cases e:p.1=k
  .rw[if_pos e,if_pos (h1.symm.trans e)];exact⟨h1,h2,ry⟩
  .rw[if_neg e,if_neg (λz=>e (h1.trans z))];exact⟨h1,h2,h3⟩
theorem KT.put{H:Hp}{kvs:List (List Key×V)}{xs:List (List Key×Addr×IE)}(r:KT H kvs xs)(k:List Key){b:Addr}{y:V}{u:IE}(hb:H b=some (.tup (k.map kV)))(ry:bx y u) :
  KT H (jX kvs k y) (storedH xs k b u):=by
 have e:(kvs.any λkv=>decide (kv.1=k))=(Nv xs k).isSome:=by
  rw[s_,(r.val k).isSome_eq,MA]
 unfold jX storedH;rw[e];by_cases q:(Nv xs k).isSome=true
 .rw[if_pos q,if_pos q];exact r.repl k ry
 .rw[if_neg q,if_neg q];exact Paired.snoc r ⟨rfl,hb,ry⟩
theorem KT.keeps{H H':Hp}{kvs:List (List Key×V)}{xs:List (List Key×Addr×IE)}(r:KT H kvs xs)(ht:∀b ys,H b=some (.tup ys)->H' b=some (.tup ys)):KT H' kvs xs:=
 Paired.mapP r λ_ _ z=>⟨z.1,ht _ _ z.2.1,z.2.2⟩

section
variable {P:Jk}{w:Jo}{H:Hp}{h:Heap}{a:Addr}
theorem DX{u:HO}(ok:HOk P w H h)(e:Rd H a u):cw P w H h a u:=e.ok ok
theorem oN{kvs:List (Key×V)}(ok:HOk P w H h)(e:Rd H a (.dK kvs)):kvs.length<=I0/\(a==Kn)=false/\∃vs,KV kvs vs/\h.DictOf (bR P w) a vs:=
 show cw P w H h a (.dK kvs)from DX ok e
theorem Hh{kvs:List (Key×V)}(ok:HOk P w H h)(e:H a=some (.dK kvs)):kvs.length<=I0/\(a==Kn)=false/\∃vs,KV kvs vs/\h.DictOf (bR P w) a vs:=oN ok (.inl e)
theorem qB{ks:List Key}(ok:HOk P w H h)(e:H a=some (.tup (ks.map kV))):(M8 (bR P w)).is h ks a:=by
 obtain⟨_,its,r,o,h1,h2,n,h3⟩:=(show cw P w H h a (.tup (ks.map kV))from ok a _ e);exact⟨o,its.toArray,n,h1,h2,h3,by simpa using vF r⟩
theorem si{kvs:List (List Key×V)}(ok:HOk P w H h)(e:Rd H a (.dT kvs)):kvs.length<=I0/\(a==Kn)=false/\
  ∃xs,KT H kvs xs/\h.DictOfH (M8 (bR P w)) a xs:=by
 obtain⟨z,y,xs,r,o,es,ep,h1,h2,h3,h4,h5⟩:=(show cw P w H h a (.dT kvs)from DX ok e);refine⟨z,y,xs,r,o,es,ep,h1,h2,h3,h4,λx hx=>?_,h5⟩;have all:∀{l:List (List Key×V)}{m:List (List Key×Addr×IE)},KT H l m->∀x∈m,(M8 (bR P w)).is h x.1 x.2.1:=by
  intro l m q;induction q with
  |nil=>intro x hx;exact nomatch hx
  |@cons p q ps qs hq t ih =>
   intro x hx;rcases List.mem_cons.mp hx with e|hx
   .subst e;exact qB ok (by rw[<-hq.1];exact hq.2.1)
   .exact ih x hx
 exact all r x hx
theorem Hj{kvs:List (List Key×V)}(ok:HOk P w H h)(e:H a=some (.dT kvs)):kvs.length<=I0/\(a==Kn)=false/\
  ∃xs,KT H kvs xs/\h.DictOfH (M8 (bR P w)) a xs:=si ok (.inl e)
end

def fD(H:Hp)(a:Addr)(y:V)(r:Option V):Prop:=
 (∃kvs k,Rd H a (.dK kvs)/\y=kV k/\r=dh kvs k)\/∃kvs k b,Rd H a (.dT kvs)/\y=.ref b/\H b=some (.tup (k.map kV))/\r=dh kvs k
def tj(H:Hp)(a:Addr)(y v:V)(H':Hp):Prop:=
 (∃kvs k,H a=some (.dK kvs)/\y=kV k/\kvs.length<I0/\H'=upd H a (.dK (jX kvs k v)))\/
 ∃kvs k b,H a=some (.dT kvs)/\y=.ref b/\H b=some (.tup (k.map kV))/\kvs.length<I0/\H'=upd H a (.dT (jX kvs k v))
theorem fD.k{H:Hp}{a:Addr}{kvs:List (Key×V)}{k:Key}(e:H a=some (.dK kvs)):fD H a (kV k) (dh kvs k):=.inl ⟨kvs,k,.inl e,rfl,rfl⟩
theorem tj.k{H:Hp}{a:Addr}{kvs:List (Key×V)}{k:Key}{v:V}(e:H a=some (.dK kvs))(hl:kvs.length<I0):tj H a (kV k) v (upd H a (.dK (jX kvs k v))):=.inl ⟨kvs,k,e,rfl,hl,rfl⟩
section
variable {X:Cx}{pins:List (Addr×Obj)}{σ:St}{H:Hp}{s:IG}{a:Addr}{y v:V}{u r:IE}{o:Option V}{A:JF}{E:IE->IG->Prop}

theorem Inv.big(I:Inv X pins σ H s):Kn<s.heap.objs.size:=by
 have h:Jt<s.heap.objs.size:=(I.mod.glob.keeps I.bk).lt;exact KP (by decide) h

theorem Bs{Q:IE->IG->Prop}(hu:A.units+1<MV)(I:Inv X pins σ H s)(g:fD H a y (some v))(ry:bx y u)(h:∀w' s',Inv X pins σ H s'->bx v w'->Q w' s') :
  Ju (Jv X.prog X.w) A (No (.ref a) u) Q E s:=by
 rcases g with⟨kvs,k,e,ey,l⟩|⟨kvs,k,b,e,ey,eb,l⟩
 .subst ey;obtain⟨z,hd,vs,rel,dd⟩:=oN I.hok e;obtain⟨w',hw,rw'⟩:=il.some_of (v:=v) (o:=MO vs k) (by rw[l];exact rel.val k);exact wpAny_getItem_of (oM ry) dd.mapOf hw (h w' _ (I.tok _) rw')
 .subst ey;cases (show u=JE b from ry);obtain⟨z,hd,xs,rel,dd⟩:=si I.hok e;obtain⟨w',hw,rw'⟩:=il.some_of (v:=v) (o:=(Nv xs k).map (·.2)) (by rw[l];exact rel.val k);obtain⟨p,hp,hp2⟩:=Option.map_eq_some_iff.mp hw;refine wpAny_getItem_heap (Lz hu) (qB I.hok eb) dd hp ?_;rw[hp2];exact h w' _ (I.tok _) rw'
theorem Ia{Q:IE->IG->Prop}(hu:A.units+1<MV)(I:Inv X pins σ H s)(g:fD H a y o)(ry:bx y u)(h:∀s',Inv X pins σ H s'->Q (.bool o.isSome) s') :
  Ju (Jv X.prog X.w) A (Kc .In u (.ref a)) Q E s:=by
 rcases g with⟨kvs,k,e,ey,l⟩|⟨kvs,k,b,e,ey,eb,l⟩
 .subst ey;obtain⟨z,hd,vs,rel,dd⟩:=oN I.hok e;refine wpAny_in_of (oM ry) hd dd.mapOf ?_;rw[<-(rel.val k).isSome_eq,<-l];exact h _ (I.tok _)
 .subst ey;cases (show u=JE b from ry);obtain⟨z,hd,xs,rel,dd⟩:=si I.hok e;refine wpAny_in_heap (Lz hu) (qB I.hok eb) hd dd ?_;have q:=(rel.val k).isSome_eq;rw[MA]at q;rw[<-q,<-l];exact h _ (I.tok _)
theorem Eo{Q:IE->IG->Prop}(hu:A.units+1<MV)(I:Inv X pins σ H s)(g:fD H a y o)(ry:bx y u)(h:∀s',Inv X pins σ H s'->Q (.bool (!o.isSome)) s') :
  Ju (Jv X.prog X.w) A (Kc .NotIn u (.ref a)) Q E s:=by
 rcases g with⟨kvs,k,e,ey,l⟩|⟨kvs,k,b,e,ey,eb,l⟩
 .subst ey;obtain⟨z,hd,vs,rel,dd⟩:=oN I.hok e;refine wpAny_notIn_of (oM ry) hd dd.mapOf ?_;rw[<-(rel.val k).isSome_eq,<-l];exact h _ (I.tok _)
 .subst ey;cases (show u=JE b from ry);obtain⟨z,hd,xs,rel,dd⟩:=si I.hok e;refine wpAny_notIn_heap (Lz hu) (qB I.hok eb) hd dd ?_;have q:=(rel.val k).isSome_eq;rw[MA]at q;rw[<-q,<-l];exact h _ (I.tok _)
theorem zk{h':Heap}{t':Nat}{ob:HO}(I:Inv X pins σ H s)(mu:Mut (H a))(hs:Mi a s.heap h')(he:∃q,h'.get? a=some q)(new:cw X.prog X.w (upd H a ob) h' a ob) :
  Inv X pins σ (upd H a ob) { s with heap:=h',toks:=t' }:=
 I.write (x:=a) (e:=a) mu (.inl rfl) (λb q hb z=>(hs.2 b hb).trans z) he new
theorem Bt{P:Jk}{w:Jo}{H':Hp}{h':Heap}{kvs:List (Key×V)}{vs:List (Key×IE)}(z:kvs.length<=I0)(hd:(a==Kn)=false)(rel:KV kvs vs)(dd:h'.DictOf (bR P w) a vs) :
  cw P w H' h' a (.dK kvs):=⟨z,hd,vs,rel,dd⟩
theorem Bu{H':Hp}{Q:Unit->IG->Prop}(hu:A.units+1<MV)(I:Inv X pins σ H s)(g:tj H a y v H')(ry:bx y u)(rv:bx v r)(h:∀s',Inv X pins σ H' s'->Q () s') :
  Ju (Jv X.prog X.w) A (setItem (.ref a) u r) Q E s:=by
 rcases g with⟨kvs,k,e,ey,l,eH⟩|⟨kvs,k,b,e,ey,eb,l,eH⟩
 .subst ey eH;obtain⟨z,hd,vs,rel,dd⟩:=Hh I.hok e;have hz:vs.length<=I0:=by rw[<-rel.length];exact z
  have hl:(jX kvs k v).length<=I0:=by have:=sN kvs k v;omega
  refine wpAny_setItem_pairs (hsz:=hz) (oM ry) dd λh' dd' hs=>h _ ?_;have he:∃q,h'.get? a=some q:=let⟨q,_,_,hq,_⟩:=dd';⟨q,hq⟩;exact zk I (by rw[e];exact KR) hs he (Bt hl hd (rel.put k rv) dd')
 .subst ey eH;cases (show u=JE b from ry);obtain⟨z,hd,xs,rel,dd⟩:=Hj I.hok e;have hz:xs.length<=I0:=by rw[<-Paired.length rel];exact z
  have hl:(jX kvs k v).length<=I0:=by have:=sN kvs k v;omega
  refine wpAny_setItem_heap (hsz:=hz) (Lz hu) (qB I.hok eb) dd λh' dd' hs=>h _ ?_;obtain⟨q,es,ep,hq,h2,h3,h4,_,h5⟩:=dd';refine zk I (by rw[e];exact KR) hs ⟨q,hq⟩ ⟨hl,hd,_,(rel.put k eb rv).keeps λc ys ec=>?_,q,es,ep,hq,h2,h3,h4,h5⟩;rw[aq (GU ec e (λz=>nomatch z))];exact ec
end

section
variable {X:Cx}{pins:List (Addr×Obj)}{σ:St}{H:Hp}{s:IG}{a:Addr}{kvs:List (Key×V)}{k:Key}{u:IE}{A:JF}{E:IE->IG->Prop}
theorem Hk{Q:IE->IG->Prop}(I:Inv X pins σ H s)(e:Rd H a (.dK kvs))(h:∀t s',Inv X pins σ H s'->Q (.int kvs.length t) s'):Ju (Jv X.prog X.w) A (call (.builtin "len") [.ref a]) Q E s:=by
 obtain⟨z,hd,vs,rel,dd⟩:=oN I.hok e;refine call_len_dict hd dd (by rw[<-rel.length];rw[M1]at z;omega) ?_;rw[<-rel.length];exact h _ _ (I.tok _)
end


def CY(i:Expr):Prop:=∀ov iv,M4 i false ov iv=operate [ov,iv] (No ov iv)
theorem zm{prog:Jk}{w:Jo}{A:JF}{E:IE->IG->Prop}{s:IG}{env:Env}{value slice:Expr}{pos:Pos}{T id:String}{Q:IE->IG->Prop}
  (hl:Nh (.type T) "__getitem__" = pure (some (.builtin id)))(hs:CY slice)
  (h:Ju (Jv prog w) A (eval value env) (λo s₁=>Ju (Jv prog w) A (eval slice env) (λi s₂=>s₂.TypeIs o T/\Ju (Jv prog w) A (No o i) Q E s₂) E s₁) E s) :
  Ju (Jv prog w) A (eval (.Subscript value slice pos) env) Q E s:=by
 refine NF (JX h (λo s₁ h₁=>JX h₁ (λi s₂ h₂=>?_) λ_ _ x=>x) λ_ _ x=>x);obtain⟨hT,h₂⟩:=h₂;unfold Nb;refine Jp ?_;rw[getitemInPython_of_ne hT.not_modules];refine Jp (wpAny_specialOf hT hl ?_);have fin:Ju (Jv prog w) A (M4 slice false o i) (λr s₃=>Ju (Jv prog w) A (letTemporaryGo value o r >>= λ_=>pure r) Q E s₃) E s₂:=by
  rw[hs o i];exact wpAny_operating (JX h₂ (λr s₃ h₃=>Jp (wpAny_letTemporaryGo (JS h₃))) λ_ _ x=>x)
 first
  |exact JS (Jp fin)
  |exact Jp (JS (Jp fin))
  |exact Jp fin

theorem yR{X:Cx}{pins:List (Addr×Obj)}{σ:St}{H:Hp}{s:IG}{a:Addr}{y:V}{o:Option V}(I:Inv X pins σ H s)(g:fD H a y o):s.TypeIs (.ref a) "dict":=by
 rcases g with⟨kvs,k,e,_,_⟩|⟨kvs,k,b,e,_,_,_⟩
 .obtain⟨_,_,vs,_,dd⟩:=oN I.hok e;exact dd.typeIs
 .obtain⟨_,_,xs,_,dd⟩:=si I.hok e;exact dd.typeIs
inductive FE(Q:VK)(x:V)(y:V)(H2:Hp):Prop
 |mk(a v)(_:x=.ref a)(_:fD H2 a y (some v))(_:Q v H2)
def Hl(td ty:TE):TE:=λσ H Q=>td σ H λx H1=>ty σ H1 (FE Q x)
inductive FG(D:e9)(σ:St)(v:V)(x:V)(y:V)(H3:Hp):Prop
 |mk(a H4)(_:x=.ref a)(_:tj H3 a y v H4)(_:D.nx σ H4)
def Hm(td ty tv:TE):TS:=λD σ H=>tv σ H λv H1=>td σ H1 λx H2=>ty σ H2 (FG D σ v x)
section
variable {X:Cx}{o i e value:Expr}{pos pos' tpos:Pos}{td ty tv:TE}
theorem jY(hu:X.A.units+1<MV)(ho:PE X o td)(hi:PE X i ty)(hs:CY i):PE X (.Subscript o i pos) (Hl td ty):=by
 intro pins s σ H Q I h;refine zm PySem.F.slot_dict_getitem.lookup hs (thn (ho pins s σ H _ I h) λu s1 ⟨x,H1,I1,rx,q1⟩=>thn (hi pins s1 σ H1 _ I1 q1) λiv s2 ⟨y,H2,I2,ry,a,v,ex,g,q2⟩=>?_);subst ex;obtain rfl:u=JE a:=rx;exact⟨yR I2 g,Bs hu I2 g ry λw' s3 I3 rw'=>⟨v,H2,I3,rw',q2⟩⟩
theorem uR(hu:X.A.units+1<MV)(ho:PE X o td)(hi:PE X i ty)(hv:PE X value tv)(hs:LC value (some (.Subscript o i pos')) pos.line X.env=pure false) :
  PS X (.Assign [.Subscript o i pos'] value pos) (Hm td ty tv):=by
 intro pins s σ H D I h;refine wpAny_Assign_Subscript (thn (hv pins s σ H _ I h) λr s1 ⟨v,H1,I1,rv,q1⟩=>thn (ho pins s1 σ H1 _ I1 q1) λu s2 ⟨x,H2,I2,rx,q2⟩=>thn (hi pins s2 σ H2 _ I2 q2) λiv s3 ⟨y,H3,I3,ry,a,H4,ex,g,q3⟩=>?_) hs;subst ex;obtain rfl:u=JE a:=rx;exact Bu hu I3 g ry rv λs4 I4=>⟨σ,H4,I4,q3⟩
end


theorem CZ{P:Jk}{w:Jo}{H:Hp}(h:Heap)(hb:Kn<h.objs.size):cw P w H (h.push { cls:=.type "dict",data:=.dict #[] }) h.objs.size (.dK []):=
 ⟨Jw _,beq_eq_false_iff_ne.mpr (JH (Jd hb)),[],.nil,Heap.DictOf.new h⟩
def FH:TE:=λ_ H Q=>∀p,H p=none->Q (.ref p) (upd H p (.dK []))
section
variable {X:Cx}{pos:Pos}
theorem tq:PE X (.Dict [] [] pos) FH:=λpins s σ H Q I h =>
 wpAny_Dict_empty ⟨.ref s.heap.objs.size,_,I.laid (a:=s.heap.objs.size) (o:=.dK []) (t':=s.toks) (λ_ _ q=>IV _ q) (IM _) (CZ s.heap I.big),rfl,h _ (I.hok.fresh (IM _))⟩
end

def IsD(H:Hp)(a:Addr):Prop:=(∃kvs,Rd H a (.dK kvs))\/∃kvs,Rd H a (.dT kvs)
theorem Bv{X:Cx}{pins:List (Addr×Obj)}{σ:St}{H:Hp}{s:IG}{a:Addr}(I:Inv X pins σ H s)(d:IsD H a) :
  s.TypeIs (.ref a) "dict"/\(∀b,JE a=.ref b->∃ob,s.heap.get? b=some ob/\ob.dict=none)/\(a==Kn)=false:=by
 rcases d with⟨kvs,e⟩|⟨kvs,e⟩
 .obtain⟨_,hd,vs,_,dd⟩:=oN I.hok e;refine⟨dd.typeIs,λb q=>?_,hd⟩;cases q;obtain⟨ob,_,_,h1,h2,_⟩:=dd;exact⟨ob,h1,h2.2.1⟩
 .obtain⟨_,hd,xs,_,dd⟩:=si I.hok e;refine⟨dd.typeIs,λb q=>?_,hd⟩;cases q;obtain⟨ob,_,_,h1,h2,_⟩:=dd;exact⟨ob,h1,h2.2.1⟩

section
variable {X:Cx}{pins:List (Addr×Obj)}{σ:St}{H:Hp}{s:IG}{a:Addr}{y d:V}{u r:IE}{o:Option V}{A:JF}{E:IE->IG->Prop}
end

section
variable {X:Cx}{o e f:Expr}{apos cpos:Pos}{td ty tx:TE}
end

section
variable {X:Cx}{pins:List (Addr×Obj)}{σ:St}{H:Hp}{s:IG}{a:Addr}{kvs:List (Key×V)}{A:JF}{E:IE->IG->Prop}
end


section
variable {X:Cx}{pins:List (Addr×Obj)}{σ:St}{H:Hp}{s:IG}{a:Addr}{y:V}{u:IE}{A:JF}{E:IE->IG->Prop}
end
end L2

namespace Att
open PySem PySem.W PySem.Calls PyProof.Rows

theorem uq{P:JA}{h:Heap}:∀(ns:List Int)(vs:List IE),WellAll P h vs (ns.map WData.int)->Nx vs ns:=by
 intro ns;induction ns with
 |nil =>
  intro vs w;rw[K4]at w;cases w;exact .nil
 |cons n ns ih =>
  intro vs w;rw[IQ]at w;cases w with
  |cons a b =>
   cases a;exact .cons _ _ (ih _ b)

theorem Bw{l:OpenLaw}{n:Nat}(hn:l.most=some n){P:JA}{h:Heap}{args:List WData}{vals:List IE}
  (hpre:l.row.toRowW.claim.pre args=true)(hwl:WellAll P h vals args) :
  ∃a vs ns,vals=[JE a]/\args=[WData.list (ns.map WData.int)]/\h.get? a=some { cls:=.type "list",data:=.seq vs.toArray }/\Nx vs ns/\ns.length<=n:=by
 have hsh:WShape.hasAll [] args [.list .int]=true:=(pre_splitW hpre).1;have hc:l.pre.holds [] { args:=args }=true:=(pre_splitW hpre).2;obtain⟨d,r,rfl,h1,h2⟩:=hasAllW_cons hsh;obtain rfl:=hasAllW_nil h2;obtain⟨xs,rfl,h3⟩:=hasW_list h1;obtain⟨ns,rfl⟩:=items_int h3;have hlen:ns.length<=n:=by
  unfold OpenLaw.pre at hc;have h4:(WTm.not (.lt (.lit (.int (n:Int))) (.len (.arg 0)))).holds [] { args:=[.list (ns.map .int)] }=true:=by
   have h4:=(holds_andW hc).1;rw[hn]at h4;exact h4
  have h5:=condW_of h4 (w_not (w_lt w_lit (w_len_list (w_arg rfl))));rw[Iz]at h5;refine Li λq=>?_;have q':(n:Int)<((ns.length:Nat):Int):=by omega
  first
   |(rw[decide_eq_true q']at h5;exact absurd h5 (by decide))
   |(simp at h5;omega)
 cases hwl with
 |cons w1 w2 =>
  cases w2;cases w1 with
  |list ho hall=>exact⟨_,_,ns,rfl,rfl,ho,uq ns _ hall,hlen⟩

theorem Bx(l:OpenLaw)(args:List WData):l.row.toRowW.claim.post args (.bool true) args=true:=
 postW_of (r:=l.row.toRowW) (X:=(true==true))
  (show WShape.has [] (.bool true) .bool=true by first|rfl|decide|simp[WShape.has,WShape.arms,WShape.armsAll])
  (show(WTm.eq .res (.lit (.bool true))).value [] { args:=args,res:=some (.bool true),after:=args }=some (.bool (true==true))from w_eq_bool (w_res rfl) w_lit) rfl

theorem attach_call{l:OpenLaw}{n:Nat}{q:Jk}{loose:List Str}{XP:(Str->Option IE)->Heap->Prop}{YP:Jo->Heap->Prop}{d:DefRec}
  (hn:l.most=some n)(hdf:d.params.defaults=[])
  (call:∀ (w:Jo) (s₀ s₁:IG) (mg mb:Str→Option IE) (fa:Addr) (o:Obj) (pm cd doc:IE) (a:Addr) (vs:List IE) (ns:List Int),
   Ground q loose [] XP w s₀ mg mb s₁.heap->YP w s₁.heap->
   s₁.heap.get? fa=some o->o.data=.func (docDef d.name d.params d.body d.scope pm cd doc)->s₁.heap.CodeRec cd d.name->mg d.name=some (.ref fa)->
   s₁.heap.get? a=some { cls:=.type "list",data:=.seq vs.toArray }->Nx vs ns->ns.length<=n->s₁.gens=#[]->
   Mj (Jv l.prog w) M9 (.call (.ref fa) ⟨[.ref a],[]⟩) (λr s'=>r=.ok (.ret (.bool true))/\OldK s₁.heap s'.heap/\s'.os=s₁.os/\LU s'.gens) s₁) :
  WalkO q loose XP YP l.row.toRowW d [] (λf vs=>NI f vs):=by
 intro w s₀ s₁ mg mb G Y fa o pm cd doc dV kV ho hd hcd hD hmg hg args vals as hpre hlay hrd hwl hlo;obtain rfl:dV=.none:=Dflts.none hD hdf;obtain rfl:kV=.none:=Dflts.noKw hD;obtain⟨a,vs,ns,rfl,rfl,hobj,hints,hlen⟩:=Bw hn hpre hwl;refine enter_call (Ml (call w s₀ s₁ mg mb fa o pm cd doc a vs ns G Y ho (fd_plain hd) hcd hmg hobj hints hlen hg) λr s' hq=>?_);obtain⟨rfl,h2,h3,h4⟩:=hq;exact⟨.inl ⟨.bool true,.bool true,[],rfl,λ_=>rfl,.bool true,Bx l _,λ_=>⟨List.Pairwise.nil,λ_ hm=>(nomatch hm)⟩⟩,h2,h3,h4⟩

section
variable {prog:Jk}{w:Jo}{A:JF}{E:IE->IG->Prop}{s:IG}{K:Frag}

end
end Att

namespace L2
open PySem PySem.Spec PyProof.Rows

theorem vG:∀{vs:List IE}{ns:List Int},Nx vs ns->bo (ns.map V.int) vs
 |_,_,.nil=>.nil
 |_,_,.cons n t h=>.cons ⟨t,rfl⟩ (vG h)

def C0(H:Hp):Prop:=∀b,H b=none\/∃o xs,H b=some (.frz o (.lst xs))

theorem C1{P:Jk}{w:Jo}{K:IC}{mg mb:Str->Option IE}{CX:CXT}{k:Nat}{fa a:Addr}{fd:IW}{x:Str}{sp:Sp}{s₁:IG}{vs:List IE}{ns:List Int}
  (KX:K.In s₁.heap)(hns:s₁.heap.Ns Jt mg)(hb:s₁.heap.Ns Nf mb)(hbb:∀x:Str,x≠"__name__"->mb x=K2 x)(hlim:s₁.heap.NoLimit)(hg:s₁.gens=#[])
  (ha:s₁.heap.get? a=some { cls:=.type "list",data:=.seq vs.toArray })(hi:Nx vs ns)(hl:ns.length<=I0)(hr:cA k M9)
  (F:∀base:Heap,K.In base->base.Ns Jt mg->bi P w K mg base CX k fa fd [x] sp)(hbind:∀(s:IG)(u:IE),BindsTo s fd ⟨[u],[]⟩ [(x,u)])
  (hsp:∀H:Hp,C0 H->SqL K H a (ns.map V.int)->sp [.ref a] H (λv _=>v=.bl true) λ_ _ _=>False)
  (hCX:∀H e s',CX [] H s₁ (λ_ _ _=>False) e s'->False) :
  Mj (Jv P w) M9 (.call (.ref fa) ⟨[.ref a],[]⟩) (λr s'=>r=.ok (.ret (.bool true))/\OldK s₁.heap s'.heap/\s'.os=s₁.os/\LU s'.gens) s₁:=by
 have rv:=vG hi;have lenV:=hi.length
 -- from an abstract heap in which nothing but the script may be tracked
 have core:∀H:Hp,C0 H->SqL K H a (ns.map V.int)->HOk P w H s₁.heap->(∀b,H b≠none->b=a)->(H a≠none->K.lookup a=none)->
   Mj (Jv P w) M9 (.call (.ref fa) ⟨[.ref a],[]⟩) (λr s'=>r=.ok (.ret (.bool true))/\OldK s₁.heap s'.heap/\s'.os=s₁.os/\LU s'.gens) s₁:=by
  intro H hO hS hok hA hK;have base_of:∀{b:Addr}{o:Obj},s₁.heap.get? b=some o->H b=none->(oH s₁.heap H).get? b=some o:=λe n=>CG e n;have noA:∀{b:Addr}{o:Obj}{es:Array JG}{ep:Nat},s₁.heap.get? b=some o->o.data=.dict es ep->H b=none:=λ{b o es ep} e d=>by
   cases q:H b with
   |none=>rfl
   |some u =>
    have e':b=a:=hA b (by rw[q];simp);subst e';rw[ha]at e;cases e;have d':Data.seq vs.toArray _=Data.dict es ep:=d;cases d'
  have nsK:∀{b:Addr}{m:Str->Option IE},s₁.heap.Ns b m->(oH s₁.heap H).Ns b m:=λ{b m} ⟨o,es,ep,e,d,r⟩=>⟨o,es,ep,base_of e (noA e d),d,r⟩;have hKb:K.In (oH s₁.heap H):=λb o e=>base_of (KX b o e) (by
   cases q:H b with
   |none=>rfl
   |some u =>
    have e':b=a:=hA b (by rw[q];simp);subst e';rw[hK (by rw[q];simp)]at e;cases e)
  have hM:Mod K mg (oH s₁.heap H):=⟨hKb,nsK hns,⟨mb,nsK hb,hbb⟩,let⟨mc,h1,h2⟩:=hlim;⟨mc,nsK h1,h2⟩⟩;have e0:sY P w K mg (oH s₁.heap H) M9 [] s₁ H:=⟨rfl,hM,λb o e=>Ed e,Nl (Bg _ _),trivial,λb hb=>absurd (show b∈([]:List Addr)from hb) (by simp),hok,.of_eq hg⟩;refine Ml ((F _ hKb (nsK hns)).run M9 [] s₁ H ⟨[.ref a],[]⟩ [.ref a] [.ref a] _ _ hr e0 (hbind s₁ (.ref a)) (.cons rfl .nil) (hsp H hO hS)) λr s' h=>?_;cases r with
  |error e=>exact(hCX H e s' h).elim
  |ok fl =>
   cases fl with
   |next=>exact Ke h
   |brk=>exact Ke h
   |cont=>exact Ke h
   |ret u =>
    obtain⟨v,H',os,bare,un,hok',r',q⟩:=h;have q':v=.bl true:=q;subst q';obtain rfl:u=MK true:=r';refine⟨rfl,OldK.of_keep λb o e=>?_,os,bare⟩;cases q:H b with
    |none=>exact un.keep b o e q (by intro z;exact absurd (show b∈([]:List Addr)from z) (by simp)) (by simp)
    |some u =>
     rcases hO b with z|⟨ob,xs,z⟩
     .rw[q]at z;cases z
     .have z2:=un.frzs b ob _ z;obtain⟨e1,_⟩:=hok b _ z;obtain⟨e2,_⟩:=hok' b _ z2;rw[e]at e1;cases e1;exact e2
 cases hk:K.lookup a with
 |some o =>
  -- the script is one of the module's own objects
  have e:=KX a o hk;rw[ha]at e;cases e;refine core (λ_=>none) (λ_=>.inl rfl) (.inr ⟨_,vs.toArray,_,hk,rfl,rfl,rfl,by rw[I_,lenV];exact hl,by simpa using rv⟩) (λb u z=>by have z':(none:Option HO)=some u:=z;cases z') (λb z=>absurd rfl z) λz=>absurd rfl z
 |none =>
  refine core (λb=>if b=a then some (.frz { cls:=.type "list",data:=.seq vs.toArray } (.lst (ns.map V.int)))else none) (λb=>?_) (.inl (.inr ⟨{ cls:=.type "list",data:=.seq vs.toArray },if_pos rfl⟩)) (λb u z=>?_) (λb z=>?_) λ_=>hk
  .by_cases hb:b=a
   .exact .inr ⟨_,_,if_pos hb⟩
   .exact .inl (if_neg hb)
  .by_cases hb:b=a
   .have z':=(if_pos hb).symm.trans z;cases z';subst hb;exact⟨ha,by rw[Iz];exact hl,vs,_,rv,ha⟩
   .have z':=(if_neg hb).symm.trans z;cases z'
  .by_cases hb:b=a
   .exact hb
   .exact absurd (if_neg hb) z

theorem walk_of{l:PySem.W.OpenLaw}{n k:Nat}{q:Jk}{loose:List Str}{XP:(Str->Option IE)->Heap->Prop}{YP:Jo->Heap->Prop}{d:DefRec}{K:JA->IC}{CX:Jo->CXT}{sp:Jo->Sp}{x:Str}
  (hn:l.most=some n)(hn2:n<=I0)(hdf:d.params.defaults=[])(hr:cA k M9)
  (hY:∀(w:Jo)(h:Heap),YP w h->(K w.params).In h)
  (F:∀ (w:Jo) (mg:Str→Option IE) (fa:Addr) (h:Heap),(K w.params).In h→h.Ns Jt mg→mg d.name=some (.ref fa) →
   ∃fd:IW,(∀(s:IG)(u:IE),BindsTo s fd ⟨[u],[]⟩ [(x,u)])/\
    ∀base:Heap,(K w.params).In base->base.Ns Jt mg->bi l.prog w (K w.params) mg base (CX w) k fa fd [x] (sp w))
  (hsp:∀(w:Jo)(H:Hp)(a:Addr)(ns:List Int),ns.length<=n->C0 H->SqL (K w.params) H a (ns.map V.int)->sp w [.ref a] H (λv _=>v=.bl true) λ_ _ _=>False)
  (hCX:∀(w:Jo)(H:Hp)(s:IG)(e:IE)(s':IG),CX w [] H s (λ_ _ _=>False) e s'->False) :
  PySem.W.WalkO q loose XP YP l.row.toRowW d [] (λf vs=>NI f vs):=by
 refine Att.attach_call hn hdf λw s₀ s₁ mg mb fa o pm cd doc a vs ns G Y ho hd hcd hmg hobj hints hlen hg=>?_;have KX:=hY w _ Y;obtain⟨fd,hb,hF⟩:=F w mg fa _ KX G.T.g hmg;exact C1 KX G.T.g G.T.b G.T.builtins G.T.nolimit hg hobj hints (JC hlen hn2) hr hF hb (λH hO hS=>hsp w H a ns hlen hO hS) λH e s'=>hCX w H s₁ e s'

abbrev CX0:CXT:=λ_ _ _ _ _ _=>False
abbrev E0:XK:=λ_ _ _=>False
theorem fI{X:Cx}:gh CX0 X E0:=λ_ _ _ _ _ _ _ h=>h.elim

structure Fun(K:IC)(x qual:Str)(st:Stmt)(f:Addr)(fd:IW):Prop where
 ex:∃(oc:IE)(od:Option Addr)(kV doc pm:IE)(an:Option Addr)(cdv ct:IE)(osl:Array (Option IE)),
  fd=J3 x qual (cO st) (cx st) (aw st) .none kV doc pm an cdv ct/\K.lookup f=some ⟨oc,od,.func fd,osl⟩/\KZ K cdv qual=true
 kp:Ko K (.ref f)=true
section
variable {P:Jk}{w:Jo}{K:IC}{mg:Str->Option IE}{base:Heap}
theorem Fun.ok{x qual:Str}{st:Stmt}{f:Addr}{fd:IW}{N ps:List Str}{k:Nat}{sp:Sp}(F:Fun K x qual st f fd)(S:aN N ps (aw st))(len:∀vs H Q E,sp vs H Q E->vs.length=ps.length)
  (hbody:∀ (cdv:IE) (A:JF) (outer:List Env) (s:IG) (H:Hp) (vs:List V) (Q:VK) (E:XK),cA k (A.deeper (Kr qual (aw st) s.heap.objs.size f cdv))→sp vs H Q E →
   ∃t,PSs (lT CX0 P w K mg base N qual (aw st) f cdv A outer s H E).nox (cx st) t/\t { nx:=λ_ H'=>Q .non H',rt:=Q } (jp N vs) H):bi P w K mg base CX0 (k+1) f fd ps sp:=by
 obtain⟨oc,od,kV,doc,pm,an,cdv,ct,osl,rfl,lk,hcd⟩:=F.ex;refine Ab lk hcd S len λA outer s H vs Q E hr hsp=>?_;obtain⟨t,h,q⟩:=hbody cdv A outer s H vs Q E hr hsp;exact⟨t,h.nox,q⟩
theorem Fun.binds{x qual:Str}{st:Stmt}{f:Addr}{fd:IW}{ps:List Str}(F:Fun K x qual st f fd)
  (h:∀(kV doc pm:IE)(an:Option Addr)(cdv ct:IE)(us:List IE),us.length=ps.length->MI (J3 x qual (cO st) (cx st) (aw st) .none kV doc pm an cdv ct) ⟨us,[]⟩=pure (ps.zip us)):ij K fd ps []:=by
 obtain⟨oc,od,kV,doc,pm,an,cdv,ct,osl,rfl,lk,hcd⟩:=F.ex;exact .all (h kV doc pm an cdv ct)
theorem ur{x qual:Str}{st:Stmt}{f:Addr}{oc:IE}{od an:Option Addr}{osl:Array (Option IE)}{kV doc pm cdv ct:IE}(l:K.lookup f=some ⟨oc,od,.func (J3 x qual (cO st) (cx st) (aw st) .none kV doc pm an cdv ct),osl⟩)
  (c:KZ K cdv qual=true)(k:Ko K (.ref f)=true):Fun K x qual st f (J3 x qual (cO st) (cx st) (aw st) .none kV doc pm an cdv ct):=⟨⟨oc,od,kV,doc,pm,an,cdv,ct,osl,rfl,l,c⟩,k⟩
end
theorem eR{A:JF}{k:Nat}(hr:cA k A):A.units+1<MV:=IU (Nat.add_le_add_left (by decide:1<=64) _) hr.units
theorem ay{n:Nat}(h:n<=1000):n<I0:=IU h (by decide)

section
variable {X:Cx}
theorem pv(i:Nat){x:Str}{pos:Pos}(hN:X.N[i]?=some x:=by rfl)(hv:Vis X.env.scope x:=by first|exact IP rfl|exact Or.inr (IP rfl)|exact Or.inr (Or.inr rfl))(hd:(x==("__debug__" : Str))=false:=by decide)
  (hcd:(x==("__classdict__" : Str))=false:=by decide):PE X (.Name x pos) (CI i):=Fg hN hv hd hcd
inductive Ad(xs:List V)(H:Hp)(Q:VK):Prop
 |mk(a kvs)(_:xs=[V.ref a])(_:H a=some (.dK kvs))(_:Q (.int kvs.length) H)
theorem By:ii X (.builtin "len") Ad:=by
 intro pins s σ H xs us Q I r h;obtain⟨a,kvs,rfl,ha,q⟩:=h;obtain⟨u,rfl,ru⟩:=iW r;cases ru;exact Hk I (.inl ha) λt s' I'=>⟨.int kvs.length,H,I',⟨t,rfl⟩,q⟩
end

theorem FI{A B:Prop}(h:B):if false=true then A else B:=by
 rw[if_neg Jh];exact h
theorem Ib{A B:Prop}(h:A):if true=true then A else B:=by
 rw[if_pos rfl];exact h
theorem eB{c A B:Prop}[Decidable c](h1:c->A)(h2:¬ c->B):if c then A else B:=by
 by_cases h:c
 .rw[if_pos h];exact h1 h
 .rw[if_neg h];exact h2 h
theorem DY{c A B:Prop}[Decidable c](hc:c)(h:B):if(!decide c)=true then A else B:=by
 rw[decide_eq_true hc];exact FI h

def aj(H H':Hp):Prop:=∀b o,H b=some o->H' b=some o
theorem aj.refl(H:Hp):aj H H:=λ_ _ h=>h
theorem aj.trans{H H1 H2:Hp}(a:aj H H1)(b:aj H1 H2):aj H H2:=λc o h=>b c o (a c o h)
theorem aj.free{H H':Hp}(e:aj H H'){l:Addr}(h:H' l=Option.none):H l=Option.none:=by
 cases q:H l with
 |none=>rfl
 |some o =>
  rw[e l o q]at h;cases h
theorem aj.seq{K:IC}{H H':Hp}{a:Addr}{xs:List V}(e:aj H H')(h:SqL K H a xs):SqL K H' a xs:=by
 rcases h with(h|⟨o,h⟩)|h
 .exact .inl (.inl (e _ _ h))
 .exact .inl (.inr ⟨o,e _ _ h⟩)
 .exact .inr h

section
variable {κ:Type}[DecidableEq κ]
end

section
variable {prog:Jk}{w:Jo}{A:JF}{R:MF->IG->Prop}{s:IG}
theorem xD{elt target iter:Expr}{ifs:List Expr}{scope:Scope}{pos:Pos}{it acc:IE}{env:Env}(I:Nat->IG->Prop)
  (turn:∀ n s,I n s→Ju (Jv prog w) A (pyNext it) (fun r s₁=>match r with
   |none=>R (.ok .next) s₁
   |some v=>Ju (Jv prog w) A (L_ target it v) (λ_ s₀=>Ju (Jv prog w) A (Ng target env v) (λ_ s₂ =>
     Ju (Jv prog w) A (forIn ifs true λc r=>if r=true then do let ok<-isTrue c env (eval c env);pure (Mb ok)else pure (Mb r)) (λok s₃ =>
      if ok=true then Ju (Jv prog w) A (eval elt env) (λx s₄ =>
       Ju (Jv prog w) A (call (.builtin "list.append") [acc,x]) (λ_ s₅=>∃m,m<n/\I m s₅) (λ_ _=>False) s₄) (λ_ _=>False) s₃
      else ∃m,m<n/\I m s₃) (λ_ _=>False) s₂) (λ_ _=>False) s₀) (λ_ _=>False) s₁) (λ_ _=>False) s)
  (n:Nat) (h:I n s):Mj (Jv prog w) A (.compLoop (.ListComp elt [⟨target,iter,ifs,0⟩] scope pos) 0 it acc env) R s:=by
 refine codeAny_loop rfl I (λn s hI=>?_) n h;show Ju _ A ((compTurn (.ListComp elt [⟨target,iter,ifs,0⟩] scope pos) 0 it acc env).onRaise (λx=>do noteFrame x env;theTreesLotGoes x)) _ _ s
 refine wpAny_noted ?_;rw[compTurn_list];refine Jp (Na (Jp (JX (turn n s hI) (λr s₁ h₁=>?_) λ_ _ h'=>h'.elim)));cases r with
 |none=>exact JS h₁
 |some v =>
  refine Jp (JX h₁ (λ_ s₀ h₀=>?_) λ_ _ h'=>h'.elim);refine Jp (JX h₀ (λ_ s₂ h₂=>Jp (JX h₂ (λok s₃ h₃=>?_) λ_ _ h'=>h'.elim)) λ_ _ h'=>h'.elim);cases ok with
  |false=>exact JS ⟨rfl,h₃⟩
  |true =>
   exact Jp (Jp (JX h₃ (λx s₄ h₄=>Jp (JX h₄ (λ_ s₅ h₅=>JS (JS ⟨rfl,h₅⟩)) λ_ _ h'=>h'.elim)) λ_ _ h'=>h'.elim))
end

def PTs(X:Cx)(ifs:List Expr)(t:TT):Prop:=
 ∀(pins:List (Addr×Obj))(s:IG)(σ:St)(H:Hp)(Q:Bool->Hp->Prop),Inv X pins σ H s->t σ H Q->
  Ju (Jv X.prog X.w) X.A (forIn ifs true λc r=>if r=true then do let ok<-isTrue c X.env (eval c X.env);pure (Mb ok)else pure (Mb r)) (TP X pins σ Q) X.xe s
def FJ:TT:=λ_ H Q=>Q true H
theorem dM{X:Cx}:PTs X [] FJ:=λ_ _ _ H _ I h=>wpAny_tests_nil ⟨H,I,h⟩
theorem iX{X:Cx}{c:Expr}{t:TT}(h:PT X c t):PTs X [c] t:=λpins s σ H Q I hw=>wpAny_tests_one (h pins s σ H Q I hw)

abbrev Cx.blk(X:Cx)(N:List Str)(s:IG)(H:Hp)(scope:Scope)(cl:List (Str×Addr))(C:Addr)(ex:List Addr):Cx:=
 { X with N:=N,s₀:=s,H₀:=H,env:=compEnvC scope cl C X.env,outer:=X.stack,stack:=X.stack,ex:=ex,fn:=λ_=>false,pn:=[],xe:=λ_ _=>False }

def tu(env:Env):List (Str×Addr)->Prop
 |[]=>True
 |p::r=>env.cells.lookup p.1=some p.2/\tu env r
theorem lB{α:Type}:∀{l:List (Str×α)}{x:Str}{k:α},l.lookup x=some k->(x,k)∈l
 |[],_,_,h=>by simp at h
 |(n,k')::r,x,k,h=>by
  rw[List.lookup_cons]at h;cases hx:x==n with
  |true =>
   rw[hx]at h;have e:x=n:=Nr hx;have e2:k'=k:=Jy h;rw[e,e2];exact IL
  |false =>
   rw[hx]at h;exact IH _ (lB h)
theorem tu.get{env:Env}:∀{cl:List (Str×Addr)}{x:Str}{c:Addr},tu env cl->cl.lookup x=some c->env.cells.lookup x=some c:=λ{cl x c} h e=>by
 have go:∀(l:List (Str×Addr)),tu env l->∀p∈l,env.cells.lookup p.1=some p.2:=by
  intro l;induction l with
  |nil=>intro _ p hp;cases hp
  |cons q r ih =>
   intro ha p hp;rcases List.mem_cons.mp hp with rfl|hp
   .exact ha.1
   .exact ih ha.2 p hp
 exact go cl h (x,c) (lB e)
def lC(X:Cx)(scope:Scope)(cl:List (Str×Addr)):List Str->List Nat->Prop
 |[],[]=>True
 |y::ys,j::js=>(X.N[j]?=some y/\(X.env.kindOf y=some .cell\/X.env.kindOf y=some .free)/\(cl.lookup y).isSome=true/\((KW scope X.env).names.lookup y=some .cell\/(KW scope X.env).names.lookup y=some .free))/\lC X scope cl ys js
 |_,_=>False
theorem lC.get{X:Cx}{scope:Scope}{cl:List (Str×Addr)}:∀{ys:List Str}{js:List Nat}{i:Nat}{y:Str},lC X scope cl ys js->ys[i]?=some y->
  ∃j,js[i]?=some j/\X.N[j]?=some y/\(X.env.kindOf y=some .cell\/X.env.kindOf y=some .free)/\(cl.lookup y).isSome=true/\((KW scope X.env).names.lookup y=some .cell\/(KW scope X.env).names.lookup y=some .free)
 |[],_,_,_,_,e=>by simp at e
 |_::_,[],_,_,h,_=>h.elim
 |y::ys,j::js,0,z,h,e=>by
  have e':y=z:=by simpa using e
  subst e';exact⟨j,rfl,h.1⟩
 |y::ys,j::js,i+1,z,h,e=>by
  obtain⟨k,e1,e2⟩:=lC.get (i:=i) h.2 (by simpa using e);exact⟨k,by simpa using e1,e2⟩
theorem lC.len{X:Cx}{scope:Scope}{cl:List (Str×Addr)}:∀{ys:List Str}{js:List Nat},lC X scope cl ys js->ys.length=js.length
 |[],[],_=>rfl
 |[],_::_,h=>h.elim
 |_::_,[],h=>h.elim
 |_::_,_::_,h=>by rw[ID,ID,lC.len h.2]
def qC(σ:St)(js:List Nat):St:=js.map λj=>(σ[j]?).join
theorem xE{scope:Scope}{env:Env}{x:Str}(hcell:∀y∈scope.names,y.2≠.cell)(h:(KW scope env).names.lookup x=some .cell\/(KW scope env).names.lookup x=some .free):(x,MG)∈scope.names:=by
 have hm:∃k,(k=NameKind.cell\/k=MG)/\(x,k)∈(KW scope env).names:=by
  rcases h with h|h
  .exact⟨_,.inl rfl,lB h⟩
  .exact⟨_,.inr rfl,lB h⟩
 obtain⟨k,hk,hm⟩:=hm;obtain⟨⟨n,k'⟩,hin,e⟩:=List.mem_map.mp hm;dsimp only at e;by_cases hc:(k'==MG&&env.scope.kind==.function&&env.kindOf n==some .cell)=true
 .rw[if_pos hc]at e;cases e;have:k'=MG:=by
   rw[Kt,Kt]at hc;exact Nr hc.1.1
  rw[<-this];exact hin
 .rw[if_neg hc]at e;cases e;rcases hk with hk|hk
  .exact absurd hk (hcell _ hin)
  .rw[<-hk];exact hin
section
variable {X:Cx}{pins:List (Addr×Obj)}{σ:St}{H:Hp}{s:IG}
theorem Inv.adopt{D:Addr}{ys:List V}{its:List IE}{n:Nat}(I:Inv X pins σ H s)(hn:H D=none)(hnew:X.s₀.heap.objs.size<=D)(hL:D≠X.env.locals)(hc:∀x c,X.env.cells.lookup x=some c->c≠D)(hp:∀p∈X.pn++pins,p.1≠D)
  (e:s.heap.get? D=some { cls:=.type "list",data:=.seq its.toArray n })(hv:bo ys its)(hz:ys.length<=I0):Inv X pins σ (upd H D (.lst ys)) s:=by
 have ne:∀b u,H b=some u->b≠D:=λb u q=>cH q hn;refine⟨I.ok,I.os,I.bare,⟨I.base.keep,I.base.slot,λb o q nn hx=>?_,I.base.there,λb xs q=>?_,λb o u q=>?_,λb ps q=>?_⟩,I.loc,I.cell,?_,λx c q=>?_,λp hq=>?_,λb u q=>?_,I.len⟩
 .rw[aq (Jd (Jl (IS q) hnew))];exact I.base.free b o q nn hx
 .have z:=I.base.tups b xs q;rw[aq (ne b _ z)];exact z
 .have z:=I.base.frzs b o u q;rw[aq (ne b _ z)];exact z
 .obtain⟨more,z⟩:=I.base.tbls b ps q;exact⟨more,by rw[aq (ne b _ z)];exact z⟩
 .rw[aq (JH hL)];exact I.free
 .rw[aq (hc x c q)];exact I.freeC x c q
 .obtain⟨a1,a2,a3⟩:=I.pin p hq;exact⟨a1,by rw[aq (hp p hq)];exact a2,a3⟩
 .by_cases hb:b=D
  .subst hb;rw[ah]at q;cases q;exact⟨hz,its,n,hv,e⟩
  .rw[aq hb]at q;exact(I.hok b u q).stay (λc v _ r=>r) (λc r=>by rw[aq (ne c _ r)];exact r) λc xs r=>by rw[aq (ne c _ r)];exact r
structure Ae(X:Cx)(pins:List (Addr×Obj))(σ:St)(C D:Addr)(H:Hp)(s:IG):Prop where
 inv:Inv X pins σ H s
 ns:∃m,s.heap.Ns C m
 nL:C≠X.env.locals
 new:X.s₀.heap.objs.size<=C
 nc:∀x c,X.env.cells.lookup x=some c->c≠C
 np:∀p∈X.pn++pins,p.1≠C
 free:H C=none
theorem Ae.gone{C D:Addr}{h':Heap}(O:Ae X pins σ C D H s)(sb:Mi C s.heap h'):Inv X pins σ H { s with heap:=h' }:=
 O.inv.turned (t':=s.toks) (it:=C) (λb o hb e=>(sb.2 b hb).trans e) O.free O.nL (.inr O.new) O.nc O.np
end

inductive gLC(J:It)(g:TG)(tc:TT)(te:TE)(n:Nat)(cv:St)(Fin:List V->Hp->Prop)(H1:Hp):Prop
 |mk(W:Nat->Nat->List V->Hp->Prop)(_:∃m,W 0 m [] H1)(_:∀i m ys H,W i m ys H->(J.stop i H/\Fin ys H)\/(J.go i H/\ys.length<I0/\∃N:List V->Hp->Prop,(∀ys' H',N ys' H'->∃m',m'<m/\W (i+1) m' ys' H')/\∀x H',J.yld i H x H'->∀own:St,own.length=n->g x (own++cv) H' λσ2 H2=>(∃own2:St,own2.length=n/\σ2=own2++cv)/\tc σ2 H2 λb H3=>if b=true then te σ2 H3 λy H4=>N (ys++[y]) H4 else N ys H3))

def uS(env:Env):List (Str×M3)->List (Str×Addr)->List (Str×Addr)
 |[],acc=>acc
 |(n,k)::r,acc=>uS env r (if k==.free then(match env.cells.lookup n with|some c=>(n,c)::acc|none=>acc)else acc)
theorem xF(env:Env):∀(names:List (Str×M3))(acc:List (Str×Addr)),tu env acc->tu env (uS env names acc)
 |[],_,h=>h
 |(n,k)::r,acc,h=>by
  refine xF env r _ ?_
  split
  .split
   .exact⟨by assumption,h⟩
   .exact h
  .exact h
structure oO(X:Cx)(scope:Scope)(cl:List (Str×Addr))(own caps:List Str)(js:List Nat):Prop where
 clos:closureFor scope X.env=pure cl
 cell:∀y∈scope.names,y.2≠.cell
 kind:scope.kind=.function
 names:∀y∈scope.names,y.2=.local->scope.names.lookup y.1=some .local
 allc:tu X.env cl
 free:(scope.names.all λy=>y.2 != .free||(cl.lookup y.1).isSome)=true
 cap:lC X scope cl caps js

theorem eW{X:Cx}{scope:Scope}{own caps:List Str}{js:List Nat}(clos:closureFor scope X.env=pure (uS X.env scope.names []):=by with_unfolding_all rfl)(cell:∀y∈scope.names,y.2≠.cell:=by decide +kernel)(kind:scope.kind=.function:=by rfl)
  (names:∀y∈scope.names,y.2=.local->scope.names.lookup y.1=some .local:=by decide +kernel)(free:(scope.names.all λy=>y.2 != .free||((uS X.env scope.names []).lookup y.1).isSome)=true:=by with_unfolding_all rfl)
  (cap:lC X scope (uS X.env scope.names []) caps js):oO X scope (uS X.env scope.names []) own caps js:=⟨clos,cell,kind,names,xF _ _ _ trivial,free,cap⟩
section
variable {X:Cx}{elt iter target:Expr}{ifs:List Expr}{scope:Scope}{cl:List (Str×Addr)}{pos:Pos}{own caps:List Str}{js:List Nat}{g:TG}{tc:TT}{te:TE}
theorem xG{pins:List (Addr×Obj)}{σ:St}{s₂:IG}{H1:Hp}{it:Addr}{fp:List Addr}{tn:Nat->Heap->Prop}{J:It}{Fin:List V->Hp->Prop}{RR:IE->Addr->MF->IG->Prop}{E:IE->IG->Prop}
  (hc:X.calm=true)(L:oO X scope cl own caps js)
  (hg:∀s H C ex,PG (X.blk (own++caps) s H scope cl C ex) target g)(ht:∀s H C ex,PTs (X.blk (own++caps) s H scope cl C ex) ifs tc)(he:∀s H C ex,PE (X.blk (own++caps) s H scope cl C ex) elt te)
  (I2:Inv X pins σ H1 s₂)(T:oJ X.prog X.w X.K target J fp it tn)(st2:tn 0 s₂.heap)(f2:∀b∈fp,qx X pins H1 b)
  (G:gLC J g tc te own.length (qC σ js) Fin H1)
  (hRR:∀D C H ys s',H D=none->Ae X pins σ C D (upd H D (.lst ys)) s'->Fin ys H->RR (.ref D) C (.ok .next) s') :
  Ju (Jv X.prog X.w) X.A (newList []) (λacc s₃=>Ju (Jv X.prog X.w) X.A (newFunctionEnv scope X.env.globals cl [] X.env.qual none .none (some X.env)) (λcenv s₄ =>
   Mj (Jv X.prog X.w) X.A (.compStart (.ListComp elt [⟨target,iter,ifs,0⟩] scope pos) 0 (.ref it) acc { cenv with scope:=KW scope X.env }) (RR acc cenv.locals) s₄) E s₃) E s₂:=by
 refine MB (wpAny_newFunctionEnv L.cell (by intro y hy;simp at hy) (λh₁ hns₁ hsb₁=>?_) L.kind);dsimp only at hns₁ hsb₁⊢;generalize hH2:s₂.heap.push { cls:=.type "list",dict:=none,data:=.seq ([]:List IE).toArray }=G2 at hns₁ hsb₁⊢;have hC:G2.objs.size=s₂.heap.objs.size+1:=by rw[<-hH2,LI]
 have up2:∀b o,s₂.heap.get? b=some o->G2.get? b=some o:=λb o e=>hH2▸IV _ e;have hDC:s₂.heap.objs.size≠G2.objs.size:=by rw[hC];exact Jd (KY _)
 have hD2:G2.get? s₂.heap.objs.size=some { cls:=.type "list",data:=.seq ([]:List IE).toArray ([]:List IE).length }:=hH2▸Jr _ rfl
 -- the state with the list laid
 have I3:Inv X pins σ H1 { s₂ with heap:=G2 }:=I2.kept (t':=s₂.toks) up2;have up3:∀b o,G2.get? b=some o->h₁.get? b=some o:=λb o e=>hsb₁.extBut b o (Jd (IS e)) (IV _ e);have DH:H1 s₂.heap.objs.size=none:=I2.fresh;have CH:H1 G2.objs.size=none:=I3.fresh;have fpl:∀b∈fp,b<s₂.heap.objs.size:=λb hb=>by
  obtain⟨o,e,_⟩:=T.obj 0 _ st2 b hb;exact IS e
 have celllt:∀x c,X.env.cells.lookup x=some c->c<s₂.heap.objs.size:=λx c e=>by
  obtain⟨v,q⟩:=I2.cell x c e;exact q.lt
 have locl:X.env.locals<s₂.heap.objs.size:=I2.lt;generalize hD:s₂.heap.objs.size=D at *;generalize hCC:G2.objs.size=C at *;have hDltC:D<C:=by omega
 have noF:∀b,b∈frs X.stack->b<D:=λb hb=>by
  rcases List.mem_cons.mp (I2.stkSub b hb)with e|hb
  .rw[e];exact locl
  .obtain⟨_,o,ho,_⟩:=I2.ok.funs.mem hb;exact Jl (IS ho) (hD▸I2.sz)
 have fpF:∀b∈fp,b∉frs X.stack:=λb hb z=>by
  obtain⟨_,e1,e2,_⟩:=f2 b hb;rcases List.mem_cons.mp (I2.stkSub b z)with e|z
  .exact e1 e
  .exact e2 z
 have ok':(X.blk (own++caps) { s₂ with heap:=G2 } H1 scope cl C (D::fp)).Ok:={
  mod:=I2.ok.mod
  kind:=L.kind
  glob:=I2.ok.glob
  blt:=I2.ok.blt
  above:=Nl hCC
  inj:=λx y c e1 e2=>I2.ok.inj x y c (L.allc.get e1) (L.allc.get e2)
  has:=λx hx=>by
   have hm:=xE L.cell hx;have q:=List.all_eq_true.mp L.free _ hm;have q':(cl.lookup x).isSome=true:=by simpa using q
   exact Option.isSome_iff_exists.mp q'
  cab:=λx c e=>nomatch e
  hd:=I2.ok.hd
  frames:=I2.ok.frames
  stk:=.inl rfl
  exf:=λb hb=>by
   rcases List.mem_cons.mp hb with rfl|hb
   .exact⟨Jd hDltC,λx c e=>Jd (celllt x c (L.allc.get e))⟩
   .obtain⟨_,e1,e2,_,e4,_⟩:=f2 b hb;exact⟨Jd (KP (fpl b hb) hDltC),λx c e=>e4 x c (L.allc.get e)⟩
  bs:=λb o e=>⟨up2 b o (I2.bs b o e).1,(I2.bs b o e).2⟩
  bsz:=by
   show X.base.objs.size<=G2.objs.size;have:=I2.ok.bsz;have:=I2.sz;omega
  noex:=λb o e hb=>by
   have hlt:=IS (I2.bs b o e).1;rcases List.mem_cons.mp hb with z|hb
   .exact absurd (show b<D from hD▸hlt) (by rw[z];exact J7 _)
   .obtain⟨_,_,_,e3,_⟩:=f2 b hb;rcases e3 with e3|e3
    .exact I2.ok.noex b o e e3
    .exact absurd (Jl (IS (I2.ok.bs b o e).1) e3) (J7 _)
  exfs:=λb hb z=>by
   rcases List.mem_cons.mp hb with e|hb
   .exact absurd (noF b z) (by rw[e];exact J7 _)
   .exact fpF b hb z
  funs:=I3.stack
  frf:=I3.stkFree }
 have hns:h₁.Ns C (λx=>([]:List (Str×IE)).reverse.lookup x):=hns₁;have jp:Inv (X.blk (own++caps) { s₂ with heap:=G2 } H1 scope cl C (D::fp)) [(D,MC [])] (IN own.length none++qC σ js) H1 { s₂ with heap:=h₁,toks:=s₂.toks+([]:List (Str×IE)).length }:=by
  refine⟨ok',rfl,I2.bare,Un.kept up3,⟨_,hns,λi x v e1 e2 e3=>?_⟩,λx c e=>?_,CH,λx c e=>I2.freeC x c (L.allc.get e),λp hp=>?_,I3.hok.kept up3,?_⟩
  .have hlo:own.length<=i:=by
    refine Li λhlt=>?_;rw[List.getElem?_append_left (by rw[JI];exact hlt),List.getElem?_replicate,if_pos hlt]at e2;cases e2
   have e1':caps[i-own.length]?=some x:=by rw[<-KH hlo];exact e1
   obtain⟨j,j1,j2,j3,j4,j5⟩:=L.cap.get e1';have e2':(qC σ js)[i-own.length]?=some (some v):=by
    rw[<-e2,KH (by rw[JI];exact hlo),JI]
   have e4:σ[j]?=some (some v):=by
    unfold qC at e2';rw[Jc,j1]at e2';have e5:(σ[j]?).join=some v:=Jy e2';cases hq:σ[j]? with
    |none=>rw[hq]at e5;cases e5
    |some q=>rw[hq]at e5;exact congrArg some e5
   obtain⟨m,hn,hl⟩:=I2.loc;obtain⟨u,ru,lk⟩:=hl j x v j2 e4 (.inr j3);refine⟨u,ru,.inr ⟨j5,?_⟩⟩;rcases lk with⟨k,_⟩|⟨_,c,ec,o,ho,hd⟩
   .rcases j3 with z|z<;>(rw[k]at z;cases z)
   .obtain⟨c',ec'⟩:=Option.isSome_iff_exists.mp j4;have:=L.allc.get ec';rw[ec]at this;cases this;exact⟨c,ec',o,up3 _ _ (up2 _ _ ho),hd⟩
  .obtain⟨v,o,ho,hd⟩:=I2.cell x c (L.allc.get e);exact⟨v,o,up3 _ _ (up2 _ _ ho),hd⟩
  .have e:p=(D,MC []):=by simpa using hp
   subst e;exact⟨up3 _ _ hD2,DH,Jd hDltC,λz=>absurd (noF D z) (J7 _),λv z=>by cases z⟩
  .rw[IB,IB,JI];unfold qC;rw[Iz,L.cap.len]
 obtain⟨W,⟨m0,w0⟩,turn⟩:=G;have loop:Mj (Jv X.prog X.w) X.A (.compLoop (.ListComp elt [⟨target,iter,ifs,0⟩] scope pos) 0 (.ref it) (.ref D) (compEnvC scope cl C X.env)) (RR (.ref D) C) { s₂ with heap:=h₁,toks:=s₂.toks+([]:List (Str×IE)).length }:=by
  refine xD (λn s'=>∃i ys its ow H',Inv (X.blk (own++caps) { s₂ with heap:=G2 } H1 scope cl C (D::fp)) [(D,MC its)] (ow++qC σ js) H' s'/\ow.length=own.length/\tn i s'.heap/\(∀b∈fp,H' b=none)/\bo ys its/\ys.length<=I0/\W i n ys H') ?_ m0
   ⟨0,[],[],IN own.length none,H1,jp,JI,T.keep _ _ _ st2 λb _ o e=>up3 _ _ (up2 _ _ e),λb hb=>(f2 b hb).1,.nil,Jw _,w0⟩
  rintro n s' ⟨i,ys,its,ow,H',I',hlo,st,fr,hv,hz,wv⟩;have fpok:∀{H'':Hp},(∀b∈fp,H'' b=none)->∀b∈fp,qx (X.blk (own++caps) { s₂ with heap:=G2 } H1 scope cl C (D::fp)) [(D,MC its)] H'' b:=λhn b hb=>by
   obtain⟨_,e1,e2,e3,e4,e5⟩:=f2 b hb;refine⟨hn b hb,Jd (KP (fpl b hb) hDltC),fpF b hb,.inl (IH _ hb),λx c e=>e4 x c (L.allc.get e),λp hp=>?_⟩;have e:p=(D,MC its):=by simpa using hp
   subst e;exact KC (fpl b hb)
  rcases turn i n ys H' wv with⟨stop,fin⟩|⟨go,hlt,N,hN,step⟩
  .refine JX (T.done (X.blk (own++caps) { s₂ with heap:=G2 } H1 scope cl C (D::fp)) rfl rfl rfl hc i _ s' _ H' (λ_ _=>False) I' (fpok fr) st stop) (λr s4 ⟨hr,I4⟩=>?_) λ_ _ f=>f;subst hr;have pD:=I4.pin (D,MC its) (by simp);have hch:∀b∈D::fp,(b∈X.ex\/X.s₀.heap.objs.size<=b)/\b≠X.env.locals/\(∀x c,X.env.cells.lookup x=some c->c≠b)/\∀p∈X.pn++pins,p.1≠b:=λb hb=>by
    rcases List.mem_cons.mp hb with rfl|hb
    .exact⟨.inr (hD▸I2.sz),KC locl,λx c e=>Jd (celllt x c e),λp hp=>Jd (hD▸IS (I2.pin p hp).1)⟩
    .obtain⟨_,e1,e2,e3,e4,e5⟩:=f2 b hb;exact⟨e3,e1,e4,e5⟩
   have IX:Inv X pins σ H' s4:=I2.call' (ch:=D::fp) I4.os ((Un.kept up2).trans I4.base) I4.hok I4.bare hch;have cD:=hch D IL;have IA:Inv X pins σ (upd H' D (.lst ys)) s4:=IX.adopt pD.2.1 (hD▸I2.sz) cD.2.1 cD.2.2.1 cD.2.2.2 pD.1 hv hz;obtain⟨mm,hmm,_⟩:=I4.loc;refine hRR D C H' ys s4 pD.2.1 ⟨IA,⟨mm,hmm⟩,KC (KP locl hDltC),?_,λx c e=>Jd (KP (celllt x c e) hDltC),λp hp=>?_,?_⟩ fin
   .have:=I2.sz;omega
   .exact Jd (KP (show p.1<D from hD▸IS (I2.pin p hp).1) hDltC)
   .rw[aq (KC hDltC)];exact I4.free
  .refine JX (T.item (X.blk (own++caps) { s₂ with heap:=G2 } H1 scope cl C (D::fp)) rfl rfl rfl hc i _ s' _ H' (λ_ _=>False) I' (fpok fr) st go) (λr s4 ⟨u,hr,h4⟩=>?_) λ_ _ f=>f;subst hr;refine JX h4 (λ_ s5 ⟨x,H5,I5,r5,y5,st5,fr5⟩=>?_) λ_ _ f=>f;have I5':=I5.pinned (fpok fr5) (T.obj _ _ st5);have keepT:∀{σ8:St}{H8:Hp}{s8:IG},Inv (X.blk (own++caps) { s₂ with heap:=G2 } H1 scope cl C (D::fp)) ([(D,MC its)]++qy fp s5.heap) σ8 H8 s8->tn (i+1) s8.heap/\∀b∈fp,H8 b=none:=λ{σ8 H8 s8} I8 =>
    ⟨T.keep _ _ _ st5 fun b hb o e=>(I8.pin (b,o) (JB _ (JB _ (lA hb e)))).1,fun b hb=>by
     obtain⟨o,e,d⟩:=T.obj _ _ st5 b hb;exact(I8.pin (b,o) (JB _ (JB _ (lA hb e)))).2.1⟩
   refine JX (hg _ _ _ _ _ s5 _ H5 x u _ I5' r5 (step x H5 y5 ow hlo)) (λ_ s6 ⟨σ6,H6,I6,⟨own2,hl2,e6⟩,q6⟩=>?_) λ_ _ f=>f;subst e6;refine JX (ht _ _ _ _ _ s6 _ H6 _ I6 q6) (λb s7 ⟨H7,I7,q7⟩=>?_) λ_ _ f=>f;cases b with
   |false =>
    rw[if_neg Jh];rw[if_neg Jh]at q7;obtain⟨m',hm,w7⟩:=hN _ _ q7;obtain⟨k1,k2⟩:=keepT I7;exact⟨m',hm,i+1,ys,its,own2,H7,I7.unpinned,hl2,k1,k2,hv,hz,w7⟩
   |true =>
    rw[if_pos rfl];rw[if_pos rfl]at q7;refine JX (he _ _ _ _ _ s7 _ H7 _ I7 q7) (λy s8 ⟨vy,H8,I8,r8,n8⟩=>?_) λ_ _ f=>f;obtain⟨m',hm,w8⟩:=hN _ _ n8;obtain⟨k1,k2⟩:=keepT I8;have pD:=I8.pin (D,MC its) (by simp);have hyl:=hv.length;refine append_at (hsz:=by show its.toArray.size<=I0;rw[I_];omega) pD.1 λh9 hs9 hD9=>?_;have I9:Inv (X.blk (own++caps) { s₂ with heap:=G2 } H1 scope cl C (D::fp)) [] (own2++qC σ js) H8 { s8 with heap:=h9 }:=by
     refine(I8.pins_of (pins':=[]) λp hp=>nomatch hp).turned (t':=s8.toks) (it:=D) (λb o hb e=>(hs9.2 b hb).trans e) pD.2.1 (Jd hDltC) (.inl IL) (λx c e=>Jd (celllt x c (L.allc.get e))) λp hp=>?_;simp at hp
    refine⟨m',hm,i+1,ys++[vy],its++[y],own2,H8,I9.pins_of λp hp=>?_,hl2,T.keep _ _ _ k1 λb hb o e=>(hs9.2 b (Jd (fpl b hb))).trans e,k2,hv.append (.cons r8 .nil),?_,w8⟩
    .have e:p=(D,MC (its++[y])):=by simpa using hp
     subst e;exact⟨hD9.trans (congrArg some (LCg.lst_snoc its y)),pD.2.1,Jd hDltC,λz=>absurd (noF D z) (J7 _),λv z=>by cases z⟩
    .rw[IB,Lb];omega
 exact codeAny_compStart_list loop (T.self _ _ _ _ _ (T.keep _ _ _ st2 λb _ o e=>up3 _ _ (up2 _ _ e)) loop)

def uT(wi:TI)(g:TG)(tc:TT)(te:TE)(n:Nat)(js:List Nat):TE:=λσ H Q=>wi σ H λJ H1=>gLC J g tc te n (qC σ js) (λys H=>∀p,H p=none->Q (.ref p) (upd H p (.lst ys))) H1
variable {wi:TI}
theorem xH(hc:X.calm=true)(L:oO X scope cl own caps js)(hi:PI X target iter wi)
  (hg:∀s H C ex,PG (X.blk (own++caps) s H scope cl C ex) target g)(ht:∀s H C ex,PTs (X.blk (own++caps) s H scope cl C ex) ifs tc)(he:∀s H C ex,PE (X.blk (own++caps) s H scope cl C ex) elt te)
  (hs:∀x,Kf iter X.env x=pure x:=by intro _;rfl):PE X (.ListComp elt [⟨target,iter,ifs,0⟩] scope pos) (uT wi g tc te own.length js):=by
 intro pins s σ H Q I h;rw[eval_ListComp];refine wpAny_comprehension_free (use:=none) rfl hs L.clos L.kind L.names (thn (hi pins s σ H _ I h) λv s1 h1=>thn h1 λitv s2 h2=>?_);obtain⟨it,fp,tn,J,H2,e,I2,T,st2,f2,G⟩:=h2;subst e;refine xG hc L hg ht he I2 T st2 f2 G ?_;intro D C H3 ys s' hD O fin;obtain⟨m,hn⟩:=O.ns;exact⟨m,hn,λh' sb=>⟨.ref D,_,O.gone sb,rfl,fin D hD⟩⟩
theorem Bz{k:Nat}{y:Str}{py spos:Pos}(hc:X.calm=true)(L:oO X scope cl own caps js)(hi:PI X target iter wi)
  (hg:∀s H C ex,PG (X.blk (own++caps) s H scope cl C ex) target g)(ht:∀s H C ex,PTs (X.blk (own++caps) s H scope cl C ex) ifs tc)(he:∀s H C ex,PE (X.blk (own++caps) s H scope cl C ex) elt te)
  (hN:X.N.Nodup)(hk:X.N[k]?=some y)(hy:X.env.scope.names.lookup y=some .local)
  (hsw:LC (.ListComp elt [⟨target,iter,ifs,0⟩] scope pos) (some (.Name y py)) spos.line X.env=pure true:=by rfl)
  (hs:∀x,Kf iter X.env x=pure x:=by intro _;rfl):PS X (.Assign [.Name y py] (.ListComp elt [⟨target,iter,ifs,0⟩] scope pos) spos) (qw (uT wi g tc te own.length js) (bA k)):=by
 intro pins s σ H De I h;rw[exec_Assign_Name_used _ _ _ _ hsw];refine Jp (Na (Jp ?_));show Ju _ _ (do let _<-comprehension (.ListComp elt [⟨target,iter,ifs,0⟩] scope pos) scope X.env _ (newList []) false (eval iter X.env) (some (Ng (.Name y py) X.env))) _ _ s
 refine Jp (JX (wpAny_comprehension_free (use:=some (Ng (.Name y py) X.env)) (Q:=λ_ s'=>SP X pins De .next s') rfl hs L.clos L.kind L.names
  (thn (hi pins s σ H _ I h) λv s1 h1=>thn h1 λitv s2 h2=>?_)) (λ_ s' hq=>JS (JS hq)) λ_ _ e=>e)
 obtain⟨it,fp,tn,J,H2,e,I2,T,st2,f2,G⟩:=h2;subst e;refine xG hc L hg ht he I2 T st2 f2 G ?_;intro D C H3 ys s' hD O fin;show Ju _ _ (Ng (.Name y py) X.env (.ref D)) _ _ _;refine wpAny_assign_Name (vx O.inv hN hk (.inl hy) (show bx (.ref D) (.ref D)from rfl) (λs'' I'' sb=>?_) (.inr hy));obtain⟨a,hsb,ha⟩:=sb;have hne:C≠a:=by
  rcases ha with rfl|ha
  .exact O.nL
  .exact JH (O.nc _ _ ha)
 obtain⟨m,hn⟩:=O.ns;refine⟨m,hn.sameBut hsb hne,λh' sb'=>⟨_,_,?_,fin D hD⟩⟩;exact I''.turned (t':=s''.toks) (it:=C) (λb o hb e=>(sb'.2 b hb).trans e) O.free O.nL (.inr O.new) O.nc O.np
end

section
variable {X:Cx}{elt iter:Expr}{ifs:List Expr}{scope:Scope}{cl:List (Str×Addr)}{pos:Pos}{caps:List Str}{js:List Nat}{tc:TT}{te:TE}{wi:TI}{x:Str}{px:Pos}
theorem C2{J:It}{cv:St}{Fin:List V->Hp->Prop}{H1:Hp}(h:∃W:Nat->Nat->List V->Hp->Prop,(∃m,W 0 m [] H1)/\∀i m ys H,W i m ys H->
  (J.stop i H/\Fin ys H)\/
  (J.go i H∧ys.length < I0∧∃ N:List V→Hp→Prop,(∀ ys' H',N ys' H'→∃ m',m' < m∧W (i+1) m' ys' H')∧∀ x H',J.yld i H x H' →
   tc (some x::cv) H' λb H3=>if b=true then te (some x::cv) H3 λy H4=>N (ys++[y]) H4 else N ys H3)):gLC J (bA 0) tc te 1 cv Fin H1:=by
 obtain⟨W,w0,turn⟩:=h;refine⟨W,w0,λi m ys H w=>?_⟩;rcases turn i m ys H w with⟨a,b⟩|⟨a,b,N,hN,c⟩
 .exact .inl ⟨a,b⟩
 .refine .inr ⟨a,b,N,hN,λv H' y own ho=>?_⟩
  match own,ho with
  |[τ],_=>exact⟨⟨[some v],rfl,rfl⟩,c v H' y⟩
def tLC(wi:TI)(tc:TT)(te:TE)(js:List Nat):TE:=uT wi (bA 0) tc te 1 js
theorem gc(hc:X.calm=true)(L:oO X scope cl [x] caps js)(hi:PI X (.Name x px) iter wi)
  (ht:∀s H C ex,PTs (X.blk (x::caps) s H scope cl C ex) ifs tc)(he:∀s H C ex,PE (X.blk (x::caps) s H scope cl C ex) elt te)
  (hN:(x::caps).Nodup:=by decide +kernel)(hx:(KW scope X.env).names.lookup x=some .local:=by with_unfolding_all rfl)
  (hs:∀x,Kf iter X.env x=pure x:=by intro _;rfl):PE X (.ListComp elt [⟨.Name x px,iter,ifs,0⟩] scope pos) (tLC wi tc te js):=
 xH (own:=[x]) (g:=bA 0) hc L hi (λs H C ex=>aJ (i:=0) hN rfl (.inl hx) (.inr hx)) ht he hs
theorem Af{k:Nat}{y:Str}{py spos:Pos}(hc:X.calm=true)(L:oO X scope cl [x] caps js)(hi:PI X (.Name x px) iter wi)
  (ht:∀s H C ex,PTs (X.blk (x::caps) s H scope cl C ex) ifs tc)(he:∀s H C ex,PE (X.blk (x::caps) s H scope cl C ex) elt te)
  (hXN:X.N.Nodup)(hk:X.N[k]?=some y)(hy:X.env.scope.names.lookup y=some .local)(hN:(x::caps).Nodup:=by decide +kernel)(hx:(KW scope X.env).names.lookup x=some .local:=by with_unfolding_all rfl)
  (hsw:LC (.ListComp elt [⟨.Name x px,iter,ifs,0⟩] scope pos) (some (.Name y py)) spos.line X.env=pure true:=by rfl)
  (hs:∀x,Kf iter X.env x=pure x:=by intro _;rfl):PS X (.Assign [.Name y py] (.ListComp elt [⟨.Name x px,iter,ifs,0⟩] scope pos) spos) (qw (tLC wi tc te js) (bA k)):=
 Bz (own:=[x]) (g:=bA 0) hc L hi (λs H C ex=>aJ (i:=0) hN rfl (.inl hx) (.inr hx)) ht he hXN hk hy hsw hs
theorem dS{K:IC}{a:Addr}{xs:List V}{cv:St}{Fin:List V->Hp->Prop}{H1:Hp}(Pv:Nat->List V->Hp->Prop)(h0:Pv 0 [] H1)(hl:∀i ys H,i<=xs.length->Pv i ys H->SqL K H a xs)(hz:∀i ys H,i<xs.length->Pv i ys H->ys.length<I0)
  (hs:∀i x ys H,xs[i]?=some x->Pv i ys H->tc (some x::cv) H λb H3=>if b=true then te (some x::cv) H3 λy H4=>Pv (i+1) (ys++[y]) H4 else Pv (i+1) ys H3)
  (hd:∀ys H,Pv xs.length ys H->Fin ys H):gLC (Itl K a) (bA 0) tc te 1 cv Fin H1:=by
 refine C2 ⟨λi m ys H=>m=xs.length-i/\i<=xs.length/\Pv i ys H,⟨xs.length,by simp,Jw _,h0⟩,?_⟩;rintro i m ys H ⟨rfl,hi,p⟩;have q:=hl i ys H hi p;by_cases hlt:i<xs.length
 .refine .inr ⟨⟨xs,xs[i],q,by simp[hlt]⟩,hz i ys H hlt p,Pv (i+1),λys' H' p'=>⟨xs.length-(i+1),by omega,rfl,hlt,p'⟩,λv H' y=>?_⟩;obtain⟨e,y⟩:=y;subst e;exact hs i v ys _ (y xs q) p
 .have e:i=xs.length:=by omega
  subst e;exact .inl ⟨⟨xs,q,IM _⟩,hd ys H p⟩
theorem tz{lo:Int}{n:Nat}{cv:St}{Fin:List V->Hp->Prop}{H1:Hp}(Pv:Nat->List V->Hp->Prop)(h0:Pv 0 [] H1)(hz:∀i ys H,i<n->Pv i ys H->ys.length<I0)
  (hs:∀i ys H,i<n->Pv i ys H->tc (some (.int (lo+i))::cv) H λb H3=>if b=true then te (some (.int (lo+i))::cv) H3 λy H4=>Pv (i+1) (ys++[y]) H4 else Pv (i+1) ys H3)
  (hd:∀ys H,Pv n ys H->Fin ys H):gLC (Itr lo n) (bA 0) tc te 1 cv Fin H1:=by
 refine C2 ⟨λi m ys H=>m=n-i/\i<=n/\Pv i ys H,⟨n,by simp,Jw _,h0⟩,?_⟩;rintro i m ys H ⟨rfl,hi,p⟩;by_cases hlt:i<n
 .refine .inr ⟨hlt,hz i ys H hlt p,Pv (i+1),λys' H' p'=>⟨n-(i+1),by omega,rfl,hlt,p'⟩,λv H' y=>?_⟩;obtain⟨e,y⟩:=y;subst e y;exact hs i ys _ hlt p
 .have e:i=n:=by omega
  subst e;exact .inl ⟨IM _,hd ys H p⟩
end

theorem fE{A B:Hp->Prop}{σ:St}{H:Hp}(h:A H):FJ σ H (λb H3=>if b=true then A H3 else B H3):=by
 show if true=true then A H else B H;rw[if_pos rfl];exact h
theorem fP{α:Type}(x:α)(r:List α):atI (x::r) 0=some x:=bX (j:=0) rfl

def Its(x:Str):It:=⟨λi _=>i<x.cps.size,λi H v H'=>H'=H/\∃c,x.cps[i]?=some c/\v=.str ⟨#[c]⟩,λi _=>i=x.cps.size⟩
theorem C3{P:Jk}{w:Jo}{K:IC}{tg:Expr}{x:Str}{t:Tok}{it:Addr}{n:String}(hn:["enumerate","zip","dict_itemiterator","dict_reverseitemiterator","odict_iterator","itertools.zip_longest","itertools.pairwise"].contains n=false)
  (W:∀A':JF,A'.handled=none->Walks P w A' it [it] [it] x.cps.size (SignAt x) (λi h=>h.IsStrIter it n x t i))
  (slf:∀(A:JF)(i:Nat)(s:IG)(Q:IE->IG->Prop)(E:IE->IG->Prop),s.heap.IsStrIter it n x t i->Q (.ref it) s->Ju (Jv P w) A (NA (.ref it)) Q E s) :
  oJ P w K tg (Its x) [it] it (λi h=>h.IsStrIter it n x t i) where
 mem:=by simp
 obj:=λi h st b hb=>by
  have e:b=it:=by simpa using hb
  subst e;obtain⟨o,e,c,d⟩:=st;exact⟨o,e,λv z=>by rw[d]at z;cases z⟩
 keep:=λi h h' st k=>let⟨o,ho,r⟩:=st;⟨o,k it (by simp) o ho,r⟩
 item:=by
  intro X hP hw hK hc i pins s σ H E I hf st hg;subst hP hw hK;obtain⟨f0,f1,f2,f3,f4,f5⟩:=hf it (by simp);refine(W X.A (I.ok.hd hc)).item i s _ _ hg st λv h' tk hv st' kk=>?_;obtain⟨c,u,hcx,rfl⟩:=hv;have I1:Inv X pins σ H { s with heap:=h',toks:=tk }:=I.turned (λb o hb e=>kk b o (by simpa using hb) e) f0 f1 f3 f4 f5;obtain⟨o,e,c',d⟩:=id st';exact⟨_,rfl,wN (s:={ s with heap:=h',toks:=tk }) e c' d hn ⟨.str ⟨#[c]⟩,H,I1,⟨u,rfl⟩,⟨rfl,c,hcx,rfl⟩,st',λb hb=>(hf b hb).1⟩⟩
 done:=by
  intro X hP hw hK hc i pins s σ H E I hf st hg;subst hP hw hK;obtain⟨f0,f1,f2,f3,f4,f5⟩:=hf it (by simp);have e:i=x.cps.size:=hg;subst e;exact(W X.A (I.ok.hd hc)).done s _ _ st λh' tk kk=>⟨rfl,I.turned (λb o hb e=>kk b o (by simpa using hb) e) f0 f1 f3 f4 f5⟩
 self:=slf
section
variable {X:Cx}{tg:Expr}
inductive Ho(R:It->Hp->Prop)(v:V)(H1:Hp):Prop
 |mk(x)(_:v=.str x)(_:R (Its x) H1)
def Ic(tl:TE):TI:=λσ H R=>tl σ H (Ho R)
theorem BA{l:Expr}{tl:TE}(hl:PE X l tl):PI X tg l (Ic tl):=by
 intro pins s σ H R I h;refine thn (hl pins s σ H _ I h) λv s1 ⟨x,H1,I1,r1,q1⟩=>?_;obtain⟨z,e,q⟩:=q1;subst e;obtain⟨t,rfl⟩:=r1;have go:∀n ob,["enumerate","zip","dict_itemiterator","dict_reverseitemiterator","odict_iterator","itertools.zip_longest","itertools.pairwise"].contains n=false->
   (∀A':JF,A'.handled=none->Walks X.prog X.w A' s1.heap.objs.size [s1.heap.objs.size] [s1.heap.objs.size] z.cps.size (SignAt z) (λi h=>h.IsStrIter s1.heap.objs.size n z t i))->
   (∀(A:JF)(i:Nat)(s:IG)(Q:IE->IG->Prop)(E:IE->IG->Prop),s.heap.IsStrIter s1.heap.objs.size n z t i->Q (.ref s1.heap.objs.size) s->Ju (Jv X.prog X.w) A (NA (.ref s1.heap.objs.size)) Q E s)->
   (s1.heap.push ob).IsStrIter s1.heap.objs.size n z t 0->PIE X pins σ tg R (.ref s1.heap.objs.size) { s1 with heap:=s1.heap.push ob }:=λn ob hn W slf st=>by
  refine⟨s1.heap.objs.size,[s1.heap.objs.size],_,_,H1,rfl,I1.kept (t':=s1.toks) λb o e=>IV _ e,C3 hn W slf,st,λb hb=>?_,q⟩;have e:b=s1.heap.objs.size:=by simpa using hb
  subst e;exact I1.fpOk (IM _) (I1.hok.fresh (IM _))
 cases ha:z.cps.all (· < 128)
 .exact wpAny_pyIter_wide ha (go "str_iterator" _ (by decide) (λA' hA=>Walks.strWide hA _ z t) (λ_ _ _ _ _ st h=>wpAny_pyIter_striter_wide st h) ⟨_,Jr _ rfl,rfl,rfl⟩)
 .exact wpAny_pyIter_ascii ha (go "str_ascii_iterator" _ (by decide) (λA' hA=>Walks.strAscii hA _ z t) (λ_ _ _ _ _ st h=>wpAny_pyIter_striter_ascii st h) ⟨_,Jr _ rfl,rfl,rfl⟩)
end
theorem Ep{x:Str}{g:TG}{tb:TS}{D:e9}{σ:St}{H:Hp}(Pv:Nat->St->Hp->Prop)(h0:Pv 0 σ H)
  (hs:∀i c σ H,x.cps[i]?=some c->Pv i σ H->g (.str ⟨#[c]⟩) σ H λσ2 H2=>tb { D with nx:=Pv (i+1),ct:=Pv (i+1),bk:=D.nx } σ2 H2)(hd:∀σ H,Pv x.cps.size σ H->D.nx σ H) :
  ∃W:Nat->Nat->St->Hp->Prop,(∃m,W 0 m σ H)/\∀i m σ H,W i m σ H->
   ((Its x).stop i H/\D.nx σ H)\/((Its x).go i H/\∃N:St->Hp->Prop,(∀σ' H',N σ' H'->∃m',m'<m/\W (i+1) m' σ' H')/\∀v H',(Its x).yld i H v H'->g v σ H' λσ2 H2=>tb { D with nx:=N,ct:=N,bk:=D.nx } σ2 H2):=by
 refine⟨λi m σ H=>m=x.cps.size-i/\i<=x.cps.size/\Pv i σ H,⟨x.cps.size,by simp,Jw _,h0⟩,?_⟩;rintro i m σ H ⟨rfl,hi,p⟩;by_cases hlt:i<x.cps.size
 .refine .inr ⟨hlt,Pv (i+1),λσ' H' p'=>⟨x.cps.size-(i+1),by omega,rfl,hlt,p'⟩,λv H' y=>?_⟩;obtain⟨e,c,hc,y⟩:=y;subst e y;exact hs i c σ _ hc p
 .have e:i=x.cps.size:=by omega
  subst e;exact .inl ⟨rfl,hd σ H p⟩
theorem FK{x:Str}{tc:TT}{te:TE}{cv:St}{Fin:List V->Hp->Prop}{H1:Hp}(Pv:Nat->List V->Hp->Prop)(h0:Pv 0 [] H1)(hz:∀i ys H,i<x.cps.size->Pv i ys H->ys.length<I0)
  (hs:∀i c ys H,x.cps[i]?=some c->Pv i ys H->tc (some (.str ⟨#[c]⟩)::cv) H λb H3=>if b=true then te (some (.str ⟨#[c]⟩)::cv) H3 λy H4=>Pv (i+1) (ys++[y]) H4 else Pv (i+1) ys H3)
  (hd:∀ys H,Pv x.cps.size ys H->Fin ys H):gLC (Its x) (bA 0) tc te 1 cv Fin H1:=by
 refine C2 ⟨λi m ys H=>m=x.cps.size-i/\i<=x.cps.size/\Pv i ys H,⟨x.cps.size,by simp,Jw _,h0⟩,?_⟩;rintro i m ys H ⟨rfl,hi,p⟩;by_cases hlt:i<x.cps.size
 .refine .inr ⟨hlt,hz i ys H hlt p,Pv (i+1),λys' H' p'=>⟨x.cps.size-(i+1),by omega,rfl,hlt,p'⟩,λv H' y=>?_⟩;obtain⟨e,c,hc,y⟩:=y;subst e y;exact hs i c ys _ hc p
 .have e:i=x.cps.size:=by omega
  subst e;exact .inl ⟨rfl,hd ys H p⟩

section
variable {X:Cx}
theorem BB{v:IE}{o:Option Int}(p:IsPart v o):∃l:Option (Int×Tok),v=partValue l/\o=l.map (·.1):=by
 cases p with
 |none=>exact⟨none,rfl,rfl⟩
 |int i t=>exact⟨some (i,t),rfl,rfl⟩
theorem kH:SlR X (λx lo hi H Q=>∃z,x=.str z/\z.length<=I0/\Q (.str (Txt.slice z lo hi)) H):=by
 intro pins s σ H x v vl vu lo hi sl Q I r hs pl pu h;obtain⟨z,rfl,hz,q⟩:=h;obtain⟨t,rfl⟩:=r;obtain⟨l,rfl,rfl⟩:=BB pl;obtain⟨u,rfl,rfl⟩:=BB pu;exact⟨"str",_,F.slot_str_getitem.lookup,Mt _ _ _,wpAny_getItem_str_slice (l:=l) (u:=u) (st:=none) hs rfl
  (post_val_or_str ⟨JC (Txt.slice_le z _ _) hz,λt' k=>⟨.str (Txt.slice z _ _),H,I.tok k,⟨t',rfl⟩,q⟩⟩)⟩
inductive yS(x:V)(y:V)(H:Hp)(Q:VK):Prop
 |mk(z n)(_:x=.str z)(_:y=.int n)(_:MulOk z n)(_:Q (.str (Txt.mul z n)) H)
theorem oP:OpR X (K8 .Mult) yS:=by
 intro pins s σ H x y v u Q I rx ry h;obtain⟨z,n,rfl,rfl,hm,q⟩:=h;obtain⟨t,rfl⟩:=rx;obtain⟨t',rfl⟩:=ry;exact SB.mul hm λt'' k=>⟨.str _,H,I.tok k,⟨t'',rfl⟩,q⟩
theorem vH:∀(l:List (Str×Tok)),bo ((l.map (·.1)).map V.str) (strValues l)
 |[]=>.nil
 |p::r=>.cons ⟨p.2,rfl⟩ (vH r)
inductive Ag(x:V)(xs:List V)(H:Hp)(Q:VK):Prop
 |mk(z c)(_:x=.str z)(_:xs=[.str ⟨#[c]⟩])(_:z.length+2<=I0)(_:∀p,H p=none->Q (.ref p) (upd H p (.lst ((Txt.split z ⟨#[c]⟩).map V.str))))
theorem BC:MtR X "str.split" Ag:=by
 intro pins s σ H x xs v us Q I rx r h;obtain⟨z,c,rfl,rfl,hz,q⟩:=h;obtain⟨t,rfl⟩:=rx;obtain⟨w',rfl,u,rfl⟩:=iW r;have hy:((⟨#[c]⟩:Str).length==0)=false:=rfl;have len:=split_le z ⟨#[c]⟩;have new:∀(l:List (Str×Tok))(k:Nat),l.map (·.1)=Txt.split z ⟨#[c]⟩->EP X pins σ Q (.ref s.heap.objs.size) { s with heap:=s.heap.push { cls:=.type "list",data:=.seq (strValues l).toArray },toks:=k }:=λl k e =>
  ⟨.ref _,_,I.lnew (t':=k) (vH l) (by rw[e,Iz];exact JC len hz),rfl,by rw[e];exact q _ I.fresh⟩
 cases h1:(decide (z.length<(⟨#[c]⟩:Str).length)||decide (Builtin.Str.strKind z<Builtin.Str.strKind ⟨#[c]⟩))
 .cases hf:(J4 z ⟨#[c]⟩ 0 z.length (z.length+1)).isEmpty
  .have e1:Txt.split z ⟨#[c]⟩=Builtin.Str.partsBetween z (J4 z ⟨#[c]⟩ 0 z.length (z.length+1)) (⟨#[c]⟩:Str).length:=
    (if_neg (ne_true_of_eq_false h1)).trans (if_neg (ne_true_of_eq_false hf))
   refine Ly MJ (Mt _ _ _) MD (Mu _ _) (meets_str_split_sep z ⟨#[c]⟩ t u h1 hy hf (by omega) (by rw[<-e1];omega)) ?_;show wants _ _ _ { s with toks:=_,heap:=s.heap.push { cls:=.type "list",data:=.seq (strsFrom s.toks (Builtin.Str.partsBetween z (J4 z ⟨#[c]⟩ 0 z.length (z.length+1)) (⟨#[c]⟩:Str).length)).toArray } };rw[strsFrom_eq];exact new _ _ ((numbered_texts _ _).trans e1.symm)
  .exact Ly MJ (Mt _ _ _) MD (Mu _ _) (meets_str_split_not_found z ⟨#[c]⟩ t u h1 hy hf)
    (new [(z,t)] _ ((if_neg (ne_true_of_eq_false h1)).trans (if_pos hf)).symm)
 .exact Ly MJ (Mt _ _ _) MD (Mu _ _) (meets_str_split_cannot_occur z ⟨#[c]⟩ t u h1)
   (new [(z,t)] _ (if_pos h1).symm)
theorem Ah{ys:List Str}:∀{us:List IE},bo (ys.map V.str) us->StrsAre us ys:=by
 induction ys with
 |nil=>intro us h;cases h;exact .nil
 |cons y ys ih =>
  intro us h;cases h with
  |cons r t =>
   obtain⟨tk,rfl⟩:=r;exact .cons y tk (ih t)
inductive C4(K:IC)(x:V)(xs:List V)(H:Hp)(Q:VK):Prop
 |mk(sep a ys)(_:x=.str sep)(_:xs=[.ref a])(_:SqL K H a (ys.map V.str))(_:sep.length<=16)(_:(ys.map (·.length)).sum+ys.length<=1048576)(_:Q (.str (Txt.join sep ys)) H)
theorem og:MtR X "str.join" (C4 X.K):=by
 intro pins s σ H x xs v us Q I rx r h;obtain⟨sep,a,ys,rfl,rfl,hS,h1,h2,q⟩:=h;obtain⟨t,rfl⟩:=rx;obtain⟨w',rfl,rfl⟩:=iW r;obtain⟨its,rv,p,hz⟩:=I.list hS;exact join_listW p.isList (Ah (by simpa using rv)) h1 h2 λt' k=>⟨.str _,H,I.tok k,⟨t',rfl⟩,q⟩
end
end L2

namespace Tl
open PySem PySem.Builtin PySem.Builtin.Str L2

abbrev tx(l:List Nat):Str:=⟨l.toArray⟩
theorem wT(s:Str):s=tx s.cps.toList:=by cases s;rfl
theorem eZ(a b:List Nat):tx a++tx b=tx (a++b):=by
 show(⟨a.toArray++b.toArray⟩:Str)=⟨(a++b).toArray⟩;rw[List.append_toArray]
theorem aV(l:List Nat):(tx l).length=l.length:=by show l.toArray.size=_;simp
theorem jm{a b:List Nat}(h:tx a=tx b):a=b:=by
 have e:a.toArray=b.toArray:=congrArg Str.cps h;have e2:=congrArg Array.toList e;simpa using e2
theorem BD(l:List Nat)(i:Nat):(tx l).cps[i]?=l[i]?:=by show l.toArray[i]?=_;simp
theorem zn(l:List Nat):(tx l).cps.size=l.length:=by show l.toArray.size=_;simp

def jv{α:Type}(l:List α)(lo hi:Option Int):List α:=(l.drop (HT.sIx l.length 0 lo)).take (HT.sIx l.length l.length hi-HT.sIx l.length 0 lo)
theorem sj(n d:Nat)(i:Int):max 0 (min (if i<0 then i+(n:Int)else i) (n:Int))=((HT.sIx n d (some i):Nat):Int):=by
 show _=(((if i<0 then(i+(n:Int)).toNat else min i.toNat n):Nat):Int);by_cases h:i<0
 .rw[if_pos h,if_pos h];omega
 .rw[if_neg h,if_neg h];omega
theorem qD(lo hi:Option Int)(n:Nat):strSliceIndices lo hi 1 n=MP ((HT.sIx n 0 lo:Nat):Int) ((HT.sIx n n hi:Nat):Int) 1:=by
 cases lo with
 |none =>
  cases hi with
  |none=>rfl
  |some j=>exact congrArg (λz=>MP 0 z 1) (sj n n j)
 |some i =>
  cases hi with
  |none=>exact congrArg (λz=>MP z (n:Int) 1) (sj n 0 i)
  |some j =>
   have a:=sj n 0 i;have b:=sj n n j;show MP (max 0 (min (if i<0 then i+(n:Int)else i) (n:Int))) (max 0 (min (if j<0 then j+(n:Int)else j) (n:Int))) 1=_;rw[a,b]
theorem f9(l:List Nat)(lo hi:Option Int):Txt.slice (tx l) lo hi=tx (jv l lo hi):=by
 have h1:=HT.sIx_le l.length 0 (Jw _) lo;have h2:=HT.sIx_le l.length l.length (IM _) hi;have ei:strSliceIndices lo hi 1 l.length=strSliceIndices (some ((HT.sIx l.length 0 lo:Nat):Int)) (some ((HT.sIx l.length l.length hi:Nat):Int)) 1 l.length:=by
  rw[qD lo hi,qD (some _) (some _),HT.sIx_nat,HT.sIx_nat,Mc h1,Mc h2]
 have e:Txt.slice (tx l) lo hi=StrLaws.sliceText (tx l) (some ((HT.sIx l.length 0 lo:Nat):Int)) (some ((HT.sIx l.length l.length hi:Nat):Int)):=by
  unfold Txt.slice StrLaws.sliceText;rw[aV,ei]
 by_cases hab:HT.sIx l.length 0 lo<=HT.sIx l.length l.length hi
 .rw[e,StrLaws.sliceText_nat (tx l) hab (by rw[aV];exact h2)];rfl
 .have e0:strSliceIndices lo hi 1 (tx l).length=[]:=by
   rw[aV,qD];unfold MP;simp only[show(1:Int)>0 by decide,if_true];rw[if_neg (by omega)];rfl
  unfold Txt.slice;rw[e0];have hne:¬ (((1:Int)==1&&([]:List Nat).length==(tx l).length)=true):=by
   rw[aV];intro h;have:0=l.length:=by simpa using h
   omega
  rw[if_neg hne];unfold jv;rw[Nat.sub_eq_zero_of_le (by omega),M6];rfl
theorem cut_to{α:Type}(l:List α)(j:Nat):jv l none (some (j:Int))=l.take j:=by
 unfold jv;rw[HT.sIx_none,HT.sIx_nat,List.drop_zero,Nat.sub_zero];by_cases h:j<=l.length
 .rw[Mc h]
 .rw[Nat.min_eq_right (by omega),Kp (IM _),Kp (by omega)]
theorem cut_from{α:Type}(l:List α)(i:Nat):jv l (some (i:Int)) none=l.drop i:=by
 unfold jv;rw[HT.sIx_none,HT.sIx_nat];by_cases h:i<=l.length
 .rw[Mc h,Kp (by rw[Lh];exact IM _)]
 .rw[Nat.min_eq_right (by omega),Nat.sub_self,M6,K5 (by omega)]
def oQ{α:Type}(l:List α)(n:Nat):List α:=(IN n l).flatten
theorem mR{α:Type}(l:List α)(n:Nat):oQ l (n+1)=l++oQ l n:=by unfold oQ;rw[JD,KO]
theorem xI(l:List Nat):∀(n:Nat)(acc:List Nat),(IN n l.toArray).foldl (·++·) acc.toArray=(acc++oQ l n).toArray
 |0,acc=>by simp[oQ]
 |n+1,acc=>by
  rw[JD,MZ,List.append_toArray,xI l n,mR,IT]
theorem BE(l:List Nat)(n:Nat):Txt.mul (tx l) (n:Int)=tx (oQ l n):=by
 unfold Txt.mul;by_cases h1:(n:Int)<1
 .have e:n=0:=by omega
  subst e;rw[if_pos h1];rfl
 .rw[if_neg h1];by_cases h2:((n:Int)==1||(tx l).length==0)=true
  .rw[if_pos h2];rcases Bool.or_eq_true _ _▸h2 with h|h
   .have e:n=1:=by have:=Nr h;omega
    subst e;rw[mR];simp[oQ]
   .have e:l=[]:=by
     have:=Nr h;rw[aV]at this;exact List.eq_nil_of_length_eq_zero this
    subst e;have:∀k,oQ ([]:List Nat) k=[]:=λk=>by
     induction k with
     |zero=>rfl
     |succ k ih=>rw[mR,ih];rfl
    rw[this]
  .rw[if_neg h2];have:=xI l n [];have e:((n:Int)).toNat=n:=by omega
   rw[e];show(⟨(IN n l.toArray).foldl (·++·) #[]⟩:Str)=_;rw[show(#[]:Array Nat)=([]:List Nat).toArray from rfl,this,M0]
theorem sO{l:List Nat}{n:Nat}(h1:n<=100000)(h2:l.length<=100):MulOk (tx l) (n:Int):=by
 have hb:l.length*n<=10000000:=by
  have:=Nat.mul_le_mul h2 h1;omega
 refine⟨?_,λ_ _=>?_,λ_ _=>?_⟩
 .rw[decide_eq_false (by omega),decide_eq_false (by omega)];rfl
 .rw[aV];have:(100:Int)<=(2^63-1)/(n:Int):=by
   by_cases e:n=0
   .omega
   .exact(Int.le_ediv_iff_mul_le (by omega)).mpr (by omega)
  omega
 .rw[aV];unfold tooLong;have e:((n:Int)).toNat=n:=by omega
  rw[e];exact decide_eq_false (by show ¬ (_>16777216);omega)

def bB(c:Nat):List Nat->List (List Nat)
 |[]=>[[]]
 |x::r=>if x=c then[]::bB c r else match bB c r with
  |[]=>[[x]]
  |p::ps=>(x::p)::ps
theorem gQ(c x:Nat)(r:List Nat):bB c (x::r)=if x=c then[]::bB c r else match bB c r with
  |[]=>[[x]]
  |p::ps=>(x::p)::ps:=rfl
theorem vI(c:Nat):∀l,bB c l≠[]
 |[]=>by simp[bB]
 |x::r=>by
  unfold bB
  split
  .simp
  .split<;>simp
def df(sep:List Nat):List (List Nat)->List Nat
 |[]=>[]
 |[x]=>x
 |x::y::r=>x++sep++df sep (y::r)
theorem oh(sep:List Nat):∀ps:List (List Nat),Txt.join (tx sep) (ps.map tx)=tx (df sep ps):=by
 have go:∀ps:List (List Nat),NJ (tx sep) (ps.map tx)=tx (df sep ps):=by
  intro ps;induction ps with
  |nil=>rfl
  |cons x r ih =>
   cases r with
   |nil=>rfl
   |cons y r =>
    show tx x++tx sep++NJ (tx sep) (tx y::r.map tx)=_;rw[show NJ (tx sep) (tx y::r.map tx)=tx (df sep (y::r))from ih,eZ,eZ];rfl
 intro ps;show glued (tx sep) (ps.map tx)=_;rw[StrLaws.glued_eq_join];exact go ps
theorem sP(c:Nat):∀ps:List (List Nat),ps≠[]->(∀p∈ps,c∉p)->bB c (df [c] ps)=ps:=by
 have one:∀p:List Nat,c∉p->bB c p=[p]:=by
  intro p;induction p with
  |nil=>intro _;rfl
  |cons x r ih =>
   intro h;have hx:x≠c:=λe=>h (by rw[e];exact IL);rw[gQ,if_neg hx,ih λz=>h (IH _ z)]
 have app:∀(p:List Nat)(l:List Nat),c∉p->bB c (p++c::l)=p::bB c l:=by
  intro p l;induction p with
  |nil =>
   intro _;show bB c (c::l)=_;rw[gQ,if_pos rfl]
  |cons x r ih =>
   intro h;have hx:x≠c:=λe=>h (by rw[e];exact IL);show bB c (x::(r++c::l))=_;rw[gQ,if_neg hx,ih λz=>h (IH _ z)]
 intro ps;induction ps with
 |nil=>intro h;exact absurd rfl h
 |cons x r ih =>
  intro _ h;cases r with
  |nil=>exact one x (h x IL)
  |cons y r =>
   show bB c (x++[c]++df [c] (y::r))=_;rw[IT,show[c]++df [c] (y::r)=c::df [c] (y::r)from rfl,app _ _ (h x IL),ih (by simp) λp hp=>h p (IH _ hp)]
theorem C5(l:List Nat)(c:Nat):Txt.split (tx l) ⟨#[c]⟩=(bB c l).map tx:=by
 have h1:=StrLaws.join_split (tx l) ⟨#[c]⟩;have h2:=StrLaws.split_free (tx l) c;have h3:=PyProof.Rows.split_pos (tx l) ⟨#[c]⟩;obtain⟨ps,e⟩:∃ps:List (List Nat),Txt.split (tx l) ⟨#[c]⟩=ps.map tx:=⟨(Txt.split (tx l) ⟨#[c]⟩).map (λs=>s.cps.toList),by
  rw[Ki];exact(List.map_id' _).symm.trans (Mg λs _=>wT s)⟩
 rw[e]at h1 h2 h3;have e2:df [c] ps=l:=by
  have:=oh [c] ps;have h4:Txt.join (tx [c]) (ps.map tx)=NJ (tx [c]) (ps.map tx):=StrLaws.glued_eq_join _ _;rw[h4]at this;exact jm (this.symm.trans h1)
 have hne:ps≠[]:=by
  intro z;rw[z]at h3;simp at h3
 rw[e,<-e2,sP c ps hne λp hp=>?_];have:=h2 (tx p) (KB hp);simpa using this
theorem ut(l:List Nat)(c:Nat):(!(occurrences (tx l) ⟨#[c]⟩ 0 (tx l).length 1).isEmpty)=decide (c∈l):=by
 have:=StrLaws.found_one (tx l) c;rw[this]
end Tl

namespace L2
open PySem PySem.Spec PyProof.Rows

def Id(K:IC)(T:String)(x:V)(H:Hp)(b:Bool):Prop:=match x with
 |.non=>b=false
 |.bl _=>b=(T == "bool" || T == "int")
 |.int _=>b=(T == "int")
 |.str _=>b=(T == "str")
 |.ref p=>((∃xs,SqL K H p xs)/\b=(T == "list"))\/((∃xs,SqT K H p xs)/\b=(T == "tuple"))
 |_=>False
section
variable {X:Cx}
inductive BF(K:IC)(xs:List V)(H:Hp)(Q:VK):Prop
 |mk(x T b)(_:xs=[x,.ty T])(_:T = "bool"\/T = "int"\/T = "str"\/T = "tuple"\/T = "list")(_:Id K T x H b)(_:Q (.bl b) H)
theorem cX:ii X (.builtin "isinstance") (BF X.K):=by
 intro pins s σ H xs us Q I r h;obtain⟨x,T,b,rfl,hT,hv,q⟩:=h;obtain⟨u,w',rfl,r1,r2⟩:=wP r;cases r2;have no:b=false->EP X pins σ Q (.bool false) { s with toks:=s.toks+1 }:=λe=>⟨.bl false,H,I.tok _,rfl,e▸q⟩;have yes:b=true->EP X pins σ Q (.bool true) s:=λe=>⟨.bl true,H,I,rfl,e▸q⟩;cases x with
 |non =>
  cases r1;have hv':b=false:=hv;rcases hT with rfl|rfl|rfl|rfl|rfl
  .exact IsiPair.NoneType_bool (no hv')
  .exact IsiPair.NoneType_int (no hv')
  .exact IsiPair.NoneType_str (no hv')
  .exact IsiPair.NoneType_tuple (no hv')
  .exact IsiPair.NoneType_list (no hv')
 |bl c =>
  cases r1;rcases hT with rfl|rfl|rfl|rfl|rfl
  .exact IsiPair.bool_bool (yes (hv.trans (by decide)))
  .exact IsiPair.bool_int (yes (hv.trans (by decide)))
  .exact IsiPair.bool_str (no (hv.trans (by decide)))
  .exact IsiPair.bool_tuple (no (hv.trans (by decide)))
  .exact IsiPair.bool_list (no (hv.trans (by decide)))
 |int c =>
  obtain⟨t,rfl⟩:=r1;rcases hT with rfl|rfl|rfl|rfl|rfl
  .exact IsiPair.int_bool (no (hv.trans (by decide)))
  .exact IsiPair.int_int (yes (hv.trans (by decide)))
  .exact IsiPair.int_str (no (hv.trans (by decide)))
  .exact IsiPair.int_tuple (no (hv.trans (by decide)))
  .exact IsiPair.int_list (no (hv.trans (by decide)))
 |str c =>
  obtain⟨t,rfl⟩:=r1;rcases hT with rfl|rfl|rfl|rfl|rfl
  .exact IsiPair.str_bool (no (hv.trans (by decide)))
  .exact IsiPair.str_int (no (hv.trans (by decide)))
  .exact IsiPair.str_str (yes (hv.trans (by decide)))
  .exact IsiPair.str_tuple (no (hv.trans (by decide)))
  .exact IsiPair.str_list (no (hv.trans (by decide)))
 |ref p =>
  cases r1;rcases hv with⟨⟨xs,hq⟩,hb⟩|⟨⟨xs,hq⟩,hb⟩
  .obtain⟨its,_,p',_⟩:=I.list hq;obtain⟨o,n,e,c,_⟩:=p';rcases hT with rfl|rfl|rfl|rfl|rfl
   .exact IsiPair.list_bool e c (no (hb.trans (by decide)))
   .exact IsiPair.list_int e c (no (hb.trans (by decide)))
   .exact IsiPair.list_str e c (no (hb.trans (by decide)))
   .exact IsiPair.list_tuple e c (no (hb.trans (by decide)))
   .exact IsiPair.list_list e c (yes (hb.trans (by decide)))
  .obtain⟨its,_,p',_⟩:=I.tuple hq;obtain⟨o,e,c,_⟩:=p';rcases hT with rfl|rfl|rfl|rfl|rfl
   .exact IsiPair.tuple_bool e c (no (hb.trans (by decide)))
   .exact IsiPair.tuple_int e c (no (hb.trans (by decide)))
   .exact IsiPair.tuple_str e c (no (hb.trans (by decide)))
   .exact IsiPair.tuple_tuple e c (yes (hb.trans (by decide)))
   .exact IsiPair.tuple_list e c (no (hb.trans (by decide)))
 |byt c=>exact hv.elim
 |flt c=>exact hv.elim
 |ty c=>exact hv.elim
end

section
variable {X:Cx}
end
structure bO(K:IC)(mg:Str->Option IE)(x:Str)(st:Stmt)(ps:List Str)(f:Addr)(fd:IW):Prop where
 fn:Fun K x x st f fd
 bd:ij K fd ps []
 mg:mg x=some (.ref f)
 ba:∀us:List IE,us.length=ps.length->MI fd ⟨us,[]⟩=pure (ps.zip us)
section
variable {X:Cx}{x:Str}{st:Stmt}{ps:List Str}{f:Addr}{fd:IW}{k:Nat}{sp:Sp}{e:Expr}{es:List Expr}{t:TA}{p pos:Pos}
theorem aC(D:bO X.K X.mg x st ps f fd)(G:bi X.prog X.w X.K X.mg X.base CX0 k f fd ps sp)(hr:cA k X.A)(hg:Gl X x)(ha:PA X (e::es) t)(hd:(x==("__debug__" : Str))=false:=by decide)
  (he:Jn (e::es) X.env=(false,eval e X.env)::Jn es X.env:=by rfl)(hpl:(KF pos (Jn es X.env)).any (·.1)=false:=by rfl):PE X (.Call (.Name x p) (e::es) [] pos) (Aa sp [] E0 t):=zg G hr hg D.mg D.fn.kp D.bd .nil fI ha hd he hpl
theorem C6{K:IC}{h:Heap}{mg:Str->Option IE}(KX:K.In h)(G:h.Ns Jt mg){od an:Option Addr}{sl:Array (Option IE)}{oc kV dc pm cd ct:IE}(a:JP K Jt x=some (some (.ref f)))
  (l:K.lookup f=some ⟨oc,od,.func (J3 x x (cO st) (cx st) (aw st) .none kV dc pm an cd ct),sl⟩)(c:KZ K cd x=true)(k:Ko K (.ref f)=true)
  (b:∀(kV doc pm:IE)(an:Option Addr)(cdv ct:IE)(us:List IE),us.length=ps.length->MI (J3 x x (cO st) (cx st) (aw st) .none kV doc pm an cdv ct) ⟨us,[]⟩=pure (ps.zip us)) :
  bO K mg x st ps f (J3 x x (cO st) (cx st) (aw st) .none kV dc pm an cd ct):=
 ⟨ur l c k,(ur l c k).binds b,JN KX G a,λus hl=>b _ _ _ _ _ _ us hl⟩
end

theorem cy{t u:TS}{D:e9}{σ:St}{H:Hp}(Mid:St->Hp->Prop)(h2:∀σ' H',Mid σ' H'->u D σ' H')(h1:(∀σ' H',Mid σ' H'->u D σ' H')->t { D with nx:=u D } σ H):CJ t u D σ H:=h1 h2

section
variable {X:Cx}
inductive BG(K:IC)(xs:List V)(H:Hp)(Q:VK):Prop
 |mk(l:Addr)(bs:List Bool)(_:xs=[.ref l])(_:SqL K H l (bs.map V.bl))(_:Q (.bl (bs.all id)) H)
theorem C7(hc:X.calm=true):ii X (.builtin "all") (BG X.K):=by
 intro pins s σ H xs us Q I r h;obtain⟨l,bs,rfl,hl,q⟩:=h;obtain⟨u,rfl,ru⟩:=iW r;cases ru;obtain⟨its,rv,p,z⟩:=I.list hl;have hlt:l<s.heap.objs.size:=by obtain⟨_,_,e,_⟩:=p;exact IS e
 have len:=rv.length;refine call_all_walk (LH p.isList ?_);refine⟨s.heap.objs.size,[s.heap.objs.size,l],[s.heap.objs.size],its.toArray.size,_,_,λi=>(bs[i]?).getD true,rfl,Walks.list (A:=X.A.in1) (I.ok.hd hc) _ l (Jd hlt) its.toArray,
  ⟨⟨_,Jr _ rfl,rfl,rfl⟩,p.isList.push _⟩,λi v s' Q' E' hP hQ=>?_,λh' tk hk=>?_⟩
 .have hi:its[i]?=some v:=by simpa using hP
  have hlt2:i<bs.length:=by
   have:=(List.getElem?_eq_some_iff.mp hi).1;rw[Iz]at len;omega
  have eb:(bs.map V.bl)[i]?=some (V.bl bs[i]):=by rw[Jc,II hlt2];rfl
  obtain⟨w',hw,rw'⟩:=rv.get eb;rw[hi]at hw;cases hw;cases rw';have e2:(bs[i]?).getD true=bs[i]:=by rw[II hlt2];rfl
  have hQ2:Q' ((bs[i]?).getD true) s':=hQ;rw[e2]at hQ2;exact Kv hQ2
 .have e:((Kj its.toArray.size).all λi=>(bs[i]?).getD true)=bs.all id:=by
   have:its.toArray.size=bs.length:=by rw[Iz]at len;simp;omega
   rw[this];exact LSm.range_all bs
  rw[e];exact⟨.bl _,H,I.kept λb x e=>hk b x (λhm=>by rw[List.mem_singleton.mp hm]at e;exact J7 _ (IS e)) (IV _ e),rfl,q⟩

inductive yT(y:V)(x:V)(H:Hp)(Q:VK):Prop
 |mk(a o)(_:x=.ref a)(_:fD H a y o)(_:Q (.bl o.isSome) H)
theorem uu(hu:X.A.units+1<MV):OpR X (Kc .In) yT:=by
 intro pins s σ H y x u v Q I ry rx h;obtain⟨a,o,rfl,g,q⟩:=h;cases rx;exact Ia hu I g ry λs' I'=>⟨.bl _,H,I',rfl,q⟩
inductive uU(y:V)(x:V)(H:Hp)(Q:VK):Prop
 |mk(a o)(_:x=.ref a)(_:fD H a y o)(_:Q (.bl (!o.isSome)) H)
theorem kR(hu:X.A.units+1<MV):OpR X (Kc .NotIn) uU:=by
 intro pins s σ H y x u v Q I ry rx h;obtain⟨a,o,rfl,g,q⟩:=h;cases rx;exact Eo hu I g ry λs' I'=>⟨.bl _,H,I',rfl,q⟩
end

inductive DD where
 |bl (b:Bool)
 |int (i:Int)
 |str (s:Str)
 |tup (l:List DD)
 |lst (l:List DD)
mutual
def DD.deep:DD->Nat
 |.bl _=>0
 |.int _=>0
 |.str _=>0
 |.tup l=>d9 l+1
 |.lst l=>d9 l+1
def d9:List DD->Nat
 |[]=>0
 |d::r=>max d.deep (d9 r)
end
mutual
def Rep(K:IC)(H:Hp):DD->V->Prop
 |.bl b,v=>v=.bl b
 |.int i,v=>v=.int i
 |.str s,v=>v=.str s
 |.tup l,v=>∃a xs,v=.ref a/\SqT K H a xs/\l.length<=1000/\cc K H l xs
 |.lst l,v=>∃a xs,v=.ref a/\SqL K H a xs/\l.length<=1000/\cc K H l xs
def cc(K:IC)(H:Hp):List DD->List V->Prop
 |[],xs=>xs=[]
 |d::l,xs=>∃x r,xs=x::r/\Rep K H d x/\cc K H l r
end
theorem cc.len{K:IC}{H:Hp}:∀{l:List DD}{xs:List V},cc K H l xs->xs.length=l.length
 |[],xs,h=>by
  unfold cc at h;rw[h];rfl
 |d::l,xs,h=>by
  unfold cc at h;obtain⟨x,r,rfl,_,h⟩:=h;rw[ID,ID,h.len]
theorem cc.get{K:IC}{H:Hp}:∀{l:List DD}{xs:List V}{i:Nat}{d:DD},cc K H l xs->l[i]?=some d->∃x,xs[i]?=some x/\Rep K H d x
 |[],_,_,_,_,e=>by simp at e
 |d::l,xs,0,d',h,e=>by
  unfold cc at h;obtain⟨x,r,rfl,hx,h⟩:=h;have:d=d':=by simpa using e
  subst this;exact⟨x,rfl,hx⟩
 |d::l,xs,i+1,d',h,e=>by
  unfold cc at h;obtain⟨x,r,rfl,hx,h⟩:=h;obtain⟨y,ey,hy⟩:=h.get (i:=i) (by simpa using e);exact⟨y,by simpa using ey,hy⟩
theorem qE:∀{l:List DD}{i:Nat}{d:DD},l[i]?=some d->d.deep<=d9 l
 |[],_,_,e=>by simp at e
 |d::l,0,d',e=>by
  have:d=d':=by simpa using e
  subst this;unfold d9;exact Nat.le_max_left _ _
 |d::l,i+1,d',e=>by
  have:=qE (l:=l) (i:=i) (by simpa using e);unfold d9;exact JC this (Nat.le_max_right _ _)
inductive xJ(K:IC)(n:Nat)(vs:List V)(H:Hp)(Q:VK)(x_1:XK):Prop
 |mk(d x y)(_:vs=[x,y])(_:d.deep<n)(_:Rep K H d x)(_:Rep K H d y)(_:Q (.bl true) H)

def uV(P:Jk)(w:Jo)(K:IC)(a:Addr)(kvs:List (Key×V)):Prop:=(a==Kn)=false/\∃o vs,K.lookup a=some o/\KV kvs vs/\o.IsDictOf (bR P w) vs
section
variable {X:Cx}{o i:Expr}{pos:Pos}{td ty:TE}
theorem Inv.modD{pins:List (Addr×Obj)}{σ:St}{H:Hp}{s:IG}(I:Inv X pins σ H s){a:Addr}{kvs:List (Key×V)}(m:uV X.prog X.w X.K a kvs):∃vs,KV kvs vs/\s.heap.DictOf (bR X.prog X.w) a vs:=by
 obtain⟨_,o,vs,hk,r,d⟩:=m;exact⟨vs,r,Heap.dictOf_iff.mpr ⟨o,I.kIn a o hk,d⟩⟩
theorem vJ:OpR X (Kc .In) (λy x H Q=>∃a kvs k,x=.ref a/\uV X.prog X.w X.K a kvs/\y=kV k/\Q (.bl (dh kvs k).isSome) H):=by
 intro pins s σ H y x u v Q I ry rx h;obtain⟨a,kvs,k,rfl,m,rfl,q⟩:=h;cases rx;obtain⟨vs,rel,dd⟩:=I.modD m;refine wpAny_in_of (oM ry) m.1 dd.mapOf ?_;rw[<-(rel.val k).isSome_eq];exact⟨.bl _,H,I.tok _,rfl,q⟩
inductive Er(P:Jk)(w:Jo)(K:IC)(Q:VK)(x:V)(y:V)(H2:Hp):Prop
 |mk(a kvs k v)(_:x=.ref a)(_:uV P w K a kvs)(_:y=kV k)(_:dh kvs k=some v)(_:Q v H2)
def FL(P:Jk)(w:Jo)(K:IC)(td ty:TE):TE:=λσ H Q=>td σ H λx H1=>ty σ H1 (Er P w K Q x)
theorem xK(ho:PE X o td)(hi:PE X i ty)(hs:CY i):PE X (.Subscript o i pos) (FL X.prog X.w X.K td ty):=by
 intro pins s σ H Q I h;refine zm PySem.F.slot_dict_getitem.lookup hs (thn (ho pins s σ H _ I h) λu s1 ⟨x,H1,I1,rx,q1⟩=>thn (hi pins s1 σ H1 _ I1 q1) λiv s2 ⟨y,H2,I2,ry,a,kvs,k,v,ex,m,ey,l,q2⟩=>?_);subst ex ey;obtain rfl:u=JE a:=rx;obtain⟨vs,rel,dd⟩:=I2.modD m;obtain⟨w',hw,rw'⟩:=il.some_of (v:=v) (o:=MO vs k) (by rw[<-l];exact rel.val k);exact⟨dd.mapOf.typeIs,wpAny_getItem_of (oM ry) dd.mapOf hw ⟨v,H2,I2.tok _,rw',q2⟩⟩
end

def CXe(P:Jk)(w:Jo):CXT:=λouter H s E e s' =>
 ∃(x C:Addr)(H':Hp)(B:Heap)(a0:IE),e=.ref x/\s'.os=s.os/\LU s'.gens/\Un (frs outer) [] H H' s.heap s'.heap/\HOk P w H' B/\
  (∀b o,s.heap.get? b=some o->H b=none->b∉frs outer->B.get? b=some o)/\(∀b o,s.heap.get? b=some o->b∉frs outer->∃o',B.get? b=some o')/\
  MQ B outer x (.ref C) a0 s'.heap/\E (.ref C) none H'
def FM(X:Cx)(E:XK):Prop:=∀(pins:List (Addr×Obj))(σ:St)(H:Hp)(s:IG)(x C:Addr)(vs:List IE)(h':Heap),Inv X pins σ H s->Heap.MadeExcOf s.heap h' x (.ref C) vs->E (.ref C) none H->X.xe (.ref x) { s with heap:=h' }
theorem zo{env:Env}{l:List Env}{b L:Addr}(hf:env.frame=some L)(h:b∈frs (env::l)):b=L\/b∈frs l:=by
 unfold frs at h;rw[KA,hf]at h;exact List.mem_cons.mp h
theorem Es(l:List Env):∀env∈l,∀a,env.frame=some a->a∈frs l:=λenv he a hf=>List.mem_filterMap.mpr ⟨env,he,hf⟩
section
variable {P:Jk}{w:Jo}{K:IC}{mg:Str->Option IE}{base:Heap}{N:List Str}{qual:Str}{scope:Scope}{f:Addr}{cd:IE}{A:JF}{outer:List Env}{s:IG}{H:Hp}{E:XK}
theorem oj:FM (lT (CXe P w) P w K mg base N qual scope f cd A outer s H E) E:=by
 intro pins σ H1 s1 x C vs h' I hx ee;have hfr:(Kr qual scope s.heap.objs.size f cd).frame=some (Kr qual scope s.heap.objs.size f cd).locals:=rfl;have hst:=I.stack;have hfree:=I.stkFree;have hsub:=I.stkSub;show Ju (Jv P w) (A.deeper (Kr qual scope s.heap.objs.size f cd)) (leaving (Kr qual scope s.heap.objs.size f cd) (.ref x)) (λ_ s''=>CXe P w outer H s E (.ref x) s'') _ _;have hin:=Es (Kr qual scope s.heap.objs.size f cd::outer);have hff:s1.heap.FunFrames (Lr s1.heap (frs (Kr qual scope s.heap.objs.size f cd::outer))) (Kr qual scope s.heap.objs.size f cd::outer):=PySem.W.funFrames_hide hst hin;have notfr:∀b,b<s.heap.objs.size->b∉frs outer->b∉frs (Kr qual scope s.heap.objs.size f cd::outer):=λb hlt hb hm=>by
  rcases zo hfr hm with e|hm
  .exact absurd (Jl hlt I.ok.above) (by rw[e];exact J7 _)
  .exact hb hm
 refine wpAny_leaves_madeW (base:=Lr s1.heap (frs (Kr qual scope s.heap.objs.size f cd::outer))) (h:=s1.heap) I.ok.frames hfr (λb o q=>PySem.W.of_hideAll _ q) hff hx λh'' t x1 x2 x3 x4=>?_;have cov1:∀b o,s.heap.get? b=some o->H b=none->b∉frs outer->(Lr s1.heap (frs (Kr qual scope s.heap.objs.size f cd::outer))).get? b=some o:=λb o q n hb =>
  Ll _ (I.base.keep b o q n hb (show b∉([]:List Addr) by simp)) (notfr b (IS q) hb)
 have cov2:∀b o,s.heap.get? b=some o->b∉frs outer->∃o',(Lr s1.heap (frs (Kr qual scope s.heap.objs.size f cd::outer))).get? b=some o':=λb o q hb=>by
  obtain⟨o',e⟩:=I.base.there b o q (show b∉([]:List Addr) by simp);exact⟨o',Ll _ e (notfr b (IS q) hb)⟩
 have slot:∀b,b∈frs outer->∀o,s1.heap.get? b=some o->∃sl,h''.get? b=some { o with slots:=sl }:=λb hb o q=>by
  have hm:b∈frs (Kr qual scope s.heap.objs.size f cd::outer):=by
   unfold frs;rw[KA,hfr];exact IH _ hb
  obtain⟨_,o2,e2,nd⟩:=hff.mem hm;rw[q]at e2;cases e2;exact x4 b o (hx.keeps b o q) nd
 refine⟨x,C,H1,_,_,rfl,I.os,I.bare,⟨λb o q n hb _=>x1.1 b o (cov1 b o q n hb),λb o q n hb hx'=>?_,I.base.free,λb o q _=>?_,I.base.tups,I.base.frzs,I.base.tbls⟩,λb ob e=>?_,cov1,cov2,x1,ee⟩
 .obtain⟨sl,e1⟩:=I.base.slot b o q n hb hx';obtain⟨sl2,e2⟩:=slot b hb _ e1;exact⟨sl2,e2⟩
 .by_cases hb:b∈frs outer
  .obtain⟨o',e⟩:=I.base.there b o q (show b∉([]:List Addr) by simp);obtain⟨sl2,e2⟩:=slot b hb _ e;exact⟨_,e2⟩
  .obtain⟨o',e⟩:=cov2 b o q hb;exact⟨o',x1.1 b o' e⟩
 .refine(I.hok b ob e).stay (λc v hc q=>Ll _ q λhm=>?_) (λ_ q=>q) λ_ _ q=>q;have z:=hfree c hm;rcases hc with rfl|hc
  .rw[e]at z;cases z
  .rw[hc]at z;cases z
theorem gi:gh (CXe P w) (lT (CXe P w) P w K mg base N qual scope f cd A outer s H E) E:=by
 intro pins σ H1 s1 e s' I h;obtain⟨x,C,H',B,a0,rfl,os,bare,un,hok,cov1,cov2,fl,ee⟩:=h;have hfr:(Kr qual scope s.heap.objs.size f cd).frame=some (Kr qual scope s.heap.objs.size f cd).locals:=rfl;show Ju (Jv P w) (A.deeper (Kr qual scope s.heap.objs.size f cd)) (leaving (Kr qual scope s.heap.objs.size f cd) (.ref x)) (λ_ s''=>CXe P w outer H s E (.ref x) s'') _ _;have notfr:∀b,b<s.heap.objs.size->b∉frs outer->b∉frs (Kr qual scope s.heap.objs.size f cd::outer):=λb hlt hb hm=>by
  rcases zo hfr hm with e|hm
  .exact absurd (Jl hlt I.ok.above) (by rw[e];exact J7 _)
  .exact hb hm
 refine wpAny_leaves_onW I.ok.frames hfr fl λh'' f2 up=>?_;have c1:∀b o,s.heap.get? b=some o->H b=none->b∉frs outer->B.get? b=some o:=λb o q n hb =>
  cov1 b o (I.base.keep b o q n hb (show b∉([]:List Addr) by simp)) (I.base.free b o q n (show b∉([]:List Addr) by simp)) (notfr b (IS q) hb)
 have c2:∀b o,s.heap.get? b=some o->b∉frs outer->∃o',B.get? b=some o':=λb o q hb=>by
  obtain⟨o',e⟩:=I.base.there b o q (show b∉([]:List Addr) by simp);exact cov2 b o' e (notfr b (IS q) hb)
 have fm:∀b,b∈frs outer->b∈frs (Kr qual scope s.heap.objs.size f cd::outer):=λb hb=>by
  unfold frs;rw[KA,hfr];exact IH _ hb
 refine⟨x,C,H',B,a0,rfl,os.trans I.os,bare,⟨λb o q n hb _=>f2.1 b o (c1 b o q n hb),λb o q n hb hx'=>?_,λb o q n hx'=>?_,λb o q _=>?_,λb xs q=>un.tups b xs (I.base.tups b xs q),λb o u q=>un.frzs b o u (I.base.frzs b o u q),λb ps q=>?_⟩,hok,c1,c2,f2,ee⟩
 .obtain⟨sl,e1⟩:=I.base.slot b o q n hb hx';obtain⟨sl2,e2⟩:=un.slot b _ e1 (I.base.free b o q n hx') (fm b hb) (by simp);obtain⟨_,o3,e3,nd⟩:=fl.2.2.1.mem (fm b hb);rw[e2]at e3;cases e3;obtain⟨sl3,e4⟩:=up b _ e2 nd;exact⟨sl3,e4⟩
 .obtain⟨o',e⟩:=I.base.there b o q hx';exact un.free b o' e (I.base.free b o q n hx') (by simp)
 .by_cases hb:b∈frs outer
  .obtain⟨_,o3,e3,_⟩:=f2.2.2.1.mem hb;exact⟨o3,e3⟩
  .obtain⟨o',e⟩:=c2 b o q hb;exact⟨o',f2.1 b o' e⟩
 .obtain⟨m1,e1⟩:=I.base.tbls b ps q;obtain⟨m2,e2⟩:=un.tbls b _ e1;exact⟨m1++m2,by rw[e2,Mo]⟩
end

abbrev qF:List IE:=[.type "ValueError",.type "Exception",.type "BaseException",.type "object"]
structure sk(K:IC)(mg:Str->Option IE)(c:Str)(C:Addr):Prop where
 mg:mg c=some (.ref C)
 ex:La K C qF "ValueError.__new__" = true
theorem Et{K:IC}{h:Heap}{C:Addr}{bmB:List IE}{newId:String}(X:K.In h)(q:La K C bmB newId=true) :
  ∃bm N nm q bs hdct sn sub ab col dd k0 k1 k2 k3 k5 mN,h.get? C=some (excClassObj nm q C N bs bm hdct sn sub ab col dd k0 k1 k2 k3 k5 newId)/\h.Ns N mN/\mN "__init__" = none/\OwnTail h bmB bm:=by
 unfold La at q
 split at q
 .rename_i dd cd sl ho
  split at q
  .rename_i C' bm k0 k1 k2 k3 n k5 hm hs
   simp only[Kt,beq_iff_eq,Bool.not_eq_true']at q;obtain⟨⟨⟨⟨⟨rfl,rfl⟩,hdel⟩,ht⟩,hok⟩,hni⟩:=q;obtain⟨nm,bs,mro,ns,qn,hd,sn,sub,ab,col,del⟩:=cd;dsimp only at hm hdel hok hni;subst hm hdel;have hsl:sl=#[k0,k1,k2,k3,some (.builtin n),k5]:=by
    obtain⟨l⟩:=sl;simp only at hs;rw[hs]
   subst hsl;exact⟨bm,ns,nm,qn,bs,hd,sn,sub,ab,col,dd,k0,k1,k2,k3,k5,_,X _ _ ho,.of_isNs (PySem.W.isNs_of_in X hok),PySem.W.nsMap_none_of_in X hok hni,PySem.W.tail_of_in X ht⟩
  .cases q
 .cases q
def FN(E:XK)(C:Addr)(t:TA):TS:=λ_ σ H=>t σ H λvs H1=>vs.length<=I0/\E (.ref C) none H1
section
variable {X:Cx}{E:XK}{c:Str}{C:Addr}{e:Expr}{es:List Expr}{t:TA}{np cpos pos:Pos}
theorem lV(hc:X.calm=true)(hw:FM X E)(O:sk X.K X.mg c C)(hg:Gl X c)(ha:PA X (e::es) t)(hd:(c==("__debug__" : Str))=false:=by decide)
  (he:Jn (e::es) X.env=(false,eval e X.env)::Jn es X.env:=by rfl)(hpl:(KF cpos (Jn es X.env)).any (·.1)=false:=by rfl) :
  PS X (.Raise (some (.Call (.Name c np) (e::es) [] cpos)) none pos) (FN E C t):=by
 intro pins s σ H D I h;obtain⟨bm,N,nm,q,bs,hdct,sn,sub,ab,col,dd,k0,k1,k2,k3,k5,mN,hC,hN,hni,T⟩:=Et I.ok.mod.kin O.ex;refine wpAny_Raise_call_subU (C:=C) (nm:=nm) (q:=q) (N:=N) (bs:=bs) (bm:=bm) (hdct:=hdct) (sn:=sn) (sub:=sub) (ab:=ab) (col:=col) (dd:=dd) (k0:=k0) (k1:=k1) (k2:=k2) (k3:=k3) (k5:=k5)
  PySem.F.excBase_ValueError (by decide +kernel) PySem.F.excBase_ValueError (mN:=mN) (T.hasType PySem.F.excBase_ValueError.hasBase) (I.ok.hd hc) (by rw[he];show(false||(KF cpos (Jn es X.env)).any (·.1))=false;rw[hpl];rfl) hni
  (jU I hg O.mg ⟨rfl,?_⟩ hd)
 have ha':=ha cpos pins s σ H _ I h;rw[he]at ha'⊢;refine LY (JX ha' (λvs s₂ h₂=>?_) λ_ _ y=>y);obtain⟨xs,H1,I1,r,hz,ee⟩:=h₂;exact⟨rfl,by rw[<-r.length];exact hz,I1.bk _ _ hC,hN.keeps I1.bk,T.keeps I1.bk,λh' x hm=>hw pins σ H1 s₂ x C _ h' I1 hm ee⟩
end
theorem Fun.okE{P:Jk}{w:Jo}{K:IC}{mg:Str->Option IE}{base:Heap}{x qual:Str}{st:Stmt}{f:Addr}{fd:IW}{N ps:List Str}{k:Nat}{sp:Sp}(F:Fun K x qual st f fd)(S:aN N ps (aw st))(len:∀vs H Q E,sp vs H Q E->vs.length=ps.length)
  (hbody:∀ (cdv:IE) (A:JF) (outer:List Env) (s:IG) (H:Hp) (vs:List V) (Q:VK) (E:XK),cA k (A.deeper (Kr qual (aw st) s.heap.objs.size f cdv))→sp vs H Q E →
   ∃t,PSs (lT (CXe P w) P w K mg base N qual (aw st) f cdv A outer s H E) (cx st) t/\t { nx:=λ_ H'=>Q .non H',rt:=Q } (jp N vs) H):bi P w K mg base (CXe P w) (k+1) f fd ps sp:=by
 obtain⟨oc,od,kV,doc,pm,an,cdv,ct,osl,rfl,lk,hcd⟩:=F.ex;exact Ab lk hcd S len λA outer s H vs Q E hr hsp=>hbody cdv A outer s H vs Q E hr hsp
abbrev Cx.marked(X:Cx)(v:IE):Cx:={ X with A:=X.A.mark (some v),calm:=false,xe:=λ_ _=>False }
theorem Inv.marked{X:Cx}{pins:List (Addr×Obj)}{σ:St}{H:Hp}{s:IG}(I:Inv X pins σ H s)(v:IE):Inv (X.marked v) pins σ H s:=
 ⟨⟨I.ok.mod,I.ok.kind,I.ok.glob,I.ok.blt,I.ok.above,I.ok.inj,I.ok.has,I.ok.cab,(λh=>nomatch h),I.ok.frames,I.ok.stk,I.ok.exf,I.ok.bs,I.ok.bsz,I.ok.noex,I.ok.exfs,I.ok.funs,I.ok.frf⟩,I.os,I.bare,I.base,I.loc,I.cell,I.free,I.freeC,I.pin,I.hok,I.len⟩
theorem Inv.unmarked{X:Cx}{pins:List (Addr×Obj)}{σ:St}{H:Hp}{s:IG}{v:IE}(I:Inv (X.marked v) pins σ H s)(hd:X.calm=true->X.A.handled=none):Inv X pins σ H s:=
 ⟨⟨I.ok.mod,I.ok.kind,I.ok.glob,I.ok.blt,I.ok.above,I.ok.inj,I.ok.has,I.ok.cab,hd,I.ok.frames,I.ok.stk,I.ok.exf,I.ok.bs,I.ok.bsz,I.ok.noex,I.ok.exfs,I.ok.funs,I.ok.frf⟩,I.os,I.bare,I.base,I.loc,I.cell,I.free,I.freeC,I.pin,I.hok,I.len⟩
theorem SP.unmarked{X:Cx}{pins:List (Addr×Obj)}{D:e9}{f:Flow}{s':IG}{v:IE}(hd:X.calm=true->X.A.handled=none)(h:SP (X.marked v) pins D f s'):SP X pins D f s':=by
 cases f with
 |next=>obtain⟨σ',H',I,q⟩:=h;exact⟨σ',H',I.unmarked hd,q⟩
 |brk=>obtain⟨σ',H',I,q⟩:=h;exact⟨σ',H',I.unmarked hd,q⟩
 |cont=>obtain⟨σ',H',I,q⟩:=h;exact⟨σ',H',I.unmarked hd,q⟩
 |ret u=>obtain⟨v,σ',H',I,r,q⟩:=h;exact⟨v,σ',H',I.unmarked hd,r,q⟩
def uv(K:IC)(C T:Addr):Prop:=PySem.W.exmOne K (.ref C) (.ref T)=some true
section
variable {X:Cx}{k:Nat}{f T:Addr}{fd:IW}{ps:List Str}{sp:Sp}{fx c:Str}{st:Stmt}{e:Expr}{es:List Expr}{t:TA}{b₀:Stmt}{suite:List Stmt}{th:TS}{np pf cpos apos hpos pos:Pos}
theorem FO{pins:List (Addr×Obj)}{σ:St}{H1 H':Hp}{s1 s2:IG}{D:e9}{x C:Addr}{B:Heap}{a0:IE}{E2:IE->IG->Prop}(I1:Inv X pins σ H1 s1)(hst:X.stack=X.env::X.outer/\X.env.frame=some X.env.locals)
  (os:s2.os=s1.os)(bare:LU s2.gens)(un:Un (frs X.stack) [] H1 H' s1.heap s2.heap)(hok:HOk X.prog X.w H' B)
  (cov1:∀b o,s1.heap.get? b=some o->H1 b=none->b∉frs X.stack->B.get? b=some o)(cov2:∀b o,s1.heap.get? b=some o->b∉frs X.stack->∃o',B.get? b=some o')(fl:MQ B X.stack x (.ref C) a0 s2.heap)
  (hg:Gl X c)(hm:X.mg c=some (.ref T))(tk:uv X.K C T)(hh:∀v,PSs (X.marked v) (b₀::suite) th)(q:th D σ H')(hd:(c==("__debug__" : Str))=false:=by decide) :
  Ju (Jv X.prog X.w) X.A (noteFrame (.ref x) X.env) (λ_ s₂=>Ju (Jv X.prog X.w) X.A (setFlight (.ref x) none) (λ_ s₃=>Ju (Jv X.prog X.w) X.A (handleBy (.ref x) X.env [.ExceptHandler (some (.Name c np)) none (b₀::suite) hpos]) (SP X pins D) E2 s₃) E2 s₂) E2 s2:=by
 have hfr:X.A.frames=some (X.env::X.outer):=hst.1▸I1.ok.frames
 -- the state behind, in any later heap that keeps B and the frames
 have after:∀h6:Heap,MQ B X.stack x (.ref C) a0 h6->s2.heap.UpToSlots h6->Inv X pins σ H' { s2 with heap:=h6 }:=λh6 fl6 up=>by
  refine I1.call' (ch:=[]) os ⟨λb o q n hb _=>fl6.1 b o (cov1 b o q n hb),λb o q n hb hx'=>?_,un.free,λb o q _=>?_,un.tups,un.frzs,un.tbls⟩ (hok.kept fl6.1) bare (λb z=>absurd z (by simp))
  .obtain⟨sl,e1⟩:=un.slot b o q n hb hx';obtain⟨_,o3,e3,nd⟩:=fl.2.2.1.mem hb;rw[e1]at e3;cases e3;obtain⟨sl3,e4⟩:=up b _ e1 nd;exact⟨sl3,e4⟩
  .by_cases hb:b∈frs X.stack
   .obtain⟨_,o3,e3,_⟩:=fl6.2.2.1.mem hb;exact⟨o3,e3⟩
   .obtain⟨o',e⟩:=cov2 b o q hb;exact⟨o',fl6.1 b o' e⟩
 rw[hst.1]at fl;refine wpAny_looks_onW hfr hst.2 fl λh₄ held up4=>?_;refine wpAny_landsW held λh₅ fl5 up5=>?_;have fl5':MQ B X.stack x (.ref C) a0 h₅:=hst.1▸fl5;have I5:=after h₅ fl5' (up4.trans up5);have I5m:=I5.marked (.ref x);refine wpAny_handleBy_cons (codeAny_handlers_test (jU (X:=X.marked (.ref x)) I5m hg hm ?_ hd)) (by intro q;cases q);obtain⟨ob,hob,hobc⟩:=fl5.there;have LT:PySem.W.Looks (Jv X.prog X.w) h₅ (typeOf (.ref x)) (.ref C):=by
  have z:PySem.W.Looks (Jv X.prog X.w) h₅ (typeOf (.ref x)) ob.cls:=(PySem.W.Looks.ld hob).andThen .now;rw[hobc]at z;exact z
 refine(PySem.W.exm_one (M:=Jv X.prog X.w) (I5.kIn) LT tk).here ?_;refine codeAny_handlers_suite ?_;refine lands_againW fl5 λh₆ fl6 up6=>?_;have I6:=after h₆ (hst.1▸fl6) ((up4.trans up5).trans up6);refine JX (hh (.ref x) pins _ σ H' D (I6.marked (.ref x)) q) (λfl s' h=>?_) λ_ _ z=>Ke z;exact h.unmarked I1.ok.hd

theorem C8{W:IE->IG->Prop}{pins:List (Addr×Obj)}{σ:St}{H:Hp}{s:IG}{Q:VK}{E:XK}(I:Inv X pins σ H s)(D:bO X.K X.mg fx st ps f fd)(G:bi X.prog X.w X.K X.mg X.base (CXe X.prog X.w) k f fd ps sp)(hr:cA k X.A)(hg:Gl X fx)
  (ha:PA (X.wish W) (e::es) t)(h:t σ H λvs H1=>sp (vs++[]) H1 Q E)(hW:∀H1 s1 e s2,Inv X pins σ H1 s1->CXe X.prog X.w X.stack H1 s1 E e s2->W e s2)
  (hd:(fx==("__debug__" : Str))=false:=by decide)(he:Jn (e::es) X.env=(false,eval e X.env)::Jn es X.env:=by rfl)(hpl:(KF cpos (Jn es X.env)).any (·.1)=false:=by rfl) :
  Ju (Jv X.prog X.w) X.A (eval (.Call (.Name fx pf) (e::es) [] cpos) X.env) (EP X pins σ Q) W s:=by
 have I':=I.wish W;refine KG (jU I hg D.mg ?_ hd);refine Lx (h₀:=X.base) I.ok.mod.kin D.fn.kp (thn (ha cpos pins s σ H _ I' h) λus s1 ⟨vs,H1,I1,r,q⟩=>⟨I1.kIn,?_⟩) he hpl;have r2:bo (vs++[]) (us++[]):=r.append .nil;have hl:(us++[]).length=ps.length:=by rw[<-r2.length];exact G.len _ _ _ _ q
 refine NB (Ml (G.run X.A X.stack s1 H1 ⟨us,[]⟩ (us++[]) (vs++[]) Q E hr I1.env0 (D.bd s1 us I1.kIn hl) r2 q) λr s' hq=>?_);cases r with
 |error ex=>exact hW H1 s1 ex s' I1.unwish hq
 |ok fl =>
  cases fl with
  |ret u=>exact I1.unwish.after hq
  |next=>exact Ke hq
  |brk=>exact Ke hq
  |cont=>exact Ke hq
def Eu(K:IC)(sp:Sp)(i:Nat)(t:TA)(T:Addr)(th:TS):TS:=λD σ H=>t σ H λvs H1=>sp (vs++[]) H1 (λv H2=>D.nx (σ.set i (some v)) H2) (λcls _ H2=>∃C,cls=.ref C/\uv K C T/\th D σ H2)
theorem Ai{i:Nat}{y:Str}{py:Pos}(hN:X.N.Nodup)(hi:X.N[i]?=some y)(hy:Loc X.env.scope y)(Df:bO X.K X.mg fx st ps f fd)(G:bi X.prog X.w X.K X.mg X.base (CXe X.prog X.w) k f fd ps sp)(hr:cA k X.A)(hgf:Gl X fx)
  (ha:∀W,PA (X.wish W) (e::es) t)(hgc:Gl X c)(O:sk X.K X.mg c T)(hst:X.stack=X.env::X.outer/\X.env.frame=some X.env.locals)(hh:∀v,PSs (X.marked v) (b₀::suite) th)
  (hs:LC (.Call (.Name fx pf) (e::es) [] cpos) (some (.Name y py)) apos.line X.env=pure false:=by rfl)(hf:X.fn y=true\/X.env.scope.names.lookup y=some .local:=by first|exact .inl rfl|exact .inr rfl|assumption)
  (hd:(fx==("__debug__" : Str))=false:=by decide)(hdc:(c==("__debug__" : Str))=false:=by decide)(he:Jn (e::es) X.env=(false,eval e X.env)::Jn es X.env:=by rfl)(hpl:(KF cpos (Jn es X.env)).any (·.1)=false:=by rfl) :
  PS X (.Try [.Assign [.Name y py] (.Call (.Name fx pf) (e::es) [] cpos) apos] [.ExceptHandler (some (.Name c np)) none (b₀::suite) hpos] [] [] pos) (Eu X.K sp i t T th):=by
 intro pins s σ H D I h;refine wpAny_Try_except (LP (My (thn (C8 I Df G hr hgf (ha _) h (λH1 s1 ex s2 I1 hx=>?_) hd he hpl) λv s1 ⟨y,H1,I1,r1,q1⟩=>?_) hs))
 .obtain⟨x,C,H',B,a0,rfl,os,bare,un,hok,cov1,cov2,fl,C',ec,tk,q⟩:=hx;cases ec;exact FO I1 hst os bare un hok cov1 cov2 fl hgc O.mg tk hh q hdc
 .exact oI I1 hN hi hy r1 (λs2 I2=>K7 (K7 ⟨_,H1,I2,q1⟩)) hf
end
end L2

set_option maxHeartbeats 4000000
namespace L2
open PySem PySem.Spec PyProof.Rows Tl

def PP(X:Cx)(v:Expr)(c:St->Prop):Prop:=∀(pins:List (Addr×Obj))(s:IG)(σ:St)(H:Hp)(Q:IE->IG->Prop),Inv X pins σ H s->c σ->(∀(y:Str)(t:Tok)(s':IG),y.length<=20000->Inv X pins σ H s'->Q (.str y t) s')->Ju (Jv X.prog X.w) X.A (eval v X.env) Q X.xe s
def PJ(X:Cx)(vs:List Expr)(c:St->Prop):Prop:=∀(pins:List (Addr×Obj))(s:IG)(σ:St)(H:Hp)(acc:Str)(Q:Str->IG->Prop),Inv X pins σ H s->c σ->acc.length+20000*vs.length<=1000000->(∀(z:Str)(s':IG),z.length<=1000000->Inv X pins σ H s'->Q z s')->Joins (Jv X.prog X.w) X.A X.xe (evalEach vs X.env) acc Q s
section
variable {X:Cx}
theorem qG:PJ X [] (λ_=>True):=λ_ s _ _ acc _ I _ ha q=>q acc s (by simpa using ha) I
theorem fq{v:Expr}{vs:List Expr}{c d:St->Prop}(h:PP X v c)(hr:PJ X vs d)(he:evalEach (v::vs) X.env=eval v X.env::evalEach vs X.env:=by rfl):PJ X (v::vs) (λσ=>c σ/\d σ):=by
 intro pins s σ H acc Q I hc ha q;rw[he];refine h pins s σ H _ I hc.1 λy t s' hy I'=>?_;have hl:(acc++y).length=acc.length+y.length:=strLen_append _ _;rw[ID]at ha;refine⟨y,t,rfl,?_,hr pins s' σ H (acc++y) Q I' hc.2 (by rw[hl];omega) q⟩;rw[hl];exact JC (show acc.length+y.length<=1000000 by omega) (by decide)
theorem kI{x:Str}{j pos}(hx:x.length<=20000:=by decide +kernel):PP X (.Constant (.str x) j pos) (λ_=>True):=λ_ s _ _ _ I _ q=>Lw (q x _ _ hx (I.tok _))
theorem Ev{pins:List (Addr×Obj)}{s:IG}{σ:St}{H:Hp}{Q:IE->IG->Prop}{y:Str}{t:Tok}(I:Inv X pins σ H s)(hy:y.length<=20000)(q:∀(y:Str)(t:Tok)(s':IG),y.length<=20000->Inv X pins σ H s'->Q (.str y t) s') :
  Ju (Jv X.prog X.w) X.A (formatField (.str y t) JV) Q X.xe s:=
 formatField_str (λt' tk=>q y t' _ hy (I.tok tk)) (JC hy (by decide))
theorem sr{i:Nat}{e:Expr}{pos:Pos}(he:PE X e (CI i)):PP X (.FormattedValue e 114 none pos) (λσ=>∃l:List Nat,σ[i]?=some (some (.str (tx l)))/\l.length<=1000/\∀c∈l,c<127):=by
 intro pins s σ H Q I hc q;obtain⟨l,hv,hl,hc⟩:=hc;refine wpAny_FormattedValue_repr (thn (he pins s σ H (λv H'=>v=.str (tx l)/\H'=H) I ⟨_,hv,rfl,rfl⟩) λu s1 ⟨x,H1,I1,r1,e1,e2⟩=>?_);subst e1 e2;obtain⟨t,rfl⟩:=r1;have hb:(reprText (tx l)).length<=20000:=by
  have:=StrLaws.reprText_len (tx l) (λc hm=>KP (hc c (by simpa using hm)) (by decide));have e1:(reprText (tx l)).cps.toList.length=(reprText (tx l)).length:=Lm;have e2:=aV l;have e3:(tx l).cps.toList.length=(tx l).length:=Lm;omega
 exact wpAny_pyReprObj_str (Ev (I1.tok _) hb q) (JC hb (by decide))
theorem FP{n:Int}{e:Expr}{pos:Pos}(he:PE X e (tC (.int n)))(hn:n.natAbs.log2<1920:=by decide)(hl:(toString n:Str).length<=20000:=by decide +kernel):PP X (.FormattedValue e (-1) none pos) (λ_=>True):=by
 intro pins s σ H Q I _ q;refine wpAny_FormattedValue_plain (thn (he pins s σ H (λv H'=>v=.int n/\H'=H) I ⟨rfl,rfl⟩) λu s1 ⟨x,H1,I1,r1,e1,e2⟩=>?_);subst e1 e2;obtain⟨t,rfl⟩:=r1;exact wpAny_formatField_int hn (q _ _ _ hl (I1.tok _))
def tFs(c:St->Prop):TE:=λσ H Q=>c σ/\∀z:Str,Q (.str z) H
theorem om{v v2:Expr}{vs:List Expr}{c:St->Prop}{pos:Pos}(h:PJ X (v::v2::vs) c)(hl:vs.length<=20:=by decide):PE X (.JoinedStr (v::v2::vs) pos) (tFs c):=by
 intro pins s σ H Q I hw;refine wpAny_JoinedStr (h pins s σ H _ _ I hw.1 (by show 0+_<=_;simp only[ID];omega) λz s' hz I'=>⟨JC hz (by decide),.str z,H,I'.tok _,⟨_,rfl⟩,hw.2 z⟩)
end

theorem Inv.track{X:Cx}{pins:List (Addr×Obj)}{σ:St}{H:Hp}{s:IG}{D:Addr}{o:HO}(I:Inv X pins σ H s)(hn:H D=none)(hnew:X.s₀.heap.objs.size<=D)(hL:D≠X.env.locals)(hc:∀x c,X.env.cells.lookup x=some c->c≠D)(hp:∀p∈X.pn++pins,p.1≠D)
  (ok:cw X.prog X.w (upd H D o) s.heap D o):Inv X pins σ (upd H D o) s:=by
 have ne:∀b u,H b=some u->b≠D:=λb u q=>cH q hn;refine⟨I.ok,I.os,I.bare,⟨I.base.keep,I.base.slot,λb o q nn hx=>?_,I.base.there,λb xs q=>?_,λb o u q=>?_,λb ps q=>?_⟩,I.loc,I.cell,?_,λx c q=>?_,λp hq=>?_,λb u q=>?_,I.len⟩
 .rw[aq (Jd (Jl (IS q) hnew))];exact I.base.free b o q nn hx
 .have z:=I.base.tups b xs q;rw[aq (ne b _ z)];exact z
 .have z:=I.base.frzs b o u q;rw[aq (ne b _ z)];exact z
 .obtain⟨more,z⟩:=I.base.tbls b ps q;exact⟨more,by rw[aq (ne b _ z)];exact z⟩
 .rw[aq (JH hL)];exact I.free
 .rw[aq (hc x c q)];exact I.freeC x c q
 .obtain⟨a1,a2,a3⟩:=I.pin p hq;exact⟨a1,by rw[aq (hp p hq)];exact a2,a3⟩
 .by_cases hb:b=D
  .subst hb;rw[ah]at q;cases q;exact ok
  .rw[aq hb]at q;exact(I.hok b u q).stay (λc v _ r=>r) (λc r=>by rw[aq (ne c _ r)];exact r) λc xs r=>by rw[aq (ne c _ r)];exact r
def Ite(K:IC)(a:Addr):It:=
 ⟨λi H=>∃xs x,SqL K H a xs/\xs[i]?=some x,λi H x H'=>∃p,H p=none/\x=.ref p/\∀xs y,SqL K H a xs->xs[i]?=some y->H'=upd H p (.tup [.int (i:Int),y]),λi H=>∃xs,SqL K H a xs/\xs.length<=i⟩
theorem BH{P:Jk}{w:Jo}{K:IC}{elts:List Expr}{k1}{tp:Pos}(a e it:Addr)(hei:e≠it):oJ P w K (.Tuple elts k1 tp) (Ite K a) [e,it] e (λi h=>(∃old,IsEnum h e it (i:Nat) old)/\h.IsListIter it a i) where
 mem:=by simp
 obj:=λi h st b hb=>by
  have hb':b=e\/b=it:=by simpa using hb
  rcases hb' with rfl|rfl
  .obtain⟨⟨old,h1⟩,_⟩:=st;exact⟨_,h1,λv z=>by cases z⟩
  .obtain⟨_,o,h1,c,d⟩:=st;exact⟨o,h1,λv z=>by rw[d]at z;cases z⟩
 keep:=λi h h' st k=>⟨let⟨old,h1⟩:=st.1;⟨old,k e (by simp) _ h1⟩,st.2.at λo h1=>k it (by simp) o h1⟩
 item:=by
  intro X hP hw hK hc i pins s σ H E I hf st hg;subst hP hw hK;obtain⟨xs,x,hq,hx⟩:=hg;obtain⟨its,rv,p,hz⟩:=I.list hq;obtain⟨u,hu,ru⟩:=rv.get hx;obtain⟨f0,f1,f2,f3,f4,f5⟩:=hf e (by simp);obtain⟨g0,g1,g2,g3,g4,g5⟩:=hf it (by simp);obtain⟨⟨old,he⟩,hit⟩:=st;refine wpAny_pyNext_enum_item he hit p.isList (x:=u) (by simpa using hu) hei λh' heo hit' hT hz' hk=>?_;have kk:∀b o,b∉[e,it]->s.heap.get? b=some o->h'.get? b=some o:=λb o hb q=>hk b o (λz=>hb (by simp[z])) (λz=>hb (by simp[z])) q;have nit:∀b v,H b=some v->b∉[e,it]:=λb v q z=>by
   have z':b=e\/b=it:=by simpa using z
   rcases z' with rfl|rfl
   .rw[f0]at q;cases q
   .rw[g0]at q;cases q
  have I1:Inv X pins σ H { s with heap:=h',toks:=s.toks+1 }:=by
   refine I.step (g':=s.gens) (d':=s.drawn) (ch:=[e,it]) (λb hb=>?_) (λb o _ _ hb q _=>kk b o hb q) (λb o _ _ hb q _=>⟨o.slots,kk b o hb q⟩) (λ_ _ _ _ n=>n)
    (λb o hb q=>⟨o,kk b o hb q⟩) (λ_ _ q=>q) (λ_ _ _ q=>q) (λb ps q=>⟨#[],by rw[q];simp⟩) (λm hm=>?_) (λb v q=>?_) I.bare
   .have z':b=e\/b=it:=by simpa using hb
    rcases z' with rfl|rfl
    .exact⟨f3,f1,f4,f5⟩
    .exact⟨g3,g1,g4,g5⟩
   .obtain⟨o,es,ep,ho,r⟩:=hm;exact⟨o,es,ep,kk _ o (λz=>by
     have z':X.env.locals=e\/X.env.locals=it:=by simpa using z
     rcases z' with z'|z'
     .exact f1 z'.symm
     .exact g1 z'.symm) ho,r⟩
   .refine(I.hok b v q).stay (λc o hc r=>kk c o ?_ r) (λ_ r=>r) λ_ _ r=>r;rcases hc with rfl|hc
    .exact nit _ _ q
    .exact nit _ _ hc
  have hsz:s.heap.objs.size<h'.objs.size:=by rw[hz'];exact KY _
  have hTn:H s.heap.objs.size=none:=I.fresh;have elt:e<s.heap.objs.size:=IS he;have I2:Inv X pins σ (upd H s.heap.objs.size (.tup [.int (i:Int),x])) { s with heap:=h',toks:=s.toks+1 }:=by
   refine I1.track hTn I.sz (KC I.lt) (λy c q=>?_) (λp hp=>?_) ⟨by show 2<=I0;decide,[.int i s.toks,u],.cons ⟨_,rfl⟩ (.cons ru .nil),⟨_,hT,rfl,_,rfl⟩⟩
   .obtain⟨v,q2⟩:=I.cell y c q;exact Jd q2.lt
   .exact Jd (IS (I.pin p hp).1)
  refine⟨_,rfl,wpAny_letOwnedTupleGo_enum (s:={ s with heap:=h',toks:=s.toks+1 }) heo λh'' he'' hs''=>?_⟩;have I3:Inv X pins σ (upd H s.heap.objs.size (.tup [.int (i:Int),x])) { s with heap:=h'',toks:=s.toks+1 }:=Inv.turned (s:={ s with heap:=h',toks:=s.toks+1 }) (h':=h'') (t':=s.toks+1) (it:=e) I2 (λb o hb q=>(hs''.2 b hb).trans q) (by rw[aq (Jd elt)];exact f0) f1 f3 f4 f5;refine⟨.ref s.heap.objs.size,_,I3,rfl,⟨_,hTn,rfl,λys y hy hy2=>?_⟩,⟨⟨_,he''⟩,?_⟩,λb hb=>?_⟩
  .rw[I.list_inj hy hq,hx]at hy2;cases hy2;rfl
  .exact hit'.at λo h1=>(hs''.2 it (JH hei)).trans h1
  .have z':b=e\/b=it:=by simpa using hb
   rcases z' with rfl|rfl
   .rw[aq (Jd elt)];exact f0
   .have ilt:b<s.heap.objs.size:=by
     obtain⟨o,h1,_⟩:=hit;exact IS h1
    rw[aq (Jd ilt)];exact g0
 done:=by
  intro X hP hw hK hc i pins s σ H E I hf st hg;subst hP hw hK;obtain⟨xs,hq,hx⟩:=hg;obtain⟨its,rv,p,hz⟩:=I.list hq;obtain⟨g0,g1,g2,g3,g4,g5⟩:=hf it (by simp);obtain⟨⟨old,he⟩,hit⟩:=st;have hl:=rv.length;exact wpAny_pyNext_enum_end (I.ok.hd hc) he hit p.isList (by simp;omega) λh' eb=>⟨rfl,I.turned (t':=s.toks) (λb o hb e=>eb b o hb e) g0 g1 g3 g4 g5⟩
 self:=λ_ _ _ _ _ st h=>by
  obtain⟨⟨old,he⟩,_⟩:=st;exact wpAny_pyIter_enum he h
section
variable {X:Cx}{elts:List Expr}{k1:Nat}{tp:Pos}
def Hq(K:IC)(tl:TE):TI:=λσ H R=>tl σ H λx H1=>∃a,x=.ref a/\(∃xs,SqL K H1 a xs)/\R (Ite K a) H1
theorem zp{l:Expr}{k1}{tl:TE}{p pos:Pos}(hg:Gl X "enumerate")(hm:X.mg "enumerate" = none)(hl:PE X l tl)(hs:Jn [l] X.env=[(false,eval l X.env)]:=by rfl):PI X (.Tuple elts k1 tp) (.Call (.Name "enumerate" p) [l] [] pos) (Hq X.K tl):=by
 intro pins s σ H R I h;have ha:PA X [l] (wQ tl sX):=aa hl ac hs;refine Call_ (lQ I hg hm (by decide +kernel:K2 "enumerate" = some (.type "enumerate")) (Kl (thn (ha pos pins s σ H (λvs H1=>match vs with|[x]=>∃a,x=.ref a/\(∃xs,SqL X.K H1 a xs)/\R (Ite X.K a) H1|_=>False) I h) λus s1 ⟨vs,H1,I1,r1,q1⟩=>?_) hs rfl))
 match vs,r1,q1 with
 |[x],r1,q1 =>
 obtain⟨a,rfl,⟨xs,hq⟩,q⟩:=q1;obtain⟨u,rfl,ru⟩:=iW r1;cases ru;obtain⟨its,rv,p,hz⟩:=I1.list hq;refine call_enumerate_list p.isList λh' he hit hz' hk=>?_;refine wpAny_pyIter_enum he ?_;refine⟨s1.heap.objs.size+1,[s1.heap.objs.size+1,s1.heap.objs.size],_,_,H1,rfl,I1.kept (t':=s1.toks) hk,BH a _ _ (Nat.succ_ne_self _),⟨⟨_,he⟩,hit⟩,λb hb=>?_,q⟩;have z':b=s1.heap.objs.size+1\/b=s1.heap.objs.size:=by simpa using hb
 have I2:=I1.kept (h':=h') (t':=s1.toks) hk;rcases z' with rfl|rfl
 .exact I1.fpOk (Kq _) (I1.hok.fresh (Kq _))
 .exact I1.fpOk (IM _) (I1.hok.fresh (IM _))
end
theorem xL{K:IC}{a:Addr}{xs:List V}{g:TG}{tb:TS}{D:e9}{σ:St}{H:Hp}(Pv:Nat->St->Hp->Prop)(h0:Pv 0 σ H)(hl:∀i σ H,i<=xs.length->Pv i σ H->SqL K H a xs)
  (hs:∀i x σ H p,xs[i]?=some x->Pv i σ H->H p=none->g (.ref p) σ (upd H p (.tup [.int (i:Int),x])) λσ2 H2=>tb { D with nx:=Pv (i+1),ct:=Pv (i+1),bk:=D.nx } σ2 H2)(hd:∀σ H,Pv xs.length σ H->D.nx σ H) :
  ∃W:Nat->Nat->St->Hp->Prop,(∃m,W 0 m σ H)/\∀i m σ H,W i m σ H->
   ((Ite K a).stop i H/\D.nx σ H)\/((Ite K a).go i H/\∃N:St->Hp->Prop,(∀σ' H',N σ' H'->∃m',m'<m/\W (i+1) m' σ' H')/\∀x H',(Ite K a).yld i H x H'->g x σ H' λσ2 H2=>tb { D with nx:=N,ct:=N,bk:=D.nx } σ2 H2):=by
 refine⟨λi m σ H=>m=xs.length-i/\i<=xs.length/\Pv i σ H,⟨xs.length,by simp,Jw _,h0⟩,?_⟩;rintro i m σ H ⟨rfl,hi,p⟩;have q:=hl i σ H hi p;by_cases hlt:i<xs.length
 .refine .inr ⟨⟨xs,xs[i],q,by simp[hlt]⟩,Pv (i+1),λσ' H' p'=>⟨xs.length-(i+1),by omega,rfl,hlt,p'⟩,λx H' y=>?_⟩;obtain⟨t,ht,e,y⟩:=y;subst e;have e2:=y xs xs[i] q (by simp[hlt]);subst e2;exact hs i xs[i] σ H t (by simp[hlt]) p ht
 .have e:i=xs.length:=by omega
  subst e;exact .inl ⟨⟨xs,q,IM _⟩,hd σ H p⟩

section
variable {X:Cx}{tg:Expr}
end
inductive BI(K:IC)(x:V)(y:V)(H:Hp)(Q:VK):Prop
 |mk(a b xs)(_:x=.ref a)(_:y=.ref b)(_:SqL K H a xs)(_:SqL K H b [])(_:Q (.bl xs.isEmpty) H)
theorem tD{X:Cx}(hu:X.A.units<MV):OpR X (Kc .Eq) (BI X.K):=by
 intro pins s σ H x y v u Q I rx ry h;obtain⟨a,b,xs,rfl,rfl,ha,hb,q⟩:=h;cases rx;cases ry;obtain⟨its,r,p,z⟩:=I.list ha;obtain⟨its2,r2,p2,z2⟩:=I.list hb;have l1:=r.length;have l2:=r2.length;cases xs with
 |nil =>
  refine SeqAt.eq_listAt (e:=λ_=>true) p.isList p2.isList (by simp at l1 l2⊢;omega) hu (λj h1 h2=>absurd h1 (by simp at l1⊢;omega)) ⟨.bl _,H,I,rfl,?_⟩;have e:its.toArray.size=0:=by rw[I_];exact l1.symm
  rw[e];exact q
 |cons x r=>exact SeqAt.eq_list_lengthsAt p.isList p2.isList (by simp at l1 l2⊢;omega) hu ⟨.bl false,H,I,rfl,q⟩
inductive FQ(x:V)(vs:List V)(H:Hp)(Q:VK):Prop
 |mk(l y xs j)(_:x=.ref l)(_:vs=[y])(_:H l=some (.lst xs))(_:jq y=true)(_:xs.all jq=true)(_:∃v,xs[j]?=some v/\eqV v y=true)(_:∀(m:Nat)(v:V),m<j->xs[m]?=some v->eqV v y=false)(_:Q (.int (j:Nat)) H)
theorem C9{X:Cx}:MtM X "list.index" FQ:=by
 intro pins s σ H x vs v us Q I rx rv h;obtain⟨l,y,xs,j,rfl,rfl,hH,fy,fs,⟨vj,hvj,hit⟩,hno,q⟩:=h;cases rx;obtain⟨u,rfl,ru⟩:=rv.one;obtain⟨z,its,n,r,hl,e⟩:=I.lstM hH;have fl:∀(m:Nat)(v:V),xs[m]?=some v->jq v=true:=λm v h=>List.all_eq_true.mp fs v (IK h);have hj:j<its.toArray.size:=by
  rw[I_,<-hl];exact(List.getElem?_eq_some_iff.mp hvj).1
 have at':∀(m:Nat)(hm:m<its.toArray.size)(v:V),xs[m]?=some v->eqU y its.toArray[m]=eqV v y:=λm hm v h=>by
  obtain⟨u',hu',ru'⟩:=r.get h;have hm2:m<its.length:=by rw[I_]at hm;exact hm
  have:its[m]=u':=by
   rw[II hm2]at hu';exact Jy hu'
  rw[show its.toArray[m]=its[m] by simp,this];exact xA ru' (fl m v h)
 refine Ly F.slot_list_index ⟨_,e,rfl⟩ F.entry_list_index (F.args_list_index_2 _ _) (SeqAt.list_indexAt l its.toArray n none #[] u (eqU y) j hj ?_ ?_ ?_) ⟨e,λw hw=>jW ru fy r fs w (by simpa using hw),?_⟩
 .have h1:j<xs.length:=(List.getElem?_eq_some_iff.mp hvj).1;have h2:xs.length<=100000000:=JC z (by decide);omega
 .rw[at' j hj vj hvj];exact hit
 .intro m hm hlt;have h1:m<xs.length:=by rw[hl];rw[I_]at hm;exact hm
  rw[at' m hm _ (II h1)];exact hno m _ hlt (II h1)
 .exact⟨.int (j:Nat),H,I.tok _,⟨_,rfl⟩,q⟩
end L2

namespace L2
open PySem PySem.Spec PyProof.Rows

section
variable {X:Cx}
theorem ai{H:Hp}{p:Addr}(h:H p=none)(o:HO):aj H (upd H p o):=λb u q=>by rw[aq (cH q h)];exact q
theorem aj.tup{K:IC}{H H':Hp}{a:Addr}{xs:List V}(e:aj H H')(h:SqT K H a xs):SqT K H' a xs:=by
 rcases h with(h|⟨o,h⟩)|h
 .exact .inl (.inl (e _ _ h))
 .exact .inl (.inr ⟨o,e _ _ h⟩)
 .exact .inr h
inductive BJ(K:IC)(vs:List V)(H:Hp)(Q:VK)(x_1:XK):Prop
 |mk(a:Addr)(ns:List Int)(_:vs=[.ref a])(_:SqL K H a (ns.map V.int))(_:ns.length<=63)(_:∀H',Q (.bl true) H')
theorem aW{n:Nat}(h:n<=1000):n<=I0:=Jj (ay h)
theorem BK{n:Nat}(h:n<=1000000):n<=I0:=JC h (by decide)
theorem le1:1<=I0:=by decide
theorem le2:2<=I0:=by decide
theorem le3:3<=I0:=by decide
theorem le4:4<=I0:=by decide
end
end L2

namespace HT
open PySem PyProof.Rows
section
open PySem.SeqAt
open PySem.AutoSeq1 (wpAny_loadPart')
open PySem.MeetsSeq PySem.MeetsSeq2 PySem.MeetsSeq3

end
end HT

namespace L2
open PySem PySem.Spec PyProof.Rows
section
variable {X:Cx}

end
end L2

set_option maxHeartbeats 4000000
namespace L2
open PySem PySem.Spec PyProof.Rows Tl
def dH(n:Nat):List Nat:=(MR 10 n).map Char.toNat
theorem tE(n:Nat):(Iy (toString ((n:Nat):Int)))=tx (dH n):=by
 have e:=PySem.W.KIN.signs_num n;rw[wT (Iy _),e];rfl
theorem uw:∀d:Nat,d<10->(Nat.digitChar d).toNat=d+48:=by decide
theorem oR{n:Nat}(h:n<10):dH n=[n+48]:=by
 unfold dH;rw[Nat.toDigits_of_lt_base h,Mv,uw n h]
theorem vK{n:Nat}(h:10<=n):dH n=dH (n/10)++[n%10+48]:=by
 have hm:n%10<10:=MS n (by decide);have t:MR 10 (n/10)++MR 10 (n%10)=MR 10 (10*(n/10)+n%10):=Nat.toDigits_append_toDigits (by decide) (by omega) hm;rw[Nat.div_add_mod]at t;unfold dH;rw[<-t,IJ,Nat.toDigits_of_lt_base hm,Mv,uw _ hm]
theorem lW:∀(k n:Nat),n<10^(k+1)->(dH n).length<=k+1
 |0,n,h=>by
  rw[oR (by simpa using h)];simp
 |k+1,n,h=>by
  by_cases hn:n<10
  .rw[oR hn];simp
  .rw[vK (by omega),IB,Lb];have:=lW k (n/10) (by
    rw[Nat.pow_succ]at h;omega)
   omega
theorem Ew:∀(n c:Nat),c∈dH n->48<=c/\c<=57:=by
 intro n;induction n using Nat.strongRecOn with
 |_ n ih =>
  intro c hc;by_cases h:n<10
  .rw[oR h]at hc;have:c=n+48:=by simpa using hc
   omega
  .rw[vK (by omega)]at hc;rcases List.mem_append.mp hc with hc|hc
   .exact ih (n/10) (by omega) c hc
   .have:c=n%10+48:=by simpa using hc
    omega
theorem vL{n:Nat}(h:n<10^100):n.log2<1920:=by
 by_cases e:n=0
 .subst e;decide
 .refine(Nat.log2_lt e).mpr (KP h ?_);decide +kernel
abbrev pl(x:Int×Int):List V:=[.int x.1,.int x.2]
abbrev fm(w h f m:Int):List V:=[.int w,.int h,.int f,.int m]
inductive Say where
 |text (l:List Nat)
 |page (k:Nat)
 |row (k:Nat)
theorem jZ{α:Type}(xs:List α)(x:α):atI (xs++[x]) (-1)=some x:=by
 unfold atI ixN;rw[if_neg (by decide),if_pos (by simp;omega)];have e:(-1+((xs++[x]).length:Int)).toNat=xs.length:=by simp;omega
 show(xs++[x])[(-1+((xs++[x]).length:Int)).toNat]?=some x;rw[e];simp
section
variable {X:Cx}
theorem zt(ns:List Int):∀k,k<=ns.length->preSum (λi=>(ns[i]?).getD 0) k=(ns.take k).sum
 |0,_=>by simp[preSum]
 |k+1,h=>by
  rw[preSum,zt ns k (by omega),Ld,II (by omega),Lu];show _+ns[k]=_+(ns[k]+0);rw[Int.add_zero]
inductive BL(K:IC)(xs:List V)(H:Hp)(Q:VK):Prop
 |mk(l:Addr)(ns:List Int)(_:xs=[.ref l])(_:SqL K H l (ns.map V.int))(_:Q (.int ns.sum) H)
theorem C_(hc:X.calm=true):ii X (.builtin "sum") (BL X.K):=by
 intro pins s σ H xs us Q I r h;obtain⟨l,ns,rfl,hl,q⟩:=h;obtain⟨u,rfl,ru⟩:=iW r;cases ru;obtain⟨its,rv,p,z⟩:=I.list hl;have hlt:l<s.heap.objs.size:=by obtain⟨_,_,e,_⟩:=p;exact IS e
 have len:=rv.length;rw[Iz]at len;refine call_sum_walkG (LH p.isList ?_);refine⟨s.heap.objs.size,[s.heap.objs.size,l],[s.heap.objs.size],its.toArray.size,_,_,λi=>(ns[i]?).getD 0,rfl,Walks.list (A:=X.A.in1) (I.ok.hd hc) _ l (Jd hlt) its.toArray,
  ⟨⟨_,Jr _ rfl,rfl,rfl⟩,p.isList.push _⟩,λb hb=>?_,λi v hP=>?_,λh' tk t' hk=>?_⟩
 .show b<(s.heap.push _).objs.size;rw[LI];rcases List.mem_cons.mp hb with rfl|hb
  .exact KY _
  .rw[List.mem_singleton.mp hb];exact Nat.lt_succ_of_lt hlt
 .have hi:its[i]?=some v:=by simpa using hP
  have hlt2:i<ns.length:=by
   have:=(List.getElem?_eq_some_iff.mp hi).1;omega
  have eb:(ns.map V.int)[i]?=some (V.int ns[i]):=by rw[Jc,II hlt2];rfl
  obtain⟨w',hw,t,ht⟩:=rv.get eb;rw[hi]at hw;cases hw;refine⟨t,?_⟩;have e2:(ns[i]?).getD 0=ns[i]:=by rw[II hlt2];rfl
  show v=LB ((ns[i]?).getD 0) t;rw[e2];exact ht
 .have e1:its.toArray.size=ns.length:=by simp;omega
  have e:preSum (λi=>(ns[i]?).getD 0) its.toArray.size=ns.sum:=by
   rw[e1,zt ns _ (IM _),IZ]
  rw[e];exact⟨.int _,H,I.kept λb x e=>hk b x (λhm=>by rw[List.mem_singleton.mp hm]at e;exact J7 _ (IS e)) (IV _ e),⟨_,rfl⟩,q⟩
end
theorem aj.put{H H2:Hp}{r:Addr}{o:HO}(s:aj H H2)(hr:H r=none):aj H (upd H2 r o):=λb u q=>by rw[aq (cH q hr)];exact s b u q
theorem Da{α:Type}(f:α->V)(ns:List α)(lo hi:Option Int):io (ns.map f) lo hi=(jv ns lo hi).map f:=by
 unfold io jv;rw[Iz,List.map_take,List.map_drop]
structure Wd where
 lead:Int
 kept:Bool
 say:Say
 foot:List Say

section
variable {prog:Jk}{w:Jo}{A:JF}{R:MF->IG->Prop}{I:Addr}{fp wr:List Addr}{P:Nat->IE->Prop}{St:Nat->Heap->Prop}
end
section
variable {prog:Jk}{w:Jo}{A:JF}{R:MF->IG->Prop}{I:Addr}{fp wr:List Addr}{P:Nat->IE->Prop}{St:Nat->Heap->Prop}
end
structure Frm where
 w:Int
 h:Int
 f:Int
 m:Int
inductive BM(K:IC)(x:V)(y:V)(H:Hp)(Q:VK):Prop
 |mk(a b xs)(_:x=.ref a)(_:y=.ref b)(_:SqL K H a xs)(_:SqL K H b [])(_:Q (.bl (!xs.isEmpty)) H)
theorem lX{X:Cx}(hu:X.A.units<MV):OpR X (Kc .NotEq) (BM X.K):=by
 intro pins s σ H x y v u Q I rx ry h;obtain⟨a,b,xs,rfl,rfl,ha,hb,q⟩:=h;cases rx;cases ry;obtain⟨its,r,p,z⟩:=I.list ha;obtain⟨its2,r2,p2,z2⟩:=I.list hb;have l1:=r.length;have l2:=r2.length;cases xs with
 |nil =>
  refine SeqAt.RcNeAt.lists (e:=λ_=>true) p.isList p2.isList (by simp at l1 l2⊢;omega) hu (λj h1 h2=>absurd h1 (by simp at l1⊢;omega)) _ _ _ _ ⟨.bl _,H,I,rfl,?_⟩;have e:its.toArray.size=0:=by rw[I_];exact l1.symm
  rw[e];exact q
 |cons x r=>exact SeqAt.RcNeAt.lists_lengths p.isList p2.isList (by simp at l1 l2⊢;omega) hu _ _ _ _ ⟨.bl true,H,I,rfl,q⟩
inductive CL:List Expr->List V->Prop where
 |nil:CL [] []
 |int {i:Int} {j:Nat} {pos:Pos} {es:List Expr} {vs:List V} (h:CL es vs):CL (.Constant (.int i) j pos::es) (.int i::vs)
 |str {x:Str} {j:Nat} {pos:Pos} {es:List Expr} {vs:List V} (h:CL es vs):CL (.Constant (.str x) j pos::es) (.str x::vs)
def tVs(vs:List V):TA:=λ_ H Q=>Q vs H
theorem ux{X:Cx}:∀{es:List Expr}{vs:List V},CL es vs->PA X es (tVs vs)
 |_,_,.nil=>ac
 |_,_,.int h=>aa ag (ux h)
 |_,_,.str h=>aa am (ux h)
def kB:Str:=Iy "behind"
section
variable (F:Frm)(ds:List Wd)(xs:List (Int×Int))(k:Str)(i:Nat)(j:Int)
end
section
variable {F:Frm}{ds:List Wd}{xs ys:List (Int×Int)}
end
section
variable {prog:Jk}{w:Jo}{A:JF}{R:MF->IG->Prop}{I:Addr}{fp wr:List Addr}{n:Nat}{P:Nat->IE->Prop}{St:Nat->Heap->Prop}
end
section
variable {F:Frm}{ds:List Wd}{xs:List (Int×Int)}{i:Nat}
end
section
variable {F:Frm}{ds:List Wd}{xs ys:List (Int×Int)}{i:Nat}
end
def Itz(K:IC)(a b:Addr):It:=
 ⟨λi H=>∃xs ys x y,SqL K H a xs/\SqL K H b ys/\xs[i]?=some x/\ys[i]?=some y,λi H x H'=>∃p,H p=none/\x=.ref p/\∀xs ys u v,SqL K H a xs->SqL K H b ys->xs[i]?=some u->ys[i]?=some v->H'=upd H p (.tup [u,v]),λi H=>∃xs ys,SqL K H a xs/\SqL K H b ys/\(xs.length<=i\/ys.length<=i)⟩
theorem Db{P:Jk}{w:Jo}{K:IC}{elts:List Expr}{k1}{tp:Pos}(a b z TI TO i1 i2:Addr)(D:ZipApart z TI TO i1 i2 a b):oJ P w K (.Tuple elts k1 tp) (Itz K a b) [z,TI,TO,i1,i2] z (λi h=>IsZip h z TI TO .none/\IsPair h TI (.ref i1) (.ref i2)/\(∃u v,IsPair h TO u v)/\h.IsListIter i1 a i/\h.IsListIter i2 b i) where
 mem:=by simp
 obj:=λi h st c hb=>by
  have hb':c=z\/c=TI\/c=TO\/c=i1\/c=i2:=by simpa using hb
  obtain⟨s1,s2,⟨u,v,s3⟩,s4,s5⟩:=st;rcases hb' with rfl|rfl|rfl|rfl|rfl
  .exact⟨_,s1,λv z=>by cases z⟩
  .exact⟨_,s2,λv z=>by cases z⟩
  .exact⟨_,s3,λv z=>by cases z⟩
  .obtain⟨o,h1,_,d⟩:=s4;exact⟨o,h1,λv z=>by rw[d]at z;cases z⟩
  .obtain⟨o,h1,_,d⟩:=s5;exact⟨o,h1,λv z=>by rw[d]at z;cases z⟩
 keep:=λi h h' st k=>by
  obtain⟨s1,s2,⟨u,v,s3⟩,s4,s5⟩:=st;exact⟨k z (by simp) _ s1,k TI (by simp) _ s2,⟨u,v,k TO (by simp) _ s3⟩,s4.at λo h1=>k i1 (by simp) o h1,s5.at λo h1=>k i2 (by simp) o h1⟩
 item:=by
  intro X hP hw hK hc i pins s σ H E I hf st hg;subst hP hw hK;obtain⟨xs,ys,x,y,hqx,hqy,hx,hy⟩:=hg;obtain⟨its,rv,p,hz⟩:=I.list hqx;obtain⟨its2,rv2,p2,hz2⟩:=I.list hqy;obtain⟨u,hu,ru⟩:=rv.get hx;obtain⟨v,hv,rv'⟩:=rv2.get hy;obtain⟨st1,st2,⟨o1,o2,st3⟩,st4,st5⟩:=st;have fz:=λc (hm:c∈[z,TI,TO,i1,i2])=>hf c hm;refine wpAny_pyNext_zip_item D st1 st2 st3 st4 st5 p.isList p2.isList (x:=u) (y:=v) (by simpa using hu) (by simpa using hv) λh' hz1 hTO1 hi1 hi2 hpair hsz1 hk=>?_;have kk:∀c o,c∉[z,TI,TO,i1,i2]->s.heap.get? c=some o->h'.get? c=some o:=λc o hb q=>hk c o (λe=>hb (by simp[e])) (λe=>hb (by simp[e])) (λe=>hb (by simp[e])) (λe=>hb (by simp[e])) q;have kTI:=hk TI _ D.TIz D.TITO D.TIi1 D.TIi2 st2;have kk2:∀c o,c∉[z,TO,i1,i2]->s.heap.get? c=some o->h'.get? c=some o:=λc o hb q=>hk c o (λe=>hb (by simp[e])) (λe=>hb (by simp[e])) (λe=>hb (by simp[e])) (λe=>hb (by simp[e])) q;have nit:∀c v,H c=some v->c∉[z,TI,TO,i1,i2]:=λc v q m=>by
   have:=(hf c m).1;rw[this]at q;cases q
  have I1:Inv X pins σ H { s with heap:=h',toks:=s.toks }:=by
   refine I.step (g':=s.gens) (d':=s.drawn) (ch:=[z,TI,TO,i1,i2]) (λc hb=>?_) (λc o _ _ hb q _=>kk c o hb q) (λc o _ _ hb q _=>⟨o.slots,kk c o hb q⟩) (λ_ _ _ _ n=>n)
    (λc o hb q=>⟨o,kk c o hb q⟩) (λ_ _ q=>q) (λ_ _ _ q=>q) (λc ps q=>⟨#[],by rw[q];simp⟩) (λm hm=>?_) (λc v q=>?_) I.bare
   .obtain⟨f0,f1,f2,f3,f4,f5⟩:=hf c hb;exact⟨f3,f1,f4,f5⟩
   .obtain⟨o,es,ep,ho,r⟩:=hm;exact⟨o,es,ep,kk _ o (λm=>(hf _ m).2.1 rfl) ho,r⟩
   .refine(I.hok c v q).stay (λd o hd r=>kk d o ?_ r) (λ_ r=>r) λ_ _ r=>r;rcases hd with rfl|hd
    .exact nit _ _ q
    .exact nit _ _ hd
  have hTn:H s.heap.objs.size=none:=I.fresh;have zlt:z<s.heap.objs.size:=IS st1;have I2:Inv X pins σ (upd H s.heap.objs.size (.tup [x,y])) { s with heap:=h',toks:=s.toks }:=by
   refine I1.track hTn I.sz (KC I.lt) (λy c q=>?_) (λp hp=>?_) ⟨by show 2<=I0;decide,[u,v],.cons ru (.cons rv' .nil),⟨_,hpair,rfl,_,rfl⟩⟩
   .obtain⟨v,q2⟩:=I.cell y c q;exact Jd q2.lt
   .exact Jd (IS (I.pin p hp).1)
  refine⟨_,rfl,wpAny_letOwnedTupleGo_zip (s:={ s with heap:=h',toks:=s.toks }) hz1 λh'' hz2' hs''=>?_⟩;obtain⟨f0,f1,f2,f3,f4,f5⟩:=hf z (by simp);have I3:Inv X pins σ (upd H s.heap.objs.size (.tup [x,y])) { s with heap:=h'',toks:=s.toks }:=Inv.turned (s:={ s with heap:=h',toks:=s.toks }) (h':=h'') (t':=s.toks) (it:=z) I2 (λc o hb q=>(hs''.2 c hb).trans q) (by rw[aq (Jd zlt)];exact f0) f1 f3 f4 f5;refine⟨.ref s.heap.objs.size,_,I3,rfl,⟨_,hTn,rfl,λxs' ys' u' v' hx' hy' ex ey=>?_⟩,⟨hz2',(hs''.2 TI D.TIz).trans kTI,⟨u,v,(hs''.2 TO D.TOz).trans hTO1⟩,hi1.at λo h1=>(hs''.2 i1 D.i1z).trans h1,hi2.at λo h1=>(hs''.2 i2 D.i2z).trans h1⟩,λc hb=>?_⟩
  .rw[I.list_inj hx' hqx,hx]at ex;rw[I.list_inj hy' hqy,hy]at ey;cases ex;cases ey;rfl
  .have clt:c<s.heap.objs.size:=by
    have z':c=z\/c=TI\/c=TO\/c=i1\/c=i2:=by simpa using hb
    rcases z' with rfl|rfl|rfl|rfl|rfl
    .exact zlt
    .exact IS st2
    .exact IS st3
    .obtain⟨o,h1,_⟩:=st4;exact IS h1
    .obtain⟨o,h1,_⟩:=st5;exact IS h1
   rw[aq (Jd clt)];exact(hf c hb).1
 done:=by
  intro X hP hw hK hc i pins s σ H E I hf st hg;subst hP hw hK;obtain⟨xs,ys,hqx,hqy,hlen⟩:=hg;obtain⟨its,rv,p,hz⟩:=I.list hqx;obtain⟨its2,rv2,p2,hz2⟩:=I.list hqy;obtain⟨st1,st2,⟨o1,o2,st3⟩,st4,st5⟩:=st;have hl:=rv.length;have hl2:=rv2.length;have hend:its.toArray[i]?=none\/its2.toArray[i]?=none:=by
   rcases hlen with h|h
   .exact .inl (Array.getElem?_eq_none (by rw[I_];omega))
   .exact .inr (Array.getElem?_eq_none (by rw[I_];omega))
  refine wpAny_pyNext_zip_end (I.ok.hd hc) D st1 st2 st3 st4 st5 p.isList p2.isList hend λh' hk=>⟨rfl,?_⟩;have kk:∀c o,c∉[z,TI,TO,i1,i2]->s.heap.get? c=some o->h'.get? c=some o:=λc o hb q=>hk c o (λe=>hb (by simp[e])) (λe=>hb (by simp[e])) (λe=>hb (by simp[e])) (λe=>hb (by simp[e])) q;have nit:∀c v,H c=some v->c∉[z,TI,TO,i1,i2]:=λc v q m=>by
   have:=(hf c m).1;rw[this]at q;cases q
  refine I.step (t':=s.toks) (g':=s.gens) (d':=s.drawn) (ch:=[z,TI,TO,i1,i2]) (λc hb=>?_) (λc o _ _ hb q _=>kk c o hb q) (λc o _ _ hb q _=>⟨o.slots,kk c o hb q⟩) (λ_ _ _ _ n=>n)
   (λc o hb q=>⟨o,kk c o hb q⟩) (λ_ _ q=>q) (λ_ _ _ q=>q) (λc ps q=>⟨#[],by rw[q];simp⟩) (λm hm=>?_) (λc v q=>?_) I.bare
  .obtain⟨f0,f1,f2,f3,f4,f5⟩:=hf c hb;exact⟨f3,f1,f4,f5⟩
  .obtain⟨o,es,ep,ho,r⟩:=hm;exact⟨o,es,ep,kk _ o (λm=>(hf _ m).2.1 rfl) ho,r⟩
  .refine(I.hok c v q).stay (λd o hd r=>kk d o ?_ r) (λ_ r=>r) λ_ _ r=>r;rcases hd with rfl|hd
   .exact nit _ _ q
   .exact nit _ _ hd
 self:=λ_ _ _ _ _ st h=>wpAny_pyIter_zip st.1 h
section
variable {X:Cx}{elts:List Expr}{k1:Nat}{tp:Pos}
def Ie(K:IC)(tl tm:TE):TI:=λσ H R=>tl σ H λx H1=>tm σ H1 λy H2=>∃a b,x=.ref a/\y=.ref b/\(∃xs,SqL K H2 a xs)/\(∃ys,SqL K H2 b ys)/\R (Itz K a b) H2
theorem FR{l m:Expr}{k1}{tl tm:TE}{p pos:Pos}(hg:Gl X "zip")(hm:X.mg "zip" = none)(hl:PE X l tl)(hl2:PE X m tm)(hs:Jn [l,m] X.env=(false,eval l X.env)::Jn [m] X.env:=by rfl)(hs1:Jn [m] X.env=(false,eval m X.env)::Jn [] X.env:=by rfl):PI X (.Tuple elts k1 tp) (.Call (.Name "zip" p) [l,m] [] pos) (Ie X.K tl tm):=by
 intro pins s σ H R I h;have ha:PA X [l,m] (wQ tl (wQ tm sX)):=aa hl (aa hl2 ac hs1) hs;refine Call_ (lQ I hg hm (by decide +kernel:K2 "zip" = some (.type "zip")) (Kl (thn (ha pos pins s σ H (λvs H1=>match vs with|[x,y]=>∃a b,x=.ref a/\y=.ref b/\(∃xs,SqL X.K H1 a xs)/\(∃ys,SqL X.K H1 b ys)/\R (Itz X.K a b) H1|_=>False) I h) λus s1 ⟨vs,H1,I1,r1,q1⟩=>?_) hs (by rw[hs1];rfl)))
 match vs,r1,q1 with
 |[x,y],r1,q1 =>
 obtain⟨a,b,rfl,rfl,⟨xs,hqx⟩,⟨ys,hqy⟩,q⟩:=q1;obtain⟨u,v,rfl,ru,rv0⟩:=wP r1;cases ru;cases rv0;obtain⟨its,rv,p,hz⟩:=I1.list hqx;obtain⟨its2,rv2,p2,hz2⟩:=I1.list hqy;have alt:a<s1.heap.objs.size:=by obtain⟨_,_,e,_⟩:=p;exact IS e
 have blt:b<s1.heap.objs.size:=by obtain⟨_,_,e,_⟩:=p2;exact IS e
 refine call_zip_2 p.isList p2.isList λh' g1 g2 g3 g4 g5 hz' hk=>?_;refine wpAny_pyIter_zip g1 ?_;have ne:∀{m n:Nat}{N:Nat},m≠n->N+m≠N+n:=λh e=>h (Nat.add_left_cancel e);have nl:∀{c:Addr}(k:Nat),c<s1.heap.objs.size->c≠s1.heap.objs.size+k:=λk h e=>absurd h (by rw[e];exact Nat.not_lt.mpr (J5 _ _));have D:ZipApart (s1.heap.objs.size+4) (s1.heap.objs.size+2) (s1.heap.objs.size+3) s1.heap.objs.size (s1.heap.objs.size+1) a b:=
  ⟨ne (by decide),ne (by decide),ne (m:=0) (by decide),ne (by decide),ne (by decide),ne (n:=0) (by decide),ne (by decide),ne (n:=0) (by decide),ne (by decide),ne (m:=0) (by decide),nl 4 alt,nl 3 alt,nl 0 alt,nl 1 alt,nl 4 blt,nl 3 blt,nl 0 blt,nl 1 blt⟩
 refine⟨s1.heap.objs.size+4,[s1.heap.objs.size+4,s1.heap.objs.size+2,s1.heap.objs.size+3,s1.heap.objs.size,s1.heap.objs.size+1],_,_,H1,rfl,I1.kept (t':=s1.toks) hk,Db a b _ _ _ _ _ D,⟨g1,g2,⟨_,_,g3⟩,g4,g5⟩,λc hb=>?_,q⟩;have z':c=s1.heap.objs.size+4\/c=s1.heap.objs.size+2\/c=s1.heap.objs.size+3\/c=s1.heap.objs.size\/c=s1.heap.objs.size+1:=by simpa using hb
 rcases z' with rfl|rfl|rfl|rfl|rfl
 .exact I1.fpOk (J5 _ _) (I1.hok.fresh (J5 _ _))
 .exact I1.fpOk (J5 _ _) (I1.hok.fresh (J5 _ _))
 .exact I1.fpOk (J5 _ _) (I1.hok.fresh (J5 _ _))
 .exact I1.fpOk (IM _) (I1.hok.fresh (IM _))
 .exact I1.fpOk (Kq _) (I1.hok.fresh (Kq _))
end
end L2

set_option maxHeartbeats 4000000
namespace PySem
section
variable {prog:Jk}{w:Jo}{A:JF}{E:IE->IG->Prop}{s:IG}
end
section
variable {prog:Jk}{w:Jo}{A:JF}{R:MF->IG->Prop}
end
namespace F
end F
section
variable {prog:Jk}{w:Jo}{A:JF}{s:IG}{R:MF->IG->Prop}
end
section
variable {prog:Jk}{w:Jo}{A:JF}{E:IE->IG->Prop}{s:IG}
end
end PySem

set_option maxHeartbeats 4000000
namespace L2
open PySem PySem.Spec PyProof.Rows Tl
structure Dc(K:IC)(x qual:Str)(st:Stmt)(f:Addr)(fd:IW):Prop where
 ex:∃(oc:IE)(od:Option Addr)(dV kV doc pm:IE)(an:Option Addr)(cdv ct:IE)(osl:Array (Option IE)),fd=J3 x qual (cO st) (cx st) (aw st) dV kV doc pm an cdv ct/\K.lookup f=some ⟨oc,od,.func fd,osl⟩/\KZ K cdv qual=true
 kp:Ko K (.ref f)=true
theorem Dc.ok{P:Jk}{w:Jo}{K:IC}{mg:Str->Option IE}{base:Heap}{x qual:Str}{st:Stmt}{f:Addr}{fd:IW}{N ps:List Str}{k:Nat}{sp:Sp}(F:Dc K x qual st f fd)(S:aN N ps (aw st))(len:∀vs H Q E,sp vs H Q E->vs.length=ps.length)(hbody:∀(cdv:IE)(A:JF)(outer:List Env)(s:IG)(H:Hp)(vs:List V)(Q:VK)(E:XK),cA k (A.deeper (Kr qual (aw st) s.heap.objs.size f cdv))->sp vs H Q E->
   ∃t,PSs (lT CX0 P w K mg base N qual (aw st) f cdv A outer s H E).nox (cx st) t/\t { nx:=λ_ H'=>Q .non H',rt:=Q } (jp N vs) H):bi P w K mg base CX0 (k+1) f fd ps sp:=by
 obtain⟨oc,od,dV,kV,doc,pm,an,cdv,ct,osl,rfl,lk,hcd⟩:=F.ex;exact Ab lk hcd S len λA outer s H vs Q E hr hsp=>let⟨t,h,q⟩:=hbody cdv A outer s H vs Q E hr hsp;⟨t,h.nox,q⟩
structure xM(K:IC)(mg:Str->Option IE)(x:Str)(st:Stmt)(ps:List Str)(f:Addr)(fd:IW)(dv:IE):Prop where
 fn:Dc K x x st f fd
 bd:ij K fd ps []
 bd1:ij K fd ps [dv]
 mg:mg x=some (.ref f)
section
variable {X:Cx}{x:Str}{st:Stmt}{ps:List Str}{f:Addr}{fd:IW}{dv:IE}{k:Nat}{sp:Sp}{e:Expr}{es:List Expr}{t:TA}{p pos:Pos}
theorem BN{dx:V}(D:xM X.K X.mg x st ps f fd dv)(hdx:bx dx dv)(G:bi X.prog X.w X.K X.mg X.base CX0 k f fd ps sp)(hr:cA k X.A)(hg:Gl X x)(ha:PA X (e::es) t)(hd:(x==("__debug__" : Str))=false:=by decide)
  (he:Jn (e::es) X.env=(false,eval e X.env)::Jn es X.env:=by rfl)(hpl:(KF pos (Jn es X.env)).any (·.1)=false:=by rfl):PE X (.Call (.Name x p) (e::es) [] pos) (Aa sp [dx] E0 t):=zg G hr hg D.mg D.fn.kp D.bd1 (.cons hdx .nil) fI ha hd he hpl
theorem BO{K:IC}{h:Heap}{mg:Str->Option IE}(KX:K.In h)(G:h.Ns Jt mg){od an od2:Option Addr}{sl sl2:Array (Option IE)}{oc oc2 kV dc pm cd ct:IE}{T:Addr}{n2:Nat}(a:JP K Jt x=some (some (.ref f)))
  (l:K.lookup f=some ⟨oc,od,.func (J3 x x (cO st) (cx st) (aw st) (.ref T) kV dc pm an cd ct),sl⟩)(c:KZ K cd x=true)(k:Ko K (.ref f)=true)(lt:K.lookup T=some ⟨oc2,od2,.seq #[dv] n2,sl2⟩)
  (b:∀(kV doc pm:IE)(an:Option Addr)(cdv ct:IE)(us:List IE),us.length=ps.length->∃k,MI (J3 x x (cO st) (cx st) (aw st) (.ref T) kV doc pm an cdv ct) ⟨us,[]⟩=seqItems? (.ref T) >>= k/\k (some #[dv])=pure (ps.zip us))
  (b1:∀(kV doc pm:IE)(an:Option Addr)(cdv ct:IE)(us:List IE),us.length+1=ps.length->∃k,MI (J3 x x (cO st) (cx st) (aw st) (.ref T) kV doc pm an cdv ct) ⟨us,[]⟩=seqItems? (.ref T) >>= k/\k (some #[dv])=pure (ps.zip (us++[dv]))) :
  xM K mg x st ps f (J3 x x (cO st) (cx st) (aw st) (.ref T) kV dc pm an cd ct) dv:=by
 refine⟨⟨⟨oc,od,.ref T,kV,dc,pm,an,cd,ct,sl,rfl,l,c⟩,k⟩,λs us kin hl=>?_,λs us kin hl=>?_,JN KX G a⟩
 .rw[IY]at hl⊢;obtain⟨k',e1,e2⟩:=b kV dc pm an cd ct us hl;exact .of_defaults (T:=T) rfl (kin T _ lt) rfl e1 e2
 .rw[IB,Lb]at hl;obtain⟨k',e1,e2⟩:=b1 kV dc pm an cd ct us hl;exact .of_defaults (T:=T) rfl (kin T _ lt) rfl e1 e2
end
section
variable {F:Frm}{ds:List Wd}{xs ys zs:List (Int×Int)}{i j:Nat}
end
section
variable {F:Frm}{ds:List Wd}{x0 xs zs:List (Int×Int)}{np i:Nat}
end
section
variable {F:Frm}{ds:List Wd}{xs:List (Int×Int)}{i j:Nat}
end
section
variable {room:Int}{brk:Nat->Bool}
end
section
variable {F:Frm}{ds:List Wd}{L room:Int}{brk:Nat->Bool}
end
section
variable {F:Frm}{ds:List Wd}{xs:List (Int×Int)}{i j:Nat}
end
section
variable {F:Frm}{ds es:List Wd}{xs ys:List (Int×Int)}{a r:Nat}
end
section
variable {a:Nat}{ds rs:List Wd}
end
section
variable {F:Frm}{ds:List Wd}{xs:List (Int×Int)}{k:Nat}
end
section
variable {F:Frm}{ds es:List Wd}{xs:List (Int×Int)}{k j:Nat}{h h' f w:Int}
end
section
variable {K:IC}{H0 H H':Hp}{as:List Addr}{ds:List Wd}
end
section
variable {X:Cx}
end
section
variable {prog:Jk}{w:Jo}{A:JF}{E:IE->IG->Prop}{s:IG}
end
section
variable {X:Cx}{pos:Pos}
end
section
variable {X:Cx}{elt iter:Expr}{ifs:List Expr}{scope:Scope}{cl:List (Str×Addr)}{pos px py tp:Pos}{k1:Nat}{x y:Str}{caps:List Str}{js:List Nat}{tc:TT}{te:TE}{wi:TI}
def g2(K:IC):TG:=CN K 2 (se (bA 0) (se (bA 1) CM))
theorem uy(hc:X.calm=true)(L:oO X scope cl [x,y] caps js)(hi:PI X (.Tuple [.Name x px,.Name y py] k1 tp) iter wi)
  (ht:∀s H C ex,PTs (X.blk (x::y::caps) s H scope cl C ex) ifs tc)(he:∀s H C ex,PE (X.blk (x::y::caps) s H scope cl C ex) elt te)
  (hN:(x::y::caps).Nodup:=by decide +kernel)(hx:(KW scope X.env).names.lookup x=some .local:=by with_unfolding_all rfl)(hy:(KW scope X.env).names.lookup y=some .local:=by with_unfolding_all rfl)
  (hs:∀x,Kf iter X.env x=pure x:=by intro _;rfl):PE X (.ListComp elt [⟨.Tuple [.Name x px,.Name y py] k1 tp,iter,ifs,0⟩] scope pos) (uT wi (g2 X.K) tc te 2 js):=
 xH (own:=[x,y]) (g:=g2 X.K) hc L hi (λs H C ex=>dD hc (aU (aJ (i:=0) hN rfl (.inl hx) (.inr hx)) (aU (aJ (i:=1) hN rfl (.inl hy) (.inr hy)) cQ))) ht he hs
end
theorem FT{K:IC}{a b:Addr}{xs ys:List V}{cv:St}{tc:TT}{te:TE}{Fin:List V->Hp->Prop}{H1:Hp}(Pv:Nat->List V->Hp->Prop)(el:xs.length=ys.length)(h0:Pv 0 [] H1)(hl:∀i zs H,i<=xs.length->Pv i zs H->SqL K H a xs/\SqL K H b ys)(hz:∀i zs H,i<xs.length->Pv i zs H->zs.length<I0)
  (hs:∀i x y zs H p,xs[i]?=some x->ys[i]?=some y->Pv i zs H->H p=none->tc (some x::some y::cv) (upd H p (.tup [x,y])) λb H3=>if b=true then te (some x::some y::cv) H3 λv H4=>Pv (i+1) (zs++[v]) H4 else Pv (i+1) zs H3)
  (hd:∀zs H,Pv xs.length zs H->Fin zs H):gLC (Itz K a b) (g2 K) tc te 2 cv Fin H1:=by
 refine⟨λi m zs H=>m=xs.length-i/\i<=xs.length/\Pv i zs H,⟨xs.length,by simp,Jw _,h0⟩,?_⟩;rintro i m zs H ⟨rfl,hi,p⟩;obtain⟨q1,q2⟩:=hl i zs H hi p;by_cases lt:i<xs.length
 .have e1:xs[i]?=some xs[i]:=II lt;have e2:ys[i]?=some (ys[i]'(by omega)):=II (by omega);refine .inr ⟨⟨xs,ys,_,_,q1,q2,e1,e2⟩,hz i zs H lt p,Pv (i+1),λzs' H' p'=>⟨xs.length-(i+1),by omega,rfl,lt,p'⟩,λv H' yl own ho=>?_⟩;obtain⟨pp,hp,rfl,hh⟩:=yl;have hH:=hh xs ys _ _ q1 q2 e1 e2;subst hH
  match own,ho with
  |[o1,o2],_=>exact⟨pp,_,rfl,SqT.of ah,rfl,_,_,rfl,_,_,rfl,rfl,⟨[some xs[i],some (ys[i]'(by omega))],rfl,rfl⟩,hs i _ _ zs H pp e1 e2 p hp⟩
 .have:i=xs.length:=by omega
  subst this;exact .inl ⟨⟨xs,ys,q1,q2,.inl (IM _)⟩,hd zs H p⟩
end L2

set_option maxHeartbeats 4000000
namespace L2
open PySem PySem.W PySem.Calls PySem.Spec PyProof.Rows Builtin Builtin.ObjectAttr Builtin.Getset_descriptor
section
variable {prog:Jk}{w:Jo}{A:JF}{E:IE->IG->Prop}{h:Heap}{g:Array Ni}{d:Drawn}{t:Nat}{os:J_}{K:Frag}{x C:Addr}
end
end L2

namespace L2
open PySem PySem.W PySem.Spec PyProof.Rows
section
variable {X:Cx}{pins:List (Addr×Obj)}{σ:St}{H:Hp}{s:IG}
end
section
variable {X:Cx}{k:Nat}{f T:Addr}{fd:IW}{ps:List Str}{sp:Sp}{fx c n:Str}{i:Nat}{st:Stmt}{e:Expr}{es:List Expr}{t:TA}{b₀:Stmt}{suite:List Stmt}{th:TS}{np pf cpos apos hpos pos:Pos}
end
end L2

set_option maxHeartbeats 4000000
namespace L2
open PySem PySem.Spec PyProof.Rows Builtin Builtin.ObjectAttr
section
variable {prog:Jk}{w:Jo}{A:JF}{E:IE->IG->Prop}{h:Heap}{g:Array Ni}{d:Drawn}{t:Nat}{os:J_}{a:Addr}{o:Obj}
theorem xN:Nh (.type "list") "keys" = pure none:=by rw[typeLookup_type,builtinLookup_eq_fast];kernel_rfl
theorem tF:isSubtype (.type "AttributeError") (.type "AttributeError")=pure true:=by rw[isSubtype_type];kernel_rfl
theorem Aj{α:Type}{ov:IE}{name msg:Str}{Q:α->IG->Prop}(hm:msg.length<=I0)(hh:A.handled=none)
  (hq:∀h' t' e,(∀b o,h.get? b=some o->h'.get? b=some o)->(∃ob,h'.get? e=some ob/\ob.cls=.type "AttributeError")->E (.ref e) ⟨h',g,d,t',os⟩) :
  Ju (Jv prog w) A (raiseAttrError ov name msg:Sem α) Q E ⟨h,g,d,t,os⟩:=by
 unfold raiseAttrError;refine Jp (wpAny_mkStr (Jp ?_) hm);unfold newExc newTuple;refine Jp (MB ?_ (by size_fits));refine Jp (m:=firstArgMember _ _) (wpAny_of_eq (a:=Lv) (by unfold firstArgMember;kernel_rfl) ?_);refine MB ?_ (by size_fits);have hE:=Jr (h.push { cls:=.type "tuple",data:=.seq #[KD msg t] }) (o:={ cls:=.type "AttributeError",data:=.fields (#[JE h.objs.size,.none,.none,.none,.bool false,.none]++ownMembersOf (.type "AttributeError") [KD msg t]) }) rfl;have hT:(⟨(h.push { cls:=.type "tuple",data:=.seq #[KD msg t] }).push { cls:=.type "AttributeError",data:=.fields (#[JE h.objs.size,.none,.none,.none,.bool false,.none]++ownMembersOf (.type "AttributeError") [KD msg t]) },g,d,t+1,os⟩:IG).TypeIs (.ref (h.push { cls:=.type "tuple",data:=.seq #[KD msg t] }).objs.size) "AttributeError":=⟨_,hE,rfl⟩;have f1:=tF;unfold noteAttr lacksNameAndObj layMembers
 repeat (any_goals (first|assumption|wp_step))
 unfold raiseNew;refine Jp (wpAny_handled ?_);rw[hh]
 first
  |refine wpAny_throw ?_
  |refine Jp (JS (wpAny_throw ?_))
 refine hq _ _ _ (λb o hb=>?_) ⟨_,Heap.get?_update_self _ hE rfl,rfl⟩;have lt:=IS hb;refine(LJ _ _ (λe=>?_)).trans (IV _ (IV _ hb));have sz:(h.push { cls:=.type "tuple",data:=.seq #[KD msg t] }).objs.size=h.objs.size+1:=LI ..;have e':(h.push { cls:=.type "tuple",data:=.seq #[KD msg t] }).objs.size=b:=e;exact absurd lt (by rw[<-e',sz];exact Nat.not_lt.mpr (Kq _))
theorem Ak{tk:Tok}{Q:Fin->IG->Prop}{its:Array IE}{n:Nat}{sl:Array (Option IE)}(hx:h.get? a=some ⟨.type "list",none,.seq its n,sl⟩)(hh:A.handled=none)
  (hq:∀h' t' e,(∀b o,h.get? b=some o->h'.get? b=some o)->(∃ob,h'.get? e=some ob/\ob.cls=.type "AttributeError")->E (.ref e) ⟨h',g,d,t',os⟩) :
  Ju (Jv prog w) A (Nq.«object.__getattribute__» ⟨[.ref a,.str "keys" tk],[]⟩) Q E ⟨h,g,d,t,os⟩:=by
 have hT:(⟨h,g,d,t,os⟩:IG).TypeIs (.ref a) "list":=⟨_,hx,rfl⟩;have f4:=xN
 repeat (any_goals (first|assumption|wp_step))
 exact Aj (by decide +kernel) hh hq
theorem wq:Nh (.type "list") "__getattr__" = pure none:=by rw[typeLookup_type,builtinLookup_eq_fast];kernel_rfl
theorem BP{tk:Tok}{R:MF->IG->Prop}{its:Array IE}{n:Nat}{sl:Array (Option IE)}(hx:h.get? a=some ⟨.type "list",none,.seq its n,sl⟩)(hh:A.handled=none)
  (hq:∀h' t' e,(∀b o,h.get? b=some o->h'.get? b=some o)->(∃ob,h'.get? e=some ob/\ob.cls=.type "AttributeError")->R (.error (.ref e)) ⟨h',g,d,t',os⟩) :
  Mj (Jv prog w) A (.call (.builtin "list.__getattribute__") ⟨[.ref a,.str "keys" tk],[]⟩) R ⟨h,g,d,t,os⟩:=
 codeAny_call_builtin F.slot_list_getattribute.plain F.entry_list_ga (F.slot_list_getattribute.check _ _ _ _ _ _ _ _ (show(⟨h,g,d,t,os⟩:IG).TypeIs (.ref a) "list" from⟨_,hx,rfl⟩) (F.args_list_getattribute_2 _ _) (Ak hx hh hq))
theorem Ex{tk:Tok}{Q:IE->IG->Prop}{its:Array IE}{n:Nat}{sl:Array (Option IE)}(hx:h.get? a=some ⟨.type "list",none,.seq its n,sl⟩)(hh:A.handled=none)
  (hq:∀h' t' e,(∀b o,h.get? b=some o->h'.get? b=some o)->(∃ob,h'.get? e=some ob/\ob.cls=.type "AttributeError")->E (.ref e) ⟨h',g,d,t',os⟩) :
  Ju (Jv prog w) A (getAttrBy (.ref a) (.str "keys" tk) false) Q E ⟨h,g,d,t,os⟩:=by
 have hT:(⟨h,g,d,t,os⟩:IG).TypeIs (.ref a) "list":=⟨_,hx,rfl⟩;have f2:=F.slot_list_getattribute.lookup;have f3:=F.slot_list_getattribute.bind (.ref a)
 repeat (any_goals (first|assumption|wp_step))
 refine BP hx hh λh' t' e k ex=>?_;obtain⟨ob,he,hec⟩:=id ex;have hT2:(⟨h',g,d,t',os⟩:IG).TypeIs (.ref e) "AttributeError":=⟨_,he,hec⟩;have f5:=tF;have f6:=wq;show Ju (Jv prog w) A (getattributeRaised (JE a) (KD (Iy "keys") tk) (Lf "list") (.ref e) none false false) Q E ⟨h',g,d,t',os⟩;unfold getattributeRaised hookBehind
 repeat (any_goals (first|assumption|wp_step))
 exact hq _ _ _ k ex
theorem BQ{Q:Option IE->IG->Prop}{its:Array IE}{n:Nat}{sl:Array (Option IE)}(hx:h.get? a=some ⟨.type "list",none,.seq its n,sl⟩)(hh:A.handled=none)
  (hq:∀h' t',(∀b o,h.get? b=some o->h'.get? b=some o)->Q none ⟨h',g,d,t',os⟩) :
  Ju (Jv prog w) A (getAttr? (.ref a) "keys") Q E ⟨h,g,d,t,os⟩:=by
 unfold getAttr? getAttrBy?
 repeat (any_goals (first|assumption|with_reducible apply Ex hx hh|wp_step))
 rintro h' t' e k ⟨ob,he,hec⟩;have hT2:(⟨h',g,d,t',os⟩:IG).TypeIs (.ref e) "AttributeError":=⟨_,he,hec⟩;have f5:=tF
 repeat (any_goals (first|assumption|wp_step))
 exact hq _ _ k
end
end L2

namespace L2
open PySem PySem.Spec PyProof.Rows
def laid(kvs:List (Key×IE)):List (Key×IE):=kvs.foldl (λm kv=>stored m kv.1 kv.2) []
theorem uW:entryFor table "dict.update.loop" = some Nq.«dict.update.loop»:=entryFor_of_tree (by kernel_rfl)
theorem on:plainId "dict.update.loop" = true:=by decide +kernel
section
variable {prog:Jk}{w:Jo}{A:JF}{R:MF->IG->Prop}{i0 l d:Addr}{its:Array IE}{kvs:List (Key×IE)}
end
section
variable {X:Cx}
end
end L2

set_option maxHeartbeats 4000000
namespace L2
open PySem PySem.Spec PyProof.Rows Tl
theorem DZ{X:Cx}{i:Nat}{x:Str}{es:List Expr}{vs:List V}{p1 p2 p4:Pos}(hN:X.N.Nodup)(hi:X.N[i]?=some x)(hx:Loc X.env.scope x)(hc:CL es vs)
  (hf:X.fn x=true\/X.env.scope.names.lookup x=some .local):PS X (.Assign [.Name x p1] (.List es p2) p4) (qw (Fy (tVs vs)) (bA i)):=
 av (i:=i) hN hi hx (aQ (ux hc))
section
variable {X:Cx}{fx c:Str}{st:Stmt}{ps:List Str}{f T:Addr}{fd:IW}{dv:IE}{k i:Nat}{n:Str}{sp:Sp}{e:Expr}{es:List Expr}{t:TA}{th:TS}{pf cpos apos np hpos pos:Pos}{b₀:Stmt}{suite:List Stmt}
end
section
variable {α β:Type}{P P':α->β->Prop}{as as':List α}{bs bs':List β}
end
abbrev Wd0:=List Nat
def FU:Wd0:=[124]
def FV:Wd0:=[93]
abbrev Mn:=List Wd0×DD×List Addr
def mF(xs:List Mn):List Addr:=(xs.map λx=>x.2.2).flatten
structure Fr where
 t:Addr
 A:Addr
 N:Addr
 n:Wd0
 als:List Addr
 wss:List Mn
 vs:List V
 wn:List Mn
section
variable {H0 H H':Hp}{pl cur c2 A t p:Addr}{fs:List Fr}{f:Fr}{vs:List V}{wn:List Mn}
end
end L2

set_option maxHeartbeats 4000000
namespace PySem
open Sem (wp)
open AutoSeq1 (wpAny_loadPart')
section
variable {prog:Jk}{w:Jo}{A:JF}{E:IE->IG->Prop}{s:IG}
end
end PySem
namespace L2
open PySem PySem.Spec PyProof.Rows Tl
section
variable {X:Cx}{elts:List Expr}{k1:Nat}{tp:Pos}
end
mutual
theorem Rep.mono{K:IC}{H H':Hp}(s:aj H H'):∀{d:DD}{v:V},Rep K H d v->Rep K H' d v
 |.bl _,v,h=>by unfold Rep at h⊢;exact h
 |.int _,v,h=>by unfold Rep at h⊢;exact h
 |.str _,v,h=>by unfold Rep at h⊢;exact h
 |.tup l,v,h=>by
  unfold Rep at h⊢;obtain⟨a,xs,h1,h2,h3,h4⟩:=h;exact⟨a,xs,h1,s.tup h2,h3,cc.mono s h4⟩
 |.lst l,v,h=>by
  unfold Rep at h⊢;obtain⟨a,xs,h1,h2,h3,h4⟩:=h;exact⟨a,xs,h1,s.seq h2,h3,cc.mono s h4⟩
theorem cc.mono{K:IC}{H H':Hp}(s:aj H H'):∀{l:List DD}{xs:List V},cc K H l xs->cc K H' l xs
 |[],xs,h=>by unfold cc at h⊢;exact h
 |d::l,xs,h=>by
  unfold cc at h⊢;obtain⟨x,r,h1,h2,h3⟩:=h;exact⟨x,r,h1,Rep.mono s h2,cc.mono s h3⟩
end
section
variable {K:IC}{H:Hp}
end
structure Sh where
 n:Wd0
 c:Nat
 ns:List DD
 r:List Int
 k:Int
section
variable {S:List Sh}{d j:Nat}{n:Wd0}{as:List (List DD)}{w:Wd0}{k:Nat}{s:Sh}
end
theorem oo{l j:Nat}(h:j<l):ixN l (j:Int)=some j:=by
 have:=bX (xs:=Kj l) (j:=j) (v:=j) (by rw[Mh h]);unfold atI at this;rw[JJ]at this;cases e:ixN l (j:Int)with
 |none=>rw[e]at this;cases this
 |some i =>
  rw[e]at this;have h2:(Kj l)[i]?=some j:=this;have h3:i<l:=by have:=(List.getElem?_eq_some_iff.mp h2).1;rwa[JJ]at this
  rw[Mh h3]at h2;rw[Jy h2]
structure Gf where
 t:Addr
 D:Addr
 N:Addr
 n:Wd0
 m:Nat
 Dv:List V
 ds:List (List DD)
 vs:List V
 xs:List DD
section
variable {K:IC}{H0 H H':Hp}{pf t D N:Addr}{gs r:List Gf}{g:Gf}{v:V}{x:DD}{n:Wd0}{m:Nat}
end
end L2

namespace L2
open PySem PySem.Spec PyProof.Rows

structure dg(K:IC)(C:Addr)(m qual:Str)(st:Stmt)(ps:List Str)(f:Addr)(fd:IW):Prop where
 fn:Fun K m qual st f fd
 bd:ij K fd ps []
 me:z6 K C m f
structure mS(K:IC)(mg:Str->Option IE)(c:Str)(C:Addr):Prop where
 mg:mg c=some (.ref C)
 cl:Cls K C
 mks:MU K C=true
 kp:Ko K (.ref C)=true
theorem mS.made{K:IC}{mg:Str->Option IE}{c qual:Str}{C f:Addr}{st:Stmt}{ps:List Str}{fd:IW}(L:mS K mg c C)(D:dg K C "__init__" qual st ps f fd):Mk K C f:=⟨L.mks,D.me.at_,D.me.fn,L.kp⟩
theorem Dd{K:IC}{C f:Addr}{x q:Str}{st:Stmt}{ps:List Str}{od an:Option Addr}{sl:Array (Option IE)}{oc kV dc pm cd ct:IE}(a:Ka K (.ref C) x=some (some (.ref f)))(fn:MM K (.ref f)=true)
  (l:K.lookup f=some ⟨oc,od,.func (J3 x q (cO st) (cx st) (aw st) .none kV dc pm an cd ct),sl⟩)(c:KZ K cd q=true)(k:Ko K (.ref f)=true)
  (b:∀(kV doc pm:IE)(an:Option Addr)(cdv ct:IE)(us:List IE),us.length=ps.length->MI (J3 x q (cO st) (cx st) (aw st) .none kV doc pm an cdv ct) ⟨us,[]⟩=pure (ps.zip us)) :
  dg K C x q st ps f (J3 x q (cO st) (cx st) (aw st) .none kV dc pm an cd ct):=
 ⟨ur l c k,(ur l c k).binds b,a,fn,k⟩
section
variable {X:Cx}{CX:CXT}{E:XK}{c m qual:Str}{st:Stmt}{ps:List Str}{C f:Addr}{fd:IW}{k:Nat}{sp:Sp}{o e:Expr}{es:List Expr}{ta:TE}{t:TA}{p pos apos:Pos}
theorem dO{pl:Sem Bool}(hx:gh CX X E)(L:mS X.K X.mg c C)(D:dg X.K C m qual st ps f fd)(G:bi X.prog X.w X.K X.mg X.base CX k f fd ps sp)(hr:cA k X.A)(he:PE X o ta)(ha:PA X (e::es) t)
  (hst:Jn (e::es) X.env=(false,eval e X.env)::Jn es X.env:=by rfl)(hpl:(KF pos (Jn es X.env)).any (·.1)=false:=by rfl)
  (ht:eval (.Call (.Attribute o m apos) (e :: es) [] pos) X.env=(do
   let ov<-eval o X.env
   Nk apos.atName
   let(f,first)<-ML [ov] (MH ov m pl)
   NC pos f first (KF pos (Jn (e::es) X.env)) (M2 pos (LX [] X.env))):=by rfl) :
  PE X (.Call (.Attribute o m apos) (e::es) [] pos) (wR C m sp [] E ta t):=Ei he L.cl D.me G hr D.bd .nil hx ha hst hpl ht
theorem xO{pl:Sem Bool}(hx:gh CX X E)(L:mS X.K X.mg c C)(D:dg X.K C m qual st ps f fd)(G:bi X.prog X.w X.K X.mg X.base CX k f fd ps sp)(hr:cA k X.A)(he:PE X o ta)
  (ht:eval (.Call (.Attribute o m apos) [] [] pos) X.env=(do
   let ov<-eval o X.env
   Nk apos.atName
   let(f,first)<-ML [ov] (MH ov m pl)
   NC pos f first (KF pos (Jn [] X.env)) (M2 pos (LX [] X.env))):=by rfl) :
  PE X (.Call (.Attribute o m apos) [] [] pos) (wR C m sp [] E ta sX):=CU he L.cl D.me G hr D.bd .nil hx ht
theorem FW(hx:gh CX X E)(L:mS X.K X.mg c C)(D:dg X.K C "__init__" qual st ps f fd)(G:bi X.prog X.w X.K X.mg X.base CX k f fd ps sp)(hr:cA (k+1) X.A)(hg:Gl X c)(ha:PA X (e::es) t)(hd:(c==("__debug__" : Str))=false:=by decide)
  (he:Jn (e::es) X.env=(false,eval e X.env)::Jn es X.env:=by rfl)(hpl:(KF pos (Jn es X.env)).any (·.1)=false:=by rfl) :
  PE X (.Call (.Name c p) (e::es) [] pos) (wS C sp [] E t):=Ej (L.made D) G hr hg L.mg D.bd .nil hx ha hd he hpl
theorem Ey(hx:gh CX X E)(L:mS X.K X.mg c C)(D:dg X.K C "__init__" qual st ps f fd)(G:bi X.prog X.w X.K X.mg X.base CX k f fd ps sp)(hr:cA (k+1) X.A)(hg:Gl X c)(hd:(c==("__debug__" : Str))=false:=by decide) :
  PE X (.Call (.Name c p) [] [] pos) (wS C sp [] E sX):=CV (L.made D) G hr hg L.mg D.bd .nil hx hd
end

section
variable {X:Cx}{k:Nat}{f T C:Addr}{fd:IW}{ps:List Str}{sp:Sp}{cn qual c:Str}{st:Stmt}{e:Expr}{es:List Expr}{t:TA}{b₀:Stmt}{suite:List Stmt}{th:TS}{np pf cpos apos hpos pos:Pos}
end
end L2

namespace L2
open PySem PySem.Spec PyProof.Rows PySem.W

theorem Ez{P:Jk}{w:Jo}{k:Key}{v:IE}(h:(bR P w).is k v=true):bx (kV k) v:=by
 rcases dC (show mO k v=true from h)with⟨i,t,rfl,rfl⟩|⟨x,t,rfl,rfl⟩
 .exact⟨t,rfl⟩
 .exact⟨t,rfl⟩
section
variable {X:Cx}
end
section
variable {prog:Jk}{w:Jo}{A:JF}{E:IE->IG->Prop}{s:IG}{T:String}{r d:Addr}{n:Nat}{P:Nat->IE->Prop}{OK:Heap->Prop}
end
section
variable {X:Cx}
end

def Hz(X:Cx)(a:Addr):Prop:=∀o u,X.H₀ a≠some (.frz o u)
section
variable {X:Cx}{pins:List (Addr×Obj)}{σ:St}{H:Hp}{s:IG}{a:Addr}{kvs:List (Key×V)}
theorem Inv.hz(I:Inv X pins σ H s)(e:H a=some (.dK kvs)):Hz X a:=λo u z=>by
 have:=I.base.frzs a o u z;rw[e]at this;cases this
theorem sQ{P:Jk}{w:Jo}{h:Heap}{u v:HO}(ok:HOk P w H h)(e:H a=some u)(hu:∀b,u≠.own b)(ht:∀xs,u≠.tup xs)(new:cw P w (upd H a v) h a v):HOk P w (upd H a v) h:=λb o q=>by
 by_cases eb:b=a
 .rw[eb,ah]at q;cases q;rw[eb];exact new
 .rw[aq eb]at q;refine(ok b o q).stay (λ_ _ _ z=>z) (λc z=>?_) λc xs z=>?_
  .rw[aq (λy=>hu b (by rw[y,e]at z;exact Jy z))];exact z
  .rw[aq (λy=>ht xs (by rw[y,e]at z;exact Jy z))];exact z
theorem uz{P:Jk}{w:Jo}{h:Heap}{H':Hp}(x:cw P w H h a (.dK kvs)):cw P w H' h a (.dK kvs):=x
theorem Inv.freeze(I:Inv X pins σ H s)(e:H a=some (.dK kvs)):∃o,s.heap.get? a=some o/\Inv X pins σ (upd H a (.frz o (.dK kvs))) s:=by
 have x:cw X.prog X.w H s.heap a (.dK kvs):=I.hok a _ e;obtain⟨_,_,vs,_,o,es,ep,ho,_⟩:=id x;refine⟨o,ho,?_⟩;have:=I.step (h':=s.heap) (H':=upd H a (.frz o (.dK kvs))) (g':=s.gens) (d':=s.drawn) (t':=s.toks) (ch:=[]) (λ_ z=>nomatch z) (λb o _ _ _ z _=>z) (λb o _ _ _ z _=>⟨o.slots,z⟩)
  (λb o' _ _ n=>by rw[aq (λy=>by rw[y,e]at n;cases n)];exact n) (λb o _ z=>⟨o,z⟩) (λb xs z=>by rw[aq (λy=>by rw[y,e]at z;cases z)];exact z)
  (λb o u z=>by rw[aq (λy=>by rw[y,e]at z;cases z)];exact z) (λb ps z=>⟨#[],by rw[aq (λy=>by rw[y,e]at z;cases z),z];simp⟩) (λm hm=>hm)
  (sQ I.hok e (λb z=>by cases z) (λxs z=>by cases z) ⟨ho,uz x⟩) I.bare
 exact this
theorem Inv.thaw{o:Obj}(I:Inv X pins σ H s)(hz:Hz X a)(e:H a=some (.frz o (.dK kvs))):Inv X pins σ (upd H a (.dK kvs)) s:=by
 have x:cw X.prog X.w H s.heap a (.frz o (.dK kvs)):=I.hok a _ e;have free:∀b,H b=none->upd H a (.dK kvs) b=none:=λb n=>by rw[aq (λy=>by rw[y,e]at n;cases n)];exact n
 refine⟨I.ok,I.os,I.bare,⟨I.base.keep,I.base.slot,λb o' q n hx=>free b (I.base.free b o' q n hx),I.base.there,λb xs q=>?_,λb o' u q=>?_,λb ps q=>?_⟩,I.loc,I.cell,free _ I.free,λy c q=>free _ (I.freeC y c q),λp hp=>?_,?_,I.len⟩
 .have z:=I.base.tups b xs q;rw[aq (λy=>by rw[y,e]at z;cases z)];exact z
 .have z:=I.base.frzs b o' u q;rw[aq (λy=>hz o' u (by rw[<-y];exact q))];exact z
 .obtain⟨m1,z⟩:=I.base.tbls b ps q;exact⟨m1,by rw[aq (λy=>by rw[y,e]at z;cases z)];exact z⟩
 .obtain⟨z1,z2,z3⟩:=I.pin p hp;exact⟨z1,free _ z2,z3⟩
 .exact sQ I.hok e (λb z=>by cases z) (λxs z=>by cases z) (uz x.2)
end
def epO(o:Obj):Nat:=match o.data with
 |.dict _ ep=>ep
 |_=>0
theorem j0{P:Jk}{w:Jo}{H:Hp}{h:Heap}{a:Addr}{o:Obj}{kvs:List (Key×V)}(ok:HOk P w H h)(e:H a=some (.frz o (.dK kvs))):(a==Kn)=false/\∃vs,KV kvs vs/\h.DictAt (bR P w) a vs (epO o):=by
 obtain⟨ho,_,hs,vs,rel,o',es,ep,ho',hx,hd,r⟩:=(show cw P w H h a (.frz o (.dK kvs))from ok a _ e);rw[ho]at ho';cases ho';refine⟨hs,vs,rel,o,es,ho,hx,?_,r⟩;unfold epO;rw[hd]
inductive wU(X:Cx)(P:Hp->Prop)(H:Hp):Prop
 |mk(a kvs o)(_:Hz X a)(_:H a=some (.frz o (.dK kvs)))(_:P (upd H a (.dK kvs)))
def fz(X:Cx)(D:e9):e9:={ nx:=λσ=>wU X (D.nx σ),bk:=λσ=>wU X (D.bk σ),ct:=λσ=>wU X (D.ct σ),rt:=λv=>wU X (D.rt v) }
section
variable {X:Cx}{tg:Expr}
theorem SP.thaw{pins:List (Addr×Obj)}{D:e9}{f:Flow}{s':IG}(h:SP X pins (fz X D) f s'):SP X pins D f s':=by
 cases f with
 |next=>obtain⟨σ',H',I,a,kvs,o,hz,e,q⟩:=h;exact⟨σ',_,I.thaw hz e,q⟩
 |brk=>obtain⟨σ',H',I,a,kvs,o,hz,e,q⟩:=h;exact⟨σ',_,I.thaw hz e,q⟩
 |cont=>obtain⟨σ',H',I,a,kvs,o,hz,e,q⟩:=h;exact⟨σ',_,I.thaw hz e,q⟩
 |ret u=>obtain⟨v,σ',H',I,r,a,kvs,o,hz,e,q⟩:=h;exact⟨v,σ',_,I.thaw hz e,r,q⟩
end
def Dg(K:IC)(C T:Addr):Prop:=PySem.W.exmOne K (.ref C) (.ref T)=some false
def HT(K:IC):List (Addr×TS)->Addr->e9->St->Hp->Prop
 |[],_,_,_,_=>False
 |(T,th)::r,C,D,σ,H=>(uv K C T/\th D σ H)\/(Dg K C T/\HT K r C D σ H)
section
variable {X:Cx}
section
variable {k:Nat}{f C:Addr}{fd:IW}{ps:List Str}{sp:Sp}{m qual cn:Str}{st:Stmt}{o e:Expr}{es:List Expr}{ta:TE}{t:TA}{apos pos:Pos}{W:IE->IG->Prop}{pins:List (Addr×Obj)}{σ:St}{H:Hp}{s:IG}{Q:VK}{E:XK}
end
end

inductive Al(xs:List V)(H:Hp)(Q:VK):Prop
 |mk(a kvs)(_:xs=[.ref a,.ty "dict"])(_:H a=some (.dK kvs))(_:Q (.bl true) H)
theorem BR{X:Cx}:ii X (.builtin "isinstance") Al:=by
 intro pins s σ H xs us Q I r h;obtain⟨a,kvs,rfl,ha,q⟩:=h;obtain⟨u,w',rfl,r1,r2⟩:=wP r;cases r2;exact Bp I r1 (.dK ha) (by rfl) λtk=>⟨.bl true,H,I.tok _,rfl,q⟩

section
variable {X:Cx}{e:Expr}
def EA:TT:=λ_ _ _=>False
theorem Dh:PT X e EA:=λ_ _ _ _ _ _ h=>h.elim
end
theorem zu{kvs:List (Key×V)}{vs:List (Key×IE)}(r:KV kvs vs):∀{i:Nat}{p:Key×V},kvs[i]?=some p->∃x,vs[i]?=some (p.1,x)/\bx p.2 x:=by
 unfold KV at r;induction r with
 |nil=>intro i p h;cases h
 |@cons p q ps qs hq t ih =>
  intro i p' h;cases i with
  |zero=>cases h;exact⟨q.2,(by show some q=_;rw[hq.1]),hq.2⟩
  |succ i=>exact ih h
def Itv(a:Addr)(o:Obj)(kvs:List (Key×V)):It:=
 ⟨λi H=>H a=some (.frz o (.dK kvs))/\i<kvs.length,λi H x H'=>H'=H/\∃p,kvs[i]?=some p/\x=p.2,λi H=>H a=some (.frz o (.dK kvs))/\kvs.length<=i⟩
theorem BS{P:Jk}{w:Jo}{K:IC}{tg:Expr}(a it:Addr)(o:Obj)(kvs:List (Key×V))(hne:a≠it):oJ P w K tg (Itv a o kvs) [it] it (λi h=>h.IsValIter it a i kvs.length (epO o)) where
 mem:=by simp
 obj:=λi h st b hb=>by
  have e:b=it:=by simpa using hb
  subst e;obtain⟨o,e,c,d⟩:=st;exact⟨o,e,λv z=>by rw[d]at z;cases z⟩
 keep:=λi h h' st k=>st.at λo e=>k it (by simp) o e
 item:=by
  intro X hP hw hK hc i pins s σ H E I hf st hg;subst hP hw hK;obtain⟨he,hi⟩:=hg;obtain⟨hs,vs,rel,da⟩:=j0 I.hok he;obtain⟨x,hx,rx⟩:=zu rel (II hi);obtain⟨f0,f1,f2,f3,f4,f5⟩:=hf it (by simp);rw[show kvs.length=vs.length from rel.length]at st;refine wpAny_pyNext_values_item st da hx λh' st' sb=>?_;have I1:Inv X pins σ H { s with heap:=h' }:=I.turned (t':=s.toks) (λb o hb e=>(sb.2 b hb).trans e) f0 f1 f3 f4 f5;rw[<-show kvs.length=vs.length from rel.length]at st';obtain⟨oi,e,c,d⟩:=id st';exact⟨x,rfl,wN (s:={ s with heap:=h' }) e c d (by decide) ⟨kvs[i].2,H,I1,rx,⟨rfl,kvs[i],II hi,rfl⟩,st',λb hb=>(hf b hb).1⟩⟩
 done:=by
  intro X hP hw hK hc i pins s σ H E I hf st hg;subst hP hw hK;obtain⟨he,hi⟩:=hg;obtain⟨hs,vs,rel,da⟩:=j0 I.hok he;obtain⟨f0,f1,f2,f3,f4,f5⟩:=hf it (by simp);rw[show kvs.length=vs.length from rel.length]at st;exact wpAny_pyNext_values_end (I.ok.hd hc) st da (LO (by rw[<-rel.length];exact hi)) λh' eb=>⟨rfl,I.turned (t':=s.toks) (λb o hb e=>eb b o hb e) f0 f1 f3 f4 f5⟩
 self:=λ_ _ _ _ _ st h=>wpAny_pyIter_valiter st h
theorem xP:entryFor table "dict_itemiterator.__iter__" = some Nq.«dict_keyiterator.__iter__»:=entryFor_alias (id' := "dict_keyiterator.__iter__") (id (Eq.refl (fastTable "dict_itemiterator.__iter__"))) rfl (by
  show Manifest.canonical (String.map _ "dict_itemiterator.__iter__")++"" = _;decide +kernel) (id (Eq.refl (fastTable "dict_keyiterator.__iter__")))
theorem qf{prog:Jk}{w:Jo}{A:JF}{E:IE->IG->Prop}{s:IG}{it d:Addr}{i n ep:Nat}{ok ov:IE}{Q:IE->IG->Prop}(st:IsItemIter s.heap it d i n ep ok ov)(h:Q (.ref it) s):Ju (Jv prog w) A (NA (.ref it)) Q E s:=by
 have hT:s.TypeIs (.ref it) "dict_itemiterator":=⟨_,st,rfl⟩;refine wpAny_pyIter_slot hT F.slot_dict_itemiterator_iter (wpAny_call_entry F.slot_dict_itemiterator_iter hT xP ?_ (F.args_dict_itemiterator_iter_1 _));show Ju _ _ (pure _) _ _ _;exact JS ⟨.ref it,rfl,"dict_itemiterator",.builtin "dict_itemiterator.__next__",hT,F.slot_dict_itemiterator_next.lookup,h⟩
def Itp(a:Addr)(o:Obj)(kvs:List (Key×V)):It:=
 ⟨λi H=>H a=some (.frz o (.dK kvs))/\i<kvs.length,λi H x H'=>∃p q,H p=none/\x=.ref p/\kvs[i]?=some q/\H'=upd H p (.tup [kV q.1,q.2]),λi H=>H a=some (.frz o (.dK kvs))/\kvs.length<=i⟩
theorem Am{P:Jk}{w:Jo}{K:IC}{elts:List Expr}{k1}{tp:Pos}(a it:Addr)(o:Obj)(kvs:List (Key×V))(hne:a≠it):oJ P w K (.Tuple elts k1 tp) (Itp a o kvs) [it] it (λi h=>∃ok ov,IsItemIter h it a i kvs.length (epO o) ok ov) where
 mem:=by simp
 obj:=λi h st b hb=>by
  have e:b=it:=by simpa using hb
  subst e;obtain⟨ok,ov,e⟩:=st;exact⟨_,e,λv z=>by cases z⟩
 keep:=λi h h' st k=>by
  obtain⟨ok,ov,e⟩:=st;exact⟨ok,ov,k it (by simp) _ e⟩
 item:=by
  intro X hP hw hK hc i pins s σ H E I hf st hg;subst hP hw hK;obtain⟨he,hi⟩:=hg;obtain⟨hs,vs,rel,da⟩:=j0 I.hok he;obtain⟨x,hx,rx⟩:=zu rel (II hi);obtain⟨f0,f1,f2,f3,f4,f5⟩:=hf it (by simp);obtain⟨ok,ov,st⟩:=st;rw[show kvs.length=vs.length from rel.length]at st;refine wpAny_pyNext_items_item st da hx λkey h' hk st' hpair hsz hkeep=>?_;have I1:Inv X pins σ H { s with heap:=h' }:=I.turned (t':=s.toks) (λb o hb e=>hkeep b o hb e) f0 f1 f3 f4 f5;rw[<-show kvs.length=vs.length from rel.length]at st';have hTn:H s.heap.objs.size=none:=I.fresh;have zlt:it<s.heap.objs.size:=IS st;have I2:Inv X pins σ (upd H s.heap.objs.size (.tup [kV kvs[i].1,kvs[i].2])) { s with heap:=h',toks:=s.toks }:=by
   refine I1.track hTn I.sz (KC I.lt) (λy c q=>?_) (λp hp=>?_) ⟨by show 2<=I0;decide,[key,x],.cons (Ez hk) (.cons rx .nil),⟨_,hpair,rfl,_,rfl⟩⟩
   .obtain⟨v,q2⟩:=I.cell y c q;exact Jd q2.lt
   .exact Jd (IS (I.pin p hp).1)
  refine⟨_,rfl,wpAny_letOwnedTupleGo_items (s:={ s with heap:=h',toks:=s.toks }) st' λh'' st'' hs''=>?_⟩;have I3:Inv X pins σ (upd H s.heap.objs.size (.tup [kV kvs[i].1,kvs[i].2])) { s with heap:=h'',toks:=s.toks }:=Inv.turned (s:={ s with heap:=h',toks:=s.toks }) (h':=h'') (t':=s.toks) (it:=it) I2 (λc o hb q=>(hs''.2 c hb).trans q) (by rw[aq (Jd zlt)];exact f0) f1 f3 f4 f5;refine⟨.ref s.heap.objs.size,_,I3,rfl,⟨_,kvs[i],hTn,rfl,II hi,rfl⟩,⟨_,_,st''⟩,λb hb=>?_⟩;have e:b=it:=by simpa using hb
  subst e;rw[aq (Jd zlt)];exact f0
 done:=by
  intro X hP hw hK hc i pins s σ H E I hf st hg;subst hP hw hK;obtain⟨he,hi⟩:=hg;obtain⟨hs,vs,rel,da⟩:=j0 I.hok he;obtain⟨f0,f1,f2,f3,f4,f5⟩:=hf it (by simp);obtain⟨ok,ov,st⟩:=st;rw[show kvs.length=vs.length from rel.length]at st;exact wpAny_pyNext_items_end (I.ok.hd hc) st da (LO (by rw[<-rel.length];exact hi)) λh' eb=>⟨rfl,I.turned (t':=s.toks) (λb o hb e=>eb b o hb e) f0 f1 f3 f4 f5⟩
 self:=λ_ _ _ _ _ st h=>by
  obtain⟨ok,ov,st⟩:=st;exact qf st h
inductive Ig(J:Addr->Obj->List (Key×V)->It)(X:Cx)(R:It->Hp->Prop)(x:V)(H1:Hp):Prop
 |mk(a kvs)(_:x=.ref a)(_:H1 a=some (.dK kvs))(_:Hz X a->∀o,R (J a o kvs) (upd H1 a (.frz o (.dK kvs))))
def iVw(J:Addr->Obj->List (Key×V)->It)(X:Cx)(tl:TE):TI:=λσ H R=>tl σ H (Ig J X R)
section
variable {X:Cx}{tg:Expr}
theorem EB{l:Expr}{tl:TE}{apos cpos:Pos}(hl:PE X l tl)(hbase:Lo l "values" X.env (eval l X.env)=eval l X.env:=by rfl)(hline:(apos.endLine==cpos.line)=true:=by rfl):PI X tg (.Call (.Attribute l "values" apos) [] [] cpos) (iVw Itv X tl):=by
 intro pins s σ H R I h;refine wpAny_Call_method0_late hbase hline (thn (hl pins s σ H _ I h) λv s1 ⟨x,H1,I1,r1,q1⟩=>?_);obtain⟨a,kvs,e,ha,q⟩:=q1;subst e;cases r1;have ad:H1 a=some (.dK kvs):=ha;obtain⟨t1,t2,_⟩:=Bv I1 (.inl ⟨kvs,.inl ha⟩);refine⟨"dict","dict.values",PySem.F.plainAttrs_dict,PySem.F.slot_dict_values,PySem.F.type_dict_values,t1,t2,K3 rfl (PySem.evalArgs_none ?_)⟩;obtain⟨o,ho,I2⟩:=I1.freeze ha;have hf:=q (I1.hz ha) o;have he:upd H1 a (.frz o (.dK kvs)) a=some (.frz o (.dK kvs)):=ah;generalize upd H1 a (.frz o (.dK kvs))=H2 at I2 hf he;obtain⟨hs,vs,rel,da⟩:=j0 I2.hok he;have dof:s1.heap.DictOf (bR X.prog X.w) a vs:=by obtain⟨o,es,r⟩:=da;exact⟨o,es,_,r⟩
 refine call_meetsIn PySem.F.slot_dict_values dof.typeIs PySem.F.entry_dict_values (PySem.F.args_dict_values_1 _) (meets_dict_values (bR X.prog X.w) a hs) ⟨⟨vs,dof⟩,?_⟩;refine wpAny_pyIter_values (knd:=bR X.prog X.w) (d:=a) (kvs:=vs) (ep:=epO o) ⟨_,Jr _ rfl,rfl,rfl⟩ (da.at' λo e=>IV _ e) ?_;have I3:=I2.kept (t':=s1.toks) (h':=s1.heap.push { cls:=Lf "dict_values",data:=LD #[JE a] }) λb o e=>IV _ e;refine⟨_,[_],_,_,H2,rfl,I3.kept (t':=s1.toks) λb o e=>IV _ e,BS a _ o kvs (λz=>?_),⟨_,Jr _ rfl,rfl,?_⟩,λb hb=>?_,hf⟩
 .have:=IS ho;rw[z,size_push']at this;exact absurd this (Nat.not_lt.mpr (Kq _))
 .rw[rel.length];rfl
 .have e:b=(s1.heap.push { cls:=Lf "dict_values",data:=LD #[JE a] }).objs.size:=by simpa using hb
  subst e;exact I3.fpOk (IM _) (I3.hok.fresh (IM _))
theorem Di{l:Expr}{tl:TE}{apos cpos:Pos}{elts:List Expr}{k1}{tp:Pos}(hl:PE X l tl)(hbase:Lo l "items" X.env (eval l X.env)=eval l X.env:=by rfl)(hline:(apos.endLine==cpos.line)=true:=by rfl):PI X (.Tuple elts k1 tp) (.Call (.Attribute l "items" apos) [] [] cpos) (iVw Itp X tl):=by
 intro pins s σ H R I h;refine wpAny_Call_method0_late hbase hline (thn (hl pins s σ H _ I h) λv s1 ⟨x,H1,I1,r1,q1⟩=>?_);obtain⟨a,kvs,e,ha,q⟩:=q1;subst e;cases r1;obtain⟨t1,t2,_⟩:=Bv I1 (.inl ⟨kvs,.inl ha⟩);refine⟨"dict","dict.items",PySem.F.plainAttrs_dict,PySem.F.slot_dict_items,PySem.F.type_dict_items,t1,t2,K3 rfl (PySem.evalArgs_none ?_)⟩;obtain⟨o,ho,I2⟩:=I1.freeze ha;have hf:=q (I1.hz ha) o;have he:upd H1 a (.frz o (.dK kvs)) a=some (.frz o (.dK kvs)):=ah;generalize upd H1 a (.frz o (.dK kvs))=H2 at I2 hf he;obtain⟨hs,vs,rel,da⟩:=j0 I2.hok he;have dof:s1.heap.DictOf (bR X.prog X.w) a vs:=by obtain⟨o,es,r⟩:=da;exact⟨o,es,_,r⟩
 refine call_meetsIn PySem.F.slot_dict_items dof.typeIs PySem.F.entry_dict_items (PySem.F.args_dict_items_1 _) (meets_dict_items (bR X.prog X.w) a hs) ⟨⟨vs,dof⟩,?_⟩;refine wpAny_pyIter_items (knd:=bR X.prog X.w) (d:=a) (kvs:=vs) (ep:=epO o) ⟨_,Jr _ rfl,rfl,rfl⟩ (da.at' λo e=>IV _ e) ?_;have I3:=I2.kept (t':=s1.toks) (h':=s1.heap.push { cls:=Lf "dict_items",data:=LD #[JE a] }) λb o e=>IV _ e;refine⟨_,[_],_,_,H2,rfl,I3.kept (t':=s1.toks) λb o e=>IV _ e,Am a _ o kvs (λz=>?_),⟨.none,.none,?_⟩,λb hb=>?_,hf⟩
 .have:=IS ho;rw[z,size_push']at this;exact absurd this (Nat.not_lt.mpr (Kq _))
 .have:=Jr (s1.heap.push { cls:=Lf "dict_items",data:=LD #[JE a] }) (o:={ cls:=Lf "dict_itemiterator",data:=LD #[Lv,MK false,JE a,LB 0 0,LB (↑vs.length) 0,LB (↑(epO o)) 0,Lv,Lv] }) rfl;rw[rel.length];exact this
 .have e:b=(s1.heap.push { cls:=Lf "dict_items",data:=LD #[JE a] }).objs.size:=by simpa using hb
  subst e;exact I3.fpOk (IM _) (I3.hok.fresh (IM _))
def Hr(J:Addr->Obj->List (Key×V)->It)(X:Cx)(tl:TE)(g:TG)(tb:TS):TS:=λD σ H=>Fs (iVw J X tl) g tb (fz X D) σ H
theorem zv{iter:Expr}{J:Addr->Obj->List (Key×V)->It}{body:List Stmt}{tl:TE}{g:TG}{tb:TS}{pos:Pos}(hp:PassesOwn (Jv X.prog X.w) X.A X.env X.xe)(hc:X.calm=true)(hi:PI X tg iter (iVw J X tl))(hg:PG X tg g)(hb:PSs X body tb)
  (hs:∀x,Kf iter X.env x=pure x:=by intro _;rfl):PS X (.For tg iter body [] pos) (Hr J X tl g tb):=by
 intro pins s σ H D I h;exact JX (bY hp hc hi hg hb hs pins s σ H (fz X D) I h) (λ_ _ z=>z.thaw) λ_ _ z=>z
end
theorem Dj{X:Cx}{a:Addr}{o:Obj}{kvs:List (Key×V)}{g:TG}{tb:TS}{D:e9}{σ:St}{H:Hp}(hz:Hz X a)(Pv:Nat->St->Hp->Prop)(fr:∀i σ H,Pv i σ H->H a=some (.frz o (.dK kvs)))(h0:Pv 0 σ H)
  (hs:∀i p σ H,kvs[i]?=some p->Pv i σ H->g p.2 σ H λσ2 H2=>tb { fz X D with nx:=Pv (i+1),ct:=Pv (i+1),bk:=(fz X D).nx } σ2 H2)(hd:∀σ H,Pv kvs.length σ H->D.nx σ (upd H a (.dK kvs))) :
  ∃W:Nat->Nat->St->Hp->Prop,(∃m,W 0 m σ H)/\∀i m σ H,W i m σ H->
   ((Itv a o kvs).stop i H/\(fz X D).nx σ H)\/((Itv a o kvs).go i H/\∃N:St->Hp->Prop,(∀σ' H',N σ' H'->∃m',m'<m/\W (i+1) m' σ' H')/\∀x H',(Itv a o kvs).yld i H x H'->g x σ H' λσ2 H2=>tb { fz X D with nx:=N,ct:=N,bk:=(fz X D).nx } σ2 H2):=by
 refine⟨λi m σ H'=>m=kvs.length-i/\i<=kvs.length/\Pv i σ H',⟨kvs.length,by simp,Jw _,h0⟩,?_⟩;rintro i m σ H' ⟨rfl,hi,p⟩;by_cases hlt:i<kvs.length
 .refine .inr ⟨⟨fr i σ H' p,hlt⟩,Pv (i+1),λσ' H' p'=>⟨kvs.length-(i+1),by omega,rfl,hlt,p'⟩,λx H'' y=>?_⟩;obtain⟨rfl,p',hp',rfl⟩:=y;exact hs i p' σ _ hp' p
 .have e:i=kvs.length:=by omega
  subst e;exact .inl ⟨⟨fr _ σ H' p,IM _⟩,a,kvs,o,hz,fr _ σ H' p,hd σ H' p⟩
theorem BT{X:Cx}{a:Addr}{o:Obj}{kvs:List (Key×V)}{g:TG}{tb:TS}{D:e9}{σ:St}{H:Hp}(hz:Hz X a)(Pv:Nat->St->Hp->Prop)(fr:∀i σ H,Pv i σ H->H a=some (.frz o (.dK kvs)))(h0:Pv 0 σ H)
  (hs:∀i q p σ H,kvs[i]?=some q->Pv i σ H->H p=none->g (.ref p) σ (upd H p (.tup [kV q.1,q.2])) λσ2 H2=>tb { fz X D with nx:=Pv (i+1),ct:=Pv (i+1),bk:=(fz X D).nx } σ2 H2)(hd:∀σ H,Pv kvs.length σ H->D.nx σ (upd H a (.dK kvs))) :
  ∃W:Nat->Nat->St->Hp->Prop,(∃m,W 0 m σ H)/\∀i m σ H,W i m σ H->
   ((Itp a o kvs).stop i H/\(fz X D).nx σ H)\/((Itp a o kvs).go i H/\∃N:St->Hp->Prop,(∀σ' H',N σ' H'->∃m',m'<m/\W (i+1) m' σ' H')/\∀x H',(Itp a o kvs).yld i H x H'->g x σ H' λσ2 H2=>tb { fz X D with nx:=N,ct:=N,bk:=(fz X D).nx } σ2 H2):=by
 refine⟨λi m σ H'=>m=kvs.length-i/\i<=kvs.length/\Pv i σ H',⟨kvs.length,by simp,Jw _,h0⟩,?_⟩;rintro i m σ H' ⟨rfl,hi,p⟩;by_cases hlt:i<kvs.length
 .refine .inr ⟨⟨fr i σ H' p,hlt⟩,Pv (i+1),λσ' H' p'=>⟨kvs.length-(i+1),by omega,rfl,hlt,p'⟩,λx H'' y=>?_⟩;obtain⟨p1,q,hp1,rfl,hq,rfl⟩:=y;exact hs i q p1 σ _ hq p hp1
 .have e:i=kvs.length:=by omega
  subst e;exact .inl ⟨⟨fr _ σ H' p,IM _⟩,a,kvs,o,hz,fr _ σ H' p,hd σ H' p⟩
section
variable {X:Cx}{o:Expr}
end
section
variable {X:Cx}{a b c o:Expr}{rest:List Expr}{ta tb to:TE}{tA tB':TT}{pos:Pos}
def PT1(X:Cx)(e:Expr)(t:TT):Prop:=
 ∀(pins:List (Addr×Obj))(s:IG)(σ:St)(H:Hp)(Q:Bool->Hp->Prop),Inv X pins σ H s->t σ H Q->Ju (Jv X.prog X.w) X.A (isTrue e X.env (eval e X.env)) (λd s'=>1<=s'.toks/\TP X pins σ Q d s') X.xe s
def PE1(X:Cx)(e:Expr)(t:TE):Prop:=
 ∀(pins:List (Addr×Obj))(s:IG)(σ:St)(H:Hp)(Q:VK),1<=s.toks->Inv X pins σ H s->t σ H Q->Ju (Jv X.prog X.w) X.A (eval e X.env) (EP X pins σ Q) X.xe s
def FX(X:Cx)(st:List Stmt)(t:TS):Prop:=
 ∀(pins:List (Addr×Obj))(s:IG)(σ:St)(H:Hp)(D:e9),1<=s.toks->Inv X pins σ H s->t D σ H->Ju (Jv X.prog X.w) X.A (execs st X.env) (SP X pins D) X.xe s
theorem An{α:Type}{M:Model}{A:JF}{s:IG}{t:Sem α}{Q:α->IG->Prop}{E:IE->IG->Prop}(h:1<=s.toks)(w:Ju M A t Q E s):Ju M A t (λa s'=>1<=s'.toks/\Q a s') E s:=
 wpAny_with_toks h (JX w (λ_ _ q z=>⟨z,q⟩) λ_ _ q _=>q)
theorem EC{op:CmpOp}{r:R2}{i:Int}{j:Nat}{p2:Pos}(ho:OpR X (Kc op) r)(ha:PE X a ta)(hm:LV op (.Constant (.int i) j p2)=false):PT1 X (.Compare a [op] [.Constant (.int i) j p2] pos) (DW (tOp r ta (tC (.int i)))):=by
 intro pins s σ H Q I h;refine wpAny_isTrue_Compare1 (thn (ha pins s σ H _ I h) λv s1 ⟨x,H1,I1,r1,q1⟩=>wpAny_Constant_int ?_) hm;refine thn (An (Lj (Jw _)) (ho pins _ σ H1 x (.int i) v _ _ (I1.tok _) r1 ⟨_,rfl⟩ q1)) λc s3 ⟨tk,z,H3,I3,r3,k,e,q3⟩=>?_;subst e;cases r3;exact Kv ⟨tk,H3,I3,q3⟩
theorem ED(ha:PT1 X a tA)(hb:PW X (.BoolOp .And (b::rest) pos) tB'):PT1 X (.BoolOp .And (a::b::rest) pos) (Fh tA tB'):=by
 intro pins s σ H Q I h;refine Nz (thn (ha pins s σ H _ I h) λc s1 ⟨tk,H1,I1,q1⟩=>?_);cases c with
 |true=>exact An tk (hb _ pins s1 σ H1 Q I1 q1)
 |false=>exact⟨tk,H1,I1,q1⟩
theorem FY{a b:List Stmt}{tc:TT}{t u:TS}(hc:PT1 X c tc)(ha:FX X a t)(hb:PSs X b u):PS X (.If c a b pos) (Fl tc t u):=by
 intro pins s σ H D I h;refine wpAny_If (thn (hc pins s σ H _ I h) λd s1 ⟨tk,H1,I1,q1⟩=>?_);cases d with
 |true=>exact ha pins s1 σ H1 D tk I1 q1
 |false=>exact hb pins s1 σ H1 D I1 q1
theorem Dk{i:Nat}{x:Str}{e:Expr}{te:TE}{pos':Pos}(hN:X.N.Nodup)(hi:X.N[i]?=some x)(hx:Loc X.env.scope x)(he:PE1 X e te)(hs:LC e (some (.Name x pos')) pos.line X.env=pure false:=by rfl)(hf:X.fn x=true\/X.env.scope.names.lookup x=some .local:=by first|exact .inl rfl|exact .inr rfl|assumption) :
  FX X [.Assign [.Name x pos'] e pos] (qw te (bA i)):=by
 intro pins s σ H D tk I h;refine LP (My (thn (he pins s σ H _ tk I h) λv s1 ⟨y,H1,I1,r1,q1⟩=>?_) hs);exact oI I1 hN hi hx r1 (λs2 I2=>K7 ⟨_,H1,I2,q1⟩) hf
inductive FZ(y:Str)(z:Str)(Q:VK)(x:V)(H1:Hp):Prop
 |mk(u:Str)(_:x=.str u)(_:u.length<=1048576)(_:Q (.str (Txt.replace u y z)) H1)
def Hs(y z:Str)(to:TE):TE:=λσ H Q=>to σ H (FZ y z Q)
theorem yU{y z:Str}{j1 j2:Nat}{p1 p2 apos cpos:Pos}(ho:PE X o to)(hyz:(y==z)=false)(hz:z.length<=14)
  (hbase:Lo o "replace" X.env (eval o X.env)=eval o X.env:=by rfl)
  (hfew:((KF cpos (Jn [.Constant (.str y) j1 p1,.Constant (.str z) j2 p2] X.env)).all (fun x=>!x.1) && (M2 cpos (LX [] X.env)).all (fun x=>x.1.isSome)
   && decide (([.Constant (.str y) j1 p1,.Constant (.str z) j2 p2]:List Expr).length+([]:List Nw).length+(if([]:List Nw).isEmpty then 0 else 1)<30))=true:=by rfl)
  (hline:(apos.endLine==cpos.line)=true:=by rfl) (ht:KF cpos (Jn [.Constant (.str y) j1 p1,.Constant (.str z) j2 p2] X.env)=[(false,eval (.Constant (.str y) j1 p1) X.env),(false,eval (.Constant (.str z) j2 p2) X.env)]:=by rfl) :
  PE1 X (.Call (.Attribute o "replace" apos) [.Constant (.str y) j1 p1,.Constant (.str z) j2 p2] [] cpos) (Hs y z to):=by
 intro pins s σ H Q tk I h;refine wpAny_Call_method_late hbase hfew hline ht (thn (An tk (ho pins s σ H _ I h)) λv s1 ⟨tk1,x,H1,I1,r1,u,e,hu,q⟩=>?_);subst e;obtain⟨t,rfl⟩:=(show ∃t,v=KD u t from r1);refine⟨"str","str.replace",Kd,PySem.F.slot_str_replace,PySem.F.type_str_replace,rfl,(λb z=>by cases z),K3 rfl (LY (Ms (Lw (Ms (Lw (Calls.spliced_nil ?_))))))⟩;refine SC.replaceW (KC tk1) (KC (Nat.succ_pos _)) (Jd (KY _)) hyz hu hz λt' k=>⟨.str _,H1,I1.tok _,⟨_,rfl⟩,q⟩
end
end L2

set_option maxHeartbeats 4000000

namespace Tl
open PySem PySem.Spec L2
inductive Kw where
 |plain|mark|number|page|row|foot|entry
 deriving DecidableEq
def Kw.s:Kw->Str
 |.plain=>"plain" | .mark=>"mark" | .number=>"number" | .page=>"page" | .row=>"row" | .foot=>"foot" | .entry=>"entry"
theorem Kw.inj:∀{a b:Kw},a.s=b.s->a=b:=by
 intro a b h;cases a<;>cases b<;>first|rfl|exact absurd h (by decide +kernel)
theorem Kw.beq(a b:Kw):(a.s==b.s)=decide (a=b):=by
 cases a<;>cases b<;>decide +kernel
abbrev Wk:=Kw×V
inductive Tg where
 |page|odd|lst|head (n:Nat) (ws:List Wk)|par (ws:List Wk)
def WkA(F:Hp)(v:V)(w:Wk):Prop:=∃a,v=.ref a/\F a=some (.tup [.str w.1.s,w.2])
def aI{α:Type}(P:V->α->Prop):List V->List α->Prop
 |[],[]=>True
 |v::r,w::s=>P v w/\aI P r s
 |_,_=>False
section
variable {α:Type}{P Q:V->α->Prop}
theorem aI.len:∀{vs:List V}{ws:List α},aI P vs ws->vs.length=ws.length
 |[],[],_=>rfl
 |_::_,_::_,h=>congrArg (·+1) (aI.len h.2)
theorem aI.imp(m:∀v w,P v w->Q v w):∀{vs:List V}{ws:List α},aI P vs ws->aI Q vs ws
 |[],[],_=>trivial
 |_::_,_::_,h=>⟨m _ _ h.1,h.2.imp m⟩
theorem aI.app:∀{vs vs':List V}{ws ws':List α},aI P vs ws->aI P vs' ws'->aI P (vs++vs') (ws++ws')
 |[],_,[],_,_,h=>h
 |_::_,_,_::_,_,h,h'=>⟨h.1,h.2.app h'⟩
theorem aI.one{v:V}{w:α}(h:P v w):aI P [v] [w]:=⟨h,trivial⟩
theorem aI.snoc{v:V}{w:α}{vs:List V}{ws:List α}(h:aI P vs ws)(h':P v w):aI P (vs++[v]) (ws++[w]):=h.app (.one h')
theorem aI.getL:∀{vs:List V}{ws:List α}{i:Nat}{v:V},aI P vs ws->vs[i]?=some v->∃w,ws[i]?=some w/\P v w
 |v::_,w::_,0,x,h,e=>by cases e;exact⟨w,rfl,h.1⟩
 |_::_,_::_,i+1,x,h,e=>aI.getL (i:=i) h.2 (by simpa using e)
 |[],[],_,_,_,e=>by simp at e
theorem aI.getR:∀{vs:List V}{ws:List α}{i:Nat}{w:α},aI P vs ws->ws[i]?=some w->∃v,vs[i]?=some v/\P v w
 |v::_,w::_,0,x,h,e=>by cases e;exact⟨v,rfl,h.1⟩
 |_::_,_::_,i+1,x,h,e=>aI.getR (i:=i) h.2 (by simpa using e)
 |[],[],_,_,_,e=>by simp at e
end
abbrev cm(F:Hp):List V->List Wk->Prop:=aI (WkA F)
theorem WkA.mono{F F':Hp}(s:aj F F'){v:V}{w:Wk}(h:WkA F v w):WkA F' v w:=by
 obtain⟨a,e,h⟩:=h;exact⟨a,e,s _ _ h⟩
theorem cm.mono{F F':Hp}(s:aj F F'){vs:List V}{ws:List Wk}(h:cm F vs ws):cm F' vs ws:=h.imp λ_ _=>WkA.mono s
def c6(F:Hp)(l:Addr)(ws:List Wk):Prop:=∃vs,F l=some (.lst vs)/\cm F vs ws
theorem c6.mono{F F':Hp}(s:aj F F'){l:Addr}{ws:List Wk}(h:c6 F l ws):c6 F' l ws:=by
 obtain⟨vs,e,h⟩:=h;exact⟨vs,s _ _ e,cm.mono s h⟩
def TgA(F:Hp)(v:V):Tg->Prop
 |.page=>∃a,v=.ref a/\F a=some (.tup [.str "page"])
 |.odd=>∃a,v=.ref a/\F a=some (.tup [.str "odd"])
 |.lst=>∃a,v=.ref a/\F a=some (.tup [.str "list"])
 |.head n ws=>∃a l,v=.ref a/\F a=some (.tup [.str "head",.int n,.ref l])/\c6 F l ws
 |.par ws=>∃a l,v=.ref a/\F a=some (.tup [.str "paragraph",.ref l])/\c6 F l ws
theorem TgA.mono{F F':Hp}(s:aj F F'){v:V}{t:Tg}(h:TgA F v t):TgA F' v t:=by
 cases t with
 |page=>obtain⟨a,e,h⟩:=h;exact⟨a,e,s _ _ h⟩
 |odd=>obtain⟨a,e,h⟩:=h;exact⟨a,e,s _ _ h⟩
 |lst=>obtain⟨a,e,h⟩:=h;exact⟨a,e,s _ _ h⟩
 |head n ws=>obtain⟨a,l,e,h,h2⟩:=h;exact⟨a,l,e,s _ _ h,h2.mono s⟩
 |par ws=>obtain⟨a,l,e,h,h2⟩:=h;exact⟨a,l,e,s _ _ h,h2.mono s⟩
abbrev gj(F:Hp):List V->List Tg->Prop:=aI (TgA F)
theorem gj.mono{F F':Hp}(s:aj F F'){vs:List V}{ws:List Tg}(h:gj F vs ws):gj F' vs ws:=h.imp λ_ _=>TgA.mono s
def FtE(F:Hp)(p:Key×V)(q:Str×List Wk):Prop:=p.1=.inr q.1/\∃l,p.2=.ref l/\c6 F l q.2
def FtA(F:Hp):List (Key×V)->List (Str×List Wk)->Prop
 |[],[]=>True
 |v::r,w::s=>FtE F v w/\FtA F r s
 |_,_=>False
theorem FtA.mono{F F':Hp}(s:aj F F'):∀{vs:List (Key×V)}{ws:List (Str×List Wk)},FtA F vs ws->FtA F' vs ws
 |[],[],_=>trivial
 |_::_,_::_,⟨⟨h1,l,h2,h3⟩,h⟩=>⟨⟨h1,l,h2,h3.mono s⟩,h.mono s⟩
theorem FtA.len{F:Hp}:∀{vs:List (Key×V)}{ws:List (Str×List Wk)},FtA F vs ws->vs.length=ws.length
 |[],[],_=>rfl
 |_::_,_::_,h=>congrArg (·+1) (FtA.len h.2)
theorem FtA.app{F:Hp}{p:Key×V}{q:Str×List Wk}(e:FtE F p q):∀{vs:List (Key×V)}{ws:List (Str×List Wk)},FtA F vs ws->FtA F (vs++[p]) (ws++[q])
 |[],[],_=>⟨e,trivial⟩
 |_::_,_::_,h=>⟨h.1,h.2.app e⟩
def lkS{β:Type}(n:Str):List (Str×β)->Option β
 |[]=>none
 |p::r=>if p.1=n then some p.2 else lkS n r
theorem FtA.val{F:Hp}{n:Str}:∀{vs:List (Key×V)}{ws:List (Str×List Wk)},FtA F vs ws->(lkS n ws=none->dh vs (.inr n)=none)/\∀f,lkS n ws=some f->∃l,dh vs (.inr n)=some (.ref l)/\c6 F l f
 |[],[],_=>⟨λ_=>rfl,λf h=>by cases h⟩
 |(k,v)::r,(m,g)::s,⟨⟨h1,l,h2,h3⟩,h⟩=>by
  have ih:=FtA.val (n:=n) h;obtain rfl:k=.inr m:=h1;obtain rfl:v=.ref l:=h2;by_cases c:m=n
  .subst c;have e:dh ((Lq m,V.ref l)::r) (.inr m)=some (.ref l):=by unfold dh;simp
   refine⟨λz=>?_,λf z=>?_⟩
   .unfold lkS at z;simp at z
   .unfold lkS at z;simp at z;subst z;exact⟨l,e,h3⟩
  .have e:dh ((Lq m,V.ref l)::r) (.inr n)=dh r (.inr n):=by
    unfold dh;have:¬ ((Lq m:Key)=.inr n):=λz=>c (by cases z;rfl);simp[this]
   have e2:lkS n ((m,g)::s)=lkS n s:=by unfold lkS;rw[if_neg c];cases s<;>rfl
   rw[e,e2];exact ih
def hid(os:List Addr)(H:Hp):Hp:=λb=>if b∈os then none else H b
theorem jF{os:List Addr}{H:Hp}{b:Addr}{o:HO}:hid os H b=some o↔b∉os/\H b=some o:=by
 unfold hid;by_cases c:b∈os
 .rw[if_pos c];exact⟨(λz=>by cases z),λz=>absurd c z.1⟩
 .rw[if_neg c];exact⟨λz=>⟨c,z⟩,λz=>z.2⟩
theorem br{os:List Addr}{H:Hp}{b:Addr}{o:HO}(c:b∉os)(h:H b=some o):hid os H b=some o:=jF.mpr ⟨c,h⟩
theorem bJ{os:List Addr}{H:Hp}:aj (hid os H) H:=λ_ _ h=>(jF.mp h).2
theorem bH{os:List Addr}{H:Hp}{p:Addr}{o:HO}(h:p∈os):hid os (upd H p o)=hid os H:=by
 funext b
 unfold hid;by_cases c:b∈os
 .rw[if_pos c,if_pos c]
 .have n:b≠p:=λe=>c (by rw[e];exact h);rw[if_neg c,if_neg c,aq n]
theorem bg{os:List Addr}{H H':Hp}(s:aj H H'):aj (hid os H) (hid os H'):=λb u z=>by
 obtain⟨c,z⟩:=jF.mp z;exact br c (s _ _ z)
theorem lN{os:List Addr}{G H:Hp}(s:aj G H)(n:∀b∈os,G b=none):aj G (hid os H):=λb u z=>br (λc=>by rw[n b c]at z;cases z) (s _ _ z)
theorem aY{G H:Hp}{p:Addr}{o:HO}(s:aj G H)(h:G p=none):aj G (upd H p o):=λb u z=>by
 rw[aq (λe=>by rw[e,h]at z;cases z)];exact s _ _ z
structure Rs where
 things:List Tg
 feet:List (Str×List Wk)
 g:Bool
inductive Rw where
 |empty|foot (n:Str) (ws:List Wk)|page|odd|lst|head (n:Nat) (ws:List Wk)|par (ws:List Wk)
def a9(ws:List Wk):List Tg->List Tg
 |[]=>[.par ws]
 |[.par vs]=>[.par (vs++ws)]
 |t::r=>t::a9 ws r
theorem sR(ws vs:List Wk):∀l:List Tg,a9 ws (l++[.par vs])=l++[.par (vs++ws)]
 |[]=>rfl
 |[t]=>by cases t<;>rfl
 |t::u::r=>by
  have:=sR ws vs (u::r);cases t<;>exact congrArg _ this
def bD(s:Rs):Rw->Rs
 |.empty=>{ s with g:=false }
 |.foot n ws=>{ s with feet:=s.feet++[(n,ws)] }
 |.page=>{ s with things:=s.things++[.page],g:=false }
 |.odd=>{ s with things:=s.things++[.odd],g:=false }
 |.lst=>{ s with things:=s.things++[.lst],g:=false }
 |.head n ws=>{ s with things:=s.things++[.head n ws],g:=false }
 |.par ws=>if s.g then{ s with things:=a9 ws s.things }else{ s with things:=s.things++[.par ws],g:=true }
def aS:Rs->List Rw->Rs
 |s,[]=>s
 |s,r::l=>aS (bD s r) l
theorem BU(l l':List Rw):∀s:Rs,aS s (l++l')=aS (aS s l) l':=by
 induction l with
 |nil=>intro s;rfl
 |cons a l ih=>intro s;exact ih _
inductive Xc where
 |twice|nofoot|toolong|nomark
 deriving DecidableEq
structure Sc where
 nums:List Str
 titles:List (List Wk)
 feet:List (Str×List Wk)
structure Wt where
 lead:Int
 kept:Bool
 w:Wk
 foot:List Wk
structure Ss where
 fs:Nat
 ws:List Wt
 ms:List (Str×Nat)
 hs:List (Str×Nat)
 lp:Int
 bh:Bool
def rest:V->Str
 |.str n=>n
 |_=>JV
def eC(s:Ss)(n:Str):Except Xc Ss:=if(lkS n s.ms).isSome then .error .twice else .ok { s with ms:=s.ms++[(n,s.ws.length)] }
def ge(s:Ss)(lead:Int)(w:Wk)(foot:List Wk):Except Xc Ss:=
 if s.ws.length=400 then .error .toolong
 else .ok { s with lp:=if 0<s.lp then 0 else s.lp,ws:=s.ws++[⟨if 0<s.lp then s.lp else lead,s.bh&&decide ((if 0<s.lp then s.lp else lead)<=2),w,foot⟩] }
def ip(k:Nat):Str := "("++tx (dH k)++")"
def gk(c:Sc)(s:Ss)(n:Str):Except Xc (Ss×List Wk):=
 match lkS n c.feet with
 |none=>.error .nofoot
 |some f=>.ok ({ s with fs:=s.fs+1 },(.plain,.str (ip (s.fs+1)))::f)
def cr(c:Sc)(s:Ss)(lead:Int)(w:Wk):Except Xc Ss:=
 if w.1=.foot then
  match gk c s (rest w.2)with
  |.error x=>.error x
  |.ok (s',f)=>ge s' lead (f.headD w) f
 else ge s lead w []
def ca(c:Sc)(s:Ss)(lead:Int)(byh:Bool):List Wk->Except Xc Ss
 |[]=>.ok s
 |w::r =>
  if w.1=.mark then
   match eC s (rest w.2)with
   |.error x=>.error x
   |.ok s'=>ca c s' lead byh r
  else
   match cr c s lead w with
   |.error x=>.error x
   |.ok s'=>ca c { s' with bh:=byh } 0 byh r
def qH(c:Sc)(s:Ss)(k:Nat):Except Xc Ss:=
 ca c { s with hs:=s.hs++[(c.nums.getD k JV,s.ws.length)] } 2 true ((.plain,.str (c.nums.getD k JV))::c.titles.getD k [])
def iq(ws:List Wk):List Wk:=ws.filter λw=>!decide (w.1=.mark)
def cj(c:Sc)(k:Nat)(n:Str):List Wk:=(.plain,.str n)::(iq (c.titles.getD k [])++[(.entry,.int k)])
def fV(c:Sc)(s:Ss)(lead:Int)(k:Nat):List Str->Except Xc Ss
 |[]=>.ok s
 |n::r =>
  match ca c s lead false (cj c k n)with
  |.error x=>.error x
  |.ok s'=>fV c s' 1 (k+1) r
def gR(c:Sc)(s:Ss):Tg->Except Xc Ss
 |.page=>.ok { s with lp:=if s.lp<3 then 3 else s.lp }
 |.odd=>.ok { s with lp:=if s.lp<4 then 4 else s.lp }
 |.head _ _=>qH c s s.hs.length
 |.lst=>fV c s 2 0 c.nums
 |.par ws=>ca c s (if s.bh then 1 else 2) false ws
def iY(c:Sc):Ss->List Tg->Except Xc Ss
 |s,[]=>.ok s
 |s,t::r =>
  match gR c s t with
  |.error x=>.error x
  |.ok s'=>iY c s' r
def gE(k:Kw):Bool:=k=.number||k=.page||k=.row
def jr(s:Ss)(w:Wk):Bool:=gE w.1&&(lkS (rest w.2) s.ms).isNone
def fA(c:Sc)(s:Ss):Option Xc:=
 if s.ms.any (λm=>m.2=s.ws.length)then some .nomark
 else if(s.ws.map (·.w)++c.feet.flatMap (·.2)).any (jr s)then some .nomark
 else none
def gF(k:Nat):Str->List (Str×Nat)->Str
 |n,[]=>n
 |n,(t,at_)::r=>gF k (if at_<=k then t else n) r
def jG(s:Ss)(n:Str):Nat:=(lkS n s.ms).getD 0
def qI(s:Ss)(w:Wk):DD:=
 match w.1 with
 |.plain=>.tup [.str "text",.str (rest w.2)]
 |.entry=>.tup [.str "page",.int (match w.2 with|.int k=>((s.hs.getD k.toNat (JV,0)).2:Nat)|_=>0)]
 |.number=>.tup [.str "text",.str (gF (jG s (rest w.2)) "0" s.hs)]
 |k=>.tup [.str k.s,.int (jG s (rest w.2))]
def wtD(s:Ss)(t:Wt):DD:=.tup [.int t.lead,.bl t.kept,qI s t.w,.lst (t.foot.map (qI s))]
def aK:List Tg->List (Nat×List Wk)
 |[]=>[]
 |.head n ws::r=>(n,ws)::aK r
 |_::r=>aK r
def ss0:Ss:=⟨0,[],[],[],0,false⟩

def fsR(sa fa ta:Addr)(g:Bool):List (Str×V):=[("shorts",.ref sa),("feet",.ref fa),("things",.ref ta),("going_on",.bl g)]
section
variable {sa fa ta:Addr}{g:Bool}
theorem BV:Jz ("shorts" : Str) (fsR sa fa ta g)=some (.ref sa):=rfl
theorem uX:Jz ("feet" : Str) (fsR sa fa ta g)=some (.ref fa):=by
 have e:(("feet" : Str) == "shorts")=false:=by decide +kernel
 simp[fsR,Jz,e]
theorem qJ:Jz ("things" : Str) (fsR sa fa ta g)=some (.ref ta):=by
 have e:(("things" : Str) == "shorts")=false:=by decide +kernel
 have e2:(("things" : Str) == "feet")=false:=by decide +kernel
 simp[fsR,Jz,e,e2]
theorem yV:Jz ("going_on" : Str) (fsR sa fa ta g)=some (.bl g):=by
 have e:(("going_on" : Str) == "shorts")=false:=by decide +kernel
 have e2:(("going_on" : Str) == "feet")=false:=by decide +kernel
 have e3:(("going_on" : Str) == "things")=false:=by decide +kernel
 simp[fsR,Jz,e,e2,e3]
theorem ni{m:Str}(h:((m == "shorts")||(m == "feet")||(m == "things")||(m == "going_on"))=false):(fsR sa fa ta g).lookup m=none:=by
 simp only[Lg]at h;simp[fsR,Jz,h.1.1.1,h.1.1.2,h.1.2,h.2]
theorem qK{b:Bool}:bW "going_on" (.bl b) (fsR sa fa ta g)=fsR sa fa ta b:=by
 have e:¬ (("shorts" : Str) = "going_on"):=by decide +kernel
 have e2:¬ (("feet" : Str) = "going_on"):=by decide +kernel
 have e3:¬ (("things" : Str) = "going_on"):=by decide +kernel
 simp[fsR,bW,e,e2,e3]
theorem uY:(fsR sa fa ta g).length<1000:=by show 4<1000;decide
end
theorem EE{sa fa ta sa' fa' ta':Addr}{g g':Bool}(h:fsR sa fa ta g=fsR sa' fa' ta' g'):sa=sa'/\fa=fa'/\ta=ta'/\g=g':=by
 simpa[fsR]using h
structure RdA(C:Addr)(H0 H:Hp)(r:Addr)(s:Rs):Prop where
 old:aj H0 H
 mid:∃dx sa fa ta la kvs vs,H r=some (.ins C dx (fsR sa fa ta s.g))/\hid [r,fa,ta,la] H sa=some (.lst [])/\H fa=some (.dK kvs)/\H ta=some (.lst vs)/\
  (H0 r=none/\H0 fa=none/\H0 ta=none/\H0 la=none)/\FtA (hid [r,fa,ta,la] H) kvs s.feet/\
  ((s.g=false/\la=ta/\gj (hid [r,fa,ta,la] H) vs s.things)\/
    (s.g=true/\la≠ta/\∃vi a wvs ini ws,vs=vi++[.ref a]/\s.things=ini++[.par ws]/\hid [r,fa,ta,la] H a=some (.tup [.str "paragraph",.ref la])/\H la=some (.lst wvs)/\cm (hid [r,fa,ta,la] H) wvs ws/\gj (hid [r,fa,ta,la] H) vi ini))
theorem RdA.same{C:Addr}{H0 H H':Hp}{r:Addr}{s:Rs}(R:RdA C H0 H r s)(m:aj H H'):RdA C H0 H' r s:=by
 obtain⟨old,dx,sa,fa,ta,la,kvs,vs,h1,h2,h3,h4,h5,h6,h7⟩:=R;refine⟨old.trans m,dx,sa,fa,ta,la,kvs,vs,m _ _ h1,bg m _ _ h2,m _ _ h3,m _ _ h4,h5,h6.mono (bg m),?_⟩;rcases h7 with⟨e1,e2,h⟩|⟨e1,e2,vi,a,wvs,ini,ws,q1,q2,q3,q4,q5,q6⟩
 .exact .inl ⟨e1,e2,gj.mono (bg m) h⟩
 .exact .inr ⟨e1,e2,vi,a,wvs,ini,ws,q1,q2,bg m _ _ q3,m _ _ q4,cm.mono (bg m) q5,gj.mono (bg m) q6⟩
theorem oq{os:List Addr}{H:Hp}(n:∀b∈os,∀us,H b≠some (.tup us)){vs:List V}{ws:List Wk}(h:cm H vs ws):cm (hid os H) vs ws:=h.imp λv w ⟨a,e,h⟩=>⟨a,e,br (λc=>n a c _ h) h⟩
def TgN(F H:Hp)(v:V):Tg->Prop
 |.page=>∃a,v=.ref a/\H a=some (.tup [.str "page"])
 |.odd=>∃a,v=.ref a/\H a=some (.tup [.str "odd"])
 |.lst=>∃a,v=.ref a/\H a=some (.tup [.str "list"])
 |.head n ws=>∃a l,v=.ref a/\H a=some (.tup [.str "head",.int n,.ref l])/\F l=none/\c6 H l ws
 |.par ws=>∃a l,v=.ref a/\H a=some (.tup [.str "paragraph",.ref l])/\F l=none/\c6 H l ws
theorem TgN.hid{F H:Hp}{os:List Addr}{v:V}{t:Tg}(n:∀b∈os,∀us,H b≠some (.tup us))(f:∀b∈os,F b≠none)(h:TgN F H v t):TgA (hid os H) v t:=by
 have ls:∀{l:Addr}{ws:List Wk},F l=none->c6 H l ws->c6 (Tl.hid os H) l ws:=λe ⟨vs,h1,h2⟩=>⟨vs,br (λc=>f _ c e) h1,oq n h2⟩;cases t with
 |page=>obtain⟨a,e,h⟩:=h;exact⟨a,e,br (λc=>n a c _ h) h⟩
 |odd=>obtain⟨a,e,h⟩:=h;exact⟨a,e,br (λc=>n a c _ h) h⟩
 |lst=>obtain⟨a,e,h⟩:=h;exact⟨a,e,br (λc=>n a c _ h) h⟩
 |head k ws=>obtain⟨a,l,e,h,h1,h2⟩:=h;exact⟨a,l,e,br (λc=>n a c _ h) h,ls h1 h2⟩
 |par ws=>obtain⟨a,l,e,h,h1,h2⟩:=h;exact⟨a,l,e,br (λc=>n a c _ h) h,ls h1 h2⟩
theorem gN{H:Hp}{a:Addr}{o:HO}(h:H a=some o)(n:∀us,o≠.tup us):∀us,H a≠some (.tup us):=λus z=>by
 rw[h]at z;exact n us (Jy z)
theorem su{H:Hp}{a:Addr}{o:HO}(h:H a=some o):H a≠none:=λz=>by rw[h]at z;cases z
theorem RdA.use{C:Addr}{H0 H:Hp}{r:Addr}{s:Rs}(R:RdA C H0 H r s):∃dx sa fa ta kvs vs,H r=some (.ins C dx (fsR sa fa ta s.g))/\H sa=some (.lst [])/\H fa=some (.dK kvs)/\H ta=some (.lst vs)/\vs.length=s.things.length/\kvs.length=s.feet.length/\(∀n,lkS n s.feet=none->dh kvs (.inr n)=none)/\
  (∀H' v t,aj H H'->TgN H H' v t->RdA C H0 (upd (upd H' ta (.lst (vs++[v]))) r (.ins C dx (fsR sa fa ta false))) r { s with things:=s.things++[t],g:=false })/\
  (∀H',aj H H'->RdA C H0 (upd H' r (.ins C dx (fsR sa fa ta false))) r { s with g:=false })/\
  (∀H' n l ws,aj H H'->H l=none->c6 H' l ws->RdA C H0 (upd H' fa (.dK (kvs++[(.inr n,.ref l)]))) r { s with feet:=s.feet++[(n,ws)] })/\
  (s.g=true->∃vi a la wvs ini ws,vs=vi++[.ref a]/\H a=some (.tup [.str "paragraph",.ref la])/\H la=some (.lst wvs)/\s.things=ini++[.par ws]/\wvs.length=ws.length/\∀H' us ws',aj H H'->cm H' us ws'->RdA C H0 (upd H' la (.lst (wvs++us))) r { s with things:=a9 ws' s.things })/\
  (∀H' a l ws,aj H H'->H' a=some (.tup [.str "paragraph",.ref l])->H l=none->c6 H' l ws->RdA C H0 (upd (upd (upd H' ta (.lst (vs++[.ref a]))) r (.ins C dx (fsR sa fa ta false))) r (.ins C dx (fsR sa fa ta true))) r { s with things:=s.things++[.par ws],g:=true })/\
  FtA H kvs s.feet/\gj H vs s.things/\H0 fa=none/\H0 ta=none:=by
 obtain⟨old,dx,sa,fa,ta,la,kvs,vs,h1,h2,h3,h4,h5,h6,h7⟩:=R;have n1:r≠fa:=λz=>by rw[z,h3]at h1;cases h1
 have n2:r≠ta:=λz=>by rw[z,h4]at h1;cases h1
 have n3:fa≠ta:=λz=>by rw[z,h4]at h3;cases h3
 have hla:∃us,H la=some (.lst us):=by
  rcases h7 with⟨e1,e2,h⟩|⟨e1,e2,vi,a,wvs,ini,ws,q1,q2,q3,q4,q5,q6⟩
  .rw[e2];exact⟨_,h4⟩
  .exact⟨_,q4⟩
 obtain⟨us0,hla⟩:=hla;have n4:la≠r:=λz=>by rw[z,h1]at hla;cases hla
 have n5:la≠fa:=λz=>by rw[z,h3]at hla;cases hla
 have nt:∀{H':Hp},aj H H'->∀b∈[r,fa,ta,la],∀us,H' b≠some (.tup us):=λ{H'} m b hb=>by
  simp only[J8,JQ,or_false]at hb;rcases hb with rfl|rfl|rfl|rfl
  .exact gN (m _ _ h1) (λus z=>by cases z)
  .exact gN (m _ _ h3) (λus z=>by cases z)
  .exact gN (m _ _ h4) (λus z=>by cases z)
  .exact gN (m _ _ hla) (λus z=>by cases z)
 have nn:∀b∈[r,fa,ta,la],H b≠none:=λb hb=>by
  simp only[J8,JQ,or_false]at hb;rcases hb with rfl|rfl|rfl|rfl
  .exact su h1
  .exact su h3
  .exact su h4
  .exact su hla
 have sub:∀b∈[r,fa,ta,ta],b∈[r,fa,ta,la]:=λb hb=>by
  simp only[J8,JQ,or_false]at hb⊢;rcases hb with h|h|h|h<;>simp[h]
 have m0:∀{H':Hp},aj H H'->aj (hid [r,fa,ta,la] H) (hid [r,fa,ta,ta] H'):=λ{H'} m b o z=>by
  obtain⟨c,z⟩:=jF.mp z;exact br (λw=>c (sub b w)) (m _ _ z)
 have cl:∀{H':Hp},aj H H'->gj (hid [r,fa,ta,ta] H') vs s.things:=λ{H'} m=>by
  rcases h7 with⟨e1,e2,h⟩|⟨e1,e2,vi,a,wvs,ini,ws,q1,q2,q3,q4,q5,q6⟩
  .exact gj.mono (m0 m) h
  .rw[q1,q2];exact(gj.mono (m0 m) q6).snoc ⟨a,la,rfl,m0 m _ _ q3,wvs,br (by simp[n4,n5,e2]) (m _ _ q4),cm.mono (m0 m) q5⟩
 refine⟨dx,sa,fa,ta,kvs,vs,h1,bJ _ _ h2,h3,h4,(cl (aj.refl _)).len,h6.len,λn hn=>(h6.val).1 hn,?_,?_,?_,?_,?_,h6.mono bJ,gj.mono bJ (cl (aj.refl _)),h5.2.1,h5.2.2.1⟩
 .intro H' v t m tn;have e:hid [r,fa,ta,ta] (upd (upd H' ta (.lst (vs++[v]))) r (.ins C dx (fsR sa fa ta false)))=hid [r,fa,ta,ta] H':=by
   rw[bH (by simp),bH (by simp)]
  refine⟨?_,dx,sa,fa,ta,ta,kvs,vs++[v],ah,?_,?_,?_,⟨h5.1,h5.2.1,h5.2.2.1,h5.2.2.1⟩,?_,.inl ⟨rfl,rfl,?_⟩⟩
  .exact aY (aY (old.trans m) h5.2.2.1) h5.1
  .rw[e];exact m0 m _ _ h2
  .rw[aq (JH n1),aq n3];exact m _ _ h3
  .rw[aq (JH n2)];exact ah
  .rw[e];exact h6.mono (m0 m)
  .rw[e];exact(cl m).snoc (tn.hid (λb hb=>nt m b (sub b hb)) (λb hb=>nn b (sub b hb)))
 .intro H' m;have e:hid [r,fa,ta,ta] (upd H' r (.ins C dx (fsR sa fa ta false)))=hid [r,fa,ta,ta] H':=bH (by simp);refine⟨aY (old.trans m) h5.1,dx,sa,fa,ta,ta,kvs,vs,ah,?_,?_,?_,⟨h5.1,h5.2.1,h5.2.2.1,h5.2.2.1⟩,?_,.inl ⟨rfl,rfl,?_⟩⟩
  .rw[e];exact m0 m _ _ h2
  .rw[aq (JH n1)];exact m _ _ h3
  .rw[aq (JH n2)];exact m _ _ h4
  .rw[e];exact h6.mono (m0 m)
  .rw[e];exact cl m
 .intro H' n l ws m hl lw;have e:hid [r,fa,ta,la] (upd H' fa (.dK (kvs++[(.inr n,.ref l)])))=hid [r,fa,ta,la] H':=bH (by simp);have hm:=bg (os:=[r,fa,ta,la]) m;refine⟨aY (old.trans m) h5.2.1,dx,sa,fa,ta,la,kvs++[(.inr n,.ref l)],vs,?_,?_,ah,?_,h5,?_,?_⟩
  .rw[aq n1];exact m _ _ h1
  .rw[e];exact hm _ _ h2
  .rw[aq (JH n3)];exact m _ _ h4
  .rw[e];obtain⟨us,l1,l2⟩:=lw;exact(h6.mono hm).app ⟨rfl,l,rfl,us,br (λc=>nn _ c hl) l1,oq (nt m) l2⟩
  .rw[e];rcases h7 with⟨e1,e2,h⟩|⟨e1,e2,vi,a,wvs,ini,ws,q1,q2,q3,q4,q5,q6⟩
   .exact .inl ⟨e1,e2,gj.mono hm h⟩
   .exact .inr ⟨e1,e2,vi,a,wvs,ini,ws,q1,q2,hm _ _ q3,by rw[aq n5];exact m _ _ q4,cm.mono hm q5,gj.mono hm q6⟩
 .intro hg;rcases h7 with⟨e1,e2,h⟩|⟨e1,e2,vi,a,wvs,ini,ws,q1,q2,q3,q4,q5,q6⟩
  .rw[hg]at e1;cases e1
  refine⟨vi,a,la,wvs,ini,ws,q1,bJ _ _ q3,q4,q2,q5.len,λH' us ws' m al=>?_⟩;have e:hid [r,fa,ta,la] (upd H' la (.lst (wvs++us)))=hid [r,fa,ta,la] H':=bH (by simp);have hm:=bg (os:=[r,fa,ta,la]) m;refine⟨aY (old.trans m) h5.2.2.2,dx,sa,fa,ta,la,kvs,vs,?_,?_,?_,?_,h5,?_,.inr ⟨e1,e2,vi,a,wvs++us,ini,ws++ws',q1,?_,?_,ah,?_,?_⟩⟩
  .rw[aq (JH n4)];exact m _ _ h1
  .rw[e];exact hm _ _ h2
  .rw[aq (JH n5)];exact m _ _ h3
  .rw[aq (JH e2)];exact m _ _ h4
  .rw[e];exact h6.mono hm
  .show a9 ws' s.things=_;rw[q2,sR]
  .rw[e];exact hm _ _ q3
  .rw[e];exact(cm.mono hm q5).app (oq (nt m) al)
  .rw[e];exact gj.mono hm q6
 .intro H' a l ws m ha hl lw;have lr:l≠r:=λz=>by rw[z,h1]at hl;cases hl
  have lfa:l≠fa:=λz=>by rw[z,h3]at hl;cases hl
  have lta:l≠ta:=λz=>by rw[z,h4]at hl;cases hl
  have lla:l≠la:=λz=>by rw[z,hla]at hl;cases hl
  obtain⟨us,l1,l2⟩:=lw;have nt':∀b∈[r,fa,ta,l],∀us,H' b≠some (.tup us):=λb hb=>by
   simp only[J8,JQ,or_false]at hb;rcases hb with rfl|rfl|rfl|rfl
   .exact gN (m _ _ h1) (λus z=>by cases z)
   .exact gN (m _ _ h3) (λus z=>by cases z)
   .exact gN (m _ _ h4) (λus z=>by cases z)
   .exact gN l1 (λus z=>by cases z)
  have e:hid [r,fa,ta,l] (upd (upd (upd H' ta (.lst (vs++[.ref a]))) r (.ins C dx (fsR sa fa ta false))) r (.ins C dx (fsR sa fa ta true)))=hid [r,fa,ta,l] H':=by
   rw[bH (by simp),bH (by simp),bH (by simp)]
  have mm:aj (hid [r,fa,ta,ta] H) (hid [r,fa,ta,l] H'):=λb o z=>by
   obtain⟨c,z⟩:=jF.mp z;refine br (λw=>?_) (m _ _ z);simp only[J8,JQ,or_false]at w c;rcases w with w|w|w|w
   .exact c (.inl w)
   .exact c (.inr (.inl w))
   .exact c (.inr (.inr (.inl w)))
   .rw[w,hl]at z;cases z
  refine⟨aY (aY (aY (old.trans m) h5.2.2.1) h5.1) h5.1,dx,sa,fa,ta,l,kvs,vs++[.ref a],ah,?_,?_,?_,⟨h5.1,h5.2.1,h5.2.2.1,old.free hl⟩,?_,.inr ⟨rfl,lta,vs,a,us,s.things,ws,rfl,rfl,?_,?_,?_,?_⟩⟩
  .rw[e];exact mm _ _ (m0 (aj.refl _) _ _ h2)
  .rw[aq (JH n1),aq (JH n1),aq n3];exact m _ _ h3
  .rw[aq (JH n2),aq (JH n2)];exact ah
  .rw[e];exact h6.mono ((m0 (aj.refl _)).trans mm)
  .rw[e];exact br (λc=>nt' a c _ ha) ha
  .rw[aq lr,aq lr,aq lta];exact l1
  .rw[e];exact oq nt' l2
  .rw[e];exact gj.mono mm (cl (aj.refl _))
def tgN:Tg->Nat
 |.head _ ws=>ws.length
 |.par ws=>ws.length
 |_=>0
def rwN:Rw->Nat
 |.foot _ ws=>ws.length
 |.head _ ws=>ws.length
 |.par ws=>ws.length
 |_=>0
def tgS(l:List Tg):Nat:=(l.map tgN).sum
theorem xQ(ws:List Wk):∀l:List Tg,tgS (a9 ws l)=tgS l+ws.length/\(a9 ws l).length<=l.length+1
 |[]=>by simp[a9,tgS,tgN]
 |[t]=>by
  cases t<;>simp[a9,tgS,tgN]
 |t::u::r=>by
  have ih:=xQ ws (u::r);have e:a9 ws (t::u::r)=t::a9 ws (u::r):=by cases t<;>rfl
  rw[e];unfold tgS at ih⊢;simp only[IQ,J9,ID]at ih⊢;omega
theorem EF(s:Rs)(w:Rw):tgS (bD s w).things<=tgS s.things+rwN w/\(bD s w).things.length<=s.things.length+1/\(bD s w).feet.length<=s.feet.length+1:=by
 have snoc:∀(l:List Tg)(t:Tg),tgS (l++[t])=tgS l+tgN t:=λl t=>by simp[tgS]
 cases w with
 |empty=>exact⟨IM _,Kq _,Kq _⟩
 |foot n ws=>exact⟨J5 _ _,Kq _,by simp[bD]⟩
 |page=>simp[bD,snoc,tgN,rwN]
 |odd=>simp[bD,snoc,tgN,rwN]
 |lst=>simp[bD,snoc,tgN,rwN]
 |head n ws=>simp[bD,snoc,tgN,rwN]
 |par ws =>
  unfold bD;by_cases g:s.g=true
  .simp only[g,if_true];have:=xQ ws s.things;exact⟨by rw[this.1];exact IM _,this.2,Kq _⟩
  .simp only[J6]at g;simp[g,snoc,tgN,rwN]
theorem uZ:∀(l:List Rw)(s:Rs),tgS (aS s l).things<=tgS s.things+(l.map rwN).sum/\(aS s l).things.length<=s.things.length+l.length/\(aS s l).feet.length<=s.feet.length+l.length
 |[],s=>by simp[aS]
 |w::l,s=>by
  have h:=EF s w;have ih:=uZ l (bD s w);have e:aS s (w::l)=aS (bD s w) l:=rfl;rw[e];simp only[IQ,J9,ID];omega
theorem sS(f:Rw->Nat):∀(l:List Rw)(k:Nat),((l.take k).map f).sum<=(l.map f).sum
 |[],k=>by simp
 |a::l,0=>by simp
 |a::l,k+1=>by
  have:=sS f l k;simp only[List.take_succ_cons,IQ,J9];omega
def rs0:Rs:=⟨[],[],false⟩
theorem EG{ini:List Tg}{ws:List Wk}:ws.length<=tgS (ini++[.par ws]):=by simp[tgS,tgN]
def FrX(H H':Hp)(x:Addr):Prop:=∀b u,b≠x->H b=some u->H' b=some u
theorem FrX.refl{H:Hp}{x:Addr}:FrX H H x:=λ_ _ _ h=>h
theorem FrX.same{H H1 H':Hp}{x:Addr}(f:FrX H H1 x)(s:aj H1 H'):FrX H H' x:=λb u n h=>s _ _ (f b u n h)
theorem FrX.at{H H':Hp}{x:Addr}{o:HO}(f:FrX H H' x):FrX H (upd H' x o) x:=λb u n h=>by
 rw[aq n];exact f b u n h
theorem FrX.free{H H':Hp}{x p:Addr}{o:HO}(f:FrX H H' x)(hx:H' x=some o)(hp:H' p=none):H p=none:=by
 cases z:H p with
 |none=>rfl
 |some u =>
  by_cases e:p=x
  .rw[e,hx]at hp;cases hp
  .rw[f p u e z]at hp;cases hp
theorem FrX.old{G H H':Hp}{x:Addr}(f:FrX H H' x)(s:aj G H)(hx:G x=none):aj G H':=λb u h=>f b u (λz=>by rw[z,hx]at h;cases h) (s _ _ h)
end Tl

set_option maxHeartbeats 4000000

namespace Tl
open PySem PySem.Spec L2
structure Sad where
 x:Addr
 dx:Addr
 na:Addr
 ta:Addr
 fa:Addr
 wa:Addr
 ma:Addr
 ha:Addr
def Sad.os(A:Sad):List Addr:=[A.x,A.wa,A.ma,A.ha]
def fsS(A:Sad)(fs lp:Int)(bh:Bool):List (Str×V):=[("numbers",.ref A.na),("titles",.ref A.ta),("feet",.ref A.fa),("feet_set",.int fs),("words",.ref A.wa),("marks",.ref A.ma),("heads",.ref A.ha),("leap",.int lp),("behind_head",.bl bh)]
section
variable {A:Sad}{fs lp:Int}{bh:Bool}
theorem uA:Jz ("numbers" : Str) (fsS A fs lp bh)=some (.ref A.na):=by
 rfl
theorem vM:Jz ("titles" : Str) (fsS A fs lp bh)=some (.ref A.ta):=by
 have e0:(("titles" : Str) == "numbers")=false:=by decide +kernel
 simp[fsS,Jz,e0]
theorem u5:Jz ("feet" : Str) (fsS A fs lp bh)=some (.ref A.fa):=by
 have e0:(("feet" : Str) == "numbers")=false:=by decide +kernel
 have e1:(("feet" : Str) == "titles")=false:=by decide +kernel
 simp[fsS,Jz,e0,e1]
theorem sT:Jz ("feet_set" : Str) (fsS A fs lp bh)=some (.int fs):=by
 have e0:(("feet_set" : Str) == "numbers")=false:=by decide +kernel
 have e1:(("feet_set" : Str) == "titles")=false:=by decide +kernel
 have e2:(("feet_set" : Str) == "feet")=false:=by decide +kernel
 simp[fsS,Jz,e0,e1,e2]
theorem jw:Jz ("words" : Str) (fsS A fs lp bh)=some (.ref A.wa):=by
 have e0:(("words" : Str) == "numbers")=false:=by decide +kernel
 have e1:(("words" : Str) == "titles")=false:=by decide +kernel
 have e2:(("words" : Str) == "feet")=false:=by decide +kernel
 have e3:(("words" : Str) == "feet_set")=false:=by decide +kernel
 simp[fsS,Jz,e0,e1,e2,e3]
theorem jx:Jz ("marks" : Str) (fsS A fs lp bh)=some (.ref A.ma):=by
 have e0:(("marks" : Str) == "numbers")=false:=by decide +kernel
 have e1:(("marks" : Str) == "titles")=false:=by decide +kernel
 have e2:(("marks" : Str) == "feet")=false:=by decide +kernel
 have e3:(("marks" : Str) == "feet_set")=false:=by decide +kernel
 have e4:(("marks" : Str) == "words")=false:=by decide +kernel
 simp[fsS,Jz,e0,e1,e2,e3,e4]
theorem lY:Jz ("heads" : Str) (fsS A fs lp bh)=some (.ref A.ha):=by
 have e0:(("heads" : Str) == "numbers")=false:=by decide +kernel
 have e1:(("heads" : Str) == "titles")=false:=by decide +kernel
 have e2:(("heads" : Str) == "feet")=false:=by decide +kernel
 have e3:(("heads" : Str) == "feet_set")=false:=by decide +kernel
 have e4:(("heads" : Str) == "words")=false:=by decide +kernel
 have e5:(("heads" : Str) == "marks")=false:=by decide +kernel
 simp[fsS,Jz,e0,e1,e2,e3,e4,e5]
theorem sx:Jz ("leap" : Str) (fsS A fs lp bh)=some (.int lp):=by
 have e0:(("leap" : Str) == "numbers")=false:=by decide +kernel
 have e1:(("leap" : Str) == "titles")=false:=by decide +kernel
 have e2:(("leap" : Str) == "feet")=false:=by decide +kernel
 have e3:(("leap" : Str) == "feet_set")=false:=by decide +kernel
 have e4:(("leap" : Str) == "words")=false:=by decide +kernel
 have e5:(("leap" : Str) == "marks")=false:=by decide +kernel
 have e6:(("leap" : Str) == "heads")=false:=by decide +kernel
 simp[fsS,Jz,e0,e1,e2,e3,e4,e5,e6]
theorem ot:Jz ("behind_head" : Str) (fsS A fs lp bh)=some (.bl bh):=by
 have e0:(("behind_head" : Str) == "numbers")=false:=by decide +kernel
 have e1:(("behind_head" : Str) == "titles")=false:=by decide +kernel
 have e2:(("behind_head" : Str) == "feet")=false:=by decide +kernel
 have e3:(("behind_head" : Str) == "feet_set")=false:=by decide +kernel
 have e4:(("behind_head" : Str) == "words")=false:=by decide +kernel
 have e5:(("behind_head" : Str) == "marks")=false:=by decide +kernel
 have e6:(("behind_head" : Str) == "heads")=false:=by decide +kernel
 have e7:(("behind_head" : Str) == "leap")=false:=by decide +kernel
 simp[fsS,Jz,e0,e1,e2,e3,e4,e5,e6,e7]
theorem wu{fs':Int}:bW "feet_set" (.int fs') (fsS A fs lp bh)=fsS A fs' lp bh:=by
 have e0:¬ (("numbers" : Str) = "feet_set"):=by decide +kernel
 have e1:¬ (("titles" : Str) = "feet_set"):=by decide +kernel
 have e2:¬ (("feet" : Str) = "feet_set"):=by decide +kernel
 simp[fsS,bW,e0,e1,e2]
theorem qL{lp':Int}:bW "leap" (.int lp') (fsS A fs lp bh)=fsS A fs lp' bh:=by
 have e0:¬ (("numbers" : Str) = "leap"):=by decide +kernel
 have e1:¬ (("titles" : Str) = "leap"):=by decide +kernel
 have e2:¬ (("feet" : Str) = "leap"):=by decide +kernel
 have e3:¬ (("feet_set" : Str) = "leap"):=by decide +kernel
 have e4:¬ (("words" : Str) = "leap"):=by decide +kernel
 have e5:¬ (("marks" : Str) = "leap"):=by decide +kernel
 have e6:¬ (("heads" : Str) = "leap"):=by decide +kernel
 simp[fsS,bW,e0,e1,e2,e3,e4,e5,e6]
theorem tG{bh':Bool}:bW "behind_head" (.bl bh') (fsS A fs lp bh)=fsS A fs lp bh':=by
 have e0:¬ (("numbers" : Str) = "behind_head"):=by decide +kernel
 have e1:¬ (("titles" : Str) = "behind_head"):=by decide +kernel
 have e2:¬ (("feet" : Str) = "behind_head"):=by decide +kernel
 have e3:¬ (("feet_set" : Str) = "behind_head"):=by decide +kernel
 have e4:¬ (("words" : Str) = "behind_head"):=by decide +kernel
 have e5:¬ (("marks" : Str) = "behind_head"):=by decide +kernel
 have e6:¬ (("heads" : Str) = "behind_head"):=by decide +kernel
 have e7:¬ (("leap" : Str) = "behind_head"):=by decide +kernel
 simp[fsS,bW,e0,e1,e2,e3,e4,e5,e6,e7]

theorem jy{m:Str}(h:[("numbers" : Str),("titles" : Str),("feet" : Str),("feet_set" : Str),("words" : Str),("marks" : Str),("heads" : Str),("leap" : Str),("behind_head" : Str)].all (λn=>!(m==n))=true):(fsS A fs lp bh).lookup m=none:=by
 simp only[Lp,List.all_nil,Nd,Kt,Bool.not_eq_true']at h;obtain⟨h1,h2,h3,h4,h5,h6,h7,h8,h9⟩:=h;simp[fsS,Jz,h1,h2,h3,h4,h5,h6,h7,h8,h9]
theorem ou:(fsS A fs lp bh).length<1000:=by show 9<1000;decide
end
theorem xR{n:Str}{v:V}:∀{l:List (Str×V)},(bW n v l).length<=l.length+1
 |[]=>IM _
 |(m,x)::r=>by
  by_cases e:m=n
  .simp[bW,e]
  .have:=xR (n:=n) (v:=v) (l:=r);simp[bW,e];exact this
theorem iZ{n:Str}{v:V}:∀{l:List (Str×V)},(l.map Prod.fst).all (λm=>m != n)=true->bW n v l=l++[(n,v)]
 |[],_=>rfl
 |(m,x)::r,h=>by
  rw[IQ,Lp,Kt]at h;have e:¬ (m=n):=by simpa using h.1
  have ih:=iZ (n:=n) (v:=v) h.2;simp[bW,e]at ih⊢;exact ih
theorem EH(A:Sad):(bW "behind_head" (.bl false) (bW "leap" (.int 0) (bW "heads" (.ref A.ha) (bW "marks" (.ref A.ma) (bW "words" (.ref A.wa) (bW "feet_set" (.int 0) (bW "feet" (.ref A.fa) (bW "titles" (.ref A.ta) (bW "numbers" (.ref A.na) [])))))))))=fsS A 0 0 false:=by
 rw[show bW "numbers" (.ref A.na) []=([("numbers",.ref A.na)]:List (Str×V))from rfl];rw[iZ (n := "titles") (by show(["numbers"]:List Str).all (λm=>m != "titles")=true;decide +kernel)];rw[iZ (n := "feet") (by show(["numbers","titles"]:List Str).all (λm=>m != "feet")=true;decide +kernel)];rw[iZ (n := "feet_set") (by show(["numbers","titles","feet"]:List Str).all (λm=>m != "feet_set")=true;decide +kernel)];rw[iZ (n := "words") (by show(["numbers","titles","feet","feet_set"]:List Str).all (λm=>m != "words")=true;decide +kernel)];rw[iZ (n := "marks") (by show(["numbers","titles","feet","feet_set","words"]:List Str).all (λm=>m != "marks")=true;decide +kernel)];rw[iZ (n := "heads") (by show(["numbers","titles","feet","feet_set","words","marks"]:List Str).all (λm=>m != "heads")=true;decide +kernel)];rw[iZ (n := "leap") (by show(["numbers","titles","feet","feet_set","words","marks","heads"]:List Str).all (λm=>m != "leap")=true;decide +kernel)];rw[iZ (n := "behind_head") (by show(["numbers","titles","feet","feet_set","words","marks","heads","leap"]:List Str).all (λm=>m != "behind_head")=true;decide +kernel)];rfl
def WtA(F:Hp)(v:V)(t:Wt):Prop:=∃a w f,v=.ref a/\F a=some (.tup [.int t.lead,.bl t.kept,.ref w,.ref f])/\WkA F (.ref w) t.w/\c6 F f t.foot
def HdA(F:Hp)(v:V)(h:Str×Nat):Prop:=∃a,v=.ref a/\F a=some (.tup [.str h.1,.int (h.2:Int)])
def TlA(F:Hp)(v:V)(ws:List Wk):Prop:=∃l,v=.ref l/\c6 F l ws
def mkV(ms:List (Str×Nat)):List (Key×V):=ms.map λm=>(.inr m.1,.int (m.2:Int))
theorem j6{n:Str}:∀ms:List (Str×Nat),dh (mkV ms) (.inr n)=(lkS n ms).map λ(k:Nat)=>V.int (k:Int)
 |[]=>rfl
 |(m,k)::r=>by
  have ih:=j6 (n:=n) r;by_cases c:m=n
  .subst c;have e:lkS m ((m,k)::r)=some k:=by unfold lkS;simp
   rw[e];unfold mkV;rw[IQ,lU rfl];rfl
  .have e:lkS n ((m,k)::r)=lkS n r:=by
    show(if m=n then some k else lkS n r)=lkS n r;exact if_neg c
   rw[e,<-ih];unfold mkV;rw[IQ,eV (λz=>c (by injection z))]
theorem Dl(ms:List (Str×Nat))(n:Str)(k:Nat):mkV (ms++[(n,k)])=mkV ms++[(.inr n,.int (k:Int))]:=by simp[mkV]
theorem u6(ms:List (Str×Nat)):(mkV ms).length=ms.length:=by unfold mkV;rw[Iz]
theorem WtA.mono{F F':Hp}(s:aj F F'){v:V}{t:Wt}(h:WtA F v t):WtA F' v t:=by
 obtain⟨a,w,f,e,h1,h2,h3⟩:=h;exact⟨a,w,f,e,s _ _ h1,h2.mono s,h3.mono s⟩
theorem HdA.mono{F F':Hp}(s:aj F F'){v:V}{h:Str×Nat}(z:HdA F v h):HdA F' v h:=by
 obtain⟨a,e,h1⟩:=z;exact⟨a,e,s _ _ h1⟩
theorem TlA.mono{F F':Hp}(s:aj F F'){v:V}{ws:List Wk}(z:TlA F v ws):TlA F' v ws:=by
 obtain⟨a,e,h1⟩:=z;exact⟨a,e,h1.mono s⟩
structure ScA(G:Hp)(A:Sad)(c:Sc):Prop where
 nums:G A.na=some (.lst (c.nums.map V.str))
 titles:∃tvs,G A.ta=some (.lst tvs)/\aI (TlA G) tvs c.titles
 feet:∃kvs,G A.fa=some (.dK kvs)/\FtA G kvs c.feet
theorem ScA.mono{G G':Hp}(s:aj G G'){A:Sad}{c:Sc}(S:ScA G A c):ScA G' A c:=by
 obtain⟨h1,⟨tvs,h2,h3⟩,⟨kvs,h4,h5⟩⟩:=S;exact⟨s _ _ h1,⟨tvs,s _ _ h2,h3.imp λ_ _=>TlA.mono s⟩,⟨kvs,s _ _ h4,h5.mono s⟩⟩
structure StA(C:Addr)(G H:Hp)(A:Sad)(c:Sc)(σ:Ss):Prop where
 old:aj G H
 ins:H A.x=some (.ins C A.dx (fsS A (σ.fs:Int) σ.lp σ.bh))
 cl:ScA G A c
 fr:∀b∈A.os,G b=none
 ne:A.wa≠A.ha
 words:∃wvs,H A.wa=some (.lst wvs)/\aI (WtA (hid A.os H)) wvs σ.ws
 marks:H A.ma=some (.dK (mkV σ.ms))
 heads:∃hvs,H A.ha=some (.lst hvs)/\aI (HdA (hid A.os H)) hvs σ.hs
section
variable {C:Addr}{G H H':Hp}{A:Sad}{c:Sc}{σ:Ss}
theorem StA.same(S:StA C G H A c σ)(m:aj H H'):StA C G H' A c σ:=by
 obtain⟨w1,w2,w3⟩:=S.words;obtain⟨h1,h2,h3⟩:=S.heads;exact⟨S.old.trans m,m _ _ S.ins,S.cl,S.fr,S.ne,⟨w1,m _ _ w2,w3.imp λ_ _=>WtA.mono (bg m)⟩,m _ _ S.marks,⟨h1,m _ _ h2,h3.imp λ_ _=>HdA.mono (bg m)⟩⟩
theorem StA.nt(S:StA C G H A c σ):∀b∈A.os,∀us,H b≠some (.tup us):=λb hb=>by
 obtain⟨w1,w2,w3⟩:=S.words;obtain⟨h1,h2,h3⟩:=S.heads;simp only[Sad.os,J8,JQ,or_false]at hb;rcases hb with rfl|rfl|rfl|rfl
 .exact gN S.ins (λus z=>by cases z)
 .exact gN w2 (λus z=>by cases z)
 .exact gN S.marks (λus z=>by cases z)
 .exact gN h2 (λus z=>by cases z)
theorem StA.nes(S:StA C G H A c σ):A.x≠A.wa/\A.x≠A.ma/\A.x≠A.ha/\A.wa≠A.ma/\A.ma≠A.ha:=by
 obtain⟨w1,w2,w3⟩:=S.words;obtain⟨h1,h2,h3⟩:=S.heads;have i:=S.ins;have k:=S.marks;refine⟨λz=>?_,λz=>?_,λz=>?_,λz=>?_,λz=>?_⟩
 .rw[z,w2]at i;cases i
 .rw[z,k]at i;cases i
 .rw[z,h2]at i;cases i
 .rw[z,k]at w2;cases w2
 .rw[z,h2]at k;cases k
theorem Dm:A.x∈A.os:=by simp[Sad.os]
theorem D0:A.wa∈A.os:=by simp[Sad.os]
theorem wV:A.ma∈A.os:=by simp[Sad.os]
theorem Ao:A.ha∈A.os:=by simp[Sad.os]
theorem StA.flds(S:StA C G H A c σ)(fs':Nat)(lp':Int)(bh':Bool):StA C G (upd H A.x (.ins C A.dx (fsS A (fs':Int) lp' bh'))) A c { σ with fs:=fs',lp:=lp',bh:=bh' }:=by
 obtain⟨w1,w2,w3⟩:=S.words;obtain⟨h1,h2,h3⟩:=S.heads;obtain⟨n1,n2,n3,n4,n5⟩:=S.nes;have e:hid A.os (upd H A.x (.ins C A.dx (fsS A (fs':Int) lp' bh')))=hid A.os H:=bH Dm;refine⟨aY S.old (S.fr _ Dm),ah,S.cl,S.fr,S.ne,⟨w1,?_,?_⟩,?_,⟨h1,?_,?_⟩⟩
 .rw[aq (JH n1)];exact w2
 .rw[e];exact w3
 .rw[aq (JH n2)];exact S.marks
 .rw[aq (JH n3)];exact h2
 .rw[e];exact h3
theorem StA.mark(S:StA C G H A c σ)(n:Str)(k:Nat):StA C G (upd H A.ma (.dK (mkV (σ.ms++[(n,k)])))) A c { σ with ms:=σ.ms++[(n,k)] }:=by
 obtain⟨w1,w2,w3⟩:=S.words;obtain⟨h1,h2,h3⟩:=S.heads;obtain⟨n1,n2,n3,n4,n5⟩:=S.nes;have e:hid A.os (upd H A.ma (.dK (mkV (σ.ms++[(n,k)]))))=hid A.os H:=bH wV;refine⟨aY S.old (S.fr _ wV),?_,S.cl,S.fr,S.ne,⟨w1,?_,?_⟩,ah,⟨h1,?_,?_⟩⟩
 .rw[aq n2];exact S.ins
 .rw[aq n4];exact w2
 .rw[e];exact w3
 .rw[aq (JH n5)];exact h2
 .rw[e];exact h3
theorem u7{os:List Addr}(nt:∀b∈os,∀us,H b≠some (.tup us)){l:Addr}{ws:List Wk}(n:l∉os)(h:c6 H l ws):c6 (hid os H) l ws:=by
 obtain⟨vs,h1,h2⟩:=h;exact⟨vs,br n h1,oq nt h2⟩
theorem u8{os:List Addr}(nt:∀b∈os,∀us,H b≠some (.tup us)){a:Addr}{us:List V}(h:H a=some (.tup us)):hid os H a=some (.tup us):=br (λz=>nt a z us h) h
theorem StA.word(S:StA C G H A c σ){wvs:List V}(hw:H A.wa=some (.lst wvs)){v:V}{t:Wt}{a w f:Addr}(e1:v=.ref a)(h1:H a=some (.tup [.int t.lead,.bl t.kept,.ref w,.ref f]))(h2:WkA H (.ref w) t.w)(h3:c6 H f t.foot)(n1:f≠A.wa)(n2:f≠A.ha):StA C G (upd H A.wa (.lst (wvs++[v]))) A c { σ with ws:=σ.ws++[t] }:=by
 obtain⟨w1,w2,w3⟩:=S.words;obtain⟨hv,hh2,hh3⟩:=S.heads;obtain⟨m1,m2,m3,m4,m5⟩:=S.nes;rw[hw]at w2;injection w2 with w2;injection w2 with w2;subst w2;have e:hid A.os (upd H A.wa (.lst (wvs++[v])))=hid A.os H:=bH D0;have nf:f∉A.os:=λz=>by
  obtain⟨fv,hf,_⟩:=h3;simp only[Sad.os,J8,JQ,or_false]at z;rcases z with z|z|z|z
  .rw[z,S.ins]at hf;cases hf
  .exact n1 z
  .rw[z,S.marks]at hf;cases hf
  .exact n2 z
 refine⟨aY S.old (S.fr _ D0),?_,S.cl,S.fr,S.ne,⟨wvs++[v],ah,?_⟩,?_,⟨hv,?_,?_⟩⟩
 .rw[aq m1];exact S.ins
 .rw[e];obtain⟨b,z1,z2⟩:=h2;exact w3.snoc ⟨a,w,f,e1,u8 S.nt h1,⟨b,z1,u8 S.nt z2⟩,u7 S.nt nf h3⟩
 .rw[aq (JH m4)];exact S.marks
 .rw[aq (JH S.ne)];exact hh2
 .rw[e];exact hh3
theorem StA.headp(S:StA C G H A c σ){hvs:List V}(hw:H A.ha=some (.lst hvs)){a:Addr}{n:Str}{k:Nat}(h1:H a=some (.tup [.str n,.int (k:Int)])):StA C G (upd H A.ha (.lst (hvs++[.ref a]))) A c { σ with hs:=σ.hs++[(n,k)] }:=by
 obtain⟨w1,w2,w3⟩:=S.words;obtain⟨hv,hh2,hh3⟩:=S.heads;obtain⟨m1,m2,m3,m4,m5⟩:=S.nes;rw[hw]at hh2;injection hh2 with hh2;injection hh2 with hh2;subst hh2;have e:hid A.os (upd H A.ha (.lst (hvs++[.ref a])))=hid A.os H:=bH Ao;refine⟨aY S.old (S.fr _ Ao),?_,S.cl,S.fr,S.ne,⟨w1,?_,?_⟩,?_,⟨hvs++[.ref a],ah,?_⟩⟩
 .rw[aq m3];exact S.ins
 .rw[aq S.ne];exact w2
 .rw[e];exact w3
 .rw[aq m5];exact S.marks
 .rw[e];exact hh3.snoc ⟨a,rfl,u8 S.nt h1⟩
theorem StA.re(S:StA C G H A c σ):StA C (hid A.os H) H A c σ:=
 ⟨bJ,S.ins,S.cl.mono (lN S.old S.fr),(λb hb=>by unfold hid;rw[if_pos hb]),S.ne,S.words,S.marks,S.heads⟩
theorem StA.base{G':Hp}(S:StA C G' H A c σ)(m:aj G G')(cl:ScA G A c):StA C G H A c σ:=
 ⟨m.trans S.old,S.ins,cl,(λb hb=>m.free (S.fr b hb)),S.ne,S.words,S.marks,S.heads⟩
theorem StA.fresh(S:StA C G H A c σ){p:Addr}(hp:H p=none):p∉A.os:=λz=>by
 obtain⟨w1,w2,w3⟩:=S.words;obtain⟨h1,h2,h3⟩:=S.heads;simp only[Sad.os,J8,JQ,or_false]at z;rcases z with rfl|rfl|rfl|rfl
 .rw[S.ins]at hp;cases hp
 .rw[w2]at hp;cases hp
 .rw[S.marks]at hp;cases hp
 .rw[h2]at hp;cases hp
theorem StA.out(S:StA C G H A c σ):aj G (hid A.os H):=lN S.old S.fr
end
theorem lO{β:Type}{n:Str}{v:β}:∀{l:List (Str×β)},lkS n l=some v->(n,v)∈l
 |[],h=>by cases h
 |(m,k)::r,h=>by
  by_cases c:m=n
  .have e:lkS n ((m,k)::r)=some k:=if_pos c;rw[e]at h;cases h;rw[c];exact IL
  .have e:lkS n ((m,k)::r)=lkS n r:=if_neg c;rw[e]at h;exact IH _ (lO h)
def oS(tw nf tl nm:Addr):Xc->Addr
 |.twice=>tw
 |.nofoot=>nf
 |.toolong=>tl
 |.nomark=>nm
structure Bd(σ:Ss)(n:Nat):Prop where
 ws:σ.ws.length<=400
 fs:σ.fs<=σ.ws.length
 ms:σ.ms.length+n<=1000000
theorem xS{σ σ':Ss}{ld:Int}{w:Wk}{f:List Wk}(h:ge σ ld w f=.ok σ'):σ.ws.length≠400/\σ'.ws.length=σ.ws.length+1/\σ'.fs=σ.fs/\σ'.ms=σ.ms/\σ'.hs=σ.hs:=by
 unfold ge at h;by_cases c:σ.ws.length=400
 .rw[if_pos c]at h;cases h
 .rw[if_neg c]at h;cases h;exact⟨c,by simp,rfl,rfl,rfl⟩
theorem vN{c:Sc}{σ σ':Ss}{ld:Int}{w:Wk}(h:cr c σ ld w=.ok σ'):σ.ws.length≠400/\σ'.ws.length=σ.ws.length+1/\σ'.fs<=σ.fs+1/\σ'.ms=σ.ms:=by
 unfold cr at h;by_cases k:w.1=.foot
 .rw[if_pos k]at h;unfold gk at h;cases hv:lkS (rest w.2) c.feet with
  |none=>rw[hv]at h;cases h
  |some g =>
   rw[hv]at h;obtain⟨h1,h2,h3,h4,h5⟩:=xS h;exact⟨h1,h2,by rw[h3];exact IM _,h4⟩
 .rw[if_neg k]at h;obtain⟨h1,h2,h3,h4,h5⟩:=xS h;exact⟨h1,h2,by rw[h3];exact Kq _,h4⟩
theorem tH{c:Sc}{byh:Bool}:∀{ws:List Wk}{σ σ':Ss}{ld:Int}(hm:∀w∈ws,w.1≠.mark),ca c σ ld byh ws=.ok σ'->(σ.ws.length<=400->σ'.ws.length<=400)/\(σ.fs<=σ.ws.length->σ'.fs<=σ'.ws.length)/\σ'.ms=σ.ms
 |[],σ,σ',ld,_,h=>by cases h;exact⟨id,id,rfl⟩
 |w::r,σ,σ',ld,hm,h=>by
  have h:(if w.1=.mark then(match eC σ (rest w.2)with|.error x=>.error x|.ok s'=>ca c s' ld byh r)else(match cr c σ ld w with|.error x=>.error x|.ok s'=>ca c { s' with bh:=byh } 0 byh r))=Except.ok σ':=h
  rw[if_neg (hm w IL)]at h;cases e:cr c σ ld w with
  |error x=>rw[e]at h;cases h
  |ok s' =>
   rw[e]at h;obtain⟨b1,b2,b3,b4⟩:=vN e;obtain⟨i1,i2,i3⟩:=tH (λw hw=>hm w (IH _ hw)) h;exact⟨λz=>i1 (by show s'.ws.length<=400;omega),λz=>i2 (by show s'.fs<=s'.ws.length;omega),i3.trans b4⟩
def GWk(w:Wk):Prop:=(w.1≠.entry/\∃n:List Nat,n.length<=200/\(∀d∈n,d<127)/\w.2=.str (tx n))\/(w.1=.entry/\∃k:Nat,w.2=.int (k:Int))
structure kS(c:Sc):Prop where
 few:c.nums.length<=200
 tl:c.titles.length=c.nums.length
 tw:∀t∈c.titles,t.length<=130/\∀w∈t,GWk w
 fl:c.feet.length<=200
 fw:∀p∈c.feet,p.2.length<=39/\∀w∈p.2,GWk w/\w.1≠.mark/\w.1≠.foot
 nl:∀n∈c.nums,∃l:List Nat,n=tx l/\l.length<=100
 nc:∀l:List Nat,tx l∈c.nums->∀d∈l,d<127
def qM(c:Sc)(w:Wk):Prop:=(w.1=.plain/\∃n:List Nat,w.2=.str (tx n))\/(w.1=.entry/\∃k:Nat,w.2=.int (k:Int)/\k<c.nums.length)\/(gE w.1=true/\∃n:List Nat,n.length<=200/\(∀d∈n,d<127)/\w.2=.str (tx n))
structure tI(c:Sc)(σ:Ss):Prop where
 ws:∀t∈σ.ws,qM c t.w/\t.foot.length<=40/\∀w∈t.foot,qM c w/\(w.1=.plain\/∃p∈c.feet,w∈p.2)
 ms:∀m∈σ.ms,∃l:List Nat,m.1=tx l/\l.length<=200/\∀d∈l,d<127
theorem FtA.get{F:Hp}:∀{vs:List (Key×V)}{ws:List (Str×List Wk)}{i:Nat}{p:Key×V},FtA F vs ws->vs[i]?=some p->∃q,ws[i]?=some q/\FtE F p q
 |v::_,w::_,0,x,h,e=>by cases e;exact⟨w,rfl,h.1⟩
 |_::_,_::_,i+1,x,h,e=>FtA.get (i:=i) h.2 (by simpa using e)
 |[],[],_,_,_,e=>by simp at e
theorem BW{H:Hp}{a:Addr}{o o':HO}:upd (upd H a o) a o'=upd H a o':=by
 funext b
 by_cases e:b=a
 .subst e;rw[ah,ah]
 .rw[aq e,aq e,aq e]
theorem Dn{H:Hp}{a:Addr}{o:HO}(h:H a=some o):upd H a o=H:=by
 funext b
 by_cases e:b=a
 .subst e;rw[ah,h]
 .rw[aq e]
theorem BX{H H2:Hp}{a:Addr}{o:Obj}{kvs:List (Key×V)}(h:H a=some (.dK kvs))(s:aj (upd H a (.frz o (.dK kvs))) H2):aj H (upd H2 a (.dK kvs)):=λb u z=>by
 by_cases e:b=a
 .subst e;rw[ah];rw[h]at z;exact z
 .rw[aq e];exact s _ _ (by rw[aq e];exact z)
theorem Hu(k:Kw):inV (.str k.s) [.str (Iy "number"),.str (Iy "page"),.str (Iy "row")]=gE k:=by
 cases k<;>decide +kernel
def jH(s:Ss)(w:Wk):V×V:=
 match w.1 with
 |.plain=>(.str "text",.str (rest w.2))
 |.entry=>(.str "page",.int (match w.2 with|.int k=>((s.hs.getD k.toNat (JV,0)).2:Nat)|_=>0))
 |.number=>(.str "text",.str (gF (jG s (rest w.2)) "0" s.hs))
 |k=>(.str k.s,.int (jG s (rest w.2):Nat))
def SyA(F:Hp)(v:V)(s:V×V):Prop:=∃a,v=.ref a/\F a=some (.tup [s.1,s.2])
theorem SyA.mono{F F':Hp}(m:aj F F'){v:V}{s:V×V}(h:SyA F v s):SyA F' v s:=by
 obtain⟨a,e,h⟩:=h;exact⟨a,e,m _ _ h⟩
def TwA(σ:Ss)(F:Hp)(v:V)(t:Wt×Addr):Prop:=∃a s us,v=.ref a/\F a=some (.tup [.int t.1.lead,.bl t.1.kept,.ref s,.ref t.2])/\SyA F (.ref s) (jH σ t.1.w)/\F t.2=some (.lst us)/\aI (SyA F) us (t.1.foot.map (jH σ))
theorem TwA.mono{σ:Ss}{F F':Hp}(m:aj F F'){v:V}{t:Wt×Addr}(h:TwA σ F v t):TwA σ F' v t:=by
 obtain⟨a,s,us,e,h1,h2,h3,h4⟩:=h;exact⟨a,s,us,e,m _ _ h1,h2.mono m,m _ _ h3,h4.imp λ_ _=>SyA.mono m⟩
def jI(σ:Ss)(w:Wk):Prop:=(w.1=.plain/\∃n:List Nat,w.2=.str (tx n))\/(w.1=.entry/\∃k:Nat,w.2=.int (k:Int)/\k<σ.hs.length)\/(gE w.1=true/\∃(n:List Nat)(k:Nat),w.2=.str (tx n)/\lkS (tx n) σ.ms=some k)
def uB(σ:Ss):Prop:=∀t∈σ.ws,jI σ t.w/\t.foot.length<=40/\∀w∈t.foot,jI σ w
structure lD(H F:Hp)(σ:Ss)(p:Addr)(vs:List V)(fs:List Addr):Prop where
 at_:F p=some (.lst vs)
 new:H p=none
 len:fs.length=σ.ws.length
 nd:fs.Nodup
 fr:∀f∈fs,H f=none/\f≠p
 all:aI (TwA σ (hid [p] F)) vs (σ.ws.zip fs)
theorem ftX{F F':Hp}(m:∀l ws,c6 F l ws->c6 F' l ws):∀{vs:List (Key×V)}{ws:List (Str×List Wk)},FtA F vs ws->FtA F' vs ws
 |[],[],_=>trivial
 |_::_,_::_,⟨⟨h1,l,h2,h3⟩,h⟩=>⟨⟨h1,l,h2,m _ _ h3⟩,ftX m h⟩
theorem FrX.get{H H':Hp}{x b:Addr}{u:HO}(f:FrX H H' x)(h:H b=some u)(n:b≠x):H' b=some u:=f b u n h
def RnW(c:Sc)(w:Wk):Prop:=GWk w/\(w.1=.entry->∃k:Nat,w.2=.int (k:Int)/\k<c.nums.length)
theorem RnW.ws{c:Sc}{w:Wk}(h:RnW c w)(n1:w.1≠.mark)(n2:w.1≠.foot):qM c w:=by
 obtain⟨g,en⟩:=h;rcases g with⟨ne,n,l1,l2,e⟩|⟨e,_⟩
 .cases hk:w.1 with
  |plain=>exact .inl ⟨hk,n,e⟩
  |entry=>exact absurd hk ne
  |mark=>exact absurd hk n1
  |foot=>exact absurd hk n2
  |number=>exact .inr (.inr ⟨by rw[hk];rfl,n,l1,l2,e⟩)
  |page=>exact .inr (.inr ⟨by rw[hk];rfl,n,l1,l2,e⟩)
  |row=>exact .inr (.inr ⟨by rw[hk];rfl,n,l1,l2,e⟩)
 .exact .inr (.inl ⟨e,en e⟩)
structure u9(c:Sc):Prop where
 fw:∀p∈c.feet,p.2.length<=39/\∀w∈p.2,qM c w
structure StB(c:Sc)(σ σ':Ss)(n:Nat):Prop where
 ok:tI c σ->tI c σ'
 ms:σ'.ms.length<=σ.ms.length+n
 ws:σ.ws.length<=400->σ'.ws.length<=400
 fs:σ.fs<=σ.ws.length->σ'.fs<=σ'.ws.length
theorem StB.refl{c:Sc}{σ:Ss}{n:Nat}:StB c σ σ n:=⟨id,J5 _ _,id,id⟩
theorem StB.trans{c:Sc}{σ σ1 σ2:Ss}{n m:Nat}(a:StB c σ σ1 n)(b:StB c σ1 σ2 m):StB c σ σ2 (n+m):=⟨λh=>b.ok (a.ok h),by have:=a.ms;have:=b.ms;omega,λh=>b.ws (a.ws h),λh=>b.fs (a.fs h)⟩
theorem StB.more{c:Sc}{σ σ1:Ss}{n m:Nat}(a:StB c σ σ1 n)(h:n<=m):StB c σ σ1 m:=⟨a.ok,by have:=a.ms;omega,a.ws,a.fs⟩
theorem zw{c:Sc}{σ σ':Ss}{ld:Int}{w:Wk}{f:List Wk}(h:ge σ ld w f=.ok σ')(hw:qM c w)(hf:f.length<=40/\∀w∈f,qM c w/\(w.1=.plain\/∃p∈c.feet,w∈p.2)):(tI c σ->tI c σ')/\σ'.ms=σ.ms/\σ'.hs=σ.hs/\σ'.fs=σ.fs/\σ'.ws.length=σ.ws.length+1/\σ.ws.length≠400:=by
 unfold ge at h;by_cases e:σ.ws.length=400
 .rw[if_pos e]at h;cases h
 .rw[if_neg e]at h;cases h;refine⟨λs=>⟨?_,s.ms⟩,rfl,rfl,rfl,by simp,e⟩;intro t ht;rcases List.mem_append.mp ht with ht|ht
  .exact s.ws t ht
  .rw[List.mem_singleton.mp ht];exact⟨hw,hf⟩
theorem Do{c:Sc}(fo:u9 c){σ σ':Ss}{ld:Int}{w:Wk}(h:cr c σ ld w=.ok σ')(hw:RnW c w)(nm:w.1≠.mark):StB c σ σ' 0/\σ'.hs=σ.hs:=by
 unfold cr at h;by_cases k:w.1=.foot
 .rw[if_pos k]at h;unfold gk at h;cases hv:lkS (rest w.2) c.feet with
  |none=>rw[hv]at h;cases h
  |some g =>
   rw[hv]at h;have gm:=fo.fw _ (lO hv);have pl:qM c (.plain,.str (ip (σ.fs+1))):=.inl ⟨rfl,(ip (σ.fs+1)).cps.toList,by rw[<-wT]⟩;obtain⟨h1,h2,h3,h4,h5,h6⟩:=zw (c:=c) h pl ⟨by simp only[ID];have:=gm.1;dsimp only at this;omega,λx hx=>by
    rcases List.mem_cons.mp hx with rfl|hx
    .exact⟨pl,.inl rfl⟩
    .exact⟨gm.2 x hx,.inr ⟨_,lO hv,hx⟩⟩⟩
   refine⟨⟨λs=>h1 ⟨s.ws,s.ms⟩,by rw[h2];exact IM _,λz=>?_,λz=>?_⟩,h3⟩
   .have:σ.ws.length≠400:=h6;have:σ'.ws.length=σ.ws.length+1:=h5;omega
   .have:σ'.ws.length=σ.ws.length+1:=h5;have:σ'.fs=σ.fs+1:=h4;omega
 .rw[if_neg k]at h;obtain⟨h1,h2,h3,h4,h5,h6⟩:=zw (c:=c) h (hw.ws nm k) ⟨by simp,by simp⟩;exact⟨⟨h1,by rw[h2];exact IM _,λz=>by omega,λz=>by omega⟩,h3⟩
theorem lE{c:Sc}{σ:Ss}{ld:Int}{byh:Bool}{w:Wk}{r:List Wk}:ca c σ ld byh (w::r)=(if w.1=.mark then(match eC σ (rest w.2)with|.error x=>.error x|.ok s'=>ca c s' ld byh r)else(match cr c σ ld w with|.error x=>.error x|.ok s'=>ca c { s' with bh:=byh } 0 byh r)):=rfl
theorem ox{c:Sc}(fo:u9 c){byh:Bool}:∀{ws:List Wk}{σ σ':Ss}{ld:Int},(∀w∈ws,RnW c w)->ca c σ ld byh ws=.ok σ'->StB c σ σ' ws.length/\σ'.hs=σ.hs
 |[],σ,σ',ld,_,h=>by cases h;exact⟨.refl,rfl⟩
 |w::r,σ,σ',ld,hw,h=>by
  rw[lE]at h;have hr:∀x∈r,RnW c x:=λx hx=>hw x (IH _ hx);have h0:=hw w IL;by_cases k:w.1=.mark
  .rw[if_pos k]at h;cases e:eC σ (rest w.2)with
   |error x=>rw[e]at h;cases h
   |ok s' =>
    rw[e]at h;obtain⟨b,hs⟩:=ox fo hr h;unfold eC at e;by_cases z:(lkS (rest w.2) σ.ms).isSome=true
    .rw[if_pos z]at e;cases e
    .rw[if_neg z]at e;cases e;have b0:StB c σ { σ with ms:=σ.ms++[(rest w.2,σ.ws.length)] } 1:=⟨λs=>⟨s.ws,λm hm=>by
      rcases List.mem_append.mp hm with hm|hm
      .exact s.ms m hm
      .rw[List.mem_singleton.mp hm];rcases h0.1 with⟨_,n,l1,l2,e⟩|⟨e,_⟩
       .exact⟨n,by rw[e];rfl,l1,l2⟩
       .rw[k]at e;cases e⟩,by simp,id,id⟩
     exact⟨(b0.trans b).more (by simp only[ID];omega),hs⟩
  .rw[if_neg k]at h;cases e:cr c σ ld w with
   |error x=>rw[e]at h;cases h
   |ok s' =>
    rw[e]at h;obtain⟨b1,h1⟩:=Do fo e h0 k;obtain⟨b2,h2⟩:=ox fo hr h;have b3:StB c s' { s' with bh:=byh } 0:=⟨λs=>⟨s.ws,s.ms⟩,IM _,id,id⟩;exact⟨((b1.trans b3).trans b2).more (by simp only[ID];omega),h2.trans h1⟩
def RdW(w:Wk):Prop:=GWk w/\w.1≠.entry
def TgG:Tg->Prop
 |.head n ws=>1<=n/\n<=3/\ws.length<=130/\∀w∈ws,RdW w
 |.par ws=>ws.length<=600/\∀w∈ws,RdW w
 |_=>True
def FtG(feet:List (Str×List Wk)):Prop:=feet.length<=200/\∀p∈feet,p.2.length<=39/\∀w∈p.2,RdW w/\w.1≠.mark/\w.1≠.foot
def ir(c:Sc)(things:List Tg):Except Xc Ss:=
 match iY c ss0 things with
 |.error e=>.error e
 |.ok σ=>match fA c σ with
  |some e=>.error e
  |none=>.ok σ
theorem RdW.run{c:Sc}{w:Wk}(h:RdW w):RnW c w:=⟨h.1,λz=>absurd z h.2⟩
theorem kS.run{c:Sc}(so:kS c)(st:∀t∈c.titles,∀w∈t,RdW w){k:Nat}(hk:k<c.nums.length):(∀w∈((.plain,.str (c.nums.getD k JV))::c.titles.getD k []:List Wk),RnW c w)/\(∀w∈cj c k (c.nums.getD k JV),RnW c w)/\(c.titles.getD k []).length<=130:=by
 have hn:c.nums[k]?=some (c.nums.getD k JV):=by rw[Jb,II hk];rfl
 have ht:c.titles[k]?=some (c.titles.getD k []):=by rw[Jb,II (by rw[so.tl];exact hk)];rfl
 obtain⟨l,e,ll⟩:=so.nl _ (IK hn);have p:RnW c (.plain,.str (c.nums.getD k JV)):=⟨.inl ⟨by show Kw.plain≠Kw.entry;decide,l,by omega,so.nc l (by rw[<-e];exact IK hn),by rw[e]⟩,λz=>by cases z⟩;have tw:=so.tw _ (IK ht);have tr:=st _ (IK ht);refine⟨λw hw=>?_,λw hw=>?_,tw.1⟩
 .rcases List.mem_cons.mp hw with rfl|hw
  .exact p
  .exact(tr w hw).run
 .unfold cj at hw;rcases List.mem_cons.mp hw with rfl|hw
  .exact p
  .rcases List.mem_append.mp hw with hw|hw
   .exact(tr w (List.mem_filter.mp hw).1).run
   .rw[List.mem_singleton.mp hw];exact⟨.inr ⟨rfl,k,rfl⟩,λ_=>⟨k,rfl,hk⟩⟩
theorem xT{c:Sc}(so:kS c)(fo:u9 c)(st:∀t∈c.titles,∀w∈t,RdW w):∀{ns:List Str}{σ σ':Ss}{ld:Int}{k:Nat},c.nums.drop k=ns->fV c σ ld k ns=.ok σ'->StB c σ σ' 0/\σ'.hs=σ.hs
 |[],σ,σ',ld,k,_,h=>by cases h;exact⟨.refl,rfl⟩
 |n::r,σ,σ',ld,k,hd,h=>by
  have hk:k<c.nums.length:=by
   by_cases z:k<c.nums.length
   .exact z
   .rw[K5 (by omega)]at hd;cases hd
  have e0:c.nums.getD k JV=n:=by
   rw[Js hk]at hd;injection hd with hd _;rw[Jb,II hk,hd];rfl
  have hd2:c.nums.drop (k+1)=r:=by
   rw[Js hk]at hd;injection hd
  have h:(match ca c σ ld false (cj c k n)with|.error x=>.error x|.ok s'=>fV c s' 1 (k+1) r)=Except.ok σ':=h
  cases e:ca c σ ld false (cj c k n)with
  |error x=>rw[e]at h;cases h
  |ok s' =>
   rw[e]at h;have rn:=(so.run st hk).2.1;rw[e0]at rn;obtain⟨b1,h1⟩:=ox fo rn e;obtain⟨b2,h2⟩:=xT so fo st hd2 h;have nm:=tH (λw hw=>?_) e
   .exact⟨⟨λs=>b2.ok (b1.ok s),by have:=b2.ms;rw[nm.2.2]at this;exact this,λz=>b2.ws (b1.ws z),λz=>b2.fs (b1.fs z)⟩,h2.trans h1⟩
   .unfold cj at hw;rcases List.mem_cons.mp hw with rfl|hw
    .show Kw.plain≠Kw.mark;decide
    .rcases List.mem_append.mp hw with hw|hw
     .simpa using(List.mem_filter.mp hw).2
     .rw[List.mem_singleton.mp hw];show Kw.entry≠Kw.mark;decide
def bE:Tg->Nat
 |.head _ _=>1
 |_=>0
theorem BY{c:Sc}(so:kS c)(fo:u9 c)(st:∀t∈c.titles,∀w∈t,RdW w){σ σ':Ss}{t:Tg}(h:gR c σ t=.ok σ')(tg:TgG t)(hk:bE t=1->σ.hs.length<c.nums.length):StB c σ σ' 600/\σ'.hs.length=σ.hs.length+bE t:=by
 cases t with
 |page=>cases h;exact⟨⟨λs=>⟨s.ws,s.ms⟩,J5 _ _,id,id⟩,rfl⟩
 |odd=>cases h;exact⟨⟨λs=>⟨s.ws,s.ms⟩,J5 _ _,id,id⟩,rfl⟩
 |lst =>
  obtain⟨b,e⟩:=xT so fo st (k:=0) rfl h;exact⟨b.more (by omega),by rw[e];rfl⟩
 |par ws =>
  obtain⟨b,e⟩:=ox fo (λw hw=>(tg.2 w hw).run) h;exact⟨b.more tg.1,by rw[e];rfl⟩
 |head n ws =>
  have hk:=hk rfl;obtain⟨r1,r2,r3⟩:=so.run st hk;obtain⟨b,e⟩:=ox fo r1 h;have b0:StB c σ { σ with hs:=σ.hs++[(c.nums.getD σ.hs.length JV,σ.ws.length)] } 0:=⟨λs=>⟨s.ws,s.ms⟩,IM _,id,id⟩;exact⟨(b0.trans b).more (by simp only[ID];omega),by rw[e];simp[bE]⟩
theorem F0{c:Sc}{σ:Ss}(ss:tI c σ)(fo:u9 c)(hl:σ.hs.length=c.nums.length)(ck:fA c σ=none):uB σ:=by
 have nb:∀w∈σ.ws.map (·.w)++c.feet.flatMap (·.2),jr σ w=false:=by
  unfold fA at ck;by_cases a:(σ.ms.any λm=>m.2=σ.ws.length)=true
  .rw[if_pos a]at ck;cases ck
  rw[if_neg a]at ck;by_cases b:((σ.ws.map (·.w)++c.feet.flatMap (·.2)).any (jr σ))=true
  .rw[if_pos b]at ck;cases ck
  rw[J6,KN]at b;intro w hw;exact Bool.eq_false_iff.mpr (b w hw)
 have one:∀w,qM c w->(gE w.1=true->jr σ w=false)->jI σ w:=λw h z=>by
  rcases h with h|⟨h,k,e,kl⟩|⟨h,n,l1,l2,e⟩
  .exact .inl h
  .exact .inr (.inl ⟨h,k,e,by rw[hl];exact kl⟩)
  .have z:=z h;unfold jr at z;rw[h,e]at z;change (true&&(lkS (tx n) σ.ms).isNone)=false at z;cases hv:lkS (tx n) σ.ms with
   |none=>rw[hv]at z;cases z
   |some k=>exact .inr (.inr ⟨h,n,k,e,hv⟩)
 intro t ht;obtain⟨h1,h2,h3⟩:=ss.ws t ht;refine⟨one _ h1 λ_=>nb _ (Ku _ (KB ht)),h2,λw hw=>one _ (h3 w hw).1 λz=>?_⟩;rcases(h3 w hw).2 with e|⟨p,hp,hw⟩
 .rw[e]at z;cases z
 .exact nb _ (JB _ (List.mem_flatMap.mpr ⟨p,hp,hw⟩))
theorem lD.base{G H F:Hp}{σ:Ss}{p:Addr}{vs:List V}{fs:List Addr}(T:lD H F σ p vs fs)(s:aj G H):lD G F σ p vs fs:=⟨T.at_,s.free T.new,T.len,T.nd,λf hf=>⟨s.free (T.fr f hf).1,(T.fr f hf).2⟩,T.all⟩
theorem lD.same{H F F':Hp}{σ:Ss}{p:Addr}{vs:List V}{fs:List Addr}(T:lD H F σ p vs fs)(s:aj F F'):lD H F' σ p vs fs:=⟨s _ _ T.at_,T.new,T.len,T.nd,T.fr,T.all.imp λ_ _=>TwA.mono (bg s)⟩
end Tl

namespace L2
open PySem PySem.Spec PyProof.Rows Tl
theorem Dp{X:Cx}{K:IC}{tg l:Expr}{tl:TE}(hK:X.K=K)(hl:PE X l tl):PI X tg l (DV K tl):=by
 subst hK;exact bj hl
theorem oT{K:IC}{a:Addr}{xs:List V}{cv:St}{tc:TT}{te:TE}{Fin:List V->Hp->Prop}{H1:Hp}(Pv:Nat->List V->Hp->Prop)(h0:Pv 0 [] H1)(hl:∀i ys H,i<=xs.length->Pv i ys H->SqL K H a xs)(hz:∀i ys H,i<xs.length->Pv i ys H->ys.length<I0)
  (hs:∀i x ys H,xs[i]?=some x->Pv i ys H->∃b u v,x=.ref b/\SqT K H b [u,v]/\tc (some u::some v::cv) H λb H3=>if b=true then te (some u::some v::cv) H3 λy H4=>Pv (i+1) (ys++[y]) H4 else Pv (i+1) ys H3)
  (hd:∀ys H,Pv xs.length ys H->Fin ys H):gLC (Itl K a) (g2 K) tc te 2 cv Fin H1:=by
 refine⟨λi m ys H=>m=xs.length-i/\i<=xs.length/\Pv i ys H,⟨xs.length,by simp,Jw _,h0⟩,?_⟩;rintro i m ys H ⟨rfl,hi,p⟩;have q:=hl i ys H hi p;by_cases hlt:i<xs.length
 .refine .inr ⟨⟨xs,xs[i],q,by simp[hlt]⟩,hz i ys H hlt p,Pv (i+1),λys' H' p'=>⟨xs.length-(i+1),by omega,rfl,hlt,p'⟩,λv H' y own ho=>?_⟩;obtain⟨e,y⟩:=y;subst e;obtain⟨b,u,w,rfl,hb,h⟩:=hs i v ys _ (y xs q) p
  match own,ho with
  |[o1,o2],_=>exact⟨b,_,rfl,hb,rfl,_,_,rfl,_,_,rfl,rfl,⟨[some u,some w],rfl,rfl⟩,h⟩
 .have e:i=xs.length:=by omega
  subst e;exact .inl ⟨⟨xs,q,IM _⟩,hd ys H p⟩
section
variable {X:Cx}{elt iter:Expr}{ifs:List Expr}{scope:Scope}{cl:List (Str×Addr)}{pos px py pz' tp:Pos}{k1:Nat}{x y z:Str}{caps:List Str}{js:List Nat}{tc:TT}{te:TE}{wi:TI}
def g3(K:IC):TG:=CN K 3 (se (bA 0) (se (bA 1) (se (bA 2) CM)))
theorem F9(hc:X.calm=true)(L:oO X scope cl [x,y,z] caps js)(hi:PI X (.Tuple [.Name x px,.Name y py,.Name z pz'] k1 tp) iter wi)
  (ht:∀s H C ex,PTs (X.blk (x::y::z::caps) s H scope cl C ex) ifs tc)(he:∀s H C ex,PE (X.blk (x::y::z::caps) s H scope cl C ex) elt te)
  (hN:(x::y::z::caps).Nodup:=by decide +kernel)(hx:(KW scope X.env).names.lookup x=some .local:=by with_unfolding_all rfl)(hy:(KW scope X.env).names.lookup y=some .local:=by with_unfolding_all rfl)(hz:(KW scope X.env).names.lookup z=some .local:=by with_unfolding_all rfl)
  (hs:∀x,Kf iter X.env x=pure x:=by intro _;rfl):PE X (.ListComp elt [⟨.Tuple [.Name x px,.Name y py,.Name z pz'] k1 tp,iter,ifs,0⟩] scope pos) (uT wi (g3 X.K) tc te 3 js):=
 xH (own:=[x,y,z]) (g:=g3 X.K) hc L hi (λs H C ex=>dD hc (aU (aJ (i:=0) hN rfl (.inl hx) (.inr hx)) (aU (aJ (i:=1) hN rfl (.inl hy) (.inr hy)) (aU (aJ (i:=2) hN rfl (.inl hz) (.inr hz)) cQ)))) ht he hs
end
theorem F_{X:Cx}{elt iter:Expr}{ifs:List Expr}{scope:Scope}{cl:List (Str×Addr)}{pos px py tp:Pos}{k1:Nat}{x y:Str}{caps:List Str}{js:List Nat}{tc:TT}{te:TE}{wi:TI}{k:Nat}{v:Str}{pv' spos:Pos}(hc:X.calm=true)(L:oO X scope cl [x,y] caps js)(hi:PI X (.Tuple [.Name x px,.Name y py] k1 tp) iter wi)
  (ht:∀s H C ex,PTs (X.blk (x::y::caps) s H scope cl C ex) ifs tc)(he:∀s H C ex,PE (X.blk (x::y::caps) s H scope cl C ex) elt te)
  (hXN:X.N.Nodup)(hk:X.N[k]?=some v)(hv:X.env.scope.names.lookup v=some .local)(hN:(x::y::caps).Nodup:=by decide +kernel)(hx:(KW scope X.env).names.lookup x=some .local:=by with_unfolding_all rfl)(hy:(KW scope X.env).names.lookup y=some .local:=by with_unfolding_all rfl)
  (hsw:LC (.ListComp elt [⟨.Tuple [.Name x px,.Name y py] k1 tp,iter,ifs,0⟩] scope pos) (some (.Name v pv')) spos.line X.env=pure true:=by rfl)
  (hs:∀x,Kf iter X.env x=pure x:=by intro _;rfl):PS X (.Assign [.Name v pv'] (.ListComp elt [⟨.Tuple [.Name x px,.Name y py] k1 tp,iter,ifs,0⟩] scope pos) spos) (qw (uT wi (g2 X.K) tc te 2 js) (bA k)):=
 Bz (own:=[x,y]) (g:=g2 X.K) hc L hi (λs H C ex=>dD hc (aU (aJ (i:=0) hN rfl (.inl hx) (.inr hx)) (aU (aJ (i:=1) hN rfl (.inl hy) (.inr hy)) cQ))) ht he hXN hk hv hsw hs
theorem Dq{K:IC}{a:Addr}{xs:List V}{cv:St}{tc:TT}{te:TE}{Fin:List V->Hp->Prop}{H1:Hp}(Pv:Nat->List V->Hp->Prop)(h0:Pv 0 [] H1)(hl:∀i ys H,i<=xs.length->Pv i ys H->SqL K H a xs)(hz:∀i ys H,i<xs.length->Pv i ys H->ys.length<I0)
  (hs:∀i x ys H,xs[i]?=some x->Pv i ys H->∃b u v w,x=.ref b/\SqT K H b [u,v,w]/\tc (some u::some v::some w::cv) H λb H3=>if b=true then te (some u::some v::some w::cv) H3 λy H4=>Pv (i+1) (ys++[y]) H4 else Pv (i+1) ys H3)
  (hd:∀ys H,Pv xs.length ys H->Fin ys H):gLC (Itl K a) (g3 K) tc te 3 cv Fin H1:=by
 refine⟨λi m ys H=>m=xs.length-i/\i<=xs.length/\Pv i ys H,⟨xs.length,by simp,Jw _,h0⟩,?_⟩;rintro i m ys H ⟨rfl,hi,p⟩;have q:=hl i ys H hi p;by_cases hlt:i<xs.length
 .refine .inr ⟨⟨xs,xs[i],q,by simp[hlt]⟩,hz i ys H hlt p,Pv (i+1),λys' H' p'=>⟨xs.length-(i+1),by omega,rfl,hlt,p'⟩,λv H' y own ho=>?_⟩;obtain⟨e,y⟩:=y;subst e;obtain⟨b,u,w,z,rfl,hb,h⟩:=hs i v ys _ (y xs q) p
  match own,ho with
  |[o1,o2,o3],_=>exact⟨b,_,rfl,hb,rfl,_,_,rfl,_,_,rfl,_,_,rfl,rfl,⟨[some u,some w,some z],rfl,rfl⟩,h⟩
 .have e:i=xs.length:=by omega
  subst e;exact .inl ⟨⟨xs,q,IM _⟩,hd ys H p⟩
end L2

set_option maxHeartbeats 4000000
namespace L2
open PySem PySem.Spec PyProof.Rows
inductive u_(K:IC)(xs:List V)(H:Hp)(Q:VK):Prop
 |mk(l)(_:xs=[.ref l])(_:SqL K H l [])(_:∀p,H p=none->Q (.ref p) (upd H p (.dK [])))
theorem ww{X:Cx}(hc:X.calm=true):ii X (.type "dict") (u_ X.K):=by
 intro pins s σ H xs us Q I r h;obtain⟨l,rfl,hl,q⟩:=h;obtain⟨u,rfl,ru⟩:=iW r;cases ru;obtain⟨its,rv,p,z⟩:=I.list hl;cases rv;have hh:=I.ok.hd hc;refine callType_codes (Q₁:=λobj s₁=>obj=.ref s.heap.objs.size/\s₁={ s with heap:=s.heap.push { cls:=.type "dict",data:=.dict #[] } }) F.kt_called_dict (F.kt_typeCall_dict_1 _) F.entry_dict_init (kt_code_dict_new _ ⟨rfl,rfl⟩) ?_;rintro obj s₁ ⟨rfl,rfl⟩;have hnew:(s.heap.push { cls:=.type "dict",data:=.dict #[] }).DictOf (bR X.prog X.w) s.heap.objs.size []:=Heap.DictOf.new s.heap;refine⟨hnew.typeIs,F.args_dict_init_2 _ _,?_⟩;unfold Nq.«dict.__init__»;refine Jp ?_;unfold Builtin.Dict.selfAndRest;refine Jp (wpAny_notOrdered_dict hnew.typeIs ?_);show Ju _ _ (pure (s.heap.objs.size,[JE l])) _ _ _;refine JS ?_;show Ju _ _ (Builtin.Dict.updateFrom "dict.__init__" s.heap.objs.size (.ref l) [] .none) _ _ _;unfold Builtin.Dict.updateFrom;have pl:=p.isList.push { cls:=.type "dict",data:=.dict #[] };refine Jp (wpAny_typeOf pl.typeIs ?_);rw[if_pos (by decide)];obtain⟨⟨c0,d0,dt0,sl0⟩,n0,ho0,hcl,hdd,hdat⟩:=id p;simp only at hcl hdd hdat;subst hcl hdd hdat;have hlt:l<s.heap.objs.size:=IS ho0;have hx:=IV { cls:=.type "dict",data:=.dict #[] } ho0;refine Jp (BQ hx hh λh1 t1 k1=>?_);refine Jp (wpAny_rule ?_);have pl1:h1.IsList l ([]:List IE).toArray:=⟨_,k1 _ _ hx,rfl,_,rfl⟩;refine Jp (LH pl1 ?_);refine JS ⟨plainId_quiet on _,?_⟩;have hdn:h1.DictOf (bR X.prog X.w) s.heap.objs.size []:=by
  obtain⟨o,es,ep,ho,rr⟩:=hnew;exact⟨o,es,ep,k1 _ _ ho,rr⟩
 have hdlt:s.heap.objs.size<h1.objs.size:=by
  obtain⟨o,es,ep,ho,rr⟩:=hdn;exact IS ho
 refine codeAny_builtin uW ?_;rw[Around.under_plainId on _];show Ju _ _ (pyNext (.ref h1.objs.size) >>= _) _ _ _;refine Jp (wpAny_pyNext_list_end (i:=0) (by exact hh) ⟨_,Jr _ rfl,rfl,rfl⟩ (pl1.push _) (by simp) λh' ex=>?_);refine Jp (JS (JS ?_));refine⟨rfl,.ref s.heap.objs.size,_,I.laid (a:=s.heap.objs.size) (o:=.dK []) (λb o e=>?_) (IM _) (Bt (Jw _) (beq_eq_false_iff_ne.mpr (JH (Jd I.big))) .nil ((hdn.push _).extBut ex (Jd hdlt))),rfl,q _ (I.hok.fresh (IM _))⟩;exact ex b o (Jd (KP (IS e) hdlt)) (IV _ (k1 _ _ (IV _ e)))
end L2

namespace K62
open PySem PySem.Spec L2 Tl

def neW(ps:List (List Nat)):List (List Nat):=ps.filter λw=>!w.isEmpty
def dt(l:List Nat):List (List Nat):=neW (bB 32 l)
theorem uC(c:Nat):∀l:List Nat,((bB c l).map (·.length)).sum+(bB c l).length=l.length+1
 |[]=>rfl
 |x::r=>by
  have ih:=uC c r;rw[gQ];by_cases hx:x=c
  .rw[if_pos hx,IQ,J9,ID,ID];simp only[Ja];omega
  .rw[if_neg hx];cases e:bB c r with
   |nil=>exact absurd e (vI c r)
   |cons q qs =>
    rw[e]at ih;simp only[IQ,J9,ID]at ih⊢;omega
theorem lZ{ls:List (List Nat)}{i:Nat}{y:V}(h:((ls.map tx).map V.str)[i]?=some y):∃w,ls[i]?=some w/\y=V.str (tx w):=by
 rw[Jc,Jc]at h;cases e:ls[i]? with
 |none=>rw[e]at h;cases h
 |some w=>rw[e]at h;exact⟨w,rfl,(Jy h).symm⟩
theorem Dr(ps:List (List Nat))(w:List Nat):neW (ps++[w])=if w=[]then neW ps else neW ps++[w]:=by
 unfold neW;rw[JK];cases w with
 |nil=>simp
 |cons a r=>simp

def isL(c:Nat):Bool:=decide (97<=c/\c<=122)
def isF(c:Nat):Bool:=decide (48<=c/\c<=57)
def LL:List Nat:=[97,98,99,100,101,102,103,104,105,106,107,108,109,110,111,112,113,114,115,116,117,118,119,120,121,122]
def FF:List Nat:=[48,49,50,51,52,53,54,55,56,57]
theorem Ih:(Iy "abcdefghijklmnopqrstuvwxyz")=tx LL:=by decide +kernel
theorem Ii:(Iy "0123456789")=tx FF:=by decide +kernel
theorem Hv:(Iy "abcdefghijklmnopqrstuvwxyz0123456789")=tx (LL++FF):=by decide +kernel
theorem BZ(c:Nat):decide (c∈LL)=isL c:=by
 by_cases h:c<123
 .have:∀c<123,decide (c∈LL)=isL c:=by decide +kernel
  exact this c h
 .have h1:c∉LL:=λhm=>h ((show ∀x∈LL,x<123 by decide) c hm);unfold isL;rw[decide_eq_false h1,decide_eq_false (by omega)]
theorem B1(c:Nat):decide (c∈FF)=isF c:=by
 by_cases h:c<123
 .have:∀c<123,decide (c∈FF)=isF c:=by decide +kernel
  exact this c h
 .have h1:c∉FF:=λhm=>h ((show ∀x∈FF,x<123 by decide) c hm);unfold isF;rw[decide_eq_false h1,decide_eq_false (by omega)]
theorem B2(c:Nat):(!(J4 (Iy "abcdefghijklmnopqrstuvwxyz") ⟨#[c]⟩ 0 (Iy "abcdefghijklmnopqrstuvwxyz").length 1).isEmpty)=isL c:=by rw[Ih,ut,BZ]
theorem B3(c:Nat):(!(J4 (Iy "0123456789") ⟨#[c]⟩ 0 (Iy "0123456789").length 1).isEmpty)=isF c:=by rw[Ii,ut,B1]
theorem EI(c:Nat):(!(J4 (Iy "abcdefghijklmnopqrstuvwxyz0123456789") ⟨#[c]⟩ 0 (Iy "abcdefghijklmnopqrstuvwxyz0123456789").length 1).isEmpty)=(isL c||isF c):=by
 rw[Hv,ut,<-BZ,<-B1];by_cases h1:c∈LL
 .rw[decide_eq_true (Ku _ h1),decide_eq_true h1];rfl
 .by_cases h2:c∈FF
  .rw[decide_eq_true (JB _ h2),decide_eq_true h2,Bool.or_true]
  .rw[decide_eq_false h1,decide_eq_false h2,decide_eq_false (λh=>(List.mem_append.mp h).elim h1 h2)];rfl
theorem EJ{c:Nat}(h:isL c=true):isF c=false:=by
 unfold isL at h;have:=of_decide_eq_true h;exact decide_eq_false (by omega)
def bU:List Nat->Bool
 |[]=>false
 |c::r=>decide ((c::r).length<=12)&&(isL c&&(c::r).all λd=>isL d||isF d)
theorem vO{c:Nat}{r:List Nat}(h:¬ (c::r).length<=12):bU (c::r)=false:=by
 show(decide _&&_)=false;rw[decide_eq_false h,Mq]
theorem oU{c:Nat}{r:List Nat}(h:(c::r).length<=12):bU (c::r)=(isL c&&(c::r).all λd=>isL d||isF d):=by
 show(decide _&&_)=_;rw[decide_eq_true h,LW]
theorem ce:(Iy "")=tx []:=by decide +kernel
theorem xU(c:Nat)(r:List Nat):decide (V.str (tx (c::r))=V.str (Iy ""))=false:=by
 refine decide_eq_false λh=>?_;have h2:=V.str.inj h;rw[ce]at h2;have h3:=jm h2;cases h3
theorem xV:decide (V.str (tx [])=V.str (Iy ""))=true:=decide_eq_true (by rw[ce])
theorem Ij(c:Nat)(r:List Nat):Txt.slice (tx (c::r)) none (some 1)=tx [c]:=by
 rw[show(some (1:Int))=some ((1:Nat):Int)from rfl,f9,cut_to];rfl
theorem Ik(c:Nat)(r:List Nat):Txt.slice (tx (c::r)) (some 1) none=tx r:=by
 rw[show(some (1:Int))=some ((1:Nat):Int)from rfl,f9,cut_from];rfl
theorem c33:(Iy "!")=tx [33]:=by decide +kernel
theorem Hw(c:Nat):decide (V.str (tx [c])=V.str (Iy "!"))=decide (c=33):=by
 rw[c33];by_cases h:c=33
 .subst h;rw[decide_eq_true rfl,decide_eq_true rfl]
 .rw[decide_eq_false h];refine decide_eq_false λe=>h ?_;have:=jm (V.str.inj e);simpa using this
theorem Ga(l:List Nat)(f:Nat->Bool):((l.map f).all id)=l.all f:=by rw[List.all_map];rfl

def opn:List Nat->Bool
 |c::r=>decide (c=91)&&bU r
 |[]=>false
section
variable {cn:Option Nat}{w:List Nat}{t:List (List Nat)}{m:Nat}
end
theorem bP{s:Str}{l:List Nat}(h:s=tx l)(w:List Nat):decide (V.str (tx w)=V.str s)=decide (w=l):=by
 rw[h];by_cases e:w=l
 .rw[decide_eq_true e,e];exact decide_eq_true rfl
 .rw[decide_eq_false e];exact decide_eq_false λz=>e (jm (V.str.inj z))
theorem c91:(Iy "[")=tx [91]:=by decide +kernel
theorem Il:(Iy "|")=tx FU:=by decide +kernel
theorem Gb:(Iy "]")=tx FV:=by decide +kernel
def NdA(F:Hp)(v:V)(t:List Nat):Prop:=∃b,v=.ref b/\F b=some (.tup [.str "word",.str (tx t)])
theorem NdA.mono{F F':Hp}(s:aj F F'){v:V}{t:List Nat}(h:NdA F v t):NdA F' v t:=by
 obtain⟨b,e,h⟩:=h;exact⟨b,e,s _ _ h⟩
theorem NdsA.mono{F F':Hp}(s:aj F F'){vs:List V}{ts:List (List Nat)}(h:aI (NdA F) vs ts):aI (NdA F') vs ts:=h.imp λ_ _=>NdA.mono s
theorem aT{α:Type}{l:List α}{i:Nat}{x:α}(h:l[i]?=some x):l.take (i+1)=l.take i++[x]:=by
 obtain⟨hi,e⟩:=List.getElem?_eq_some_iff.mp h;rw[Ld,h];rfl

def lG:List (Key×V):=[(.inr (Iy "#"),.str (Iy "mark")),(.inr (Iy "@"),.str (Iy "number")),(.inr (Iy "&"),.str (Iy "page")),(.inr (Iy "^"),.str (Iy "row")),(.inr (Iy "~"),.str (Iy "foot"))]
inductive oy(w:Jo):List JG->List (Key×V)->Prop
 |nil:oy w [] []
 |cons {e:JG} {k:Key} {v:V} {es:List JG} {kvs:List (Key×V)}:mO k e.key=true->e.hash=Fb w k->bx v e.val->oy w es kvs->oy w (e::es) ((k,v)::kvs)
def xW(w:Jo)(es:Array JG)(kvs:List (Key×V)):Prop:=oy w es.toList kvs/\(kvs.map (·.1)).Nodup
theorem B4{P:Jk}{w:Jo}{es:List JG}{kvs:List (Key×V)}(h:oy w es kvs):∃vs,KV kvs vs/\Pairs (bR P w) es vs/\vs.map (·.1)=kvs.map (·.1)/\∀e∈es,∃k,(bR P w).is k e.key=true/\e.hash=(bR P w).hash k:=by
 induction h with
 |nil=>exact⟨[],.nil,.nil,rfl,λe he=>nomatch he⟩
 |@cons e k v es kvs h1 h2 h3 _ ih =>
  obtain⟨vs,a,b,c,d⟩:=ih;refine⟨(k,e.val)::vs,.cons ⟨rfl,h3⟩ a,.cons h1 rfl b,by rw[IQ,IQ,c],λx hx=>?_⟩;rcases List.mem_cons.mp hx with rfl|hx
  .exact⟨k,h1,h2⟩
  .exact d x hx
theorem zx{P:Jk}{w:Jo}{K:IC}{a:Addr}{oc:IE}{od:Option Addr}{es:Array JG}{ep:Nat}{sl:Array (Option IE)}{kvs:List (Key×V)}(b:(a==Kn)=false)
  (l:K.lookup a=some ⟨oc,od,.dict es ep,sl⟩)(c:(⟨oc,od,.dict es ep,sl⟩:Obj).ExactDict)(e:xW w es kvs):uV P w K a kvs:=by
 obtain⟨vs,h1,h2,h3,h4⟩:=B4 (P:=P) e.1;exact⟨b,_,vs,l,h1,es,ep,c,rfl,λx hx=>h4 x (by simpa using hx),h2,by rw[h3];exact e.2⟩
def mk(c:Nat):Option String:=if c=35 then some "mark" else if c=64 then some "number" else if c=38 then some "page" else if c=94 then some "row" else if c=126 then some "foot" else none
def lH:List Nat->String×List Nat
 |[]=>("plain",[])
 |c::r=>match mk c,bU r with
  |some s,true=>(s,r)
  |_,_=>if c=33/\r≠[]then("plain",r)else("plain",c::r)
theorem Ds(c:Nat)(h:mk c=none):dh lG (.inr ⟨#[c]⟩)=none:=by
 unfold mk at h
 split at h
 .cases h
 split at h
 .cases h
 split at h
 .cases h
 split at h
 .cases h
 split at h
 .cases h
 rename_i h1 h2 h3 h4 h5
 have key:∀d:Nat,c≠d->¬ ((Lq (tx [d]):Key)=Lq (tx [c])):=λd hd e=>hd (by
  have e2:=jm (Sum.inr.inj e);have e3:d=c:=by simpa using e2
  exact e3.symm)
 unfold lG;rw[show(Iy "#")=tx [35] by decide +kernel,show(Iy "@")=tx [64] by decide +kernel,show(Iy "&")=tx [38] by decide +kernel,show(Iy "^")=tx [94] by decide +kernel,show(Iy "~")=tx [126] by decide +kernel];show dh _ (Lq (tx [c]))=none;rw[eV (key 35 h1),eV (key 64 h2),eV (key 38 h3),eV (key 94 h4),eV (key 126 h5)];rfl
theorem Dt(c:Nat)(s:String)(h:mk c=some s):dh lG (.inr ⟨#[c]⟩)=some (.str (Iy s)):=by
 have hc:c=35\/c=64\/c=38\/c=94\/c=126:=by
  unfold mk at h
  split at h
  .omega
  split at h
  .omega
  split at h
  .omega
  split at h
  .omega
  split at h
  .omega
  cases h
 rcases hc with rfl|rfl|rfl|rfl|rfl
 all_goals
  have e:=Jy h;subst e;decide +kernel

def plL(c:Nat)(r:List Nat):Kw×List Nat:=if c=33/\r≠[]then(.plain,r)else(.plain,c::r)
def kwC(c:Nat)(r:List Nat):Kw×List Nat:=if bU r=true then(if c=35 then(.mark,r)else if c=64 then(.number,r)else if c=38 then(.page,r)else if c=94 then(.row,r)else if c=126 then(.foot,r)else plL c r)else plL c r
def kwL:List Nat->Kw×List Nat
 |[]=>(.plain,[])
 |c::r=>kwC c r
theorem EK:∀t:List Nat,Iy (lH t).1=(kwL t).1.s/\(lH t).2=(kwL t).2
 |[]=>⟨rfl,rfl⟩
 |c::r=>by
  have pl:∀q:String×List Nat,q=(if c=33/\r≠[]then("plain",r)else("plain",c::r))->Iy q.1=(plL c r).1.s/\q.2=(plL c r).2:=λq e=>by
   rw[e];unfold plL;by_cases h:c=33/\r≠[]
   .rw[if_pos h,if_pos h];exact⟨rfl,rfl⟩
   .rw[if_neg h,if_neg h];exact⟨rfl,rfl⟩
  have hk:lH (c::r)=match mk c,bU r with
   |some s,true=>(s,r)
   |_,_=>if c=33/\r≠[]then("plain",r)else("plain",c::r):=rfl
  show Iy (lH (c::r)).1=(kwC c r).1.s/\(lH (c::r)).2=(kwC c r).2;rw[hk];unfold kwC mk;cases hn:bU r with
  |false =>
   rw[if_neg (show ¬ (false=true) by decide)];refine pl _ ?_
   split
   .rename_i h;cases h
   .rfl
  |true =>
   rw[if_pos rfl];by_cases h1:c=35
   .simp[h1,Kw.s]
   by_cases h2:c=64
   .simp[h2,Kw.s]
   by_cases h3:c=38
   .simp[h3,Kw.s]
   by_cases h4:c=94
   .simp[h4,Kw.s]
   by_cases h5:c=126
   .simp[h5,Kw.s]
   simp only[h1,h2,h3,h4,h5,if_false];exact pl _ rfl
def wkL(t:List Nat):Wk:=((kwL t).1,.str (tx (kwL t).2))
structure oV(t:List Nat):Prop where
 ne:t≠[]
 len:t.length<=61
 opn:opn t=false
 pl:(kwL t).1=.plain->(kwL t).2.length<=60
 sg:∀d∈t,d<127
def ik:List (Key×V):=[(.inr (Iy "page"),.int 3),(.inr (Iy "odd"),.int 4)]
def kwV(k:Kw):V:=.str k.s
theorem sU{k:Kw}:∀{bs:List Kw},k∉bs->inV (kwV k) (bs.map kwV)=false
 |[],_=>rfl
 |b::r,h=>by
  have e:¬ (b=k):=λz=>h (by rw[z];exact IL);have ih:=sU (bs:=r) λz=>h (IH _ z);unfold inV at ih⊢;rw[IQ,K_,ih,Bool.or_false];show(b.s==k.s)=false;rw[Kw.beq,decide_eq_false e]
theorem xX:∀bs:List Kw,(bs.map kwV).all jq=true
 |[]=>rfl
 |_::r=>by rw[IQ,Lp,xX r];rfl

theorem c32:(Iy " ")=tx [32]:=by decide +kernel
def ku:List Nat:=[46,102,111,111,116]
def oW:List Nat:=[46,112,97,103,101]
def tJ:List Nat:=[46,111,100,100]
def ky:List Nat:=[46,108,105,115,116]
def Im:List Nat:=[46,108,101,116]
theorem jJ:(Iy ".foot")=tx ku:=by decide +kernel
theorem Ap:(Iy ".let")=tx Im:=by decide +kernel
theorem Aq:(Iy ".page")=tx oW:=by decide +kernel
theorem Ar:(Iy ".odd")=tx tJ:=by decide +kernel
theorem uD:(Iy ".list")=tx ky:=by decide +kernel
theorem cH1:(Iy "=")=tx [61]:=by decide +kernel
theorem cH2:(Iy "==")=tx [61,61]:=by decide +kernel
theorem cH3:(Iy "===")=tx [61,61,61]:=by decide +kernel
theorem Io:(Iy ".")=tx [46]:=by decide +kernel
def D1(w:List Nat)(r:Rw):Prop:=(w=oW/\r=.page)\/(w=tJ/\r=.odd)\/(w=ky/\r=.lst)
inductive jK:List (List Nat)->Rw->Prop
 |empty:jK [] .empty
 |foot {n:List Nat} {ts:List (List Nat)}:bU n=true->n.length<=12->ts.length<=39->(∀t∈ts,oV t/\(kwL t).1∉[Kw.mark,Kw.foot])->jK (ku::n::ts) (.foot (tx n) (ts.map wkL))
 |alone {w:List Nat} {r:Rw}:D1 w r->jK [w] r
 |head {k:Nat} {ts:List (List Nat)}:k<3->ts.length<=129->(∀t∈ts,oV t/\(kwL t).1∉[Kw.foot])->jK (IN (k+1) 61::ts) (.head (k+1) (ts.map wkL))
 |par {c:Nat} {u:List Nat} {ts:List (List Nat)}:c≠46->(c::u)∉[[61],[61,61],[61,61,61]]->ts.length<=129->(∀t∈(c::u)::ts,oV t)->jK ((c::u)::ts) (.par (((c::u)::ts).map wkL))
def Du(s:Rs):Rw->Prop
 |.foot n _=>lkS n s.feet=none
 |_=>True
def mT:Rs->List Rw->Prop
 |_,[]=>True
 |s,r::l=>Du s r/\mT (bD s r) l
theorem mT.at:∀{l:List Rw}{s:Rs}{k:Nat}{r:Rw},mT s l->l[k]?=some r->Du (aS s (l.take k)) r
 |x::l,s,0,r,h,e=>by cases e;exact h.1
 |x::l,s,k+1,r,h,e=>mT.at (l:=l) (k:=k) h.2 (by simpa using e)
 |[],_,_,_,_,e=>by simp at e
theorem oz{w:List Nat}:∀(ls:List (List Nat)),inV (.str (tx w)) (ls.map λl=>.str (tx l))=decide (w∈ls)
 |[]=>rfl
 |l::r=>by
  have ih:=oz (w:=w) r;unfold inV at ih⊢;rw[IQ,K_,ih];show((tx l==tx w)||_)=_;by_cases e:w=l
  .subst e;simp
  .have:(tx l==tx w)=false:=by
    rw[beq_eq_false_iff_ne];exact λz=>e (jm z.symm)
   rw[this,Nc];simp[e]
theorem oX{n:Str}{v:V}:∀{l:List (Str×V)},(l.map Prod.fst).all (λm=>m != n)=true->bW n v l=l++[(n,v)]
 |[],_=>rfl
 |(m,x)::r,h=>by
  rw[IQ,Lp,Kt]at h;have e:¬ (m=n):=by simpa using h.1
  have ih:=oX (n:=n) (v:=v) h.2;simp[bW,e]at ih⊢;exact ih

def Gc(l:List Nat)(r:Rw):Prop:=l.length<=20000/\jK (dt l) r
def nj:List (List Nat)->List Rw->Prop
 |[],[]=>True
 |l::ls,r::rs=>Gc l r/\nj ls rs
 |_,_=>False
theorem nj.len:∀{ls:List (List Nat)}{rs:List Rw},nj ls rs->ls.length=rs.length
 |[],[],_=>rfl
 |_::_,_::_,h=>congrArg (·+1) (nj.len h.2)
theorem nj.get:∀{ls:List (List Nat)}{rs:List Rw}{i:Nat}{l:List Nat},nj ls rs->ls[i]?=some l->∃r,rs[i]?=some r/\Gc l r
 |l::_,r::_,0,x,h,e=>by cases e;exact⟨r,rfl,h.1⟩
 |_::_,_::_,i+1,x,h,e=>nj.get (i:=i) h.2 (by simpa using e)
 |[],[],_,_,_,e=>by simp at e
def al(b:Nat):Nat:=(LL++FF).getD b 0
theorem EL:∀k:Nat,k<36->atI (Iy "abcdefghijklmnopqrstuvwxyz0123456789").cps.toList (k:Int)=some (al k):=by decide +kernel
theorem Gd:∀b:Nat,b<36->∀c:Nat,c<36->al b=al c->b=c:=by decide +kernel
theorem Ge:∀b:Nat,b<26->isL (al b)=true:=by decide +kernel
theorem Gg:∀b:Nat,b<36->(isL (al b)||isF (al b))=true:=by decide +kernel
structure Ix(xs:List Nat):Prop where
 ne:xs≠[]
 len:xs.length<=12
 fst:∀b,xs.head?=some b->b<26
 all:∀b∈xs,b<36
theorem Ix.name{xs:List Nat}(h:Ix xs):bU (xs.map al)=true:=by
 cases xs with
 |nil=>exact absurd rfl h.ne
 |cons b r =>
  have hl:(al b::r.map al).length<=12:=by have:=h.len;simp at this⊢;omega
  show bU (al b::r.map al)=true;rw[oU hl,Ge b (h.fst b rfl),LW];refine List.all_eq_true.mpr λd hd=>?_;obtain⟨b',hb',rfl⟩:=List.mem_map.mp (show d∈(b::r).map al from hd);exact Gg b' (h.all b' hb')
theorem xY:∀cs:List Nat,df [] (cs.map λc=>[c])=cs
 |[]=>rfl
 |[c]=>rfl
 |c::d::r=>by
  show[c]++[]++df [] ((d::r).map λc=>[c])=_;rw[xY (d::r)];rfl
theorem va:∀cs:List Nat,((cs.map λc=>tx [c]).map (·.length)).sum=cs.length
 |[]=>rfl
 |c::r=>by
  rw[IQ,IQ,J9,va r,aV];simp only[ID,Ja];omega

theorem nu:(Iy "")=tx []:=by decide +kernel
theorem ej1(cs:List Nat):Txt.join (Iy "") (cs.map λd=>tx [d])=tx cs:=by
 rw[nu,show(cs.map λd=>tx [d])=((cs.map λd=>[d]).map tx) by rw[Ki];rfl,oh,xY]
def nmB(bs:List Nat)(a j:Nat):List Nat:=bs.take a++[j/36%36]++[j%36]++bs.drop a
structure tK(bs:List Nat)(a:Nat):Prop where
 len:bs.length<=10
 fst:∀b,bs.head?=some b->b<26
 all:∀b∈bs,b<36
 lo:1<=a
 hi:a<=bs.length
theorem tK.ix{bs:List Nat}{a:Nat}(h:tK bs a)(j:Nat):Ix (nmB bs a j):=by
 have l1:=h.lo;have l2:=h.hi;have l3:=h.len
 match bs,h with
 |[],h=>simp at l2;omega
 |b::r,h =>
 obtain⟨a',rfl⟩:∃a',a=a'+1:=⟨a-1,by omega⟩;refine⟨by simp[nmB],?_,?_,?_⟩
 .have e1:(List.take (a'+1) (b::r)).length=a'+1:=by rw[Jm];omega
  have e2:(List.drop (a'+1) (b::r)).length=(b::r).length-(a'+1):=by rw[Lh]
  unfold nmB;simp only[IB,e1,e2,ID,Ja]at l2 l3⊢;omega
 .intro x hx;have:x=b:=by simpa[nmB]using hx.symm
  rw[this];exact h.fst b rfl
 .intro x hx;simp only[nmB,List.mem_append,Mw]at hx;rcases hx with((hx|hx)|hx)|hx
  .exact h.all x (List.mem_of_mem_take hx)
  .rw[hx];exact MS _ (by decide)
  .rw[hx];exact MS _ (by decide)
  .exact h.all x (List.mem_of_mem_drop hx)
theorem uE:∀{xs ys:List Nat},(∀x∈xs,x<36)->(∀y∈ys,y<36)->xs.map al=ys.map al->xs=ys
 |[],[],_,_,_=>rfl
 |x::xs,y::ys,h1,h2,e=>by
  rw[IQ,IQ]at e;injection e with e1 e2;rw[Gd x (h1 x IL) y (h2 y IL) e1,uE (λz hz=>h1 z (IH _ hz)) (λz hz=>h2 z (IH _ hz)) e2]
theorem tK.inj{bs:List Nat}{a:Nat}(h:tK bs a){i j:Nat}(hi:i<1296)(hj:j<1296)(e:(nmB bs a i).map al=(nmB bs a j).map al):i=j:=by
 have e:=uE (h.ix i).all (h.ix j).all e;unfold nmB at e;rw[IT,IT,IT,IT]at e;have e:=List.append_cancel_left e;simp only[List.singleton_append,List.cons.injEq]at e;omega
structure NmF(nm:Nat->List Nat):Prop where
 name:∀j,bU (nm j)=true
 len:∀j,(nm j).length<=12
 sg:∀j,∀d∈nm j,33<=d/\d<127
 inj:∀i j,i<1296->j<1296->nm i=nm j->i=j
theorem Hx:∀b:Nat,b<36->33<=al b/\al b<127:=by decide +kernel
theorem tK.nmF{bs:List Nat}{a:Nat}(h:tK bs a):NmF λj=>(nmB bs a j).map al:=
 ⟨fun j=>(h.ix j).name,fun j=>by rw [Iz]; exact (h.ix j).len,fun j d hd=>by
  obtain⟨b,hb,rfl⟩:=List.mem_map.mp hd;exact Hx b ((h.ix j).all b hb),λi j hi hj e=>h.inj hi hj e⟩
abbrev NWd:=Kw×List Nat
structure Dw(l:List Nat):Prop where
 ne:l≠[]
 len:l.length<=60
 sg:∀d∈l,33<=d/\d<127
def gO(k:Kw)(marks feet:Nat):Nat:=if k=.foot then feet else marks
def WdG(nm:Nat->List Nat)(k:Kw)(at_ marks feet:Nat)(w:NWd):Prop:=
 (k=.mark/\w=(.mark,nm at_))\/(k≠.mark/\w.1=.plain/\Dw w.2/\(k≠.plain->gO k marks feet=0))\/(k≠.mark/\k≠.plain/\w.1=k/\∃j,j<gO k marks feet/\w.2=nm j)
def sgK:Kw->Nat
 |.mark=>35|.number=>64|.page=>38|.row=>94|.foot=>126|_=>33
def oY(w:NWd):Prop:=w.1≠.entry/\(∀d∈w.2,33<=d/\d<127)/\((w.1=.plain/\w.2≠[]/\w.2.length<=60)\/(w.1≠.plain/\bU w.2=true/\w.2.length<=12))
theorem WdG.ok{nm:Nat->List Nat}(hn:NmF nm){k:Kw}{at_ marks feet:Nat}{w:NWd}(ke:k≠.entry)(h:WdG nm k at_ marks feet w):oY w:=by
 rcases h with⟨_,rfl⟩|⟨_,h1,h2,_⟩|⟨_,h0,h1,j,_,h2⟩
 .exact⟨by show Kw.mark≠Kw.entry;decide,hn.sg _,.inr ⟨by show Kw.mark≠Kw.plain;decide,hn.name _,hn.len _⟩⟩
 .exact⟨by rw[h1];decide,h2.sg,.inl ⟨h1,h2.ne,h2.len⟩⟩
 .exact⟨by rw[h1];exact ke,by rw[h2];exact hn.sg _,.inr ⟨by rw[h1];exact h0,by rw[h2];exact hn.name _,by rw[h2];exact hn.len _⟩⟩
def isM(c:Nat):Bool:=decide (c∈[35,64,38,94,126])
def lI(tight:Bool):List Nat->Bool
 |[]=>false
 |c::r=>decide (c∈[46,33,91])||(if tight then decide (c=61)else decide ((c::r)∈[[61],[61,61],[61,61,61]]))||(isM c&&bU r)
theorem vP(tight:Bool)(c:Nat)(r:List Nat):lI tight (c::r)=(decide (c∈[46,33,91])||(if tight then decide (c=61)else decide ((c::r)∈[[61],[61,61],[61,61,61]]))||(isM c&&bU r)):=rfl
def wrW(tight:Bool)(w:NWd):List Nat:=if w.1=.plain then(if lI tight w.2=true then 33::w.2 else w.2)else sgK w.1::w.2
structure Gh(t:List Nat)(w:NWd):Prop where
 good:oV t
 back:kwL t=w
 nb:32∉t
 dot:t.head?≠some 46
 hd:t∉[[61],[61,61],[61,61,61]]
theorem Dx{k:Kw}{r:List Nat}(hk:k≠.plain)(he:k≠.entry)(hn:bU r=true):kwC (sgK k) r=(k,r):=by
 unfold kwC;rw[if_pos hn];cases k<;>first|rfl|exact absurd rfl hk|exact absurd rfl he
theorem Dy{r:List Nat}(h:r≠[]):kwC 33 r=(.plain,r):=by
 have p:plL 33 r=(.plain,r):=by unfold plL;rw[if_pos ⟨rfl,h⟩]
 unfold kwC;by_cases hn:bU r=true
 .rw[if_pos hn];exact p
 .rw[if_neg hn];exact p
theorem B5{c:Nat}{r:List Nat}(h1:c≠33)(h2:(isM c&&bU r)=false):kwC c r=(.plain,c::r):=by
 have p:plL c r=(.plain,c::r):=by unfold plL;rw[if_neg (λz=>h1 z.1)]
 unfold kwC;by_cases hn:bU r=true
 .rw[hn,Nd]at h2;have m:=of_decide_eq_false h2;simp only[J8,JQ,or_false,not_or]at m;rw[if_pos hn,if_neg m.1,if_neg m.2.1,if_neg m.2.2.1,if_neg m.2.2.2.1,if_neg m.2.2.2.2];exact p
 .rw[if_neg hn];exact p
theorem As(tight:Bool){w:NWd}(h:oY w):Gh (wrW tight w) w:=by
 obtain⟨k,r⟩:=w;obtain⟨he,sg,h⟩:=h;dsimp only at he sg h;have n32:∀l:List Nat,(∀d∈l,33<=d/\d<127)->32∉l:=λl hl z=>by have:=hl 32 z;omega
 rcases h with⟨hk,hne,hl⟩|⟨hk,hn,hl⟩
 .subst hk;unfold wrW;rw[if_pos rfl];by_cases b:lI tight r=true
  .rw[if_pos b];have kb:kwL (33::r)=(.plain,r):=Dy hne;have sg':∀d∈33::r,33<=d/\d<127:=λd hd=>by
    rcases List.mem_cons.mp hd with rfl|hd
    .exact⟨by decide,by decide⟩
    .exact sg d hd
   refine⟨⟨by simp,by simp only[ID];omega,rfl,λ_=>by rw[kb];exact hl,λd hd=>(sg' d hd).2⟩,kb,n32 _ sg',by simp,by simp⟩
  .rw[if_neg b];rw[J6]at b
   match r,hne,b with
   |c::u,_,b =>
   unfold lI at b;simp only[Lg]at b;obtain⟨⟨b1,b2⟩,b3⟩:=b;have b1:=of_decide_eq_false b1;simp only[J8,JQ,or_false,not_or]at b1;have kb:kwL (c::u)=(.plain,c::u):=B5 b1.2.1 b3;have op:opn (c::u)=false:=by show(decide (c=91)&&bU u)=false;rw[decide_eq_false b1.2.2];rfl
   refine⟨⟨by simp,(by show(c::u).length<=61;omega),op,λ_=>by rw[kb];exact hl,λd hd=>(sg d hd).2⟩,kb,n32 _ sg,by simp;exact b1.1,?_⟩;cases tight with
   |true =>
    have b2:¬ (c=61):=of_decide_eq_false b2;simp[b2]
   |false=>exact of_decide_eq_false b2
 .unfold wrW;rw[if_neg hk];have kb:kwL (sgK k::r)=(k,r):=Dx hk he hn;have s1:33<=sgK k/\sgK k<127/\sgK k≠91/\sgK k≠46/\sgK k≠61:=by cases k<;>decide
  have sg':∀d∈sgK k::r,33<=d/\d<127:=λd hd=>by
   rcases List.mem_cons.mp hd with rfl|hd
   .exact⟨s1.1,s1.2.1⟩
   .exact sg d hd
  have op:opn (sgK k::r)=false:=by show(decide (sgK k=91)&&bU r)=false;rw[decide_eq_false s1.2.2.1];rfl
  refine⟨⟨by simp,by simp only[ID];omega,op,λz=>by rw[kb]at z;exact absurd z hk,λd hd=>(sg' d hd).2⟩,kb,n32 _ sg',by simp;exact s1.2.2.2.1,by simp[s1.2.2.2.2]⟩
inductive Wy where
 |words|empty|h1|h2|h3|page|odd|lst|foot
 deriving DecidableEq
def Wy.t:Wy->List Nat
 |.words=>[119,111,114,100,115]|.empty=>[]|.h1=>[61]|.h2=>[61,61]|.h3=>[61,61,61]
 |.page=>oW|.odd=>tJ|.lst=>ky|.foot=>ku
def Wy.hd:Wy->Bool
 |.h1=>true|.h2=>true|.h3=>true|_=>false
def Wy.bare:Wy->Bool
 |.empty=>true|.page=>true|.odd=>true|.lst=>true|_=>false
theorem Wy.inj:∀{a b:Wy},a.t=b.t->a=b:=by
 intro a b h;cases a<;>cases b<;>first|rfl|exact absurd h (by decide)
abbrev c7:=Wy×List (Kw×Int)
structure At(kds:List Kw)(r:c7):Prop where
 bare:r.1.bare=true->r.2=[]
 len:r.2.length<=6
 head:r.1.hd=true->∀w∈r.2,w.1≠.foot
 foot:r.1=.foot->∀w∈r.2,w.1≠.mark/\w.1≠.foot
 kds:∀w∈r.2,w.1∈kds\/w.1=.plain
abbrev bu:=Wy×List Nat×List NWd
structure jL(r:bu):Prop where
 bare:r.1.bare=true->r.2.2=[]
 len:r.2.2.length<=129
 words:r.1=.words->r.2.2≠[]
 head:r.1.hd=true->∀w∈r.2.2,w.1≠.foot
 foot:r.1=.foot->bU r.2.1=true/\r.2.1.length<=12/\(∀d∈r.2.1,33<=d/\d<127)/\r.2.2.length<=39/\∀w∈r.2.2,w.1≠.mark/\w.1≠.foot
 ok:∀w∈r.2.2,oY w
def tL(w:NWd):Wk:=(w.1,.str (tx w.2))
def wkS(ws:List NWd):List Wk:=ws.map tL
def gU(tight:Bool)(r:bu):List (List Nat):=(if r.1=.empty\/r.1=.words then[]else[r.1.t])++(if r.1=.foot then[r.2.1]else[])++r.2.2.map (wrW tight)
def aX(r:bu):Rw:=
 match r.1 with
 |.words=>.par (wkS r.2.2)
 |.empty=>.empty
 |.h1=>.head 1 (wkS r.2.2)
 |.h2=>.head 2 (wkS r.2.2)
 |.h3=>.head 3 (wkS r.2.2)
 |.page=>.page
 |.odd=>.odd
 |.lst=>.lst
 |.foot=>.foot (tx r.2.1) (wkS r.2.2)
theorem EM{tight:Bool}{ws:List NWd}(h:∀w∈ws,oY w):(ws.map (wrW tight)).map wkL=wkS ws:=by
 rw[Ki];refine Mg λw hw=>?_;show wkL (wrW tight w)=tL w;unfold wkL tL;rw[(As tight (h w hw)).back]
theorem Gi(tight:Bool){r:bu}(h:jL r):jK (gU tight r) (aX r):=by
 obtain⟨wy,n,ws⟩:=r;have g:∀t∈ws.map (wrW tight),∃w∈ws,Gh t w:=λt ht=>by
  obtain⟨w,hw,rfl⟩:=List.mem_map.mp ht;exact⟨w,hw,As tight (h.ok w hw)⟩
 have bk:=EM (tight:=tight) h.ok;have ln:=h.len;dsimp only at bk ln;have hd:∀k,k<3->(∀w∈ws,w.1≠.foot)->jK (IN (k+1) 61::ws.map (wrW tight)) (.head (k+1) (wkS ws)):=λk hk hf=>by
  rw[<-bk];refine .head hk (by rw[Iz];exact ln) λt ht=>?_;obtain⟨w,hw,o⟩:=g t ht;exact⟨o.good,by rw[o.back];simpa using hf w hw⟩
 cases wy with
 |words =>
  show jK (ws.map (wrW tight)) (.par (wkS ws));rw[<-bk];have ne:=h.words rfl
  match ws,ne,g,ln with
  |w::r,_,g,ln =>
  obtain⟨w',_,o⟩:=g (wrW tight w) IL;rw[IQ];cases e:wrW tight w with
  |nil=>exact absurd e o.good.ne
  |cons c u =>
   rw[e]at o;refine .par (λz=>o.dot (by rw[z];rfl)) o.hd (by rw[Iz];simp only[ID]at ln;omega) λt ht=>?_;rw[<-e,<-IQ]at ht;obtain⟨_,_,o'⟩:=g t ht;exact o'.good
 |empty =>
  have e:ws=[]:=h.bare rfl;subst e;exact .empty
 |h1=>exact hd 0 (by decide) (h.head rfl)
 |h2=>exact hd 1 (by decide) (h.head rfl)
 |h3=>exact hd 2 (by decide) (h.head rfl)
 |page =>
  have e:ws=[]:=h.bare rfl;subst e;exact .alone (.inl ⟨rfl,rfl⟩)
 |odd =>
  have e:ws=[]:=h.bare rfl;subst e;exact .alone (.inr (.inl ⟨rfl,rfl⟩))
 |lst =>
  have e:ws=[]:=h.bare rfl;subst e;exact .alone (.inr (.inr ⟨rfl,rfl⟩))
 |foot =>
  obtain⟨f1,f2,f3,f4,f5⟩:=h.foot rfl;show jK (ku::n::ws.map (wrW tight)) (.foot (tx n) (wkS ws));rw[<-bk];refine .foot f1 f2 (by rw[Iz];exact f4) λt ht=>?_;obtain⟨w,hw,o⟩:=g t ht;exact⟨o.good,by rw[o.back];simpa using f5 w hw⟩
theorem mU(tight:Bool){r:bu}(h:jL r):∀t∈gU tight r,32∉t/\t≠[]/\t.length<=61:=λt ht=>by
 unfold gU at ht;rcases List.mem_append.mp ht with ht|ht
 .rcases List.mem_append.mp ht with ht|ht
  .by_cases c:r.1=.empty\/r.1=.words
   .rw[if_pos c]at ht;cases ht
   .rw[if_neg c]at ht;rw[List.mem_singleton.mp ht];revert c;cases r.1<;>decide
  .by_cases c:r.1=.foot
   .rw[if_pos c]at ht;rw[List.mem_singleton.mp ht];obtain⟨f1,f2,f3,_⟩:=h.foot c;exact⟨λz=>(by have:=f3 32 z;omega),(λz=>by rw[z]at f1;cases f1),(by omega)⟩
   .rw[if_neg c]at ht;cases ht
 .obtain⟨w,hw,rfl⟩:=List.mem_map.mp ht;have o:=As tight (h.ok w hw);exact⟨o.nb,o.good.ne,o.good.len⟩
theorem zy(tight:Bool){r:bu}(h:jL r):(gU tight r).length<=131:=by
 have:=h.len;unfold gU;simp only[IB,Iz];have a:(if r.1=.empty\/r.1=.words then([]:List (List Nat))else[r.1.t]).length<=1:=by split<;>simp
 have b:(if r.1=.foot then[r.2.1]else([]:List (List Nat))).length<=1:=by split<;>simp
 omega
abbrev ny(l:List Nat):List Nat:=JR 32 l
def mV(a b:Nat)(d:Bool)(l:List Nat):List Nat:=IN a 32++(if d then ny l else l)++IN b 32
theorem tM(c:Nat):∀n:Nat,oQ [c] n=IN n c
 |0=>rfl
 |n+1=>by
  rw[mR,tM c n,JD];rfl
theorem tN:∀(l:List (List Nat)),(∀t∈l,t.length<=61)->((l.map tx).map (·.length)).sum<=61*l.length
 |[],_=>IM _
 |x::r,h=>by
  have h1:=tN r λt ht=>h t (IH _ ht);have h2:=h x IL;rw[IQ,IQ,J9,aV,ID];omega
theorem uF(n:Nat):Txt.mul (Iy " ") (n:Int)=tx (IN n 32):=by
 rw[show(Iy " ")=tx [32] by decide +kernel,BE,tM]
theorem zA{n:Nat}(h:n<=10):MulOk (Iy " ") (n:Int):=by
 rw[show(Iy " ")=tx [32] by decide +kernel];exact sO (by omega) (by simp)
def oZ:List (List Nat)->List (List Nat)->Prop
 |[],[]=>True
 |r::rs,s::ss=>(∃a b d,a<=10/\b<=10/\s=mV a b d r)/\oZ rs ss
 |_,_=>False
theorem Dz(l:List Nat):∃h r,bB 32 l=h::r:=by
 cases e:bB 32 l with
 |nil=>exact absurd e (vI 32 l)
 |cons h r=>exact⟨h,r,rfl⟩
theorem sA{c:Nat}{l h:List Nat}{r:List (List Nat)}(e:bB 32 l=h::r)(n:c≠32):bB 32 (c::l)=(c::h)::r:=by
 rw[gQ,if_neg n,e]
theorem lP(l:List Nat):bB 32 (32::l)=[]::bB 32 l:=by rw[gQ,if_pos rfl]
theorem zB(r:List (List Nat)):neW ([]::r)=neW r:=rfl
theorem B6(l:List Nat):dt (ny l)=dt l:=by
 have key:∀l:List Nat,∃h r r',bB 32 l=h::r/\bB 32 (ny l)=h::r'/\neW r=neW r':=λl=>by
  induction l with
  |nil=>exact⟨[],[],[],rfl,rfl,rfl⟩
  |cons c l ih =>
   obtain⟨h,r,r',e1,e2,e3⟩:=ih;by_cases hc:c=32
   .subst hc;refine⟨[],h::r,[]::h::r',by rw[lP,e1],?_,?_⟩
    .show bB 32 (JR 32 (32::l))=_;rw[show JR 32 (32::l)=32::32::ny l from by simp[JR],lP,lP,e2]
    .rw[zB];unfold neW at e3⊢;rw[K0,K0,e3]
   .refine⟨c::h,r,r',sA e1 hc,?_,e3⟩;show bB 32 (JR 32 (c::l))=_;rw[show JR 32 (c::l)=c::ny l from by simp[JR,hc]];exact sA e2 hc
 obtain⟨h,r,r',e1,e2,e3⟩:=key l;unfold dt;rw[e1,e2];unfold neW at e3⊢;rw[K0,K0,e3]
theorem uG(l:List Nat):∀a:Nat,dt (IN a 32++l)=dt l
 |0=>rfl
 |a+1=>by
  rw[JD,K1];unfold dt;rw[lP,zB];exact uG l a
theorem Au(l:List Nat):dt (l++[32])=dt l:=by
 have key:∀l:List Nat,bB 32 (l++[32])=bB 32 l++[[]]:=λl=>by
  induction l with
  |nil=>rfl
  |cons c l ih =>
   rw[K1];by_cases hc:c=32
   .subst hc;rw[lP,lP,ih];rfl
   .obtain⟨h,r,e⟩:=Dz l;rw[sA (by rw[ih,e];rfl) hc,sA e hc];rfl
 unfold dt;rw[key];unfold neW;rw[JK];simp
theorem vQ(l:List Nat):∀b:Nat,dt (l++IN b 32)=dt l
 |0=>by rw[List.replicate_zero,IY]
 |b+1=>by
  rw[List.replicate_succ',<-IT,Au];exact vQ l b
theorem xZ{ws:List (List Nat)}(h:∀t∈ws,32∉t/\t≠[]):dt (df [32] ws)=ws:=by
 by_cases e:ws=[]
 .subst e;rfl
 .unfold dt;rw[sP 32 ws e λp hp=>(h p hp).1];unfold neW;refine List.filter_eq_self.mpr λw hw=>?_;have:=(h w hw).2;cases w with
  |nil=>exact absurd rfl this
  |cons _ _=>rfl
abbrev Gj:=@mV
theorem B7(a b:Nat)(d:Bool)(l:List Nat):dt (Gj a b d l)=dt l:=by
 show dt (mV a b d l)=_;unfold mV;rw[vQ,uG];cases d with
 |true=>exact B6 l
 |false=>rfl
theorem zC(l:List Nat):(ny l).length<=2*l.length:=by
 induction l with
 |nil=>exact IM _
 |cons c l ih =>
  by_cases hc:c=32
  .subst hc;show(JR 32 (32::l)).length<=_;rw[show JR 32 (32::l)=32::32::ny l from by simp[JR]];simp only[ID];omega
  .show(JR 32 (c::l)).length<=_;rw[show JR 32 (c::l)=c::ny l from by simp[JR,hc]];simp only[ID];omega
theorem B8{b:Nat}:∀(l:List (List Nat)),(∀t∈l,t.length<=b)->(df [32] l).length<=l.length*(b+1)
 |[],_=>by simp[df]
 |[a],h=>by
  have:=h a IL;simp[df];omega
 |a::c::r,h=>by
  have h1:=h a IL;have h2:=B8 (c::r) λt ht=>h t (IH _ ht);show(a++[32]++df [32] (c::r)).length<=_;rw[IB,IB];simp only[ID,Ja]at h2⊢;have:(r.length+1+1)*(b+1)=(r.length+1)*(b+1)+(b+1):=by rw[Nat.add_mul (r.length+1) 1,Nat.one_mul]
  omega
theorem qN(tight:Bool){r:bu}(h:jL r):(df [32] (gU tight r)).length<=8200:=by
 have h1:=B8 (b:=61) (gU tight r) λt ht=>(mU tight h t ht).2.2;have h2:=zy tight h;omega
structure SpR(tight:Bool)(l:List Nat)(r:bu):Prop where
 len:l.length<=20000
 ws:dt l=gU tight r
theorem SpR.of(tight:Bool){r:bu}(h:jL r)(a b:Nat)(d:Bool)(ha:a<=10)(hb:b<=10):SpR tight (Gj a b d (df [32] (gU tight r))) r:=by
 refine⟨?_,?_⟩
 .have h1:=qN tight h;have h2:=zC (df [32] (gU tight r));show(mV a b d _).length<=_;unfold mV;simp only[IB,JI]
  split<;>omega
 .rw[B7,xZ λt ht=>⟨(mU tight h t ht).1,(mU tight h t ht).2.1⟩]
def wW(tight:Bool):List (List Nat)->List bu->Prop
 |[],[]=>True
 |l::ls,r::rs=>SpR tight l r/\wW tight ls rs
 |_,_=>False
theorem oZ.snoc{r s:List Nat}(h:∃a b d,a<=10/\b<=10/\s=mV a b d r):∀{rs ss:List (List Nat)},oZ rs ss->oZ (rs++[r]) (ss++[s])
 |[],[],_=>⟨h,trivial⟩
 |_::_,_::_,z=>⟨z.1,z.2.snoc h⟩
theorem oZ.all{tight:Bool}:∀{ns:List bu}{ss:List (List Nat)},(∀r∈ns,jL r)->oZ (ns.map λr=>df [32] (gU tight r)) ss->wW tight ss ns
 |[],[],_,_=>trivial
 |r::ns,s::ss,h,z=>by
  obtain⟨⟨a,b,d,ha,hb,rfl⟩,z2⟩:=z;exact⟨SpR.of tight (h r IL) a b d ha hb,oZ.all (λx hx=>h x (IH _ hx)) z2⟩
 |[],_::_,_,z=>z.elim
 |_::_,[],_,z=>z.elim
theorem wW.rows{tight:Bool}:∀{ls:List (List Nat)}{rs:List bu},wW tight ls rs->(∀r∈rs,jL r)->nj ls (rs.map aX)
 |[],[],_,_=>trivial
 |l::_,r::_,a,h=>⟨⟨a.1.len,by rw[a.1.ws];exact Gi tight (h r IL)⟩,a.2.rows λx hx=>h x (IH _ hx)⟩

def KcA(F:Hp)(v:V)(w:Kw×Int):Prop:=∃a,v=.ref a/\F a=some (.tup [.str w.1.s,.int w.2])
def RrA(F:Hp)(v:V)(r:c7):Prop:=∃a l us,v=.ref a/\F a=some (.tup [.str (tx r.1.t),.ref l])/\F l=some (.lst us)/\aI (KcA F) us r.2
theorem KcA.mono{F F':Hp}(s:aj F F'){v:V}{w:Kw×Int}(h:KcA F v w):KcA F' v w:=by
 obtain⟨a,e,h⟩:=h;exact⟨a,e,s _ _ h⟩
theorem RrA.mono{F F':Hp}(s:aj F F'){v:V}{r:c7}(h:RrA F v r):RrA F' v r:=by
 obtain⟨a,l,us,e,h1,h2,h3⟩:=h;exact⟨a,l,us,e,s _ _ h1,s _ _ h2,h3.imp λ_ _=>KcA.mono s⟩
structure i6(H G:Hp)(p:Addr)(rows:List c7):Prop where
 old:aj H G
 fr:H p=none
 st:∃vs lo,G p=some (.lst vs)/\H lo=none/\vs.length=rows.length/\
  ((rows=[]/\lo=p)\/∃vi a us ini w ws,vs=vi++[.ref a]/\rows=ini++[(w,ws)]/\lo≠p/\hid [p,lo] G a=some (.tup [.str (tx w.t),.ref lo])/\G lo=some (.lst us)/\aI (KcA (hid [p,lo] G)) us ws/\aI (RrA (hid [p,lo] G)) vi ini)
theorem i6.same{H G G':Hp}{p:Addr}{rows:List c7}(R:i6 H G p rows)(m:aj G G'):i6 H G' p rows:=by
 obtain⟨old,fr,vs,lo,h1,h2,h3,h4⟩:=R;refine⟨old.trans m,fr,vs,lo,m _ _ h1,h2,h3,?_⟩;rcases h4 with h4|⟨vi,a,us,ini,w,ws,e1,e2,e3,e4,e5,e6,e7⟩
 .exact .inl h4
 .exact .inr ⟨vi,a,us,ini,w,ws,e1,e2,e3,bg m _ _ e4,m _ _ e5,e6.imp λ_ _=>KcA.mono (bg m),e7.imp λ_ _=>RrA.mono (bg m)⟩
theorem i6.all{H G:Hp}{p:Addr}{rows:List c7}(R:i6 H G p rows):∃vs,G p=some (.lst vs)/\vs.length=rows.length/\aI (RrA (hid [p] G)) vs rows:=by
 obtain⟨old,fr,vs,lo,h1,h2,h3,h4⟩:=R;refine⟨vs,h1,h3,?_⟩;rcases h4 with⟨rfl,_⟩|⟨vi,a,us,ini,w,ws,rfl,rfl,e3,e4,e5,e6,e7⟩
 .match vs,h3 with
  |[],_=>trivial
 .have m:aj (hid [p,lo] G) (hid [p] G):=λb o z=>by
   obtain⟨c,z⟩:=jF.mp z;exact br (λw=>c (by simp at w⊢;exact .inl w)) z
  exact(e7.imp λ_ _=>RrA.mono m).snoc ⟨a,lo,us,rfl,m _ _ e4,br (by simpa using e3) e5,e6.imp λ_ _=>KcA.mono m⟩
theorem i6.add{H G G':Hp}{p pl pt:Addr}{rows:List c7}{w:Wy}{vs:List V}(R:i6 H G p rows)(m:aj G G')(n1:G pl=none)(k1:G' pl=some (.lst []))(n2:G pt=none)(k2:G' pt=some (.tup [.str (tx w.t),.ref pl]))(hv:G' p=some (.lst vs)):i6 H (upd G' p (.lst (vs++[.ref pt]))) p (rows++[(w,[])]):=by
 obtain⟨vs',h1,h2,h3⟩:=R.all;obtain⟨old,fr,_⟩:=R;rw[m _ _ h1]at hv;injection hv with hv;injection hv with hv;subst hv;have npl:pl≠p:=λz=>by rw[z,h1]at n1;cases n1
 have npt:pt≠p:=λz=>by rw[z,h1]at n2;cases n2
 have ntl:pt≠pl:=λz=>by rw[z,k1]at k2;cases k2
 have e:hid [p,pl] (upd G' p (.lst (vs'++[.ref pt])))=hid [p,pl] G':=bH (by simp);have mm:aj (hid [p] G) (hid [p,pl] G'):=λb o z=>by
  obtain⟨c,z⟩:=jF.mp z;refine br (λw=>?_) (m _ _ z);simp only[J8,JQ,or_false]at w c;rcases w with w|w
  .exact c w
  .rw[w,n1]at z;cases z
 refine⟨aY (old.trans m) fr,fr,vs'++[.ref pt],pl,ah,old.free n1,by simp[h2],.inr ⟨vs',pt,[],rows,w,[],rfl,rfl,npl,?_,?_,trivial,?_⟩⟩
 .rw[e];exact br (by simp[npt,ntl]) k2
 .rw[aq npl];exact k1
 .rw[e];exact h3.imp λ_ _=>RrA.mono mm
theorem i6.last{H G:Hp}{p:Addr}{ini:List c7}{w:Wy}{ws:List (Kw×Int)}(R:i6 H G p (ini++[(w,ws)])):∃vi a lo us,G p=some (.lst (vi++[.ref a]))/\G a=some (.tup [.str (tx w.t),.ref lo])/\G lo=some (.lst us)/\us.length=ws.length/\∀G' pk kc,aj G G'->G pk=none->G' pk=some (.tup [.str kc.1.s,.int kc.2])->i6 H (upd G' lo (.lst (us++[.ref pk]))) p (ini++[(w,ws++[kc])]):=by
 obtain⟨old,fr,vs,lo,h1,h2,h3,h4⟩:=R;rcases h4 with⟨e,_⟩|⟨vi,a,us,ini',w',ws',e1,e2,e3,e4,e5,e6,e7⟩
 .simp at e
 .have e2':=List.append_inj' e2 rfl;obtain⟨rfl,e2'⟩:=e2';injection e2' with e2' _;injection e2' with e2a e2b;subst e2a;subst e2b;subst e1;refine⟨vi,a,lo,us,h1,bJ _ _ e4,e5,e6.len,λG' pk kc m nk kk=>?_⟩;have e:hid [p,lo] (upd G' lo (.lst (us++[.ref pk])))=hid [p,lo] G':=bH (by simp);have n1:pk≠p:=λz=>by rw[z,h1]at nk;cases nk
  have n2:pk≠lo:=λz=>by rw[z,e5]at nk;cases nk
  refine⟨aY (old.trans m) h2,fr,vi++[.ref a],lo,?_,h2,by simpa using h3,.inr ⟨vi,a,us++[.ref pk],ini,w,ws++[kc],rfl,rfl,e3,?_,ah,?_,?_⟩⟩
  .rw[aq (JH e3)];exact m _ _ h1
  .rw[e];exact bg m _ _ e4
  .rw[e];exact(e6.imp λ_ _=>KcA.mono (bg m)).snoc ⟨pk,rfl,br (by simp[n1,n2]) kk⟩
  .rw[e];exact e7.imp λ_ _=>RrA.mono (bg m)
inductive WyD where
 |word|eq|way (w:Wy)
def WyD.t:WyD->List Nat
 |.word=>[119,111,114,100]|.eq=>[61]|.way w=>w.t
def Av(wys:List WyD)(w:Wy):Prop:=w=.words\/.way w∈wys\/(w.hd=true/\.eq∈wys)
structure l0(wys:List WyD)(kds:List Kw)(n:Nat)(rows:List c7):Prop where
 len:rows.length<=n
 sum:(rows.map (·.2.length)).sum<=n
 ok:∀r∈rows,At kds r/\Av wys r.1
theorem l0.add{wys:List WyD}{kds:List Kw}{n:Nat}{rows:List c7}(h:l0 wys kds n rows){w:Wy}(hw:Av wys w):l0 wys kds (n+1) (rows++[(w,[])]):=by
 refine⟨by rw[IB];have:=h.len;simp only[ID,Ja];omega,by rw[IJ,Lu];have:=h.sum;simp;omega,λr hr=>?_⟩;rcases List.mem_append.mp hr with hr|hr
 .exact h.ok r hr
 .rw[List.mem_singleton.mp hr];exact⟨⟨λ_=>rfl,by simp,(λ_ x hx=>by cases hx),(λ_ x hx=>by cases hx),(λx hx=>by cases hx)⟩,hw⟩
theorem B9:(Iy "word")=tx [119,111,114,100]:=by decide +kernel
theorem jM:(Iy "words")=tx [119,111,114,100,115]:=by decide +kernel
theorem at3:∀k:Nat,k<3->∃w:Wy,w.hd=true/\atI [V.str (Iy "="),V.str (Iy "=="),V.str (Iy "===")] (k:Int)=some (.str (tx w.t))
 |0,_=>⟨.h1,rfl,congrArg (λz=>some (V.str z)) cH1⟩
 |1,_=>⟨.h2,rfl,congrArg (λz=>some (V.str z)) cH2⟩
 |2,_=>⟨.h3,rfl,congrArg (λz=>some (V.str z)) cH3⟩
theorem Gk(w:Wy):inV (.str (tx w.t)) [V.str (Iy ""),V.str (Iy ".page"),V.str (Iy ".odd"),V.str (Iy ".list")]=w.bare:=by
 rw[nu,Aq,Ar,uD];refine(oz [[],oW,tJ,ky]).trans ?_;cases w<;>decide
theorem Ip(k:Kw):inV (.str k.s) [V.str (Iy "mark"),V.str (Iy "foot")]=(decide (k=.mark)||decide (k=.foot)):=by
 cases k<;>decide +kernel
theorem Hy{w:Wy}(h:w.bare=false):∃c u,w.t=c::u/\(decide (c=61)=w.hd):=by
 cases w<;>first|exact⟨_,_,rfl,rfl⟩|cases h

def mkN(ws:List (Kw×Int)):Nat:=(ws.filter λw=>decide (w.1=.mark)).length
def cp(rows:List c7):Nat:=(rows.map λr=>mkN r.2).sum
def ftN(rows:List c7):Nat:=(rows.filter λr=>decide (r.1=.foot)).length
theorem D2{v:V}{i:Nat}{u:TS}{D:e9}{σ:St}{H:Hp}(h:u D (σ.set i (some v)) H):CJ (qw (tC v) (bA i)) u D σ H:=h
def b1(b:Bool):Nat:=if b then 1 else 0
theorem x6(ws:List (Kw×Int))(w:Kw×Int):mkN (ws++[w])=mkN ws+b1 (decide (w.1=.mark)):=by
 unfold mkN;rw[JK,IB];cases h:decide (w.1=.mark)<;>simp[LZ,h,b1]
theorem B_(rows:List c7)(r:c7):cp (rows++[r])=cp rows+mkN r.2:=by unfold cp;simp
theorem x8(rows:List c7)(r:c7):ftN (rows++[r])=ftN rows+b1 (decide (r.1=.foot)):=by
 unfold ftN;rw[JK,IB];cases h:decide (r.1=.foot)<;>simp[LZ,h,b1]
theorem x9:∀rows:List c7,(rows.map λr=>((mkN r.2:Nat):Int)).sum=((cp rows:Nat):Int)
 |[]=>rfl
 |r::rs=>by
  have:=x9 rs;unfold cp at this⊢;rw[IQ,J9,this,IQ,J9];omega
def WsR(nm:Nat->List Nat)(M F:Nat):Nat->List (Kw×Int)->List NWd->Prop
 |_,[],[]=>True
 |at_,k::r,w::s=>WdG nm k.1 at_ M F w/\WsR nm M F (at_+b1 (decide (k.1=.mark))) r s
 |_,_,_=>False
theorem WsR.snoc{nm:Nat->List Nat}{M F:Nat}{k:Kw×Int}{w:NWd}:∀{ws:List (Kw×Int)}{ds:List NWd}{at_:Nat},WsR nm M F at_ ws ds->WdG nm k.1 (at_+mkN ws) M F w->WsR nm M F at_ (ws++[k]) (ds++[w])
 |[],[],_,_,h=>⟨h,trivial⟩
 |x::ws,d::ds,at_,h,h2=>⟨h.1,WsR.snoc (ws:=ws) h.2 (by
  have:at_+mkN (x::ws)=at_+b1 (decide (x.1=.mark))+mkN ws:=by
   unfold mkN;cases e:decide (x.1=.mark)<;>simp[LZ,e,b1]<;>omega
  rw[this]at h2;exact h2)⟩
def x_(nm:Nat->List Nat)(M F at_ hung:Nat)(r:c7)(n:bu):Prop:=n.1=(if r.1=.words/\r.2=[]then .empty else r.1)/\n.2.1=(if r.1=.foot then nm hung else[])/\WsR nm M F at_ r.2 n.2.2
def e_(nm:Nat->List Nat)(M F:Nat):Nat->Nat->List c7->List bu->Prop
 |_,_,[],[]=>True
 |at_,hung,r::rs,n::ns=>x_ nm M F at_ hung r n/\e_ nm M F (at_+mkN r.2) (hung+b1 (decide (r.1=.foot))) rs ns
 |_,_,_,_=>False
theorem e_.snoc{nm:Nat->List Nat}{M F:Nat}{r:c7}{n:bu}:∀{rs:List c7}{ns:List bu}{at_ hung:Nat},e_ nm M F at_ hung rs ns->x_ nm M F (at_+cp rs) (hung+ftN rs) r n->e_ nm M F at_ hung (rs++[r]) (ns++[n])
 |[],[],_,_,_,h=>⟨h,trivial⟩
 |x::rs,y::ns,at_,hung,h,h2=>⟨h.1,e_.snoc (rs:=rs) h.2 (by
  have e1:at_+cp (x::rs)=at_+mkN x.2+cp rs:=by unfold cp;simp;omega
  have e2:hung+ftN (x::rs)=hung+b1 (decide (x.1=.foot))+ftN rs:=by
   unfold ftN;cases e:decide (x.1=.foot)<;>simp[LZ,e,b1]<;>omega
  rw[e1,e2]at h2;exact h2)⟩
def NnA(F:Hp)(v:V)(n:bu):Prop:=∃a l,v=.ref a/\F a=some (.tup [.str (tx n.1.t),.str (tx n.2.1),.ref l])/\c6 F l (wkS n.2.2)
theorem NnA.mono{F F':Hp}(s:aj F F'){v:V}{n:bu}(h:NnA F v n):NnA F' v n:=by
 obtain⟨a,l,e,h1,h2⟩:=h;exact⟨a,l,e,s _ _ h1,h2.mono s⟩
def eD:List bu:=[(.empty,[],[]),(.words,[],[(.plain,[101,110,100])])]
theorem HA:(Iy "end")=tx [101,110,100]:=by decide +kernel

inductive Sw where
 |w (x:NWd)|head (k:Nat)|entry (k:Nat)|goal (k:Nat)
def Sw.k:Sw->Str
 |.w x=>x.1.s|.head _=>"head" | .entry _=>"entry" | .goal _=>"goal"
def Sw.v:Sw->V
 |.w x=>.str (tx x.2)|.head k=>.int (k:Int)|.entry k=>.int (k:Int)|.goal k=>.int (k:Int)
def SwA(F:Hp)(v:V)(s:Sw):Prop:=∃a,v=.ref a/\F a=some (.tup [.str s.k,s.v])
theorem SwA.mono{F F':Hp}(m:aj F F'){v:V}{s:Sw}(h:SwA F v s):SwA F' v s:=by
 obtain⟨a,e,h⟩:=h;exact⟨a,e,m _ _ h⟩
def Sw.isM:Sw->Bool
 |.w x=>decide (x.1=.mark)
 |_=>false
abbrev Ttl:=List Nat×List NWd
def TtA(F:Hp)(v:V)(t:Ttl):Prop:=∃a l,v=.ref a/\F a=some (.tup [.str (tx t.1),.ref l])/\c6 F l (wkS t.2)
theorem TtA.mono{F F':Hp}(m:aj F F'){v:V}{t:Ttl}(h:TtA F v t):TtA F' v t:=by
 obtain⟨a,l,e,h1,h2⟩:=h;exact⟨a,l,e,m _ _ h1,h2.mono m⟩
def swN(ss:List Sw):Nat:=(ss.filter λs=>!s.isM).length
def cK(tt:List Ttl):List Sw->Nat->List (Str×Nat)
 |[],_=>[]
 |.head k::r,n=>(tx (tt.getD k ([],[])).1,n)::cK tt r (n+1)
 |s::r,n=>cK tt r (n+(if s.isM then 0 else 1))
def hB(b:Bool):Nat:=if b then 1 else 0
def ttW(t:Ttl):List Sw:=(t.2.filter λx=>!decide (x.1=.mark)).map .w
def mW(tt:List Ttl)(k:Nat):List Sw:=.entry k::(ttW (tt.getD k ([],[]))++[.goal k])
def fW(tt:List Ttl)(n:Nat):List Sw:=(Kj n).flatMap (mW tt)
def fb(tt:List Ttl)(h:Nat)(r:bu):List Sw:=if r.1=.words then r.2.2.map .w else if r.1.hd=true then .head h::r.2.2.map .w else if r.1=.lst then fW tt tt.length else[]
def cM(tt:List Ttl):Nat->List bu->List Sw
 |_,[]=>[]
 |h,r::rs=>fb tt h r++cM tt (h+hB r.1.hd) rs
theorem D3{F:Hp}:∀{ws:List NWd}{vs:List V},cm F vs (wkS ws)->aI (SwA F) vs (ws.map .w)
 |[],[],_=>trivial
 |_::_,_::_,h=>⟨h.1,D3 h.2⟩
theorem Sw.head_k{s:Sw}:s.k=(Iy "head")↔∃k,s=.head k:=by
 constructor
 .intro h;cases s with
  |head k=>exact⟨k,rfl⟩
  |w x=>exact absurd h (by cases hx:x.1<;>(show ¬ (x.1.s=_);rw[hx];decide +kernel))
  |entry k=>exact absurd h (by show ¬ (("entry" : Str)=_);decide +kernel)
  |goal k=>exact absurd h (by show ¬ (("goal" : Str)=_);decide +kernel)
 .rintro⟨k,rfl⟩;rfl
theorem Sw.mark_k{s:Sw}:s.k=(Iy "mark")↔s.isM=true:=by
 cases s with
 |head k=>exact⟨λh=>absurd h (by show ¬ (("head" : Str)=_);decide +kernel),λh=>by cases h⟩
 |entry k=>exact⟨λh=>absurd h (by show ¬ (("entry" : Str)=_);decide +kernel),λh=>by cases h⟩
 |goal k=>exact⟨λh=>absurd h (by show ¬ (("goal" : Str)=_);decide +kernel),λh=>by cases h⟩
 |w x =>
  show x.1.s=Kw.mark.s↔decide (x.1=.mark)=true;rw[decide_eq_true_iff];exact⟨λh=>Kw.inj h,λh=>by rw[h]⟩
def bK(tt:List Ttl):Sw->Wk
 |.w x=>tL x
 |.head k=>(.plain,.str (tx (tt.getD k ([],[])).1))
 |.entry k=>(.plain,.str (tx (tt.getD k ([],[])).1))
 |.goal k=>(.entry,.int (k:Int))
theorem j7(tt:List Ttl)(s:Sw):(bK tt s).1=.mark↔s.isM=true:=by
 cases s with
 |w x=>show x.1=.mark↔decide (x.1=.mark)=true;rw[decide_eq_true_iff]
 |head k=>exact⟨λz=>(by cases z),λz=>(by cases z)⟩
 |entry k=>exact⟨λz=>(by cases z),λz=>(by cases z)⟩
 |goal k=>exact⟨λz=>(by cases z),λz=>(by cases z)⟩
def bw(c:Nat×Nat×Nat)(l:Int):Nat×Nat×Nat:=if l=1 then(c.1+1,0,0)else if l=2 then(c.1,c.2.1+1,0)else(c.1,c.2.1,c.2.2+1)
def ctr(ls:List Int):Nat×Nat×Nat:=ls.foldl bw (0,0,0)
def vb(c:Nat×Nat×Nat):List V:=[V.int (c.1:Int),V.int (c.2.1:Int),V.int (c.2.2:Int)]
def eX(c:Nat×Nat×Nat)(l:Int):List Nat:=if l=1 then dH c.1 else if l=2 then dH c.1++[46]++dH c.2.1 else dH c.1++[46]++(dH c.2.1++[46]++dH c.2.2)
def gp(ls:List Int)(i:Nat):List (List Nat):=(Kj i).map λk=>eX (ctr (ls.take (k+1))) (ls.getD k 0)
def nV(n:Nat):V:=V.int (n:Int)
def DA(ls:List Int):Prop:=∀l∈ls,l=1\/l=2\/l=3
theorem EN{c:Nat×Nat×Nat}{n:Nat}(l:Int)(a:c.1<=n)(b:c.2.1<=n)(d:c.2.2<=n):(bw c l).1<=n+1/\(bw c l).2.1<=n+1/\(bw c l).2.2<=n+1:=by
 obtain⟨x,y,z⟩:=c;dsimp only at a b d;unfold bw;by_cases h:l=1
 .rw[if_pos h];refine⟨?_,?_,?_⟩<;>dsimp only<;>omega
 .rw[if_neg h];by_cases h:l=2
  .rw[if_pos h];refine⟨?_,?_,?_⟩<;>dsimp only<;>omega
  .rw[if_neg h];refine⟨?_,?_,?_⟩<;>dsimp only<;>omega
theorem zD:∀(ls:List Int)(c:Nat×Nat×Nat)(n:Nat),c.1<=n->c.2.1<=n->c.2.2<=n->(ls.foldl bw c).1<=n+ls.length/\(ls.foldl bw c).2.1<=n+ls.length/\(ls.foldl bw c).2.2<=n+ls.length
 |[],c,n,a,b,d=>⟨a,b,d⟩
 |l::r,c,n,a,b,d=>by
  obtain⟨s1,s2,s3⟩:=EN l a b d;have:=zD r (bw c l) (n+1) s1 s2 s3;rw[MZ,ID];omega
theorem lev{z:Int}(h:z=1\/z=2\/z=3)(c:Nat×Nat×Nat){m:Nat}(b1:(bw c z).1<=m)(b2:(bw c z).2.1<=m)(b3:(bw c z).2.2<=m):∃(pre:List V)(k:Int)(cs:List Nat),io (vb c) none (some (z-1))=pre/\atI (vb c) (z-1)=some (V.int k)/\pre++[V.int (k+1)]++(IN (3-z).toNat [V.int 0]).flatten=vb (bw c z)/\pre.length<=2/\(3-z).toNat<=2/\0<=3-z/\3-z<=2/\io (vb (bw c z)) none (some z)=cs.map nV/\cs.length<=3/\(∀n∈cs,n<=m)/\df [46] (cs.map dH)=eX (bw c z) z:=by
 obtain⟨x,y,w⟩:=c;rcases h with rfl|rfl|rfl
 .refine⟨[],x,[x+1],rfl,rfl,rfl,by simp,by decide,by decide,by decide,rfl,by simp,?_,rfl⟩;intro n hn;simp at hn;subst hn;exact b1
 .refine⟨[nV x],y,[x,y+1],rfl,rfl,rfl,by simp,by decide,by decide,by decide,rfl,by simp,?_,rfl⟩;intro n hn;simp at hn;rcases hn with rfl|rfl
  .exact b1
  .exact b2
 .refine⟨[nV x,nV y],w,[x,y,w+1],rfl,rfl,rfl,by simp,by decide,by decide,by decide,rfl,by simp,?_,rfl⟩;intro n hn;simp at hn;rcases hn with rfl|rfl|rfl
  .exact b1
  .exact b2
  .exact b3
theorem Ca(ls:List Int):(ctr ls).1<=ls.length/\(ctr ls).2.1<=ls.length/\(ctr ls).2.2<=ls.length:=by
 have:=zD ls (0,0,0) 0 (IM _) (IM _) (IM _);rw[JT]at this;exact this
theorem DB{ls:List Int}{i:Nat}{z:Int}(h:ls[i]?=some z):ctr (ls.take (i+1))=bw (ctr (ls.take i)) z:=by
 unfold ctr;rw[aT h,List.foldl_append];rfl
theorem Cb{ls:List Int}{i:Nat}{z:Int}(h:ls[i]?=some z):gp ls (i+1)=gp ls i++[eX (ctr (ls.take (i+1))) z]:=by
 unfold gp;rw[Md,IJ,Mv,Jb,h];rfl
theorem o4(ls:List Int)(i:Nat):(gp ls i).length=i:=by unfold gp;rw[Iz,JJ]
theorem Iq:(Iy ".")=tx [46]:=by decide +kernel
theorem wX{n:Nat}(h:n<=63):(dH n).length<=3:=lW 2 n (by omega)
theorem Ir{n:Nat}(h:n<=63):n<10^100:=IU h (by decide +kernel)
theorem EO{cs:List Int}{i:Nat}{y:V}(h:(cs.map V.int)[i]?=some y):∃n,y=V.int n/\cs[i]?=some n:=by
 rw[Jc]at h;cases e:cs[i]? with
 |none=>rw[e]at h;cases h
 |some w=>rw[e]at h;exact⟨w,(Jy h).symm,rfl⟩
theorem Gm{cs:List Nat}{i:Nat}{y:V}(h:(cs.map nV)[i]?=some y):∃n:Nat,y=V.int (n:Int)/\cs[i]?=some n:=by
 rw[Jc]at h;cases e:cs[i]? with
 |none=>rw[e]at h;cases h
 |some w=>rw[e]at h;exact⟨w,(Jy h).symm,rfl⟩
theorem ya:∀(cs:List Nat),(∀n∈cs,n<=63)->(((cs.map dH).map tx).map (·.length)).sum<=3*cs.length
 |[],_=>IM _
 |n::r,h=>by
  have h1:=ya r (λm hm=>h m (IH _ hm));have h2:=wX (h n IL);rw[IQ,IQ,IQ,J9,aV,ID];omega
end K62
namespace K62
open PySem PySem.Spec L2 Tl

theorem lts{t:TS}{D:e9}{σ:St}{H:Hp}(k:let D':=D;let s':=σ;t D' s' H):t D σ H:=k
local macro_rules | `(tactic| refine ⟨$a,$as,*⟩)=>`(tactic| ((try (refine lts ?_; intro _ _)); refine (⟨$a,$as,*⟩)))
local macro_rules | `(tactic| exact ⟨$a,$as,*⟩)=>`(tactic| ((try (refine lts ?_; intro _ _)); exact (⟨$a,$as,*⟩)))
local macro_rules | `(tactic| walk_at "c")=>`(tactic| exact (⟨rfl,rfl,rfl,by decide +kernel,rfl,by decide +kernel,by decide +kernel⟩))
theorem cxK{CX:CXT}{P:Jk}{w:Jo}{K:IC}{mg:Str->Option IE}{base:Heap}{N:List Str}{q:Str}{sc:Scope}{f:Addr}{cd:IE}{A:JF}{o:List Env}{s:IG}{H:Hp}{E:XK}:(lT CX P w K mg base N q sc f cd A o s H E).K=K:=rfl
abbrev rF(a:Addr):Option V:=some (.ref a)
local macro_rules | `(tactic| left)=>`(tactic| refine Ib ?_)
local macro_rules | `(tactic| right)=>`(tactic| refine FI ?_)
local macro_rules | `(tactic| exists 1)=>`(tactic| refine ⟨_,rfl,rfl,_,rfl,?_⟩)
theorem nwE{H G:Hp}{p:Addr}{o:HO}(h:H p=none)(e:upd H p o=G):aj H G/\G p=some o:=e▸⟨ai h o,ah⟩
theorem iT{p:Prop}{d:Decidable p}{a b:Prop}(h:p)(k:a):if decide p=true then a else b:=by rw[decide_eq_true h];exact k
theorem iF{p:Prop}{d:Decidable p}{a b:Prop}(h:¬p)(k:b):if decide p=true then a else b:=by rw[decide_eq_false h];exact k
theorem nT{p:Prop}{d:Decidable p}{a b:Prop}(h:¬p)(k:a):if(!decide p)=true then a else b:=by rw[decide_eq_false h];exact k
theorem nF{p:Prop}{d:Decidable p}{a b:Prop}(h:p)(k:b):if(!decide p)=true then a else b:=by rw[decide_eq_true h];exact k
local macro_rules | `(tactic| exists $h:term,$G:ident,$s:ident,$k:ident)=>`(tactic| (generalize e:upd _ _ _ = $G; obtain ⟨$s,$k⟩:=nwE $h e; clear e))
theorem hM{j k:Nat}{A:JF}(r:cA k A)(h:j<=k:=by decide):cA j A:=r.mono h
set_option hygiene false in
local macro_rules | `(tactic| exists $f:term,$sc:term)=>`(tactic| (refine $f $sc (fun vs H Q E h=>?_) (fun cdv A outer s H vs Q E hr h=>?_); (cases h; subst_vars; rfl)))
local macro_rules | `(tactic| exists $t:term)=>`(tactic| (refine ⟨_,$t,?_⟩; try dsimp only [cxK]))
local macro_rules | `(tactic| omega)=>`(tactic| lia)
set_option genInjectivity false in
structure AdD where
 (ng:Addr)(lL:IW)(nI:Addr)(mD:IW)(tY:Addr)(rT:IW)(tZ:Addr)(rV:IW)(rL:Addr)(pU:IW)(rM:Addr)(pV:IW)(pM:Addr)(nQ:IW)(t0:Addr)(rW:IW)(nK:Addr)(mH:IW)(mw:Addr)(li:IW)(uc:Addr)(r9:IW)(rN:Addr)(pW:IW)(t_:Addr)(rX:IW)(rO:Addr)(pX:IW)(pN:Addr)(nR:IW)(pO:Addr)(nS:IW)(nJ:Addr)(mE:IW)(nM:Addr)(mI:IW)(ub:Addr)(rZ:IW)(pP:Addr)(nU:IW)(ua:Addr)(rY:IW)(rP:Addr)(pY:IW)(mv:Addr)(lg:IW)(mx:Addr)(lm:IW)(k_:Addr)(kj:IW)(gI:Addr)(gr:IW)(ji:Addr)(iR:IW)(iK:Addr)(ib:IW)(jj:Addr)(iS:IW)(jz:Addr)(jk:IW)(jg:Addr)(iP:IW)(jh:Addr)(iQ:IW)(iN:Addr)(ig:IW)(iL:Addr)(ic:IW)(iM:Addr)(ie:IW)(hX:Addr)(gL:IW)(kY:Addr)(ki:IW)(iH:Addr)(hZ:IW)(hU:Addr)(gJ:IW)(rJ:Addr)(pS:IW)(rK:Addr)(pT:IW)(rH:Addr)(pR:IW)(mC:Addr)(lx:IW)(nP:Addr)(mL:IW)(rR:Addr)(p_:IW)(rQ:Addr)(pZ:IW)(my:Addr)(lq:IW)(rS:Addr)(qb:IW)(iJ:Addr)(ia:IW)(iI:Addr)(h_:IW)(hV:Addr)(gK:IW)(jf:Addr)(iO:IW)(pQ:Addr)(nX:IW)(nN:Addr)(mJ:IW)(nO:Addr)(mK:IW)(A4:Addr)(uP:IW)(bN:Addr)(aL:Addr)
set_option genInjectivity false in
structure Adr extends AdD where
 (jC jD fQ dz fZ di dj ci dX:Addr)
structure TxD(K:IC)(mg:Str->Option IE)(a:AdD):Prop where
 bI:mS K mg "Reader" a.bN
 jA:dF K a.bN "shorts"
 gv:dF K a.bN "feet"
 fH:dF K a.bN "things"
 dA:dF K a.bN "going_on"
 aD:mS K mg "Setter" a.aL
 gg:dF K a.aL "numbers"
 gM:dF K a.aL "titles"
 gx:dF K a.aL "feet"
 eO:dF K a.aL "feet_set"
 cJ:dF K a.aL "words"
 cI:dF K a.aL "marks"
 dJ:dF K a.aL "heads"
 cW:dF K a.aL "leap"
 dB:dF K a.aL "behind_head"
 f8:bO K mg "_law_alike" (top 59) ["found","due"] a.ng a.lL
 nA:bO K mg "_law_cell_at" (top 57) ["script","k"] a.nI a.mD
 b8:bO K mg "_law_draw" (top 58) ["cell","k","many"] a.tY a.rT
 tU:bO K mg "_law_form" (top 62) ["cell"] a.tZ a.rV
 rq:bO K mg "_law_heads" (top 72) ["stream","titles"] a.rL a.pU
 rz:bO K mg "_law_leads" (top 73) ["named","titles"] a.rM a.pV
 pG:bO K mg "_law_marked" (top 75) ["stream","marks"] a.pM a.nQ
 mh:bO K mg "_law_name" (top 63) ["cell","j"] a.t0 a.rW
 kz:bO K mg "_law_sign_by" (top 60) ["cell","k"] a.nK a.mH
 mi:bO K mg "_law_plain_by" (top 64) ["cell"] a.mw a.li
 tX:bO K mg "_law_word" (top 66) ["first","kind","cell","at","marks","feet"] a.uc a.r9
 rA:bO K mg "_law_named" (top 68) ["rows","first"] a.rN a.pW
 tV:bO K mg "_law_rows" (top 67) ["script","ways","kinds"] a.t_ a.rX
 rB:bO K mg "_law_shape" (top 76) ["found","form"] a.rO a.pX
 pI:bO K mg "_law_spaced" (top 78) ["rows","first"] a.pN a.nR
 pJ:bO K mg "_law_stream" (top 71) ["named","titles"] a.pO a.nS
 nC:bO K mg "_law_is_name" (top 61) ["word"] a.nJ a.mE
 nD:bO K mg "_law_written" (top 65) ["kind","rest"] a.nM a.mI
 tW:bO K mg "_law_text" (top 69) ["way","name","words"] a.ub a.rZ
 pK:bO K mg "_law_titles" (top 70) ["named"] a.pP a.nU
 pH:bO K mg "_law_said" (top 74) ["kind","rest","marks","heads"] a.ua a.rY
 rC:bO K mg "_law_words" (top 77) ["stream","leads","feet","marks","heads"] a.rP a.pY
 jR:bO K mg "figures_of" (top 20) ["number"] a.mv a.lg
 mq:bO K mg "numbers_of" (top 23) ["levels"] a.mx a.lm
 kX:dg K a.aL "__init__" "Setter.__init__" (aP 55 0) ["self","all_heads","feet"] a.k_ a.kj
 gH:dg K a.aL "check_marks" "Setter.check_marks" (aP 55 8) ["self"] a.gI a.gr
 jd:dg K a.aL "set_mark" "Setter.set_mark" (aP 55 5) ["self","name"] a.ji a.iR
 iD:dg K a.aL "next_foot" "Setter.next_foot" (aP 55 7) ["self","name"] a.iK a.ib
 je:dg K a.aL "set_word" "Setter.set_word" (aP 55 6) ["self","lead","word"] a.jj a.iS
 dY:dg K a.aL "set_run" "Setter.set_run" (aP 55 4) ["self","lead","words","by_head"] a.jz a.jk
 jb:dg K a.aL "set_head" "Setter.set_head" (aP 55 2) ["self","k"] a.jg a.iP
 jc:dg K a.aL "set_list" "Setter.set_list" (aP 55 3) ["self"] a.jh a.iQ
 iG:dg K a.aL "set_thing" "Setter.set_thing" (aP 55 1) ["self","thing"] a.iN a.ig
 iE:dg K a.aL "number_at" "Setter.number_at" (aP 55 11) ["self","k"] a.iL a.ic
 f7:dg K a.aL "saying_of" "Setter.saying_of" (aP 55 10) ["self","word"] a.iM a.ie
 hR:dg K a.aL "words_told" "Setter.words_told" (aP 55 9) ["self"] a.hX a.gL
 kW:dg K a.bN "__init__" "Reader.__init__" (aP 49 0) ["self"] a.kY a.ki
 eI:dg K a.bN "add_thing" "Reader.add_thing" (aP 49 6) ["self","thing"] a.iH a.hZ
 g_:dg K a.bN "read_alone" "Reader.read_alone" (aP 49 4) ["self","words"] a.hU a.gJ
 kO:bO K mg "is_name" (top 19) ["word"] a.rJ a.pS
 rm:bO K mg "kind_of" (top 21) ["word"] a.rK a.pT
 rj:bO K mg "by_name" (top 39) ["shorts"] a.rH a.pR
 mt:bO K mg "size_among" (top 41) ["named","nodes","count"] a.mC a.lx
 nH:bO K mg "words_out" (top 43) ["named","nodes","arguments"] a.nP a.mL
 rE:bO K mg "put_out" (top 38) ["shorts","nodes"] a.rR a.p_
 rD:bO K mg "node_of" (top 30) ["word","count"] a.rQ a.pZ
 mr:bO K mg "opens_call" (top 28) ["word"] a.my a.lq
 rG:xM K mg "tree_of" (top 26) ["words","count"] a.rS a.qb .none
 eJ:dg K a.bN "words_out" "Reader.words_out" (aP 49 7) ["self","words","barred"] a.iJ a.ia
 iC:dg K a.bN "read_foot" "Reader.read_foot" (aP 49 3) ["self","words"] a.iI a.h_
 hJ:dg K a.bN "read_words" "Reader.read_words" (aP 49 5) ["self","words"] a.hV a.gK
 ja:dg K a.bN "read_row" "Reader.read_row" (aP 49 1) ["self","words"] a.jf a.iO
 pL:bO K mg "words_in" (top 18) ["row"] a.pQ a.nX
 nE:bO K mg "read_rows" (top 48) ["rows"] a.nN a.mJ
 nG:bO K mg "set_words" (top 54) ["rows","form"] a.nO a.mK
 wY:bO K mg "law" (top 79) ["script"] a.A4 a.uP
structure Txt(P:Jk)(w:Jo)(K:IC)(mg:Str->Option IE)(a:Adr):Prop extends TxD K mg a.toAdD where
 sE:mg "all" = none
 jn:mg "bool" = none
 mM:mg "dict" = none
 gb:mg "enumerate" = none
 i5:mg "int" = none
 bq:mg "isinstance" = none
 bG:mg "len" = none
 iU:mg "list" = none
 lM:mg "max" = none
 eU:mg "range" = none
 ju:mg "str" = none
 sF:mg "sum" = none
 fR:mg "tuple" = none
 sI:mg "zip" = none
 yM:sk K mg "NoFoot" a.di
 ud:sk K mg "NoMark" a.dj
 r_:sk K mg "TooLong" a.ci
 zW:sk K mg "Twice" a.dX
 dN:uv K a.ci a.ci
 gS:mg "ALONE" = some (.ref a.jC)/\∀H,SqT K H a.jC [.str (Iy ".page"),.str (Iy ".odd"),.str (Iy ".list")]
 fj:∃t,mg "FIGURES" = some (.str (Iy "0123456789") t)
 gT:mg "HEADS" = some (.ref a.jD)/\∀H,SqT K H a.jD [.str (Iy "="),.str (Iy "=="),.str (Iy "===")]
 gt:mg "KINDS" = some (.ref a.fQ)/\uV P w K a.fQ lG
 gu:mg "LEAPS" = some (.ref a.dz)/\uV P w K a.dz ik
 eK:∃t,mg "LETTERS" = some (.str (Iy "abcdefghijklmnopqrstuvwxyz") t)
 cE:∃t,mg "LONGEST_NAME" = some (.int 12 t)
 cF:∃t,mg "LONGEST_TEXT" = some (.int 60 t)
 db:∃t,mg "MOST_CALLS" = some (.int 400 t)
 b9:∃t,mg "MOST_FOOT_WORDS" = some (.int 39 t)
 bL:∃t,mg "MOST_WORDS_books" = some (.int 400 t)
 bM:∃t,mg "MOST_WORDS_shorts" = some (.int 400 t)
 d_:mg "POINTING" = some (.ref a.fZ)/\∀H,SqT K H a.fZ [.str (Iy "number"),.str (Iy "page"),.str (Iy "row")]
section
variable {P:Jk}{w:Jo}{K:IC}{mg:Str->Option IE}{base:Heap}{a:Adr}


theorem uH:aN ["found","due","k"] ["found","due"] (aw (top 59)):=by walk_at "c"
theorem qO(T:Txt P w K mg a):∀n:Nat,bi P w K mg base CX0 n a.ng a.lL ["found","due"] (xJ K n)
 |0=>⟨λvs H Q E h=>(by obtain⟨d,x,y,_,h0,_⟩:=h;exact absurd h0 (Me _)),λA outer s H args us vs Q E _ _ _ _ h=>(by obtain⟨d,x,y,_,h0,_⟩:=h;exact absurd h0 (Me _))⟩
 |n+1=>by
  have g_l_alike:=qO T n;have f8:=T.f8;have jn:=T.jn;have i5:=T.i5;have bq:=T.bq;have bG:=T.bG;have iU:=T.iU;have eU:=T.eU;have ju:=T.ju;have fR:=T.fR

  refine T.f8.fn.ok uH (λvs H Q E h=>?_) (λcdv A outer s H vs Q E hr h=>?_)
  .obtain⟨d,x,y,rfl,_⟩:=h;rfl
  obtain⟨d,x,y,rfl,hd,rx,ry,q⟩:=h;refine⟨_,(ae (aG (cz (aF cX rfl bq Ji (aa (pv 1) (aa (dq (v:=.ty "bool") rfl jn LK rfl) ac))) (λ_=>rfl)) (af (aM (jE (aF cX rfl bq Ji (aa (pv 0) (aa (dq (v:=.ty "bool") rfl jn LK rfl) ac))) (jl (dL bn (pv 0) (pv 1) (nomark _)))))) aE)
   (ae (aG (cz (aF cX rfl bq Ji (aa (pv 1) (aa (dq (v:=.ty "int") rfl i5 Ks rfl) ac))) (λ_=>rfl)) (af (aM (jE (aF cX rfl bq Ji (aa (pv 0) (aa (dq (v:=.ty "int") rfl i5 Ks rfl) ac))) (jE (Fk (aF cX rfl bq Ji (aa (pv 0) (aa (dq (v:=.ty "bool") rfl jn LK rfl) ac)))) (jl (dL bn (pv 0) (pv 1) (nomark _))))))) aE)
   (ae (aG (cz (aF cX rfl bq Ji (aa (pv 1) (aa (dq (v:=.ty "str") rfl ju KI rfl) ac))) (λ_=>rfl)) (af (aM (jE (aF cX rfl bq Ji (aa (pv 0) (aa (dq (v:=.ty "str") rfl ju KI rfl) ac))) (jl (dL bn (pv 0) (pv 1) (nomark _)))))) aE)
   (ae (aG (cz (aF cX rfl bq Ji (aa (pv 1) (aa (dq (v:=.ty "tuple") rfl fR Kx rfl) ac))) (λ_=>rfl)) (af (aG (fC (cz (aF cX rfl bq Ji (aa (pv 0) (aa (dq (v:=.ty "tuple") rfl fR Kx rfl) ac))) (λ_=>rfl))) (af (aM cC)) aE)) (af (aG (fC (cz (aF cX rfl bq Ji (aa (pv 0) (aa (dq (v:=.ty "list") rfl iU K6 rfl) ac))) (λ_=>rfl))) (af (aM cC)) aE)))
   (ae (aG (ao dZ (aF oK rfl bG Jg (aa (pv 0) ac)) (aF oK rfl bG Jg (aa (pv 1) ac)) (nomark _)) (af (aM cC)) aE)
   (ae (bY Jq rfl (kA rfl eU (aa (aF oK rfl bG Jg (aa (pv 1) ac)) ac)) (aJ (i:=2) uH.nd rfl (IP rfl)) (af (aG (fC (cz (aC f8 g_l_alike hr rfl (aa (aB Br (pv 0) (pv 2) (λ_ _=>rfl)) (aa (aB Br (pv 1) (pv 2) (λ_ _=>rfl)) ac))) (λ_=>rfl))) (af (aM cC)) aE)))
   (af (aM cC)))))))),?_⟩
  cases d with
  |bl b =>
   unfold Rep at rx ry;subst rx ry;refine⟨_,rfl,_,"bool",true,rfl,by decide,rfl,_,rfl,?_⟩;left;refine⟨_,rfl,_,"bool",true,rfl,by decide,rfl,_,rfl,?_⟩;left;refine⟨_,rfl,_,rfl,rfl,?_⟩;rw[decide_eq_true rfl];exact q
  |int i =>
   unfold Rep at rx ry;subst rx ry;refine⟨_,rfl,_,"bool",false,rfl,by decide,rfl,_,rfl,?_⟩;right;refine⟨_,rfl,_,"int",true,rfl,by decide,rfl,_,rfl,?_⟩;left;refine⟨_,rfl,_,"int",true,rfl,by decide,rfl,_,rfl,?_⟩;left;refine⟨_,rfl,_,"bool",false,rfl,by decide,rfl,_,rfl,_,rfl,?_⟩;left;refine⟨_,rfl,_,rfl,rfl,?_⟩;rw[decide_eq_true rfl];exact q
  |str i =>
   unfold Rep at rx ry;subst rx ry;refine⟨_,rfl,_,"bool",false,rfl,by decide,rfl,_,rfl,?_⟩;right;refine⟨_,rfl,_,"int",false,rfl,by decide,rfl,_,rfl,?_⟩;right;refine⟨_,rfl,_,"str",true,rfl,by decide,rfl,_,rfl,?_⟩;left;refine⟨_,rfl,_,"str",true,rfl,by decide,rfl,_,rfl,?_⟩;left;refine⟨_,rfl,_,rfl,rfl,?_⟩;rw[decide_eq_true rfl];exact q
  |lst l =>
   unfold Rep at rx ry;unfold DD.deep at hd;obtain⟨a1,xs,rfl,s1,hl,r1⟩:=rx;obtain⟨a2,ys,rfl,s2,_,r2⟩:=ry;have l1:=r1.len;have l2:=r2.len;refine⟨_,rfl,_,"bool",false,rfl,by decide,.inl ⟨⟨_,s2⟩,rfl⟩,_,rfl,?_⟩;right;refine⟨_,rfl,_,"int",false,rfl,by decide,.inl ⟨⟨_,s2⟩,rfl⟩,_,rfl,?_⟩;right;refine⟨_,rfl,_,"str",false,rfl,by decide,.inl ⟨⟨_,s2⟩,rfl⟩,_,rfl,?_⟩;right;refine⟨_,rfl,_,"tuple",false,rfl,by decide,.inl ⟨⟨_,s2⟩,rfl⟩,_,rfl,?_⟩;right;refine⟨_,rfl,_,"list",true,rfl,by decide,.inl ⟨⟨_,s1⟩,rfl⟩,_,rfl,?_⟩;right;refine⟨_,rfl,_,_,rfl,.inl ⟨_,s1,rfl⟩,_,rfl,_,_,rfl,.inl ⟨_,s2,rfl⟩,rfl,_,rfl,?_⟩;refine DY (by rw[l1,l2]) ?_;refine⟨_,rfl,_,_,rfl,.inl ⟨_,s2,rfl⟩,_,rfl,by omega,by omega,kC (λi σ H2=>H2=H/\∃v,σ=[rF a1,rF a2,v]) ⟨rfl,none,rfl⟩ ?_ ?_⟩
   .rintro i σ H2 hi ⟨rfl,v,rfl⟩;have hi2:i<l.length:=by simp at hi;omega
    obtain⟨x,ex,hx⟩:=r1.get (II hi2);obtain⟨y,ey,hy⟩:=r2.get (II hi2);have hdd:=qE (II hi2);have ix:∀{zs:List V}{z:V},zs[i]?=some z->atI zs (0+(i:Int))=some z:=λe=>by rw[LM];exact bX e
    refine⟨_,rfl,_,rfl,.inl ⟨_,_,_,_,rfl,rfl,s1,ix ex,_,rfl,_,rfl,.inl ⟨_,_,_,_,rfl,rfl,s2,ix ey,_,_,_,rfl,by omega,hx,hy,_,rfl,?_⟩⟩⟩;right;exact⟨rfl,_,rfl⟩
   .rintro σ H2 ⟨rfl,v,rfl⟩;exact q
  |tup l =>
   unfold Rep at rx ry;unfold DD.deep at hd;obtain⟨a1,xs,rfl,s1,hl,r1⟩:=rx;obtain⟨a2,ys,rfl,s2,_,r2⟩:=ry;have l1:=r1.len;have l2:=r2.len;refine⟨_,rfl,_,"bool",false,rfl,by decide,.inr ⟨⟨_,s2⟩,rfl⟩,_,rfl,?_⟩;right;refine⟨_,rfl,_,"int",false,rfl,by decide,.inr ⟨⟨_,s2⟩,rfl⟩,_,rfl,?_⟩;right;refine⟨_,rfl,_,"str",false,rfl,by decide,.inr ⟨⟨_,s2⟩,rfl⟩,_,rfl,?_⟩;right;refine⟨_,rfl,_,"tuple",true,rfl,by decide,.inr ⟨⟨_,s2⟩,rfl⟩,_,rfl,?_⟩;left;refine⟨_,rfl,_,"tuple",true,rfl,by decide,.inr ⟨⟨_,s1⟩,rfl⟩,_,rfl,?_⟩;right;refine⟨_,rfl,_,_,rfl,.inr ⟨_,s1,rfl⟩,_,rfl,_,_,rfl,.inr ⟨_,s2,rfl⟩,rfl,_,rfl,?_⟩;refine DY (by rw[l1,l2]) ?_;refine⟨_,rfl,_,_,rfl,.inr ⟨_,s2,rfl⟩,_,rfl,by omega,by omega,kC (λi σ H2=>H2=H/\∃v,σ=[rF a1,rF a2,v]) ⟨rfl,none,rfl⟩ ?_ ?_⟩
   .rintro i σ H2 hi ⟨rfl,v,rfl⟩;have hi2:i<l.length:=by simp at hi;omega
    obtain⟨x,ex,hx⟩:=r1.get (II hi2);obtain⟨y,ey,hy⟩:=r2.get (II hi2);have hdd:=qE (II hi2);have ix:∀{zs:List V}{z:V},zs[i]?=some z->atI zs (0+(i:Int))=some z:=λe=>by rw[LM];exact bX e
    refine⟨_,rfl,_,rfl,.inr (.inl ⟨_,_,_,_,rfl,rfl,s1,ix ex,_,rfl,_,rfl,.inr (.inl ⟨_,_,_,_,rfl,rfl,s2,ix ey,_,_,_,rfl,by omega,hx,hy,_,rfl,?_⟩)⟩)⟩;right;exact⟨rfl,_,rfl⟩
   .rintro σ H2 ⟨rfl,v,rfl⟩;exact q
theorem lJ(T:Txt P w K mg a):bi P w K mg base CX0 5 a.ng a.lL ["found","due"] (xJ K 5):=qO T 5
inductive yb(K:IC)(vs:List V)(H:Hp)(Q:VK)(x_1:XK):Prop
 |mk(b:Addr)(ns:List Int)(k:Nat)(_:vs=[.ref b,.int (k:Int)])(_:SqL K H b (ns.map V.int))(_:Q (.int (ns.getD k 0)) H)
theorem yc:aN ["script","k"] ["script","k"] (aw (top 57)):=by walk_at "c"
theorem yd(T:Txt P w K mg a):bi P w K mg base CX0 1 a.nI a.mD ["script","k"] (yb K):=by
 exists T.nA.fn.ok,yc
 obtain⟨b,ns,k,rfl,hS,q⟩:=h
 exists (ae (aG (ao wO (pv 1) (aF bp rfl T.bG Jg (aa (pv 0) ac)) (nomark _)) (af (aM (aB bC (pv 0) (pv 1) (λ_ _=>rfl)))) aE)
   (af (aM ag)))
 refine⟨_,rfl,_,rfl,_,_,rfl,.inl hS,_,_,rfl,rfl,_,rfl,?_⟩;refine eB (λc=>?_) (λc=>?_)
 .have hk:k<ns.length:=by
   have:=of_decide_eq_true c;rw[Iz]at this;omega
  refine⟨_,rfl,_,rfl,_,_,_,_,rfl,rfl,hS,bX (j:=k) (v:=.int (ns.getD k 0)) ?_,q⟩;rw[Jc,II hk,Jb,II hk];rfl
 .have hk:ns.length<=k:=by
   refine Li λhk=>c (decide_eq_true ?_);rw[Iz];omega
  have e:ns.getD k 0=0:=by rw[Jb,LO hk];rfl
  rw[e]at q;exact q
def b7(c k m:Int):Int:=(c+1)*(48271+7919*k*k)%2147483647*((c+1)*(48271+7919*k*k)%2147483647)%2147483629/7%m
theorem eS(c k:Int){m:Int}(h:0<m):0<=b7 c k m/\b7 c k m<m:=⟨Int.emod_nonneg _ (by omega),Int.emod_lt_of_pos _ h⟩
theorem HB{k:Int}(h0:0<=k)(h1:k<=100000):0<=7919*k*k/\7919*k*k<=79190000000000:=by
 have a:=Int.mul_nonneg h0 h0;have b:k*k<=100000*100000:=Int.mul_le_mul h1 h1 h0 (by decide);rw[Int.mul_assoc];omega
inductive Cc(vs:List V)(H:Hp)(Q:VK)(x_1:XK):Prop
 |mk(c k m:Int)(_:vs=[.int c,.int k,.int m])(_:0<=k/\k<=100000)(_:0<m)(_:Q (.int (b7 c k m)) H)
theorem vR:aN ["cell","k","many","number"] ["cell","k","many"] (aw (top 58)):=by walk_at "c"
theorem bV(T:Txt P w K mg a):bi P w K mg base CX0 1 a.tY a.rT ["cell","k","many"] Cc:=by
 exists T.b8.fn.ok,vR
 obtain⟨c,k,m,rfl,⟨h0,h1⟩,hm,q⟩:=h
 exists (ae (av (i:=3) vR.nd rfl (IP rfl) (aH n9 (aH um (aH bS (pv 0) ag) (aH bS ag (aH um (aH um ag (pv 1)) (pv 1)))) ag))
   (af (aM (aH n9 (aH zc (aH n9 (aH um (pv 3) (pv 3)) ag) ag) (pv 2)))))
 have sq:=HB h0 h1;refine⟨_,rfl,_,_,rfl,rfl,_,rfl,_,_,rfl,rfl,.inl ⟨by decide,by decide⟩,_,rfl,_,_,rfl,rfl,.inr ⟨by omega,by omega⟩,_,_,rfl,rfl,_,_,rfl,rfl,.inr ⟨by omega,by omega⟩,_,_,rfl,rfl,(by decide:(0:Int)<2147483647),?_⟩;refine⟨_,rfl,_,rfl,_,_,rfl,rfl,.inl ⟨by omega,by omega⟩,_,_,rfl,rfl,(by decide:(0:Int)<2147483629),_,_,rfl,rfl,⟨by decide,by decide⟩,_,rfl,_,_,rfl,rfl,hm,?_⟩;exact q
theorem j9(c k:Int){m:Nat}(h:0<m):∃d:Nat,b7 c k (m:Int)=(d:Int)/\d<m:=by
 have:=eS c k (show(0:Int)<(m:Int) by omega);exact⟨(b7 c k m).toNat,by omega,by omega⟩

theorem at4(a b c d:Int):∀k:Nat,k<4->∃w,atI [V.int a,V.int b,V.int c,V.int d] (k:Int)=some (V.int w)
 |0,_=>⟨a,rfl⟩
 |1,_=>⟨b,rfl⟩
 |2,_=>⟨c,rfl⟩
 |3,_=>⟨d,rfl⟩

inductive Cd(vs:List V)(H:Hp)(Q:VK)(x_1:XK):Prop
 |mk(c:Int)(_:vs=[.int c])(_:∀p H' (x y z u:Int),H p=none->aj H H'->H' p=some (.tup [.int x,.int y,.int z,.int u])->Q (.ref p) H')
theorem vS:aN ["cell","wide"] ["cell"] (aw (top 62)):=by walk_at "c"
theorem Ce(T:Txt P w K mg a):bi P w K mg base CX0 2 a.tZ a.rV ["cell"] Cd:=by
 exists T.tU.fn.ok,vS
 obtain⟨c,rfl,q⟩:=h
 exists (ae (av (i:=1) vS.nd rfl (IP rfl) (aB bC (aQ (aa (aH bS ag (aC T.b8 (bV T) (hM hr) rfl (aa (pv 0) (aa ag (aa ag ac))))) (aa ag (aa ag (aa (aH bS ag (aC T.b8 (bV T) (hM hr) rfl (aa (pv 0) (aa ag (aa ag ac))))) ac))))) (aC T.b8 (bV T) (hM hr) rfl (aa (pv 0) (aa ag (aa ag ac)))) (λ_ _=>rfl)))
   (af (aM (a_ (aa (pv 1) (aa (aH bS ag (aC T.b8 (bV T) (hM hr) rfl (aa (pv 0) (aa ag (aa ag ac))))) (aa (aH n9 (pv 0) (aH bS (aH Fu ag ag) ag)) (aa (aH bS ag (aC T.b8 (bV T) (hM hr) rfl (aa (pv 0) (aa ag (aa ag ac))))) ac))))))))
 obtain⟨n,en,hn⟩:=j9 c 77 (show 0<4 by decide);have en:b7 c 77 4=(n:Int):=en;refine⟨_,rfl,_,75,200,rfl,⟨by decide,by decide⟩,by decide,_,_,rfl,rfl,_,rfl,_,76,30,rfl,⟨by decide,by decide⟩,by decide,_,_,rfl,rfl,le4,λp1 hp1=>?_⟩;obtain⟨w,hw⟩:=at4 (1+b7 c 75 200) 1 200 (1+b7 c 76 30) n hn;refine⟨_,rfl,_,77,4,rfl,⟨by decide,by decide⟩,by decide,_,_,_,_,rfl,rfl,SqL.of ah,(by rw[en];exact hw),?_⟩;refine⟨_,rfl,_,rfl,_,78,60,rfl,⟨by decide,by decide⟩,by decide,_,_,rfl,rfl,_,rfl,_,_,rfl,rfl,⟨by decide,by decide,by decide⟩,_,_,rfl,rfl,_,_,rfl,rfl,(by show(0:Int)<10^LS 60+1;decide),_,rfl,_,79,60,rfl,⟨by decide,by decide⟩,by decide,_,_,rfl,rfl,le4,λp2 hp2=>?_⟩;exact q p2 _ _ _ _ _ ((ai hp1 _).free hp2) ((ai hp1 _).trans (ai hp2 _)) ah
inductive Aw(K:IC)(vs:List V)(H:Hp)(Q:VK)(x_1:XK):Prop
 |mk(sa ta:Addr)(sv tv:List V)(ss:List Sw)(tt:List Ttl)(_:vs=[.ref sa,.ref ta])(_:H sa=some (.lst sv))(_:aI (SwA H) sv ss)(_:H ta=some (.lst tv))(_:aI (TtA H) tv tt)(_:∀k,.head k∈ss->k<tt.length)(_:ss.length<=1000000)(_:∀p H' us,H p=none->aj H H'->H' p=some (.lst us)->aI (HdA H') us (cK tt ss 0)->Q (.ref p) H')
theorem i4:aN ["stream","titles","heads","at","kind","rest"] ["stream","titles"] (aw (top 72)):=by walk_at "c"
theorem Ax(T:Txt P w K mg a):bi P w K mg base CX0 1 a.rL a.pU ["stream","titles"] (Aw K):=by
 exists T.rq.fn.ok,i4
 obtain⟨sa,ta,sv,tv,ss,tt,rfl,hsa,sal,hta,tal,hk,sl,q⟩:=h
 exists (ae (av (i:=2) i4.nd rfl (IP rfl) (aQ ac))
   (ae (av (i:=3) i4.nd rfl (IP rfl) ag)
   (ae (bY Jq rfl (bj (pv 0)) (dD rfl (aU (aJ (i:=4) i4.nd rfl (IP rfl)) (aU (aJ (i:=5) i4.nd rfl (IP rfl)) cQ))) (ae (aG (ao bn (pv 4) am (nomark _)) (af (bf (b_ IR Je Jf bT (pv 2) (aa (a_ (aa (aB aZ (aB bC (pv 1) (pv 5) (λ_ _=>rfl)) ag (λ_ _=>rfl)) (aa (pv 3) ac))) ac)))) aE)
   (af (aG (ao dZ (pv 4) am (nomark _)) (af (av (i:=3) i4.nd rfl (IP rfl) (aH bS (pv 3) ag))) aE))))
   (af (aM (pv 2))))))
 have ls:=sal.len;refine⟨aW (by simp),λp1 hp1=>?_⟩
 exists hp1,H1,s1,k1
 refine⟨_,rfl,sa,rfl,⟨_,SqL.of (s1 _ _ hsa)⟩,bZ (K:=K) (a:=sa) (xs:=sv) (λi σ' G=>∃(n:Nat)(v4 v5:Option V)(us:List V)(hs:List (Str×Nat)),σ'=[rF sa,rF ta,rF p1,some (.int (n:Int)),v4,v5]/\aj H G/\G p1=some (.lst us)/\aI (HdA (hid [p1] G)) us hs/\cK tt ss 0=hs++cK tt (ss.drop i) n/\us.length<=i) ⟨0,none,none,[],[],rfl,s1,k1,trivial,rfl,Jw _⟩ (λi σ' G _ g=>by obtain⟨_,_,_,_,_,_,m,_⟩:=g;exact SqL.of (m _ _ hsa)) ?_ ?_⟩
 .rintro i y σ' G hy ⟨n,v4,v5,us,hs,rfl,m,g1,hal,eh,ul⟩;obtain⟨s,hs',b,rfl,hb⟩:=sal.getL hy;have hi:=(List.getElem?_eq_some_iff.mp hy).1;have ed:ss.drop i=s::ss.drop (i+1):=by
   obtain⟨hi,e⟩:=List.getElem?_eq_some_iff.mp hs';rw[Js hi,e]
  rw[ed]at eh;refine⟨b,_,rfl,SqT.of (m _ _ hb),rfl,_,_,rfl,_,_,rfl,rfl,?_⟩;refine cy (λσ' G'=>∃(us:List V)(hs:List (Str×Nat)),σ'=[rF sa,rF ta,rF p1,some (.int (n:Int)),some (.str s.k),some s.v]/\aj H G'/\G' p1=some (.lst us)/\aI (HdA (hid [p1] G')) us hs/\cK tt ss 0=hs++cK tt (ss.drop (i+1)) (n+(if s.isM then 0 else 1))/\us.length<=i+1) ?_ (λkey=>?_)
  .rintro σ' G2 ⟨us2,hs2,rfl,m2,g2,hal2,eh2,ul2⟩
   exists 1
   by_cases hm:s.isM=true
   .refine nF (congrArg V.str (Sw.mark_k.mpr hm)) ?_;rw[hm]at eh2;exact⟨n,_,_,us2,hs2,rfl,m2,g2,hal2,eh2,ul2⟩
   .refine nT (λz=>hm (Sw.mark_k.mp (V.str.inj z))) ?_;rw[if_neg hm]at eh2;exact⟨_,rfl,_,_,rfl,rfl,n+1,_,_,us2,hs2,rfl,m2,g2,hal2,eh2,ul2⟩
  .exists 1
   by_cases hh:∃k,s=.head k
   .obtain⟨k,rfl⟩:=hh;refine iT rfl ?_;have hkl:=hk k (IK hs');obtain⟨t,ht⟩:∃t,tt[k]?=some t:=⟨tt[k],II hkl⟩;obtain⟨v,hv,tb,tl,rfl,htb,_⟩:=tal.getR ht;refine⟨_,rfl,.inl ⟨rfl,_,SqL.of g1⟩,_,rfl,_,rfl,_,_,_,_,rfl,rfl,SqL.of (m _ _ hta),bX hv,_,_,_,_,rfl,rfl,SqT.of (m _ _ htb),rfl,_,rfl,le2,λp2 hp2=>?_⟩;have m3:=ai hp2 (.tup [.str (tx t.1),.int (n:Int)]);have np:p2≠p1:=λz=>by rw[z,g1]at hp2;cases hp2
    refine⟨_,_,_,rfl,rfl,m3 _ _ g1,IU (show us.length<=1000000 by omega) (by decide),?_⟩;refine key _ _ ⟨us++[.ref p2],hs++[(tx t.1,n)],rfl,aY (m.trans m3) hp1,ah,?_,?_,by rw[IB];simp only[ID,Ja];omega⟩
    .rw[bH (by simp)];exact(hal.imp λ_ _=>HdA.mono (bg m3)).snoc ⟨p2,rfl,br (by simpa using np) ah⟩
    .rw[eh];show hs++(tx (tt.getD k ([],[])).1,n)::cK tt _ (n+1)=_;rw[Jb,ht,IT];rfl
   .refine iF (λz=>hh (Sw.head_k.mp (V.str.inj z))) ?_;refine key _ _ ⟨us,hs,rfl,m,g1,hal,?_,by omega⟩;rw[eh];cases s with
    |head k=>exact absurd ⟨k,rfl⟩ hh
    |w x=>rfl
    |entry k=>rfl
    |goal k=>rfl
 rintro σ' G ⟨n,v4,v5,us,hs,rfl,m,g1,hal,eh,ul⟩;rw[ls,Kk]at eh;have eh:cK tt ss 0=hs:=by rw[eh];exact IY _
 exact⟨_,rfl,q p1 G us hp1 m g1 (by rw[eh];exact hal.imp λ_ _=>HdA.mono bJ)⟩

def bv:List Wk->Nat->List (Str×Nat)
 |[],_=>[]
 |w::r,n=>if w.1=.mark then(rest w.2,n)::bv r n else bv r (n+1)
def aO(ws:List Wk):Nat:=(ws.filter λw=>!decide (w.1=.mark)).length
theorem iu:∀(a b:List Wk)(n:Nat),bv (a++b) n=bv a n++bv b (n+aO a)
 |[],b,n=>by simp[bv,aO]
 |w::r,b,n=>by
  by_cases h:w.1=.mark
  .have e:aO (w::r)=aO r:=by unfold aO;simp[h]
   rw[e];show(if w.1=.mark then _ else _)=(if w.1=.mark then _ else _)++_;rw[if_pos h,if_pos h];show(rest w.2,n)::bv (r++b) n=_;rw[iu r b n];rfl
  .have e:aO (w::r)=aO r+1:=by unfold aO;simp[h]
   rw[e];show(if w.1=.mark then _ else bv (r++b) (n+1))=(if w.1=.mark then _ else bv r (n+1))++_;rw[if_neg h,if_neg h,iu r b (n+1),show n+1+aO r=n+(aO r+1) by omega]
theorem Cf(ws:List Wk)(w:Wk):aO (ws++[w])=aO ws+(if w.1=.mark then 0 else 1):=by
 unfold aO;rw[JK,IB];by_cases h:w.1=.mark<;>simp[h]
theorem zE{β:Type}{n:Str}{k:β}:∀{l1 l2:List (Str×β)},n∉l1.map (·.1)->lkS n (l1++(n,k)::l2)=some k
 |[],_,_=>if_pos rfl
 |(m,j)::r,l2,h=>by
  have h1:m≠n:=λz=>h (by rw[z];exact IL);show(if m=n then some j else lkS n (r++(n,k)::l2))=some k;rw[if_neg h1];exact zE λz=>h (IH _ z)
theorem EQ{ws:List Wk}{i:Nat}{w:Wk}(hw:ws[i]?=some w)(hm:w.1=.mark)(nd:((bv ws 0).map (·.1)).Nodup):lkS (rest w.2) (bv ws 0)=some (aO (ws.take i)):=by
 obtain⟨hi,e⟩:=List.getElem?_eq_some_iff.mp hw;have es:ws=ws.take i++w::ws.drop (i+1):=by rw[<-e,<-Js hi,KJ]
 have em:bv ws 0=bv (ws.take i) 0++(rest w.2,aO (ws.take i))::bv (ws.drop (i+1)) (aO (ws.take i)):=by
  conv=>lhs;rw[es]
  rw[iu,JT];show _++(if w.1=.mark then _ else _)=_;rw[if_pos hm]
 rw[em]at nd⊢;refine zE λz=>?_;rw[IJ,Kh]at nd;exact nd.2.2 _ z _ (by rw[IQ];exact IL) rfl
abbrev Lk:=Int×Bool
def lk(t:Wt):Lk:=(t.lead,t.kept)
def cN(n:Nat)(ld:Int)(byh:Bool):List Lk:=if n=0 then[]else(ld,false)::IN (n-1) (0,byh)
def cB(w:Int)(h:Bool):List Lk->List Lk
 |[]=>[]
 |(l,k)::r=>(if 0<w then(w,k)else(l,h||k))::r
def sz(ws:List NWd):Nat:=aO (wkS ws)
def lsT(ld:Int):List Ttl->List Lk
 |[]=>[]
 |t::r=>cN (sz t.2+2) ld false++lsT 1 r
structure Lds where
 wait:Int
 hd:Bool
 go:Bool
def ldB(tt:List Ttl)(s:Lds)(r:bu):List Lk:=if r.1=.words then cN (sz r.2.2) (if s.go then 0 else if s.hd then 1 else 2) false else if r.1=.lst then lsT 2 tt else if r.1.hd=true then cN (1+sz r.2.2) 2 true else[]
def ldW(w:Int)(r:bu):Int:=if r.1=.page then(if w<3 then 3 else w)else if r.1=.odd then(if w<4 then 4 else w)else w
def ldN(tt:List Ttl)(s:Lds)(r:bu):Lds:=⟨if(ldB tt s r).isEmpty then ldW s.wait r else 0,if(ldB tt s r).isEmpty then s.hd else r.1.hd,if r.1=.foot then s.go else decide (r.1=.words)&&(s.go || !(ldB tt s r).isEmpty)⟩
def fJ(tt:List Ttl):Lds->List bu->List Lk
 |_,[]=>[]
 |s,r::rs=>cB (ldW s.wait r) s.hd (ldB tt s r)++fJ tt (ldN tt s r) rs
theorem j_(n:Nat)(ld:Int)(byh:Bool):(cN n ld byh).length=n:=by
 unfold cN;by_cases e:n=0
 .rw[if_pos e,e];rfl
 .rw[if_neg e];simp;omega
theorem cZ(n:Nat)(ld:Int)(byh:Bool):cN (n+1) ld byh=(ld,false)::IN n (0,byh):=by unfold cN;simp
theorem o5(n:Nat)(ld:Int)(b:Bool):(cN n ld b).isEmpty=decide (n=0):=by
 cases n with
 |zero=>rfl
 |succ n=>rw[cZ];rfl
def ld0:Lds:=⟨0,false,false⟩

def LkA(F:Hp)(v:V)(l:Lk):Prop:=∃a,v=.ref a/\F a=some (.tup [.int l.1,.bl l.2])
theorem LkA.mono{F F':Hp}(m:aj F F'){v:V}{l:Lk}(h:LkA F v l):LkA F' v l:=by
 obtain⟨a,e,h⟩:=h;exact⟨a,e,m _ _ h⟩
def owV(b:List Lk):List V:=b.map λx=>V.int x.1
def kpV(b:List Lk):List V:=b.map λx=>V.bl x.2
theorem ER(a b:List Lk):owV (a++b)=owV a++owV b:=IJ
theorem ES(a b:List Lk):kpV (a++b)=kpV a++kpV b:=IJ
theorem ET{α:Type}(x:α)(n:Nat):(IN n [x]).flatten=IN n x:=by
 induction n with
 |zero=>rfl
 |succ n ih=>rw[JD,KO,ih];rfl
theorem Ay(ws:List NWd):sz ws<=ws.length:=by
 have:aO (wkS ws)<=(wkS ws).length:=JU _ _;unfold wkS at this;rw[Iz]at this;exact this
theorem ye{ws:List Wk}{j:Nat}{w:Wk}(h:ws[j]?=some w):aO (ws.take (j+1))=aO (ws.take j)+(if w.1=.mark then 0 else 1):=by
 rw[aT h];unfold aO;rw[JK,IB];by_cases c:w.1=.mark<;>simp[c]
theorem tO:∀{tt:List Ttl}{t:Ttl}{k:Nat}{ld:Int},tt[k]?=some t->lsT ld (tt.take (k+1))=lsT ld (tt.take k)++cN (sz t.2+2) (if k=0 then ld else 1) false
 |[],_,_,_,h=>by simp at h
 |u::tt,t,0,ld,h=>by
  have:u=t:=by simpa using h
  subst this;show cN _ ld false++lsT 1 []=[]++_;rw[show lsT 1 []=[]from rfl,IY];rfl
 |u::tt,t,k+1,ld,h=>by
  have h:tt[k]?=some t:=by simpa using h
  show cN _ ld false++lsT 1 (tt.take (k+1))=(cN _ ld false++lsT 1 (tt.take k))++_;rw[tO (ld:=1) h,IT];simp
theorem sC:∀(tt:List Ttl)(ld:Int),(∀t∈tt,t.2.length<=129)->(lsT ld tt).length<=131*tt.length
 |[],_,_=>IM _
 |t::tt,ld,h=>by
  have h1:=h t IL;have h2:=Ay t.2;have h3:=sC tt 1 λx hx=>h x (IH _ hx);show(cN (sz t.2+2) ld false++lsT 1 tt).length<=_;rw[IB,j_,ID];omega
theorem Iu(w:Wy):inV (.str (tx w.t)) [V.str (Iy ".page"),V.str (Iy ".odd")]=(decide (w=.page)||decide (w=.odd)):=by
 rw[Aq,Ar];refine(oz [oW,tJ]).trans ?_;cases w<;>decide
inductive DC(na ta p1:Addr)(H:Hp)(tt:List Ttl)(named:List bu):Nat->St->Hp->Prop
 |mk{i:Nat}{G:Hp}(L:Lds)(b:Str)(v6 v7 v8 v9 v10 v11 v12:Option V)(us:List V)(dn:List Lk)(hb:decide (V.str b=V.str (Iy "head"))=L.hd)(m:aj H G)(g1:G p1=some (.lst us))(dal:aI (LkA (hid [p1] G)) us dn)(es:fJ tt ld0 named=dn++fJ tt L (named.drop i))(ul:us.length<=9000*i):DC na ta p1 H tt named i [rF na,rF ta,rF p1,some (.int L.wait),some (.str b),some (.bl L.go),v6,v7,v8,v9,v10,v11,v12] G
inductive Gn(na ta p1:Addr)(L:Lds)(b:Str)(wy:Wy)(nm:List Nat)(ws:List NWd)(l:Addr)(tt:List Ttl)(G:Hp):St->Hp->Prop
 |mk{G':Hp}(wt:Int)(ew:wt=ldW L.wait (wy,nm,ws))(po pk:Addr)(u11 u12:Option V)(m:aj G G')(npo:G po=none)(npk:G pk=none)(nok:po≠pk)(ko:G' po=some (.lst (owV (ldB tt L (wy,nm,ws)))))(kk:G' pk=some (.lst (kpV (ldB tt L (wy,nm,ws))))):Gn na ta p1 L b wy nm ws l tt G [rF na,rF ta,rF p1,some (.int wt),some (.str b),some (.bl L.go),some (.str (tx wy.t)),some (.str (tx nm)),rF l,rF po,rF pk,u11,u12] G'

inductive Az(K:IC)(vs:List V)(H:Hp)(Q:VK)(x_1:XK):Prop
 |mk(na ta:Addr)(nv tv:List V)(named:List bu)(tt:List Ttl)(_:vs=[.ref na,.ref ta])(_:H na=some (.lst nv))(_:aI (NnA H) nv named)(_:H ta=some (.lst tv))(_:aI (TtA H) tv tt)(_:named.length<=200)(_:tt.length<=63)(_:∀r∈named,r.2.2.length<=129)(_:∀t∈tt,t.2.length<=129)(_:∀p H' us,H p=none->aj H H'->H' p=some (.lst us)->aI (LkA H') us (fJ tt ld0 named)->Q (.ref p) H')
theorem bF:aN ["named","titles","due","wait","before","going","way","name","words","own","keeps","size","k"] ["named","titles"] (aw (top 73)):=by walk_at "c"
theorem AA(T:Txt P w K mg a):bi P w K mg base CX0 1 a.rM a.pV ["named","titles"] (Az K):=by
 exists T.rz.fn.ok,bF
 obtain⟨na,ta,nv,tv,named,tt,rfl,hna,nal,hta,tal,nl,tl,nw,tw,q⟩:=h;have hu:=Le (eR hr)
 exists (ae (av (i:=2) bF.nd rfl (IP rfl) (aQ ac))
   (ae (av (i:=3) bF.nd rfl (IP rfl) ag)
   (ae (av (i:=4) bF.nd rfl (IP rfl) am)
   (ae (av (i:=5) bF.nd rfl (IP rfl) cC)
   (ae (bY Jq rfl (bj (pv 0)) (dD rfl (aU (aJ (i:=6) bF.nd rfl (IP rfl)) (aU (aJ (i:=7) bF.nd rfl (IP rfl)) (aU (aJ (i:=8) bF.nd rfl (IP rfl)) cQ)))) (ae (av (i:=9) bF.nd rfl (IP rfl) (aQ ac))
   (ae (av (i:=10) bF.nd rfl (IP rfl) (aQ ac))
   (ae (av (i:=11) bF.nd rfl (IP rfl) (aF bp rfl T.bG Jg (aa (gc rfl (eW (caps:=[]) (js:=[]) (cap:=trivial)) (bj (pv 8)) (λ_ _ _ _=>(iX (ao dZ (aB (r:=kQ K) aZ (pv 0) ag (λ_ _=>rfl)) am (nomark _)))) (λ_ _ _ _=>(pv 0))) ac)))
   (ae (aG (ao bn (pv 6) am (nomark _)) (ae (av (i:=9) bF.nd rfl (IP rfl) (aH kG (aQ (aa ag ac)) (pv 11)))
   (ae (av (i:=10) bF.nd rfl (IP rfl) (aH kG (aQ (aa cC ac)) (pv 11)))
   (af (aG (PW.pt (fT (ao iV (pv 11) ag (nomark _)) (dQ (fC (cz (pv 5) (λ_=>rfl)))))) (af (nZ (aH kD ag (gy mQ rfl T.i5 Ks (aa (dL bn (pv 4) am (nomark _)) ac))) (nY (pv 9) ag jV))) aE)))) (af (aG (ao bn (pv 6) am (nomark _)) (af (bY Jq rfl (kA rfl T.eU (aa (aF bp rfl T.bG Jg (aa (pv 1) ac)) ac)) (aJ (i:=12) bF.nd rfl (IP rfl)) (ae (av (i:=11) bF.nd rfl (IP rfl) (aF bp rfl T.bG Jg (aa (gc rfl (eW (caps:=[]) (js:=[]) (cap:=trivial)) (bj (aB aZ (aB bC (pv 1) (pv 12) (λ_ _=>rfl)) ag (λ_ _=>rfl))) (λ_ _ _ _=>(iX (ao dZ (aB (r:=kQ K) aZ (pv 0) ag (λ_ _=>rfl)) am (nomark _)))) (λ_ _ _ _=>(pv 0))) ac)))
   (ae (bf (b_ IR J1 J2 gB (pv 9) (aa (aH fU (aQ (aa (aH kD ag (gy mQ rfl T.i5 Ks (aa (dL iV (pv 12) ag (nomark _)) ac))) ac)) (aH kG (aQ (aa ag ac)) (aH bS (pv 11) ag))) ac)))
   (af (bf (b_ IR J1 J2 gB (pv 10) (aa (aH kG (aQ (aa cC ac)) (aH bS (pv 11) ag)) ac)))))))) (af (aG (PW.pt (fT (ao dZ (pv 6) am (nomark _)) (dQ (ao bn (aB eu (pv 6) ag (λ_ _=>rfl)) am (nomark _))))) (ae (av (i:=9) bF.nd rfl (IP rfl) (aH fU (aQ (aa ag ac)) (aH kG (aQ (aa ag ac)) (pv 11))))
   (af (av (i:=10) bF.nd rfl (IP rfl) (aH fU (aQ (aa cC ac)) (aH kG (aQ (aa cC ac)) (pv 11)))))) (af (aG (ao gz (pv 6) (a_ (aa am (aa am ac))) (by with_unfolding_all rfl)) (af (av (i:=3) bF.nd rfl (IP rfl) (aF (mP rfl) rfl T.lM Lc (aa (pv 3) (aa (aH bS ag (gy mQ rfl T.i5 Ks (aa (dL bn (pv 6) am (nomark _)) ac))) ac))))) aE)))))))
   (ae (aG (ao (lX hu) (pv 9) (aQ ac) (nomark _)) (ae (aG (ao iV (pv 3) ag (nomark _)) (af (nZ (pv 3) (nY (pv 9) ag jV))) (af (aG (ao bn (pv 4) am (nomark _)) (af (nZ cC (nY (pv 10) ag jV))) aE)))
   (ae (av (i:=3) bF.nd rfl (IP rfl) ag)
   (ae (av (i:=4) bF.nd rfl (IP rfl) (pv 6))
   (ae (aG (ao bn (aB eu (pv 6) ag (λ_ _=>rfl)) am (nomark _)) (af (av (i:=4) bF.nd rfl (IP rfl) am)) aE)
   (af (bf (b_ IR J1 J2 gB (pv 2) (aa (uy rfl (eW (caps:=[]) (js:=[]) (cap:=trivial)) (FR rfl T.sI (pv 9) (pv 10)) (λ_ _ _ _=>dM) (λ_ _ _ _=>(a_ (aa (pv 0) (aa (pv 1) ac))))) ac)))))))) aE)
   (af (aG (ao dZ (pv 6) am (nomark _)) (af (av (i:=5) bF.nd rfl (IP rfl) (jE (dL bn (pv 6) am (nomark _)) (jl (DU (pv 5) (jl (dL (lX hu) (pv 9) (aQ ac) (nomark _)))))))) aE))))))))
   (af (aM (pv 2))))))))
 have ln:=nal.len;have lt:=tal.len;refine⟨aW (by simp),λp1 hp1=>?_⟩
 exists hp1,H1,s1,k1
 refine⟨_,rfl,na,rfl,⟨_,SqL.of (s1 _ _ hna)⟩,bZ (K:=K) (a:=na) (xs:=nv) (DC na ta p1 H tt named) ⟨ld0,(Iy ""),none,none,none,none,none,none,none,[],[],by decide +kernel,s1,k1,trivial,rfl,Jw _⟩ (λi σ' G _ g=>by obtain⟨_,_,_,_,_,_,_,_,_,_,_,_,m,_⟩:=g;exact SqL.of (m _ _ hna)) ?_ ?_⟩
 .rintro i y σ' G hy ⟨L,b,v6,v7,v8,v9,v10,v11,v12,us,dn,hbh,m,g1,dal,es,ul⟩;obtain⟨⟨wy,nm,ws⟩,hn,bb,l,rfl,hbb,hl⟩:=nal.getL hy;have hi:=(List.getElem?_eq_some_iff.mp hn).1;have wl:=nw _ (IK hn);dsimp only at hbb hl wl;have ed:named.drop i=(wy,nm,ws)::named.drop (i+1):=by
   obtain⟨hi,e⟩:=List.getElem?_eq_some_iff.mp hn;rw[Js hi,e]
  rw[ed]at es;have es:fJ tt ld0 named=dn++(cB (ldW L.wait (wy,nm,ws)) L.hd (ldB tt L (wy,nm,ws))++fJ tt (ldN tt L (wy,nm,ws)) (named.drop (i+1))):=es;obtain⟨cs,l1,l2⟩:=hl;have lc:=l2.len;have lw:(wkS ws).length=ws.length:=by unfold wkS;rw[Iz]
  have szl:=Ay ws;refine⟨bb,_,rfl,SqT.of (m _ _ hbb),rfl,_,_,rfl,_,_,rfl,_,_,rfl,rfl,?_⟩;refine⟨aW (by simp),λp2 hp2=>?_⟩
  exists hp2,G1,c2,k2
  refine⟨aW (by simp),λp3 hp3=>?_⟩
  exists hp3,G2,c3,k3
  have n3:G p3=none:=c2.free hp3;have n23:p2≠p3:=λz=>by rw[z,hp3]at k2;cases k2
  have k2:=c3 _ _ k2;have c23:=c2.trans c3;refine⟨_,rfl,l,rfl,⟨_,SqL.of (c23 _ _ (m _ _ l1))⟩,dS (K:=K) (a:=l) (xs:=cs) (λj ys F=>G2=F/\ys.length=aO ((wkS ws).take j)/\ys.length<=j) ⟨rfl,rfl,IM _⟩ (λj ys F _ z=>by rw[<-z.1];exact SqL.of (c23 _ _ (m _ _ l1))) ?_ ?_ ?_⟩
  .rintro j ys F hj ⟨_,_,z⟩;exact ay (by omega)
  .rintro j y' ys F hy' ⟨rfl,z,zl⟩;obtain⟨w',hw',wb,rfl,hwb⟩:=l2.getL hy';have en:=ye hw';refine⟨_,rfl,_,_,_,_,rfl,rfl,SqT.of (c23 _ _ (m _ _ hwb)),rfl,rfl,_,rfl,?_⟩;by_cases hm:w'.1=.mark
   .refine nF (by rw[hm];rfl) ?_;exact⟨rfl,by rw[en,if_pos hm];exact z,by omega⟩
   .refine nT (λzz=>hm (Kw.inj (b:=.mark) (V.str.inj zz))) ?_;exact⟨_,rfl,rfl,by rw[en,if_neg hm,IB,z];rfl,by rw[IB];simp only[ID,Ja];omega⟩
  rintro zs F ⟨rfl,zq,_⟩ p4 hp4;rw[lc,IZ]at zq;have zq:zs.length=sz ws:=zq
  exists hp4,G3,c4,k4
  have k2:=c4 _ _ k2;have k3:=c4 _ _ k3;have mG:=c23.trans c4;refine⟨_,_,rfl,.inl (SqL.of k4),?_⟩;dsimp only[bA];rw[zq];refine cy (Gn na ta p1 L b wy nm ws l tt G) ?_ (λkey=>?_)
  .rintro σ' G4 ⟨_,rfl,po,pk,u11,u12,m4,npo,npk,nok,ko,kk_⟩;have hln:(ldB tt L (wy,nm,ws)).length<=8500:=by
    unfold ldB
    split
    .rw[j_];dsimp only;omega
    split
    .have:=sC tt 2 tw;omega
    split
    .rw[j_];dsimp only;omega
    .exact Jw _
   have emp:((ldB tt L (wy,nm,ws)).isEmpty=true->wy≠.words->wy≠.lst->wy.hd=false):=λz h1 h2=>by
    cases hh:wy.hd with
    |false=>rfl
    |true =>
     unfold ldB at z;rw[if_neg h1,if_neg h2,if_pos hh,o5]at z;simp at z
   have nem:(ldB tt L (wy,nm,ws)).isEmpty=false->∃c u,wy.t=c::u/\decide (c=61)=wy.hd:=λz=>by
    cases wy<;>first|exact⟨_,_,rfl,rfl⟩|(exfalso;revert z;exact(by decide:¬ (true=false)))
   have ldw:(ldB tt L (wy,nm,ws)).isEmpty=false->ldW L.wait (wy,nm,ws)=L.wait:=λz=>by
    cases wy<;>first|rfl|(exfalso;revert z;exact(by decide:¬ (true=false)))
   have eN:(ldN tt L (wy,nm,ws)).wait=(if(ldB tt L (wy,nm,ws)).isEmpty then ldW L.wait (wy,nm,ws)else 0)/\(ldN tt L (wy,nm,ws)).hd=(if(ldB tt L (wy,nm,ws)).isEmpty then L.hd else wy.hd)/\(ldN tt L (wy,nm,ws)).go=(if wy=.foot then L.go else decide (wy=.words)&&(L.go || !(ldB tt L (wy,nm,ws)).isEmpty)):=⟨rfl,rfl,rfl⟩;generalize ldN tt L (wy,nm,ws)=L' at es eN;generalize ldW L.wait (wy,nm,ws)=wt at *;generalize ldB tt L (wy,nm,ws)=B at *;refine cy (λσ' G'=>∃(b':Str)(us':List V)(xs:List V),σ'=[rF na,rF ta,rF p1,some (.int (L'.wait)),some (.str b'),some (.bl L.go),some (.str (tx wy.t)),some (.str (tx nm)),rF l,rF po,rF pk,u11,u12]/\decide (V.str b'=V.str (Iy "head"))=L'.hd/\aj H G'/\G' p1=some (.lst us')/\aI (LkA (hid [p1] G')) us' (dn++cB wt L.hd B)/\us'.length<=9000*i+8500/\G' po=some (.lst xs)/\xs.isEmpty=B.isEmpty) ?_ (λkey=>?_)
   .rintro σ' G5 ⟨b',us5,xs,rfl,hb5,m5,g5,dal5,ul5,kx,hx⟩;have fin:∀(g:Bool)(G':Hp),g=L'.go->aj G5 G'->G' p1=some (.lst us5)->DC na ta p1 H tt named (i+1) [rF na,rF ta,rF p1,some (.int (L'.wait)),some (.str b'),some (.bl g),some (.str (tx wy.t)),some (.str (tx nm)),rF l,rF po,rF pk,u11,u12] G':=λg G' eg mm kp=>by subst eg;exact⟨L',b',_,_,_,_,_,_,_,us5,_,hb5,m5.trans mm,kp,dal5.imp λ_ _=>LkA.mono (bg mm),by rw[es,IT],by omega⟩
    exists 1
    rw[bP jJ];by_cases hf:wy=.foot
    .refine nF (by rw[hf];rfl) ?_;exact fin _ _ (by rw[eN.2.2,if_pos hf]) (aj.refl _) g5
    .refine nT (λz=>hf (Wy.inj (b:=.foot) z)) ?_;have eg:=eN.2.2;rw[if_neg hf]at eg
     exists 1
     rw[bP jM];by_cases hw:wy=.words
     .rw[decide_eq_true (show wy.t=[119,111,114,100,115] by rw[hw];rfl)];rw[decide_eq_true hw]at eg;left;refine⟨_,rfl,_,rfl,?_⟩;cases hg:L.go with
      |true =>
       left;exact fin _ _ (by rw[eg,hg];rfl) (aj.refl _) g5
      |false =>
       right;refine⟨_,rfl,aW (by simp),λp5 hp5=>?_⟩;have c5:=ai hp5 (.lst []);refine⟨_,_,xs,rfl,rfl,SqL.of (c5 _ _ kx),SqL.of ah,?_⟩;exact fin _ _ (by rw[eg,hg,hx];rfl) c5 (c5 _ _ g5)
     .rw[decide_eq_false (show ¬ (wy.t=[119,111,114,100,115])from λz=>hw (Wy.inj (b:=.words) z))];rw[decide_eq_false hw]at eg;right;exact fin _ _ (by rw[eg];rfl) (aj.refl _) g5
   .have g4:=m4 _ _ g1;have dal4:aI (LkA (hid [p1] G4)) us dn:=dal.imp λ_ _=>LkA.mono (bg m4);have npp:po≠p1/\pk≠p1:=⟨λz=>(by rw[z,g1]at npo;cases npo),λz=>(by rw[z,g1]at npk;cases npk)⟩;refine⟨_,rfl,aW (by simp),λp5 hp5=>?_⟩
    exists hp5,G5,c5,k5
    have ko:=c5 _ _ ko;have kk_:=c5 _ _ kk_;have g4:=c5 _ _ g4;have m5:=m4.trans c5;have dal5:aI (LkA (hid [p1] G5)) us dn:=dal4.imp λ_ _=>LkA.mono (bg c5);refine⟨_,_,_,rfl,rfl,SqL.of ko,SqL.of k5,_,rfl,?_⟩;have eo:(owV B).isEmpty=B.isEmpty:=by cases B<;>rfl
    rw[eo];cases hB:B with
    |nil =>
     subst hB;right;exact key _ _ ⟨b,us,[],by rw[eN.1];rfl,by rw[hbh,eN.2.1];rfl,m.trans m5,g4,by rw[show cB wt L.hd []=[]from rfl,IY];exact dal5,by omega,ko,rfl⟩
    |cons x0 B0 =>
     obtain⟨o0,q0⟩:=x0;rw[hB]at ko kk_ eN ldw hln nem key;have ewt:wt=L.wait:=ldw rfl;obtain⟨c,u,ec,hc⟩:=nem rfl;left;refine cy (λσ' G'=>σ'=[rF na,rF ta,rF p1,some (.int (wt)),some (.str b),some (.bl L.go),some (.str (tx wy.t)),some (.str (tx nm)),rF l,rF po,rF pk,u11,u12]/\aj G G'/\G' po=some (.lst (owV (cB wt L.hd ((o0,q0)::B0))))/\G' pk=some (.lst (kpV (cB wt L.hd ((o0,q0)::B0))))) ?_ (λkey2=>?_)
     .rintro σ' G6 ⟨rfl,m6,ko6,kk6⟩;have lF:(cB wt L.hd ((o0,q0)::B0)).length<=8500:=hln;have ne6:(cB wt L.hd ((o0,q0)::B0)).isEmpty=false:=rfl;generalize cB wt L.hd ((o0,q0)::B0)=Fm at *;refine⟨_,rfl,?_⟩;dsimp only[bA];refine cy (λσ' G'=>∃b':Str,σ'=[rF na,rF ta,rF p1,some (.int (0)),some (.str b'),some (.bl L.go),some (.str (tx wy.t)),some (.str (tx nm)),rF l,rF po,rF pk,u11,u12]/\G6=G'/\decide (V.str b'=V.str (Iy "head"))=wy.hd) ?_ (λkey3=>?_)
      .rintro σ' G7 ⟨b',rfl,rfl,hb'⟩;have g6:=m6 _ _ g1;have dal6:aI (LkA (hid [p1] G6)) us dn:=dal.imp λ_ _=>LkA.mono (bg m6);refine⟨_,rfl,.inl ⟨rfl,_,SqL.of g6⟩,_,rfl,_,rfl,po,pk,rfl,rfl,⟨_,SqL.of ko6⟩,⟨_,SqL.of kk6⟩,FT (K:=K) (a:=po) (b:=pk) (xs:=owV Fm) (ys:=kpV Fm) (λj zs F=>aj G6 F/\aI (LkA F) zs (Fm.take j)) (by unfold owV kpV;rw[Iz,Iz]) ⟨aj.refl _,trivial⟩ (λj zs F _ z=>⟨SqL.of (z.1 _ _ ko6),SqL.of (z.1 _ _ kk6)⟩) ?_ ?_ ?_⟩
       .rintro j zs F hj ⟨_,z⟩;have:=z.len;rw[Jm]at this;exact IU (show zs.length<=1000000 by omega) (by decide)
       .rintro j x y' zs F pt ex ey ⟨mz,az⟩ hpt;unfold owV at ex;unfold kpV at ey;rw[Jc]at ex ey;obtain⟨d,hd,rfl⟩:=Option.map_eq_some_iff.mp ex;rw[hd]at ey;cases ey;have ct:=ai hpt (.tup [V.int d.1,V.bl d.2]);refine fE ?_;refine⟨_,rfl,_,rfl,le2,λp8 hp8=>?_⟩;have c8:=ct.trans (ai hp8 (.tup [V.int d.1,V.bl d.2]));refine⟨mz.trans c8,?_⟩;rw[aT hd];exact(az.imp λ_ _=>LkA.mono c8).snoc ⟨p8,rfl,ah⟩
       rintro zs F ⟨mz,az⟩ p9 hp9;rw[show(owV Fm).length=Fm.length by unfold owV;rw[Iz],IZ]at az;have lz:=az.len;have c9:=ai hp9 (.lst zs);have np9:p9≠p1:=λz=>by rw[z,mz _ _ g6]at hp9;cases hp9
       refine⟨_,_,_,_,rfl,rfl,c9 _ _ (mz _ _ g6),ah,Jj (IU (show us.length+zs.length<=3000000 by omega) (by decide)),?_⟩;have m9:=(m6.trans mz).trans c9;have hn1:∀{v:V}{x:Lk},LkA F v x->LkA (hid [p1] (upd F p9 (.lst zs))) v x:=λ{v x} h=>by
        obtain⟨a,e,h⟩:=h;exact⟨a,e,br (λz=>by rw[List.mem_singleton.mp z,mz _ _ g6]at h;cases h) (c9 _ _ h)⟩
       refine key _ _ ⟨b',us++zs,owV Fm,by rw[eN.1];rfl,by rw[hb',eN.2.1];rfl,aY (m.trans m9) hp1,ah,?_,by rw[IB];omega,?_,by rw[show(owV Fm).isEmpty=Fm.isEmpty by cases Fm<;>rfl,ne6];rfl⟩
       .rw[bH (by simp)];exact(dal6.imp λ_ _=>LkA.mono (bg (mz.trans c9))).app (az.imp λ_ _=>hn1)
       .rw[aq npp.1];exact(mz.trans c9) _ _ ko6
      .refine⟨_,rfl,_,_,c,rfl,rfl,(by rw[aV];cases wy<;>exact aW (by decide)),(by rw[ec];exact fP _ _),rfl,_,rfl,?_⟩
       rw[bP cH1,show decide ([c]=[61])=wy.hd from by rw[<-hc];simp];cases hh:wy.hd with
       |false =>
        right;refine key3 _ _ ⟨tx wy.t,rfl,rfl,?_⟩;rw[hh];refine decide_eq_false ?_;revert hh;cases wy<;>first|(intro z;cases z;done)|(intro _;decide +kernel)
       |true =>
        left;exact key3 _ _ ⟨(Iy "head"),rfl,rfl,by rw[hh];decide +kernel⟩
     .refine⟨_,rfl,_,_,rfl,rfl,_,rfl,?_⟩;refine eB (λw0=>?_) (λw0=>?_)
      .have w0:0<wt:=of_decide_eq_true w0;refine⟨_,rfl,_,rfl,_,_,_,0,rfl,rfl,ko,oo (by simp[owV]),?_⟩;have mu:=aY (o:=.lst ((owV ((o0,q0)::B0)).set 0 (.int wt))) m5 npo;refine key2 _ _ ⟨rfl,mu,?_,?_⟩
       .rw[ah];show some (HO.lst (.int wt::owV B0))=some (HO.lst (owV ((if 0<wt then(wt,q0)else(o0,L.hd||q0))::B0)));rw[if_pos w0];rfl
       .rw[aq (JH nok),kk_];show some (HO.lst (.bl q0::kpV B0))=some (HO.lst (kpV ((if 0<wt then(wt,q0)else(o0,L.hd||q0))::B0)));rw[if_pos w0];rfl
      .have w0:¬ (0<wt):=λz=>w0 (decide_eq_true z);have eF:cB wt L.hd ((o0,q0)::B0)=(o0,L.hd||q0)::B0:=by show(if 0<wt then _ else _)::_=_;rw[if_neg w0]
       rw[eF]at key2
       exists 1
       rw[hbh];cases hh:L.hd with
       |true =>
        left;refine⟨_,rfl,_,_,_,0,rfl,rfl,kk_,oo (by simp[kpV]),?_⟩;have mu:=aY (o:=.lst ((kpV ((o0,q0)::B0)).set 0 (.bl true))) m5 npk;refine key2 _ _ ⟨rfl,mu,?_,?_⟩
        .rw[aq nok,ko];rfl
        .rw[ah,hh];rfl
       |false =>
        right;exact key2 _ _ ⟨rfl,m5,ko,by rw[hh];exact kk_⟩
  .have rp:∀(x:V)(n:Nat),(IN ((n:Nat):Int).toNat [x]).flatten=IN n x:=λx n=>by rw[J0];exact ET x n
   have hta3:=mG _ _ (m _ _ hta)
   exists 1
   rw[bP jM];by_cases hw:wy=.words
   .refine iT (by rw[hw];rfl) ?_;subst hw;refine⟨le1,λq1 h1=>?_⟩
    exists h1,F1,d1,e1
    refine⟨_,rfl,_,_,_,rfl,rfl,e1,(by omega),(by omega),(by rw[J0];exact Jj (ay (by simp;omega))),λq2 h2=>?_⟩;rw[rp]
    exists h2,F2,d2,e2
    refine⟨le1,λq3 h3=>?_⟩
    exists h3,F3,d3,e3
    refine⟨_,rfl,_,_,_,rfl,rfl,e3,(by omega),(by omega),(by rw[J0];exact Jj (ay (by simp;omega))),λq4 h4=>?_⟩;rw[rp]
    exists h4,F4,d4,e4
    have e2:=(d3.trans d4) _ _ e2;have nq:q2≠q4:=λz=>by rw[<-z,d3 _ _ (by assumption)]at h4;cases h4
    have mm:=mG.trans (d1.trans (d2.trans (d3.trans d4)));have n2:G q2=none:=(mG.trans d1).free h2;have n4:G q4=none:=(mG.trans (d1.trans (d2.trans d3))).free h4;have fin:∀(G':Hp)(ld:Int),(sz ws≠0->ld=(if L.go then 0 else if L.hd then 1 else 2))->G' q2=some (.lst (owV (cN (sz ws) ld false)))->G' q4=some (.lst (IN (sz ws) (V.bl false)))->G' q2=some (.lst (owV (ldB tt L (.words,nm,ws))))/\G' q4=some (.lst (kpV (ldB tt L (.words,nm,ws)))):=λG' ld el z1 z2=>by
     have eb:ldB tt L (.words,nm,ws)=cN (sz ws) (if L.go then 0 else if L.hd then 1 else 2) false:=rfl;rw[z1,z2,eb];cases hs:sz ws with
     |zero=>exact⟨rfl,rfl⟩
     |succ n =>
      rw[<-el (by omega),cZ,JD];exact⟨rfl,by simp[kpV]⟩
    refine⟨_,rfl,_,_,rfl,rfl,_,rfl,?_⟩;by_cases hz:sz ws=0
    .refine iF (by omega) ?_;right;obtain⟨y1,y2⟩:=fin F4 0 (λc=>absurd hz c) (by rw[e2,hz];rfl) e4;exact key _ _ ⟨_,rfl,q2,q4,_,_,mm,n2,n4,nq,y1,y2⟩
    .rw[decide_eq_true (show(0:Int)<((sz ws:Nat):Int) by omega)];obtain⟨n,hn'⟩:∃n,sz ws=n+1:=⟨sz ws-1,by omega⟩;left;refine⟨_,rfl,_,rfl,?_⟩;cases hg:L.go with
     |true =>
      right;obtain⟨y1,y2⟩:=fin F4 0 (λ_=>by rw[hg];rfl) (by rw[e2,hn',cZ,JD];simp[owV]) e4;exact key _ _ ⟨_,rfl,q2,q4,_,_,mm,n2,n4,nq,y1,y2⟩
     |false =>
      left;refine⟨_,rfl,rfl,.inr ⟨_,rfl,_,_,rfl,rfl,_,rfl,_,_,_,0,rfl,rfl,e2,oo (by simp;omega),?_⟩⟩;rw[hbh];obtain⟨y1,y2⟩:=fin (upd F4 q2 (.lst ((IN (sz ws) (V.int 0)).set 0 (.int (2-(if L.hd=true then 1 else 0)))))) (2-(if L.hd=true then 1 else 0)) (λ_=>by rw[hg];cases L.hd<;>rfl) (by rw[ah,hn',cZ,JD];simp[owV]) (by rw[aq (JH nq)];exact e4)
      exact key _ _ ⟨_,rfl,q2,q4,_,_,aY mm n2,n2,n4,nq,y1,y2⟩
   .refine iF (λz=>hw (Wy.inj (b:=.words) z)) ?_
    exists 1
    rw[bP uD];by_cases hL:wy=.lst
    .refine iT (by rw[hL];rfl) ?_;subst hL;have ewt:ldW L.wait (.lst,nm,ws)=L.wait:=rfl;have el:(lsT 2 tt).length<=131*tt.length:=sC tt 2 tw;refine⟨_,rfl,_,_,rfl,.inl (SqL.of hta3),_,rfl,(by omega),(by omega),kC (λj σ' G'=>∃(u11 u12:Option V),σ'=[rF na,rF ta,rF p1,some (.int L.wait),some (.str b),some (.bl L.go),some (.str (tx (Wy.lst).t)),some (.str (tx nm)),rF l,rF p2,rF p3,u11,u12]/\aj G G'/\G' p2=some (.lst (owV (lsT 2 (tt.take j))))/\G' p3=some (.lst (kpV (lsT 2 (tt.take j))))) ⟨_,_,rfl,mG,k2,k3⟩ ?_ ?_⟩
     .rintro j σ' G4 hj ⟨u11,u12,rfl,m4,y2,y3⟩;rw[LM];have hjt:j<tt.length:=by simp at hj;omega
      obtain⟨t,ht⟩:∃t,tt[j]?=some t:=⟨tt[j],II hjt⟩;obtain⟨v,hv,tb,tl',rfl,htb,c5,c51,c52⟩:=tal.getR ht;have tw5:=tw t (IK ht);have lc5:=c52.len;have lw5:(wkS t.2).length=t.2.length:=by unfold wkS;rw[Iz]
      have sz5:=Ay t.2;have mo:=m.trans m4;have lj:(lsT 2 (tt.take j)).length<=8500:=by
       have:=sC (tt.take j) 2 λx hx=>tw x (List.mem_of_mem_take hx);rw[Jm]at this;omega
      refine⟨_,rfl,_,rfl,_,_,_,_,rfl,rfl,SqL.of (mo _ _ hta),bX hv,_,_,_,_,rfl,rfl,SqT.of (mo _ _ htb),rfl,tl',rfl,⟨_,SqL.of (mo _ _ c51)⟩,dS (K:=K) (a:=tl') (xs:=c5) (λj ys F=>G4=F/\ys.length=aO ((wkS t.2).take j)/\ys.length<=j) ⟨rfl,rfl,IM _⟩ (λj ys F _ z=>by rw[<-z.1];exact SqL.of (mo _ _ c51)) ?_ ?_ ?_⟩
      .rintro j ys F hj ⟨_,_,z⟩;exact ay (by omega)
      .rintro j y' ys F hy' ⟨rfl,z,zl⟩;obtain⟨w',hw',wb,rfl,hwb⟩:=c52.getL hy';have en:=ye hw';refine⟨_,rfl,_,_,_,_,rfl,rfl,SqT.of (mo _ _ hwb),rfl,rfl,_,rfl,?_⟩;by_cases hm:w'.1=.mark
       .refine nF (by rw[hm];rfl) ?_;exact⟨rfl,by rw[en,if_pos hm];exact z,by omega⟩
       .refine nT (λzz=>hm (Kw.inj (b:=.mark) (V.str.inj zz))) ?_;exact⟨_,rfl,rfl,by rw[en,if_neg hm,IB,z];rfl,by rw[IB];simp only[ID,Ja];omega⟩
      rintro zs5 F ⟨rfl,zq5,_⟩ q1 h1;rw[lc5,IZ]at zq5;have zq5:zs5.length=sz t.2:=zq5
      exists h1,F1,d1,e1
      have y2:=d1 _ _ y2;have y3:=d1 _ _ y3;refine⟨_,_,rfl,.inl (SqL.of e1),?_⟩;dsimp only[bA];rw[zq5];have eld:(2:Int)-(if decide ((0:Int)<((j:Nat):Int))=true then 1 else 0)=(if j=0 then 2 else 1):=by
       by_cases c:j=0
       .rw[if_pos c,decide_eq_false (by omega)];rfl
       .rw[if_neg c,decide_eq_true (by omega)];rfl
      refine⟨_,rfl,.inl ⟨rfl,_,SqL.of y2⟩,_,rfl,_,_,rfl,rfl,.inr ⟨_,rfl,_,_,rfl,rfl,le1,λq2 h2=>?_⟩⟩;dsimp only;rw[eld];generalize eld':(if j=0 then(2:Int)else 1)=ld at *
      exists h2,F2,d2,e2
      refine⟨le1,λq3 h3=>?_⟩
      exists h3,F3,d3,e3
      refine⟨_,rfl,_,_,rfl,rfl,_,_,_,rfl,rfl,e3,(by omega),(by omega),(by rw[show((sz t.2:Nat):Int)+1=((sz t.2+1:Nat):Int) by omega,J0];exact Jj (ay (by simp;omega))),λq4 h4=>?_⟩;rw[show((sz t.2:Nat):Int)+1=((sz t.2+1:Nat):Int) by omega,rp]
      exists h4,F4,d4,e4
      have e2:=(d3.trans d4) _ _ e2;refine⟨_,_,_,_,rfl,rfl,e2,e4,(by simp;exact Jj (ay (by omega))),λq5 h5=>?_⟩
      exists h5,F5,sZ,e5
      have d5:=d2.trans (d3.trans (d4.trans sZ));have m5:=m4.trans (d1.trans d5);have lo:(owV (lsT 2 (tt.take j))).length<=8500:=by unfold owV;rw[Iz];exact lj
      have lk_:(kpV (lsT 2 (tt.take j))).length<=8500:=by unfold kpV;rw[Iz];exact lj
      refine⟨_,_,_,_,rfl,rfl,d5 _ _ y2,e5,Jj (IU (show(owV (lsT 2 (tt.take j))).length+([V.int ld]++IN (sz t.2+1) (V.int 0)).length<=3000000 by simp;omega) (by decide)),?_⟩;have m6:=aY (o:=.lst (owV (lsT 2 (tt.take j))++([V.int ld]++IN (sz t.2+1) (V.int 0)))) m5 hp2;have z2:upd F5 p2 (.lst (owV (lsT 2 (tt.take j))++([V.int ld]++IN (sz t.2+1) (V.int 0)))) p2=some (.lst (owV (lsT 2 (tt.take j))++([V.int ld]++IN (sz t.2+1) (V.int 0)))):=ah;have z3:upd F5 p2 (.lst (owV (lsT 2 (tt.take j))++([V.int ld]++IN (sz t.2+1) (V.int 0)))) p3=some (.lst (kpV (lsT 2 (tt.take j)))):=by rw[aq (JH n23)];exact d5 _ _ y3
      generalize upd F5 p2 (.lst (owV (lsT 2 (tt.take j))++([V.int ld]++IN (sz t.2+1) (V.int 0))))=F6 at m6 z2 z3⊢;refine⟨_,rfl,.inl ⟨rfl,_,SqL.of z3⟩,le1,λq6 h6=>?_⟩
      exists h6,F7,d6,e6
      refine⟨_,rfl,_,_,rfl,rfl,_,_,_,rfl,rfl,e6,(by omega),(by omega),(by rw[show((sz t.2:Nat):Int)+2=((sz t.2+2:Nat):Int) by omega,J0];exact Jj (ay (by simp;omega))),λq7 h7=>?_⟩;rw[show((sz t.2:Nat):Int)+2=((sz t.2+2:Nat):Int) by omega,rp]
      exists h7,F8,sZ,e7
      have d7:=d6.trans sZ;refine⟨_,_,_,_,rfl,rfl,d7 _ _ z3,e7,Jj (IU (show(kpV (lsT 2 (tt.take j))).length+(IN (sz t.2+2) (V.bl false)).length<=3000000 by simp;omega) (by decide)),?_⟩;refine⟨_,_,rfl,aY (m6.trans d7) n3,?_,?_⟩
      .rw[aq n23,d7 _ _ z2,tO ht,ER,cZ,eld'];simp[owV]
      .rw[ah,tO ht,ES,cZ];simp[kpV,JD]
     .rintro σ' G4 ⟨u11,u12,rfl,m4,y2,y3⟩;rw[show LS ((tv.length:Nat):Int)=tt.length by rw[lt];exact J0 _,IZ]at y2 y3;exact key _ _ ⟨_,rfl,p2,p3,_,_,m4,hp2,n3,n23,y2,y3⟩
    .refine iF (λz=>hL (Wy.inj (b:=.lst) z)) ?_
     exists 1
     rw[show(!decide (V.str (tx wy.t)=V.str (Iy ""))) = !decide (wy=.empty)from by
      rw[bP nu];cases wy<;>decide]
     have eE:wy.hd=false->ldB tt L (wy,nm,ws)=[]:=λz=>by
      unfold ldB;rw[if_neg hw,if_neg hL,if_neg (by rw[z];decide)]
     have pw:(decide (wy=.page)||decide (wy=.odd))=false->ldW L.wait (wy,nm,ws)=L.wait:=λz=>by
      rw[Lg,decide_eq_false_iff_not,decide_eq_false_iff_not]at z;unfold ldW;rw[if_neg z.1,if_neg z.2]
     have pv_:(decide (wy=.page)||decide (wy=.odd))=true->ldW L.wait (wy,nm,ws)=(if 3+(if decide (V.str (tx wy.t)=V.str (Iy ".odd"))=true then 1 else 0)>L.wait then 3+(if decide (V.str (tx wy.t)=V.str (Iy ".odd"))=true then 1 else 0)else L.wait):=λz=>by
      rw[bP Ar];unfold ldW;cases wy<;>first|(cases z;done)|rfl
     cases hh:wy.hd with
     |false =>
      by_cases he:wy=.empty
      rotate_left
      rw[decide_eq_false he];left;obtain⟨c,u,ec,hc⟩:∃c u,wy.t=c::u/\decide (c=61)=wy.hd:=by
       cases wy<;>first|exact⟨_,_,rfl,rfl⟩|exact absurd rfl he
      refine⟨_,rfl,_,_,c,rfl,rfl,(by rw[aV];cases wy<;>exact aW (by decide)),(by rw[ec];exact fP _ _),rfl,_,rfl,?_⟩
      rw[bP cH1,show decide ([c]=[61])=false from by rw[<-hh,<-hc];simp];right
      rotate_left
      rw[decide_eq_true he];right;right
      all_goals
       refine⟨_,rfl,le2,λq5 h5=>?_⟩;have d5:=mG.trans (ai h5 (.tup [V.str (Iy ".page"),V.str (Iy ".odd")]));have y2:upd G3 q5 (.tup [V.str (Iy ".page"),V.str (Iy ".odd")]) p2=some (.lst []):=ai h5 _ _ _ k2;have y3:upd G3 q5 (.tup [V.str (Iy ".page"),V.str (Iy ".odd")]) p3=some (.lst []):=ai h5 _ _ _ k3;refine⟨_,_,rfl,.inr (SqT.of ah),rfl,rfl,_,rfl,?_⟩;rw[Iu];cases hpo:(decide (wy=.page)||decide (wy=.odd))with
       |false =>
        right;exact key _ _ ⟨_,(pw hpo).symm,p2,p3,_,_,d5,hp2,n3,n23,by rw[eE hh];exact y2,by rw[eE hh];exact y3⟩
       |true =>
        left;refine⟨_,rfl,_,rfl,rfl,.inr ⟨_,rfl,_,_,rfl,rfl,_,_,rfl,?_⟩⟩;exact key _ _ ⟨_,(pv_ hpo).symm,p2,p3,_,_,d5,hp2,n3,n23,by rw[eE hh];exact y2,by rw[eE hh];exact y3⟩
     |true =>
      have he:wy≠.empty:=λz=>by rw[z]at hh;cases hh
      rw[decide_eq_false he];left;obtain⟨c,u,ec,hc⟩:∃c u,wy.t=c::u/\decide (c=61)=wy.hd:=by
       cases wy<;>first|exact⟨_,_,rfl,rfl⟩|exact absurd rfl he
      refine⟨_,rfl,_,_,c,rfl,rfl,(by rw[aV];cases wy<;>exact aW (by decide)),(by rw[ec];exact fP _ _),rfl,_,rfl,?_⟩
      rw[bP cH1,show decide ([c]=[61])=true from by rw[<-hh,<-hc];simp];left;have eb:ldB tt L (wy,nm,ws)=(2,false)::IN (sz ws) (0,true):=by
       unfold ldB;rw[if_neg hw,if_neg hL,if_pos hh,Mm,cZ]
      have ewt:ldW L.wait (wy,nm,ws)=L.wait:=by
       unfold ldW;rw[if_neg (λz=>by rw[show wy=.page from z]at hh;cases hh),if_neg (λz=>by rw[show wy=.odd from z]at hh;cases hh)]
      refine⟨le1,λq1 h1=>?_⟩
      exists h1,F1,d1,e1
      refine⟨le1,λq2 h2=>?_⟩
      exists h2,F2,d2,e2
      have e1:=d2 _ _ e1;refine⟨_,rfl,_,_,_,rfl,rfl,e2,(by omega),(by omega),(by rw[J0];exact Jj (ay (by simp;omega))),λq3 h3=>?_⟩;rw[rp]
      exists h3,F3,d3,e3
      have e1:=d3 _ _ e1;refine⟨_,_,_,_,rfl,rfl,e1,e3,(by simp;exact Jj (ay (by omega))),λq4 h4=>?_⟩
      exists h4,F4,d4,e4
      have m4:=mG.trans (d1.trans (d2.trans (d3.trans d4)));have n4:G q4=none:=(mG.trans (d1.trans (d2.trans d3))).free h4;refine⟨le1,λq5 h5=>?_⟩
      exists h5,F5,d5,e5
      refine⟨le1,λq6 h6=>?_⟩
      exists h6,F6,d6,e6
      have e5:=d6 _ _ e5;refine⟨_,rfl,_,_,_,rfl,rfl,e6,(by omega),(by omega),(by rw[J0];exact Jj (ay (by simp;omega))),λq7 h7=>?_⟩;rw[rp]
      exists h7,F7,d7,e7
      have e5:=d7 _ _ e5;refine⟨_,_,_,_,rfl,rfl,e5,e7,(by simp;exact Jj (ay (by omega))),λq8 h8=>?_⟩;have d8:=ai h8 (.lst ([V.bl false]++IN (sz ws) (V.bl true)));have mz:=d5.trans (d6.trans (d7.trans d8));have n8:G q8=none:=(m4.trans (d5.trans (d6.trans d7))).free h8;refine key _ _ ⟨_,ewt.symm,q4,q8,_,_,m4.trans mz,n4,n8,λz=>?_,?_,?_⟩
      .rw[<-z,(d5.trans (d6.trans d7)) _ _ e4]at h8;cases h8
      .rw[mz _ _ e4,eb];simp[owV]
      .rw[ah,eb];simp[kpV]
 rintro σ' G ⟨L,b,v6,v7,v8,v9,v10,v11,v12,us,dn,hbh,m,g1,dal,es,ul⟩;rw[ln,Kk]at es;have es:fJ tt ld0 named=dn:=by rw[es];exact IY _
 exact⟨_,rfl,q p1 G us hp1 m g1 (by rw[es];exact dal.imp λ_ _=>LkA.mono bJ)⟩
inductive yW(K:IC)(vs:List V)(H:Hp)(Q:VK)(x_1:XK):Prop
 |mk(sa ma:Addr)(sv:List V)(ss:List Sw)(tt:List Ttl)(_:vs=[.ref sa,.ref ma])(_:H sa=some (.lst sv))(_:aI (SwA H) sv ss)(_:H ma=some (.dK (mkV (bv (ss.map (bK tt)) 0))))(_:((bv (ss.map (bK tt)) 0).map (·.1)).Nodup)(_:∀H',aj H H'->Q (.bl true) H')
theorem f_:aN ["stream","marks","at","many","kind","rest"] ["stream","marks"] (aw (top 75)):=by walk_at "c"
theorem yX(T:Txt P w K mg a):bi P w K mg base CX0 6 a.pM a.nQ ["stream","marks"] (yW K):=by
 exists T.pG.fn.ok,f_
 obtain⟨sa,ma,sv,ss,tt,rfl,hsa,sal,hma,nd,q⟩:=h
 exists (ae (av (i:=2) f_.nd rfl (IP rfl) ag)
   (ae (av (i:=3) f_.nd rfl (IP rfl) ag)
   (ae (bY Jq rfl (bj (pv 0)) (dD rfl (aU (aJ (i:=4) f_.nd rfl (IP rfl)) (aU (aJ (i:=5) f_.nd rfl (IP rfl)) cQ))) (af (aG (ao dZ (pv 4) am (nomark _)) (af (av (i:=2) f_.nd rfl (IP rfl) (aH bS (pv 2) ag))) (af (aG (PW.pt (eP (ao (kR (eR hr)) (pv 5) (pv 1) (by with_unfolding_all rfl)) (fS (fC (cz (aC T.f8 (lJ T) (hM hr) rfl (aa (jY (eR hr) (pv 1) (pv 5) (λ_ _=>rfl)) (aa (pv 2) ac))) (λ_=>rfl)))))) (af (aM cC)) (af (av (i:=3) f_.nd rfl (IP rfl) (aH bS (pv 3) ag))))))))
   (af (aM (dL bn (aF By rfl T.bG Jg (aa (pv 1) ac)) (pv 3) (nomark _)))))))
 have lu:=sal.len;have lw_:(ss.map (bK tt)).length=ss.length:=Iz _;generalize hws:ss.map (bK tt)=ws at *;refine⟨_,rfl,sa,rfl,⟨_,SqL.of hsa⟩,bZ (K:=K) (a:=sa) (xs:=sv) (λi σ' G=>G=H/\∃(v4 v5:Option V),σ'=[rF sa,rF ma,some (.int ((aO (ws.take i):Nat):Int)),some (.int (((bv (ws.take i) 0).length:Nat):Int)),v4,v5]) ⟨rfl,none,none,rfl⟩ (λi σ' G _ g=>by rw[g.1];exact SqL.of hsa) ?_ ?_⟩
 .rintro i y σ' G hy ⟨rfl,v4,v5,rfl⟩;obtain⟨s,hs',b,rfl,hb⟩:=sal.getL hy;have hw:ws[i]?=some (bK tt s):=by rw[<-hws,Jc,hs'];rfl
  obtain⟨w,hww⟩:∃w,w=bK tt s:=⟨_,rfl⟩;rw[<-hww]at hw;have hmm:w.1=.mark↔s.isM=true:=by rw[hww];exact j7 tt s
  have ec:=Cf (ws.take i) w;have em:=iu (ws.take i) [w] 0;rw[<-aT hw]at ec em;refine⟨b,_,rfl,SqT.of hb,rfl,_,_,rfl,_,_,rfl,rfl,?_⟩
  exists 1
  by_cases hm:w.1=.mark
  .refine nF (congrArg V.str (Sw.mark_k.mpr (hmm.mp hm))) ?_;have at1:=EQ hw hm nd;obtain⟨n,hn,er⟩:∃n:List Nat,s.v=.str (tx n)/\rest w.2=tx n:=by
    cases s with
    |w x=>exact⟨x.2,rfl,by rw[hww];rfl⟩
    |head k=>exact absurd (hmm.mp hm) (show ¬ (false=true) by decide)
    |entry k=>exact absurd (hmm.mp hm) (show ¬ (false=true) by decide)
    |goal k=>exact absurd (hmm.mp hm) (show ¬ (false=true) by decide)
   rw[er]at at1;have hg:fD G ma (kV (.inr (tx n))) (some (.int ((aO (ws.take i):Nat):Int))):=by
    have:=fD.k (k:=.inr (tx n)) hma;rw[j6,at1]at this;exact this
   have hg':=hg;change fD G ma (.str (tx n)) _ at hg';rw[<-hn]at hg';refine⟨_,rfl,_,rfl,_,_,rfl,hg',_,rfl,?_⟩;right;refine⟨_,rfl,_,rfl,_,_,rfl,hg',_,rfl,.int ((aO (ws.take i):Nat):Int),_,_,rfl,(by show 0<5;decide),rfl,rfl,_,rfl,?_⟩;right;refine⟨_,rfl,_,_,rfl,rfl,rfl,some (.str s.k),some s.v,?_⟩;have e1:(bv (ws.take (i+1)) 0).length=(bv (ws.take i) 0).length+1:=by
    rw[em,IB];show _+(if w.1=.mark then _ else _:List (Str×Nat)).length=_;rw[if_pos hm];rfl
   rw[ec,e1,if_pos hm];rfl
  .refine nT (λzz=>hm (hmm.mpr (Sw.mark_k.mp (V.str.inj zz)))) ?_;refine⟨_,rfl,_,_,rfl,rfl,rfl,some (.str s.k),some s.v,?_⟩;have e1:(bv (ws.take (i+1)) 0).length=(bv (ws.take i) 0).length:=by
    rw[em,IB];show _+(if w.1=.mark then _ else _:List (Str×Nat)).length=_;rw[if_neg hm];rfl
   rw[ec,e1,if_neg hm];rfl
 rintro σ' G ⟨rfl,v4,v5,rfl⟩;rw[lu,<-lw_,IZ];refine⟨_,rfl,_,_,rfl,hma,_,rfl,rfl,?_⟩;rw[u6,decide_eq_true rfl];exact q _ (aj.refl _)

def i7(c:Int):List Nat:=(b7 c 60 26).toNat::(Kj (b7 c 57 10).toNat).map λ(k:Nat)=>(b7 c (61+(k:Int)) 36).toNat
def l7(c:Int):Nat:=1+(b7 c 58 (1+b7 c 57 10)).toNat
def gG(c:Int)(j:Nat):List Nat:=(nmB (i7 c) (l7 c) j).map al
theorem AB(c:Int):tK (i7 c) (l7 c):=by
 have h1:=eS c 57 (show(0:Int)<10 by decide);have h2:=eS c 58 (show(0:Int)<1+b7 c 57 10 by omega);have h3:=eS c 60 (show(0:Int)<26 by decide);refine⟨?_,?_,?_,?_,?_⟩
 .unfold i7;simp only[ID,Iz,JJ];omega
 .intro b hb;have:b=(b7 c 60 26).toNat:=by simpa[i7]using hb.symm
  omega
 .intro b hb;rcases List.mem_cons.mp hb with rfl|hb
  .omega
  .obtain⟨k,_,rfl⟩:=List.mem_map.mp hb;have:=eS c (61+(k:Int)) (show(0:Int)<36 by decide);omega
 .unfold l7;omega
 .unfold l7 i7;simp only[ID,Iz,JJ];omega
theorem HC(c:Int):NmF (gG c):=(AB c).nmF

inductive Cg(vs:List V)(H:Hp)(Q:VK)(x_1:XK):Prop
 |mk(c:Int)(j:Nat)(_:vs=[.int c,.int (j:Int)])(_:∀H',aj H H'->Q (.str (tx (gG c j))) H')
theorem kJ:aN ["cell","j","some","size","base","at"] ["cell","j"] (aw (top 63)):=by walk_at "c"
theorem qP(T:Txt P w K mg a):bi P w K mg base CX0 2 a.t0 a.rW ["cell","j"] Cg:=by
 exists T.mh.fn.ok,kJ
 obtain⟨c,j,rfl,q⟩:=h
 exists (ae (av (i:=2) kJ.nd rfl (Or.inr rfl) am)
   (ae (av (i:=3) kJ.nd rfl (IP rfl) (aH bS ag (aC T.b8 (bV T) (hM hr) rfl (aa (pv 0) (aa ag (aa ag ac))))))
   (ae (av (i:=4) kJ.nd rfl (IP rfl) (aH de (aB eu (pv 2) (aC T.b8 (bV T) (hM hr) rfl (aa (pv 0) (aa ag (aa ag ac)))) (λ_ _=>rfl)) (b_ Kd KL KM og am (aa (gc rfl (eW (caps:=["cell","some"]) (js:=[0,2]) (cap:=⟨⟨rfl,.inl rfl,rfl,.inl rfl⟩,⟨⟨rfl,.inl rfl,rfl,.inl rfl⟩,trivial⟩⟩)) (kA rfl T.eU (aa (aH kD (pv 3) ag) ac)) (λ_ _ _ _=>dM) (λ_ _ _ _=>(aB eu (pv 2) (aC T.b8 (bV T) (hM hr) rfl (aa (pv 1) (aa (aH bS ag (pv 0)) (aa ag ac)))) (λ_ _=>rfl)))) ac))))
   (ae (av (i:=5) kJ.nd rfl (IP rfl) (aH bS ag (aC T.b8 (bV T) (hM hr) rfl (aa (pv 0) (aa ag (aa (pv 3) ac))))))
   (af (aM (aH de (aH de (aH de (dR kH (pv 4) fN (eQ (pv 5))) (aB eu (pv 2) (aH n9 (aH zc (pv 1) ag) ag) (λ_ _=>rfl))) (aB eu (pv 2) (aH n9 (pv 1) ag) (λ_ _=>rfl))) (dR kH (pv 4) (eQ (pv 5)) fN))))))))
 generalize hS:(Iy "abcdefghijklmnopqrstuvwxyz0123456789")=S;have hat:∀k:Nat,k<36->atI S.cps.toList (k:Int)=some (al k):=hS▸EL;have hSl:S.length<=I0:=hS▸aW (by decide +kernel);have h1:=eS c 57 (show(0:Int)<10 by decide);have h2:=eS c 58 (show(0:Int)<1+b7 c 57 10 by omega);have h3:=eS c 60 (show(0:Int)<26 by decide);refine⟨_,rfl,_,57,10,rfl,⟨by decide,by decide⟩,by decide,_,_,rfl,rfl,?_⟩;dsimp only[bA];have e60:b7 c 60 26=((b7 c 60 26).toNat:Int):=by omega
 refine⟨_,rfl,_,rfl,_,60,26,rfl,⟨by decide,by decide⟩,by decide,_,_,al (b7 c 60 26).toNat,rfl,rfl,hSl,(by rw[e60];exact hat _ (by omega)),rfl,_,rfl,_,_,rfl,rfl,_,rfl,by omega,by omega,tz (λi ys G=>G=H/\ys=(((Kj i).map λ(k:Nat)=>al (b7 c (61+(k:Int)) 36).toNat).map λd=>tx [d]).map V.str) ⟨rfl,rfl⟩ ?_ ?_ ?_⟩
 .rintro i ys G hi ⟨_,rfl⟩;simp only[Iz,JJ];exact ay (by omega)
 .rintro i ys G hi ⟨rfl,rfl⟩;refine fE ?_;have h4:=eS c (61+(i:Int)) (show(0:Int)<36 by decide);have e4:b7 c (61+(i:Int)) 36=((b7 c (61+(i:Int)) 36).toNat:Int):=by omega
  refine⟨_,rfl,_,rfl,_,rfl,_,_,rfl,rfl,c,61+(i:Int),36,(by rw[LM];rfl),⟨by omega,by omega⟩,by decide,_,_,al (b7 c (61+(i:Int)) 36).toNat,rfl,rfl,hSl,(by rw[e4];exact hat _ (by omega)),rfl,?_⟩;rw[Md,IJ,IJ,IJ];rfl
 rintro ys G ⟨rfl,rfl⟩ p hp;have en:(1+b7 c 57 10-1).toNat=(b7 c 57 10).toNat:=by omega
 rw[en];have hb:(al (b7 c 60 26).toNat::((Kj (b7 c 57 10).toNat).map λ(k:Nat)=>al (b7 c (61+(k:Int)) 36).toNat))=(i7 c).map al:=by
  unfold i7;rw[IQ,Ki];rfl
 have bl:(i7 c).length=1+(b7 c 57 10).toNat:=by unfold i7;simp only[ID,Iz,JJ];omega
 refine⟨_,_,_,rfl,rfl,SqL.of ah,by decide,by simp only[va,Iz,JJ];omega,_,_,rfl,rfl,(by rw[ej1,aV,aV];simp only[Iz,JJ,ID,Ja];exact Jj (ay (by omega))),?_⟩;dsimp only[bA];rw[ej1,eZ,List.singleton_append,hb];have s1:=ai hp (.lst ((((Kj (b7 c 57 10).toNat).map λ(k:Nat)=>al (b7 c (61+(k:Int)) 36).toNat).map λd=>tx [d]).map V.str));generalize upd G p _=G1 at s1⊢;refine⟨_,rfl,_,rfl,c,58,1+b7 c 57 10,rfl,⟨by decide,by decide⟩,by omega,_,_,rfl,rfl,?_⟩;dsimp only[bA];have ea:1+b7 c 58 (1+b7 c 57 10)=((l7 c:Nat):Int):=by unfold l7;omega
 rw[ea];have la:l7 c<=(i7 c).length:=(AB c).hi;have l10:=(AB c).len;have q1:(j:Int)/36%36=((j/36%36:Nat):Int):=by omega
 have q2:(j:Int)%36=((j%36:Nat):Int):=by omega
 have sl1:Txt.slice (tx ((i7 c).map al)) none (some ((l7 c:Nat):Int))=tx (((i7 c).take (l7 c)).map al):=by rw[f9,Tl.cut_to,List.map_take]
 have sl2:Txt.slice (tx ((i7 c).map al)) (some ((l7 c:Nat):Int)) none=tx (((i7 c).drop (l7 c)).map al):=by rw[f9,Tl.cut_from,List.map_drop]
 have hla:((i7 c).map al).length<=10:=by rw[Iz];exact l10
 have LN:(tx ((i7 c).map al)).length<=I0:=by rw[aV];exact Jj (ay (by omega))
 refine⟨_,rfl,_,rfl,_,rfl,_,rfl,LN,_,rfl,_,rfl,_,_,rfl,rfl,⟨by decide,by decide⟩,_,_,rfl,rfl,(by (first|decide|(show(0:Int)<_;first|decide|omega))),_,_,al (j/36%36),rfl,rfl,hSl,(by rw[q1];exact hat _ (MS _ (by decide))),_,_,rfl,rfl,(by rw[sl1,aV];simp only[Iz,Jm];exact Jj (ay (by show min _ _+1<=1000;omega))),_,rfl,_,rfl,_,_,rfl,rfl,(by (first|decide|(show(0:Int)<_;first|decide|omega))),_,_,al (j%36),rfl,rfl,hSl,(by rw[q2];exact hat _ (MS _ (by decide))),_,_,rfl,rfl,?_,_,rfl,_,rfl,_,rfl,_,rfl,LN,_,_,rfl,rfl,?_,?_⟩
 .rw[sl1];show(tx _++tx [_]).length+1<=_;rw[eZ,aV];simp only[IB,Iz,Jm,ID,Ja];exact Jj (ay (by omega))
 .rw[sl1,sl2];show((tx _++tx [_])++tx [_]).length+_<=_;rw[eZ,eZ,aV,aV];simp only[IB,Iz,Jm,Lh,ID,Ja];exact Jj (ay (by omega))
 .rw[sl1,sl2];show Q (.str (((tx _++tx [_])++tx [_])++tx _)) G1;rw[eZ,eZ,eZ];have:=q G1 s1;unfold gG nmB at this;rw[IJ,IJ,IJ]at this;exact this
def AC:List Nat:=[33,34,35,36,38,39,40,41,42,43,44,45,46,47,48,49,50,51,52,53,54,55,56,57,58,59,60,61,62,63,64,65,66,67,68,69,70,71,72,73,74,75,76,77,78,79,80,81,82,83,84,85,86,87,88,89,90,91,92,93,94,95,96,97,98,99,100,101,102,103,104,105,106,107,108,109,110,111,112,113,114,115,116,117,118,119,120,121,122,123,124,125,126]
def oA(c k:Int):Nat:=AC.getD (b7 c k 93).toNat 0
theorem Go:∀k:Nat,k<93->32<AC.getD k 0/\AC.getD k 0<127:=by decide +kernel
theorem vT(c k:Int):32<oA c k/\oA c k<127:=by
 have:=eS c k (show(0:Int)<93 by decide);exact Go _ (by omega)
inductive yf(vs:List V)(H:Hp)(Q:VK)(x_1:XK):Prop
 |mk(c k:Int)(_:vs=[.int c,.int k])(_:0<=k/\k<=100000)(_:Q (.str (tx [oA c k])) H)
theorem qQ:aN ["cell","k","some"] ["cell","k"] (aw (top 60)):=by walk_at "c"
theorem qR(T:Txt P w K mg a):bi P w K mg base CX0 2 a.nK a.mH ["cell","k"] yf:=by
 exists T.kz.fn.ok,qQ
 obtain⟨c,k,rfl,hk,q⟩:=h
 exists (ae (av (i:=2) qQ.nd rfl (IP rfl) am)
   (af (aM (aB eu (pv 2) (aC T.b8 (bV T) (hM hr) rfl (aa (pv 0) (aa (pv 1) (aa ag ac)))) (λ_ _=>rfl)))))
 have b:=eS c k (show(0:Int)<93 by decide);obtain⟨d,hd⟩:=Int.eq_ofNat_of_zero_le b.1;have e:∀j:Nat,j<93->atI (Iy "!\"#$&'()*+,-./0123456789:;<=>?@ABCDEFGHIJKLMNOPQRSTUVWXYZ[\\]^_`abcdefghijklmnopqrstuvwxyz{|}~").cps.toList (j:Int)=some (AC.getD j 0):=by decide +kernel
 refine⟨_,rfl,_,rfl,_,rfl,c,k,93,rfl,hk,by decide,_,_,oA c k,rfl,rfl,aW (by decide +kernel),?_,q⟩;rw[hd];have:=e d (by omega);rw[this];unfold oA;rw[hd];rfl

def plP:List (List Nat):=[[46,112,97,103,101],[46,108,101,116],[61],[61,61],[61,61,61],[35,97,98],[38,120,49],[33],[33,33],[91,97,98],[124],[93],[36,49],[126,97],[64],[94,48]]
theorem Gp:∀w∈plP,w≠[]/\w.length<=60/\∀d∈w,33<=d/\d<127:=by decide
theorem cP:[V.str (Iy ".page"),V.str (Iy ".let"),V.str (Iy "="),V.str (Iy "=="),V.str (Iy "==="),V.str (Iy "#ab"),V.str (Iy "&x1"),V.str (Iy "!"),V.str (Iy "!!"),V.str (Iy "[ab"),V.str (Iy "|"),V.str (Iy "]"),V.str (Iy "$1"),V.str (Iy "~a"),V.str (Iy "@"),V.str (Iy "^0")]=(plP.map tx).map V.str:=by decide +kernel
theorem HD(c:Nat):Txt.mul (tx [c]) 60=tx (IN 60 c):=(BE [c] 60).trans (by rw[tM])
theorem EU(c:Nat):MulOk (tx [c]) 60:=sO (n:=60) (by omega) (by simp)

inductive wx(vs:List V)(H:Hp)(Q:VK)(x_1:XK):Prop
 |mk(c:Int)(_:vs=[.int c])(_:∀l H',Dw l->aj H H'->Q (.str (tx l)) H')
theorem kT:aN ["cell","some","way"] ["cell"] (aw (top 64)):=by walk_at "c"
theorem wz(T:Txt P w K mg a):bi P w K mg base CX0 3 a.mw a.li ["cell"] wx:=by
 exists T.mi.fn.ok,kT
 obtain⟨c,rfl,q⟩:=h
 exists (@ae _ _ _ _ _ (@DZ _ 1 _ _ _ _ _ _ kT.nd rfl (IP rfl) (CL.str (CL.str (CL.str (CL.str (CL.str (CL.str (CL.str (CL.str (CL.str (CL.str (CL.str (CL.str (CL.str (CL.str (CL.str (CL.str CL.nil)))))))))))))))) (by first|exact .inl rfl|exact .inr rfl))
   (@ae _ _ _ _ _ (av (i:=2) kT.nd rfl (IP rfl) (aC T.b8 (bV T) (hM hr) rfl (@aa _ _ _ _ _ (pv 0) (@aa _ _ _ _ _ ag (@aa _ _ _ _ _ ag ac (by rfl)) (by rfl)) (by rfl))))
   (@ae _ _ _ _ _ (@aG _ _ _ _ _ _ _ _ (ao bn (pv 2) ag (nomark _)) (@af _ _ _ (@aM _ _ _ _ (@aB _ _ _ _ _ _ _ bC (pv 1) (aC T.b8 (bV T) (hM hr) rfl (@aa _ _ _ _ _ (pv 0) (@aa _ _ _ _ _ ag (@aa _ _ _ _ _ ag ac (by rfl)) (by rfl)) (by rfl))) (λ_ _=>rfl)))) aE)
   (@ae _ _ _ _ _ (@aG _ _ _ _ _ _ _ _ (ao bn (pv 2) ag (nomark _)) (@af _ _ _ (@aM _ _ _ _ (aH oP (aC T.kz (qR T) (hM hr) rfl (@aa _ _ _ _ _ (pv 0) (@aa _ _ _ _ _ ag ac (by rfl)) (by rfl))) ag))) aE)
   (@af _ _ _ (@aM _ _ _ _ (b_ Kd KL KM og am (@aa _ _ _ _ _ (gc rfl (eW (caps:=["cell"]) (js:=[0]) (cap:=⟨⟨rfl,.inl rfl,rfl,.inl rfl⟩,trivial⟩)) (kA rfl T.eU (@aa _ _ _ _ _ (aH bS ag (aC T.b8 (bV T) (hM hr) rfl (@aa _ _ _ _ _ (pv 0) (@aa _ _ _ _ _ ag (@aa _ _ _ _ _ ag ac (by rfl)) (by rfl)) (by rfl)))) ac (by rfl))) (λ_ _ _ _=>dM) (λ_ _ _ _=>(aC T.kz (qR T) (hM hr) rfl (@aa _ _ _ _ _ (pv 1) (@aa _ _ _ _ _ (aH bS ag (pv 0)) ac (by rfl)) (by rfl))))) ac (by rfl)))))))))
 refine⟨aW (by simp),λp1 hp1=>?_⟩
 exists hp1,H1,s1,kZ
 have k1:H1 p1=some (.lst ((plP.map tx).map V.str)):=by rw[kZ,cP]
 refine⟨_,rfl,_,3,10,rfl,⟨by decide,by decide⟩,by decide,?_⟩
 exists 1
 refine eB (λ_=>?_) (λ_=>?_)
 .obtain⟨n,en,hn⟩:=j9 c 4 (show 0<16 by decide);have en:b7 c 4 16=(n:Int):=en;obtain⟨w,hw⟩:∃w,plP[n]?=some w:=⟨plP[n],II hn⟩;obtain⟨o1,o2,o3⟩:=Gp w (IK hw);exact⟨_,rfl,_,rfl,_,4,16,rfl,⟨by decide,by decide⟩,by decide,_,_,_,_,rfl,rfl,SqL.of k1,(by rw[en];exact bX (by rw[Jc,Jc,hw];rfl)),q w _ ⟨o1,o2,o3⟩ s1⟩
 dsimp only[cY]
 exists 1
 refine eB (λ_=>?_) (λ_=>?_)
 .have sg:=vT c 5;refine⟨_,rfl,c,5,rfl,⟨by decide,by decide⟩,_,_,rfl,rfl,EU _,?_⟩
  .rw[HD];exact q _ _ ⟨by simp,by simp,λd hd=>by rw[List.eq_of_mem_replicate hd];omega⟩ s1
 dsimp only[cY];have h6:=eS c 6 (show(0:Int)<5 by decide);refine⟨rfl,_,rfl,_,6,5,rfl,⟨by decide,by decide⟩,by decide,_,_,rfl,rfl,_,rfl,by omega,by omega,tz (λi ys G=>G=H1/\ys=(((Kj i).map λ(k:Nat)=>oA c (10+(k:Int))).map λd=>tx [d]).map V.str) ⟨rfl,rfl⟩ ?_ ?_ ?_⟩
 .rintro i ys G hi ⟨_,rfl⟩;simp only[Iz,JJ];exact ay (by omega)
 .rintro i ys G hi ⟨rfl,rfl⟩;refine fE ?_;refine⟨_,rfl,_,rfl,_,_,rfl,rfl,c,10+(i:Int),(by rw[LM];rfl),⟨by omega,by omega⟩,rfl,?_⟩;rw[Md,IJ,IJ,IJ];rfl
 rintro ys G ⟨rfl,rfl⟩ p hp;refine⟨_,_,_,rfl,rfl,SqL.of ah,by decide,by simp only[va,Iz,JJ];omega,?_⟩;rw[ej1];refine q _ _ ⟨?_,?_,?_⟩ (s1.trans (ai hp _))
 .intro z;have:=congrArg LF z;simp only[Iz,JJ,Ja]at this;omega
 .simp only[Iz,JJ];omega
 .intro d hd;obtain⟨k,_,rfl⟩:=List.mem_map.mp hd;have:=vT c (10+(k:Int));omega
inductive Ch(vs:List V)(H:Hp)(Q:VK)(x_1:XK):Prop
 |mk(f cell:Int)(k:Kw)(at_ marks feet:Nat)(_:vs=[.int f,.str k.s,.int cell,.int (at_:Int),.int (marks:Int),.int (feet:Int)])(_:k≠.entry)(_:∀p H' w,H p=none->aj H H'->H' p=some (.tup [.str w.1.s,.str (tx w.2)])->WdG (gG f) k at_ marks feet w->Q (.ref p) H')
theorem iy:aN ["first","kind","cell","at","marks","feet","many","rest"] ["first","kind","cell","at","marks","feet"] (aw (top 66)):=by walk_at "c"
theorem Ci(T:Txt P w K mg a):bi P w K mg base CX0 4 a.uc a.r9 ["first","kind","cell","at","marks","feet"] Ch:=by
 exists T.tX.fn.ok,iy
 obtain⟨f,cell,k,at_,marks,feet,rfl,ke,q⟩:=h
 exists (ae (av (i:=6) iy.nd rfl (IP rfl) (pv 4))
   (ae (aG (ao bn (pv 1) am (nomark _)) (af (av (i:=6) iy.nd rfl (IP rfl) (pv 5))) aE)
   (ae (aG (ao bn (pv 1) am (nomark _)) (af (av (i:=7) iy.nd rfl (IP rfl) (aC T.mh (qP T) (hM hr) rfl (aa (pv 0) (aa (pv 3) ac))))) (af (aG (PW.pt (eP (ao bn (pv 1) am (nomark _)) (fS (ao bn (pv 6) ag (nomark _))))) (ae (av (i:=1) iy.nd rfl (IP rfl) am)
   (af (av (i:=7) iy.nd rfl (IP rfl) (aC T.mi (wz T) (hM hr) rfl (aa (pv 2) ac))))) (af (av (i:=7) iy.nd rfl (IP rfl) (aC T.mh (qP T) (hM hr) rfl (aa (pv 0) (aa (aC T.b8 (bV T) (hM hr) rfl (aa (pv 2) (aa ag (aa (pv 6) ac)))) ac))))))))
   (af (aM (a_ (aa (pv 1) (aa (pv 7) ac))))))))
 refine(⟨_,rfl,?_⟩);dsimp only[bA];refine cy (λσ' H'=>σ'=[some (.int f),some (.str k.s),some (.int cell),some (.int (at_:Int)),some (.int (marks:Int)),some (.int (feet:Int)),some (.int ((gO k marks feet:Nat):Int)),none]/\H'=H) ?_ (λkey=>?_)
 .rintro σ' H' ⟨rfl,rfl⟩;refine cy (λσ' H2=>∃w:NWd,σ'=[some (.int f),some (.str w.1.s),some (.int cell),some (.int (at_:Int)),some (.int (marks:Int)),some (.int (feet:Int)),some (.int ((gO k marks feet:Nat):Int)),some (.str (tx w.2))]/\aj H' H2/\WdG (gG f) k at_ marks feet w) ?_ (λkey=>?_)
  .rintro σ' H2 ⟨w,rfl,s,g⟩;exact(⟨_,rfl,_,rfl,le2,λp1 hp1=>q p1 _ w (s.free hp1) (s.trans (ai hp1 _)) ah g⟩)
  .refine(⟨_,rfl,rfl,_,rfl,?_⟩);by_cases hm:k=.mark
   .subst hm;refine iT rfl ?_;exact(⟨_,rfl,_,rfl,f,at_,rfl,λH2 s=>key _ _ ⟨(.mark,gG f at_),rfl,s,.inl ⟨rfl,rfl⟩⟩⟩)
   .refine iF (λz=>hm (Kw.inj (b:=.mark) (V.str.inj z))) ?_;refine(⟨_,rfl,rfl,_,rfl,?_⟩);have pl:(k≠.plain->gO k marks feet=0)->∀l H2,Dw l->aj H' H2->_:=λz l H2 ol s=>key _ H2 ⟨(.plain,l),rfl,s,.inr (.inl ⟨hm,rfl,ol,z⟩)⟩;by_cases hp:k=.plain
    .refine iT (by rw[hp];rfl) ?_;left;exact(⟨_,rfl,cell,rfl,λl H2 ol s=>pl (λz=>absurd hp z) l H2 ol s⟩)
    .refine iF (λz=>hp (Kw.inj (b:=.plain) (V.str.inj z))) ?_;refine(⟨_,rfl,rfl,_,rfl,?_⟩);by_cases h0:gO k marks feet=0
     .rw[h0,decide_eq_true (show V.int ((0:Nat):Int)=V.int 0 from rfl)];left;have pl:=pl (λ_=>h0);rw[h0]at pl;exact(⟨_,rfl,cell,rfl,λl H2 ol s=>pl l H2 ol s⟩)
     .refine iF (λz=>h0 (by injection z with z;omega)) ?_;obtain⟨j,ej,hj⟩:=j9 cell 9 (show 0<gO k marks feet by omega);refine(⟨_,rfl,_,rfl,_,rfl,cell,9,((gO k marks feet:Nat):Int),rfl,⟨by decide,by decide⟩,by omega,f,j,by rw[ej];rfl,λH2 s=>key _ _ ⟨(k,gG f j),rfl,s,.inr (.inr ⟨hm,hp,rfl,j,hj,rfl⟩)⟩⟩)
 .refine(⟨_,rfl,rfl,_,rfl,?_⟩);by_cases hf:k=.foot
  .refine iT (by rw[hf];rfl) ?_;exact(⟨_,rfl,key _ _ ⟨by unfold gO;rw[if_pos hf];rfl,rfl⟩⟩)
  .refine iF (λz=>hf (Kw.inj (b:=.foot) (V.str.inj z))) ?_;exact key _ _ ⟨by unfold gO;rw[if_neg hf];rfl,rfl⟩
inductive AD(K:IC)(vs:List V)(H:Hp)(Q:VK)(x_1:XK):Prop
 |mk(ra:Addr)(f:Int)(rows:List c7)(rv:List V)(_:vs=[.ref ra,.int f])(_:H ra=some (.lst rv))(_:aI (RrA H) rv rows)(_:rows.length<=62)(_:∀r∈rows,r.2.length<=6/\∀w∈r.2,w.1≠.entry)(_:∀p H' ns us,H p=none->aj H H'->H' p=some (.lst us)->aI (NnA H') us (ns++eD)->e_ (gG f) (cp rows) (ftN rows) 0 0 rows ns->Q (.ref p) H')
theorem cq:aN ["rows","first","marks","feet","named","at","hung","way","words","done","kind","cell","name"] ["rows","first"] (aw (top 68)):=by walk_at "c"
theorem AE(T:Txt P w K mg a):bi P w K mg base CX0 5 a.rN a.pW ["rows","first"] (AD K):=by
 exists T.rA.fn.ok,cq
 obtain⟨ra,f,rows,rv,rfl,hra,al,rl,rok,q⟩:=h;have hu:=Le (eR hr)
 exists (@ae _ _ _ _ _ (av (i:=2) cq.nd rfl (IP rfl) (aF (C_ rfl) rfl T.sF PyProof.Rows.boot_sum (aa (uy rfl (eW (caps:=[]) (js:=[]) (cap:=trivial)) (bj (pv 0)) (λ_ _ _ _=>dM) (λ_ _ _ _=>(aF (r:=qc K) bp rfl T.bG Jg (aa (gc rfl (eW (caps:=[]) (js:=[]) (cap:=trivial)) (Dp (K:=K) rfl (pv 1)) (λ_ _ _ _=>(iX (ao bn (aB (r:=kQ K) aZ (pv 0) ag (λ_ _=>rfl)) am (nomark _)))) (λ_ _ _ _=>(pv 0))) ac)))) ac)))
   (@ae _ _ _ _ _ (av (i:=3) cq.nd rfl (IP rfl) (aF bp rfl T.bG Jg (aa (uy rfl (eW (caps:=[]) (js:=[]) (cap:=trivial)) (bj (pv 0)) (λ_ _ _ _=>(iX (ao bn (pv 0) am (nomark _)))) (λ_ _ _ _=>(pv 0))) ac)))
   (@ae _ _ _ _ _ (av (i:=4) cq.nd rfl (IP rfl) (aQ ac))
   (@ae _ _ _ _ _ (av (i:=5) cq.nd rfl (IP rfl) ag)
   (@ae _ _ _ _ _ (av (i:=6) cq.nd rfl (IP rfl) ag)
   (@ae _ _ _ _ _ (bY Jq rfl (bj (pv 0)) (dD rfl (aU (aJ (i:=7) cq.nd rfl (IP rfl)) (aU (aJ (i:=8) cq.nd rfl (IP rfl)) cQ))) (@ae _ _ _ _ _ (av (i:=9) cq.nd rfl (IP rfl) (aQ ac))
   (@ae _ _ _ _ _ (bY Jq rfl (bj (pv 8)) (dD rfl (aU (aJ (i:=10) cq.nd rfl (IP rfl)) (aU (aJ (i:=11) cq.nd rfl (IP rfl)) cQ))) (@ae _ _ _ _ _ (bf (b_ IR Je Jf bT (pv 9) (aa (aC T.tX (Ci T) (hM hr) rfl (aa (pv 1) (aa (pv 10) (aa (pv 11) (aa (pv 5) (aa (pv 2) (aa (pv 3) ac))))))) ac)))
   (af (av (i:=5) cq.nd rfl (IP rfl) (aH bS (pv 5) (gy mQ rfl T.i5 Ks (aa (dL bn (pv 10) am (nomark _)) ac)))))))
   (@ae _ _ _ _ _ (av (i:=12) cq.nd rfl (IP rfl) am)
   (@ae _ _ _ _ _ (aG (ao bn (pv 7) am (nomark _)) (@ae _ _ _ _ _ (av (i:=12) cq.nd rfl (IP rfl) (aC T.mh (qP T) (hM hr) rfl (aa (pv 1) (aa (pv 6) ac))))
   (af (av (i:=6) cq.nd rfl (IP rfl) (aH bS (pv 6) ag)))) aE)
   (@ae _ _ _ _ _ (aG (PW.pt (fT (ao bn (pv 7) am (nomark _)) (dQ (ao (tD hu) (pv 8) (aQ ac) (nomark _))))) (af (av (i:=7) cq.nd rfl (IP rfl) am)) aE)
   (af (bf (b_ IR Je Jf bT (pv 4) (aa (a_ (aa (pv 7) (aa (pv 12) (aa (pv 9) ac)))) ac))))))))))
   (af (aM (aH fU (pv 4) (aQ (aa (a_ (aa am (aa am (aa (aQ ac) ac)))) (aa (a_ (aa am (aa am (aa (aQ (aa (a_ (aa am (aa am ac))) ac)) ac)))) ac))))))))))))
 have lr:=al.len;refine(⟨_,rfl,ra,rfl,⟨_,SqL.of hra⟩,oT (K:=K) (a:=ra) (xs:=rv) (λi ys G=>aj H G/\ys=((rows.take i).map λr=>((mkN r.2:Nat):Int)).map V.int) ⟨aj.refl _,rfl⟩ (λi ys G _ z=>SqL.of (z.1 _ _ hra)) ?_ ?_ ?_⟩)
 .rintro i ys G hi ⟨_,rfl⟩;simp only[Iz,Jm];exact ay (by omega)
 .rintro i y ys G hy ⟨m,rfl⟩;obtain⟨⟨wy,ws⟩,hw,b,l,us,rfl,hb,hl,kc⟩:=al.getL hy;have lu:=kc.len;have r6:=(rok _ (IK hw)).1;dsimp only at lu r6 kc;refine(⟨b,_,_,rfl,SqT.of (m _ _ hb),fE ?_⟩);refine(⟨_,rfl,l,rfl,⟨_,SqL.of (m _ _ hl)⟩,dS (K:=K) (a:=l) (xs:=us) (λj zs G'=>G=G'/\zs.length=mkN (ws.take j)) ⟨rfl,rfl⟩ (λj zs G' _ z=>by rw[<-z.1];exact SqL.of (m _ _ hl)) ?_ ?_ ?_⟩)
  .rintro j zs G' hj ⟨_,z⟩;have:mkN (ws.take j)<=(ws.take j).length:=JU _ _;rw[Jm]at this;exact ay (by omega)
  .rintro j x zs G' hx ⟨rfl,z⟩;obtain⟨w,hw2,c,rfl,hc⟩:=kc.getL hx;have en:mkN (ws.take (j+1))=mkN (ws.take j)+b1 (decide (w.1=.mark)):=by rw[aT hw2,x6]
   refine(⟨_,rfl,_,_,_,_,rfl,rfl,SqT.of (m _ _ hc),rfl,rfl,_,rfl,?_⟩);by_cases hm:w.1=.mark
   .refine iT (by rw[hm];rfl) ?_;refine(⟨_,rfl,rfl,?_⟩);rw[en,IB,z,decide_eq_true hm];rfl
   .refine iF (λzz=>hm (Kw.inj (b:=.mark) (V.str.inj zz))) ?_;refine(⟨rfl,?_⟩);rw[en,z,decide_eq_false hm];rfl
  rintro zs G' ⟨rfl,z⟩ pz1 hpz1;rw[lu,IZ]at z;refine(⟨_,_,rfl,.inl (SqL.of ah),m.trans (ai hpz1 _),?_⟩);rw[aT hw,IJ,IJ,z];rfl
 rintro ys G ⟨m,rfl⟩ pa hpa;rw[lr,IZ];refine(⟨pa,_,rfl,SqL.of ah,?_⟩);have eM:(rows.map λr=>((mkN r.2:Nat):Int)).sum=((cp rows:Nat):Int):=x9 rows;dsimp only[bA];rw[eM]
 exists hpa,G1,sZ,kZ
 have s1:=m.trans sZ;refine(⟨_,rfl,ra,rfl,⟨_,SqL.of (s1 _ _ hra)⟩,oT (K:=K) (a:=ra) (xs:=rv) (λi ys G=>G1=G/\ys.length=ftN (rows.take i)) ⟨rfl,rfl⟩ (λi ys G _ z=>by rw[<-z.1];exact SqL.of (s1 _ _ hra)) ?_ ?_ ?_⟩)
 .rintro i ys G hi ⟨_,z⟩;have:ftN (rows.take i)<=(rows.take i).length:=JU _ _;rw[Jm]at this;exact ay (by omega)
 .rintro i y ys G hy ⟨rfl,z⟩;obtain⟨⟨wy,ws⟩,hw,b,l,us,rfl,hb,hl,kc⟩:=al.getL hy;have en:ftN (rows.take (i+1))=ftN (rows.take i)+b1 (decide (wy=.foot)):=by rw[aT hw,x8]
  refine(⟨b,_,_,rfl,SqT.of (s1 _ _ hb),?_⟩);refine(⟨_,rfl,rfl,_,rfl,?_⟩);rw[bP jJ];by_cases hm:wy=.foot
  .refine iT (by rw[hm];rfl) ?_;refine(⟨_,rfl,rfl,?_⟩);rw[en,IB,z,decide_eq_true hm];rfl
  .refine iF (λzz=>hm (Wy.inj (b:=.foot) zz)) ?_;refine(⟨rfl,?_⟩);rw[en,z,decide_eq_false hm];rfl
 rintro ys G ⟨rfl,z⟩ pb hpb;rw[lr,IZ]at z;refine(⟨_,_,rfl,.inl (SqL.of ah),?_⟩);dsimp only[bA];rw[z]
 exists hpb,G2,sZ,kZ
 have s2:=s1.trans sZ;generalize hM:cp rows=M at *;generalize hF:ftN rows=F at *;refine⟨aW (by simp),λpn hpn=>?_⟩;have hHpn:=s2.free hpn
 exists hpn,G3,sZ,k3
 have s3:=s2.trans sZ;refine⟨_,rfl,ra,rfl,⟨_,SqL.of (s3 _ _ hra)⟩,bZ (K:=K) (a:=ra) (xs:=rv) (λi σ' G=>∃(v7 v8 v9 v10 v11 v12:Option V)(us:List V)(ns:List bu),σ'=[rF ra,some (.int f),some (.int (M:Int)),some (.int (F:Int)),rF pn,some (.int ((cp (rows.take i):Nat):Int)),some (.int ((ftN (rows.take i):Nat):Int)),v7,v8,v9,v10,v11,v12]/\aj H G/\G pn=some (.lst us)/\us.length=i/\aI (NnA (hid [pn] G)) us ns/\e_ (gG f) M F 0 0 (rows.take i) ns) ⟨none,none,none,none,none,none,[],[],rfl,s3,k3,rfl,trivial,trivial⟩ (λi σ' G _ g=>by obtain⟨_,_,_,_,_,_,_,_,_,m,_⟩:=g;exact SqL.of (m _ _ hra)) ?_ ?_⟩
 .rintro i y σ' G hy ⟨v7,v8,v9,v10,v11,v12,us,ns,rfl,m,gn,ul,nal,rr⟩;obtain⟨⟨wy,ws⟩,hw,b,l,cs,rfl,hb,hl,kc⟩:=al.getL hy;have hi:=(List.getElem?_eq_some_iff.mp hw).1;have lu:=kc.len;obtain⟨r6,rne⟩:=rok _ (IK hw);dsimp only at lu r6 kc rne;refine⟨b,_,rfl,SqT.of (m _ _ hb),rfl,_,_,rfl,_,_,rfl,rfl,?_⟩;refine⟨aW (by simp),λpd hpd=>?_⟩;have hHpd:=m.free hpd;have npd:pd≠pn:=λz=>by rw[z,gn]at hpd;cases hpd
  have m1:=m.trans (ai hpd (.lst []));have kd1:upd G pd (.lst []) pd=some (.lst []):=ah;have gn1:=ai hpd (.lst []) _ _ gn;have nal1:aI (NnA (hid [pn,pd] (upd G pd (.lst [])))) us ns:=nal.imp λ_ _=>NnA.mono (λb o z=>by
   obtain⟨c,z⟩:=jF.mp z;refine br (λw=>?_) (ai hpd (.lst []) _ _ z);simp only[J8,JQ,or_false]at w c;rcases w with w|w
   .exact c w
   .rw[w,hpd]at z;cases z)
  generalize upd G pd (.lst [])=G4 at m1 kd1 gn1 nal1⊢;refine⟨_,rfl,l,rfl,⟨_,SqL.of (m1 _ _ hl)⟩,bZ (K:=K) (a:=l) (xs:=cs) (λj σ' G'=>∃(v10 v11:Option V)(ds:List V)(dn:List NWd),σ'=[rF ra,some (.int f),some (.int (M:Int)),some (.int (F:Int)),rF pn,some (.int ((cp (rows.take i)+mkN (ws.take j):Nat):Int)),some (.int ((ftN (rows.take i):Nat):Int)),some (.str (tx wy.t)),rF l,rF pd,v10,v11,v12]/\aj H G'/\G' pn=some (.lst us)/\G' pd=some (.lst ds)/\aI (NnA (hid [pn,pd] G')) us ns/\cm (hid [pn,pd] G') ds (wkS dn)/\WsR (gG f) M F (0+cp (rows.take i)) (ws.take j) dn/\ds.length=j) ⟨v10,v11,[],[],rfl,m1,gn1,kd1,nal1,trivial,trivial,rfl⟩ (λj σ' G' _ g=>by obtain⟨_,_,_,_,_,m,_⟩:=g;exact SqL.of (m _ _ hl)) ?_ ?_⟩
  .rintro j x σ' G5 hx ⟨w10,w11,ds,dn,rfl,m5,gn5,kd5,nal5,wal,wr,dl⟩;obtain⟨⟨kd,cell⟩,hw2,c,rfl,hc⟩:=kc.getL hx;have hj:=(List.getElem?_eq_some_iff.mp hw2).1;have ke:=rne _ (IK hw2);refine⟨c,_,rfl,SqT.of (m5 _ _ hc),rfl,_,_,rfl,_,_,rfl,rfl,?_⟩;refine⟨_,rfl,.inl ⟨rfl,_,SqL.of kd5⟩,_,rfl,_,rfl,_,rfl,_,rfl,_,rfl,_,rfl,f,cell,kd,cp (rows.take i)+mkN (ws.take j),M,F,rfl,ke,λpw G6 w hpw m6 k6 wg=>?_⟩;have np1:pw≠pn:=λz=>by rw[z,gn5]at hpw;cases hpw
   have np2:pw≠pd:=λz=>by rw[z,kd5]at hpw;cases hpw
   refine⟨_,_,_,rfl,rfl,m6 _ _ kd5,ay (by omega),?_⟩;have e:hid [pn,pd] (upd G6 pd (.lst (ds++[.ref pw])))=hid [pn,pd] G6:=bH (by simp);refine⟨_,rfl,_,rfl,rfl,.inr ⟨_,rfl,_,_,rfl,rfl,?_⟩⟩;refine⟨some (.str kd.s),some (.int cell),ds++[.ref pw],dn++[w],?_,aY (m5.trans m6) hHpd,?_,ah,?_,?_,?_,by rw[IB,dl];rfl⟩
   .have en:mkN (ws.take (j+1))=mkN (ws.take j)+b1 (decide (kd=.mark)):=by rw[aT hw2,x6]
    have ev:(((cp (rows.take i)+mkN (ws.take j):Nat):Int)+(if decide (V.str kd.s=V.str (Iy "mark"))=true then 1 else 0))=((cp (rows.take i)+mkN (ws.take (j+1)):Nat):Int):=by
     rw[en];by_cases hm:kd=.mark
     .rw[if_pos (decide_eq_true (show V.str kd.s=V.str (Iy "mark") by rw[hm];rfl)),decide_eq_true hm];show _=((_+(_+1):Nat):Int);omega
     .rw[if_neg (show ¬ (decide (V.str kd.s=V.str (Iy "mark"))=true)from λz=>hm (Kw.inj (b:=.mark) (V.str.inj (of_decide_eq_true z)))),decide_eq_false hm];show _=((_+(_+0):Nat):Int);omega
    rw[<-ev];rfl
   .rw[aq (JH npd)];exact m6 _ _ gn5
   .rw[e];exact nal5.imp λ_ _=>NnA.mono (bg m6)
   .rw[e];unfold wkS;rw[IJ];exact(cm.mono (bg m6) wal).snoc ⟨pw,rfl,br (by simp[np1,np2]) k6⟩
   .rw[aT hw2];refine wr.snoc ?_;rw[JT];exact wg
  rintro σ' G5 ⟨w10,w11,ds,dn,rfl,m5,gn5,kd5,nal5,wal,wr,dl⟩;rw[lu]at dl;rw[lu,IZ]at wr;rw[lu,IZ];have m5':aj (hid [pn,pd] G5) (hid [pn] G5):=λb o z=>by
   obtain⟨c,z⟩:=jF.mp z;exact br (λw=>c (by simp at w⊢;exact .inl w)) z
  have nal6:aI (NnA (hid [pn] G5)) us ns:=nal5.imp λ_ _=>NnA.mono m5';have lsd:c6 (hid [pn] G5) pd (wkS dn):=⟨ds,br (by simpa using npd) kd5,cm.mono m5' wal⟩;have eH:ftN (rows.take (i+1))=ftN (rows.take i)+b1 (decide (wy=.foot)):=by rw[aT hw,x8]
  have eA:cp (rows.take (i+1))=cp (rows.take i)+mkN ws:=by rw[aT hw,B_]
  rw[<-eA];dsimp only;refine cy (λσ' G'=>σ'=[rF ra,some (.int f),some (.int (M:Int)),some (.int (F:Int)),rF pn,some (.int ((cp (rows.take (i+1)):Nat):Int)),some (.int ((ftN (rows.take i):Nat):Int)),some (.str (tx wy.t)),rF l,rF pd,w10,w11,some (.str (Iy ""))]/\G5=G') ?_ (λkey=>key [rF ra,some (.int f),some (.int (M:Int)),some (.int (F:Int)),rF pn,some (.int ((cp (rows.take (i+1)):Nat):Int)),some (.int ((ftN (rows.take i):Nat):Int)),some (.str (tx wy.t)),rF l,rF pd,w10,w11,some (.str (Iy ""))] G5 ⟨rfl,rfl⟩);rintro σ' G5' ⟨rfl,rfl⟩;refine cy (λσ' G'=>σ'=[rF ra,some (.int f),some (.int (M:Int)),some (.int (F:Int)),rF pn,some (.int ((cp (rows.take (i+1)):Nat):Int)),some (.int ((ftN (rows.take (i+1)):Nat):Int)),some (.str (tx wy.t)),rF l,rF pd,w10,w11,some (.str (tx (if wy=.foot then gG f (ftN (rows.take i))else[])))]/\aj G5 G') ?_ (λkey=>?_)
  .rintro σ' G6 ⟨rfl,m6⟩;refine cy (λσ' G'=>σ'=[rF ra,some (.int f),some (.int (M:Int)),some (.int (F:Int)),rF pn,some (.int ((cp (rows.take (i+1)):Nat):Int)),some (.int ((ftN (rows.take (i+1)):Nat):Int)),some (.str (tx (if wy=.words/\ws=[]then Wy.empty else wy).t)),rF l,rF pd,w10,w11,some (.str (tx (if wy=.foot then gG f (ftN (rows.take i))else[])))]/\aj G5 G') ?_ (λkey=>?_)
   .rintro σ' G7 ⟨rfl,m7⟩;refine⟨_,rfl,.inl ⟨rfl,_,SqL.of (m7 _ _ gn5)⟩,_,rfl,_,rfl,_,rfl,le3,λpt hpt=>?_⟩;have m8:=m7.trans (ai hpt (.tup [.str (tx (if wy=.words/\ws=[]then Wy.empty else wy).t),.str (tx (if wy=.foot then gG f (ftN (rows.take i))else[])),.ref pd]));have npt:pt≠pn:=λz=>by rw[z,m7 _ _ gn5]at hpt;cases hpt
    refine⟨_,_,_,rfl,rfl,m8 _ _ gn5,ay (by omega),?_⟩;refine⟨_,_,_,_,_,_,us++[.ref pt],ns++[(if wy=.words/\ws=[]then Wy.empty else wy,if wy=.foot then gG f (ftN (rows.take i))else[],dn)],rfl,aY (m5.trans m8) hHpn,ah,by rw[IB,ul];rfl,?_,?_⟩
    .rw[bH (by simp)];exact(nal6.imp λ_ _=>NnA.mono (bg m8)).snoc ⟨pt,pd,rfl,br (by simpa using npt) ah,lsd.mono (bg m8)⟩
    .rw[aT hw];exact rr.snoc ⟨rfl,by rw[JT],wr⟩
   .exists 1
    rw[bP jM];by_cases h1:wy=.words
    .refine iT (by rw[h1];rfl) ?_;refine⟨_,rfl,aW (by simp),λp4 hp4=>?_⟩;have m7:=m6.trans (ai hp4 (.lst []));refine⟨_,_,_,rfl,rfl,SqL.of ((m5.trans m7) _ _ hl),SqL.of ah,_,rfl,?_⟩;refine eB (λc2=>?_) (λc2=>?_)
     .have e0:ws=[]:=by
       cases ws with
       |nil=>rfl
       |cons _ _=>cases cs with
        |nil=>cases lu
        |cons _ _=>cases c2
      exact key _ _ ⟨by rw[show(if wy=.words/\ws=[]then Wy.empty else wy)=.empty from if_pos ⟨h1,e0⟩];exact congrArg (λz=>[rF ra,some (.int f),some (.int (M:Int)),some (.int (F:Int)),rF pn,some (.int ((cp (rows.take (i+1)):Nat):Int)),some (.int ((ftN (rows.take (i+1)):Nat):Int)),some (V.str z),rF l,rF pd,w10,w11,some (.str (tx (if wy=.foot then gG f (ftN (rows.take i))else[])))]) nu,m7⟩
     .have e0:ws≠[]:=λz=>by
       rw[z]at lu;rw[List.length_eq_zero_iff.mp lu]at c2;exact c2 rfl
      exact key _ _ ⟨by rw[show(if wy=.words/\ws=[]then Wy.empty else wy)=wy from if_neg (λz=>e0 z.2)],m7⟩
    .refine iF (λz=>h1 (Wy.inj (b:=.words) z)) ?_;right;exact key _ _ ⟨by rw[show(if wy=.words/\ws=[]then Wy.empty else wy)=wy from if_neg (λz=>h1 z.1)],m6⟩
  .exists 1
   rw[bP jJ];by_cases hf:wy=.foot
   .refine iT (by rw[hf];rfl) ?_;refine⟨_,rfl,_,rfl,f,ftN (rows.take i),rfl,λG6 m6=>?_⟩;refine⟨_,rfl,_,_,rfl,rfl,?_⟩;refine key _ _ ⟨?_,m6⟩;rw[eH,decide_eq_true hf,if_pos hf];rfl
   .refine iF (λz=>hf (Wy.inj (b:=.foot) z)) ?_;refine key _ _ ⟨?_,aj.refl _⟩;rw[eH,decide_eq_false hf,if_neg hf];exact congrArg (λz=>[rF ra,some (.int f),some (.int (M:Int)),some (.int (F:Int)),rF pn,some (.int ((cp (rows.take (i+1)):Nat):Int)),some (.int ((ftN (rows.take i):Nat):Int)),some (.str (tx wy.t)),rF l,rF pd,w10,w11,some (V.str z)]) nu
 rintro σ' G ⟨v7,v8,v9,v10,v11,v12,us,ns,rfl,m,gn,ul,nal,rr⟩;rw[lr,IZ]at rr;have nal':aI (NnA G) us ns:=nal.imp λ_ _=>NnA.mono bJ;refine⟨_,rfl,aW (by simp),λp5 hp5=>?_⟩
 exists hp5,G5,t5,k5
 refine⟨le3,λp6 hp6=>?_⟩
 exists hp6,G6,t6,kZ
 have k6:G6 p6=some (.tup [.str (tx []),.str (tx []),.ref p5]):=by rw[kZ,nu]
 refine⟨le2,λp7 hp7=>?_⟩
 exists hp7,G7,t7,kZ
 have k7:G7 p7=some (.tup [.str (Kw.plain).s,.str (tx [101,110,100])]):=by rw[kZ,HA];rfl
 refine⟨le1,λp8 hp8=>?_⟩
 exists hp8,G8,t8,k8
 refine⟨le3,λp9 hp9=>?_⟩
 exists hp9,G9,t9,kZ
 have k9:G9 p9=some (.tup [.str (tx Wy.words.t),.str (tx []),.ref p8]):=by rw[kZ,nu,jM];rfl
 refine⟨le2,λp10 hp10=>?_⟩
 exists hp10,G10,t10,k10
 have t510:=t5.trans (t6.trans (t7.trans (t8.trans (t9.trans t10))));refine⟨_,_,_,_,rfl,rfl,t510 _ _ gn,k10,(by show us.length+2<=_;exact Jj (ay (by omega))),λp11 hp11=>?_⟩;have t11:=ai hp11 (.lst (us++[.ref p6,.ref p9]));refine q p11 _ ns _ ((m.trans t510).free hp11) ((m.trans t510).trans t11) ah ?_ rr;refine(nal'.imp λ_ _=>NnA.mono (t510.trans t11)).app ⟨⟨p6,p5,rfl,?_,[],?_,trivial⟩,⟨p9,p8,rfl,?_,[.ref p7],?_,⟨p7,rfl,?_⟩,trivial⟩,trivial⟩
 .exact((t7.trans (t8.trans (t9.trans t10))).trans t11) _ _ k6
 .exact((t6.trans (t7.trans (t8.trans (t9.trans t10)))).trans t11) _ _ k5
 .exact(t10.trans t11) _ _ k9
 .exact((t9.trans t10).trans t11) _ _ k8
 .exact((t8.trans (t9.trans t10)).trans t11) _ _ k7
inductive Cj(K:IC)(vs:List V)(H:Hp)(Q:VK)(x_1:XK):Prop
 |mk(sa wa ka:Addr)(ns:List Int)(wys:List WyD)(kds:List Kw)(_:vs=[.ref sa,.ref wa,.ref ka])(_:SqL K H sa (ns.map V.int))(_:ns.length<=63)(_:SqL K H wa ((wys.map λw=>tx w.t).map V.str))(_:SqL K H ka (kds.map λk=>V.str k.s))(_:0<wys.length)(_:0<kds.length)(_:wys.length<=900)(_:kds.length<=900)(_:∀w,.way w∈wys->w.hd=false)(_:∀p H' rows us,H p=none->aj H H'->H' p=some (.lst us)->aI (RrA (hid [p] H')) us rows->l0 wys kds 62 rows->Q (.ref p) H')
theorem jB:aN ["script","ways","kinds","rows","cell","way","kind"] ["script","ways","kinds"] (aw (top 67)):=by walk_at "c"
theorem Ck(T:Txt P w K mg a):bi P w K mg base CX0 2 a.t_ a.rX ["script","ways","kinds"] (Cj K):=by
 exists T.tV.fn.ok,jB
 obtain⟨sa,wa,ka,ns,wys,kds,rfl,hsa,h63,hwa,hka,w0,k0,w9,k9,wnh,q⟩:=h;have hu:=Le (eR hr)
 exists (ae (av (i:=3) jB.nd rfl (IP rfl) (aQ ac))
   (ae (bY Jq rfl (bj (dR oa (pv 0) (eQ ag) (eQ ag))) (aJ (i:=4) jB.nd rfl (IP rfl)) (ae (av (i:=5) jB.nd rfl (IP rfl) (aB bC (pv 1) (aC T.b8 (bV T) (hM hr) rfl (aa (pv 4) (aa ag (aa (aF bp rfl T.bG Jg (aa (pv 1) ac)) ac)))) (λ_ _=>rfl)))
   (af (aG (ao bn (pv 5) am (nomark _)) (af (bf (b_ IR Je Jf bT (pv 3) (aa (a_ (aa (aB bC (aQ (aa am (aa am (aa am ac)))) (aC T.b8 (bV T) (hM hr) rfl (aa (pv 4) (aa ag (aa ag ac)))) (λ_ _=>rfl)) (aa (aQ ac) ac))) ac)))) (af (aG (ao dZ (pv 5) am (nomark _)) (af (bf (b_ IR Je Jf bT (pv 3) (aa (a_ (aa (pv 5) (aa (aQ ac) ac))) ac)))) (ae (av (i:=6) jB.nd rfl (IP rfl) (aB bC (pv 2) (aC T.b8 (bV T) (hM hr) rfl (aa (pv 4) (aa ag (aa (aF bp rfl T.bG Jg (aa (pv 2) ac)) ac)))) (λ_ _=>rfl)))
   (ae (aG (PW.pt (eP (ao (tD hu) (pv 3) (aQ ac) (nomark _)) (eP (ao gz (aB aZ (aB bC (pv 3) (sf n_ ag) (λ_ _=>rfl)) ag (λ_ _=>rfl)) (a_ (aa am (aa am (aa am (aa am ac))))) (by with_unfolding_all rfl)) (fS (ao bn (aF bp rfl T.bG Jg (aa (aB aZ (aB bC (pv 3) (sf n_ ag) (λ_ _=>rfl)) ag (λ_ _=>rfl)) ac)) ag (nomark _)))))) (af (bf (b_ IR Je Jf bT (pv 3) (aa (a_ (aa am (aa (aQ ac) ac))) ac)))) aE)
   (ae (aG (PW.pt (eP (PW.pt (fT (ao bn (aB eu (aB aZ (aB bC (pv 3) (sf n_ ag) (λ_ _=>rfl)) ag (λ_ _=>rfl)) ag (λ_ _=>rfl)) am (nomark _)) (dQ (ao bn (pv 6) am (nomark _))))) (fS (PW.pt (fT (ao bn (aB aZ (aB bC (pv 3) (sf n_ ag) (λ_ _=>rfl)) ag (λ_ _=>rfl)) am (nomark _)) (dQ (ao gz (pv 6) (a_ (aa am (aa am ac))) (by with_unfolding_all rfl)))))))) (af (av (i:=6) jB.nd rfl (IP rfl) am)) aE)
   (af (bf (b_ IR Je Jf bT (aB aZ (aB bC (pv 3) (sf n_ ag) (λ_ _=>rfl)) ag (λ_ _=>rfl)) (aa (a_ (aa (pv 6) (aa (pv 4) ac))) ac)))))))))))))
   (af (aM (pv 3)))))
 refine⟨aW (by simp),λp1 hp1=>?_⟩
 exists hp1,H1,s1,k1
 have R0:i6 H H1 p1 []:=⟨s1,hp1,[],p1,k1,hp1,rfl,.inl ⟨rfl,rfl⟩⟩;refine⟨_,rfl,_,rfl,_,rfl,_,_,rfl,s1.seq hsa,λp2 hp2=>?_⟩;have s2:=ai hp2 (.lst (io (ns.map V.int) (some 1) (some 130)));have k2:upd H1 p2 (.lst (io (ns.map V.int) (some 1) (some 130))) p2=some (.lst ((jv ns (some 1) (some 130)).map V.int)):=by rw[ah,Da]
 have cl:(jv ns (some 1) (some 130)).length<=62:=by
  unfold jv HT.sIx;rw[Jm,Lh];simp only[show ¬ ((1:Int)<0) by decide,show ¬ ((130:Int)<0) by decide,if_false];have:min (LS 1) ns.length=min 1 ns.length:=rfl;omega
 generalize jv ns (some 1) (some 130)=cs at k2 cl;generalize upd H1 p2 (.lst (io (ns.map V.int) (some 1) (some 130)))=H2 at s2 k2⊢;have wl:((wys.map λw=>tx w.t).map V.str).length=wys.length:=by simp
 have kl:(kds.map λk=>V.str k.s).length=kds.length:=by simp
 have H2p:H p2=none:=s1.free hp2;have npp:p2≠p1:=λz=>by rw[z,k1]at hp2;cases hp2
 have B0:∃B:Hp,aj H B/\B p2=some (.lst (cs.map V.int))/\B p1=none/\aj B H2:=⟨hid [p1] H2,lN (s1.trans s2) (λb hb=>by rw[List.mem_singleton.mp hb];exact hp1),br (by simpa using npp) k2,by unfold hid;simp,bJ⟩;obtain⟨B,sB,kB,nB,sB2⟩:=B0;have R0:i6 B H2 p1 []:=⟨sB2,nB,[],p1,s2 _ _ k1,nB,rfl,.inl ⟨rfl,rfl⟩⟩;have hwB:=sB.seq hwa;have hkB:=sB.seq hka;refine⟨p2,rfl,⟨_,SqL.of k2⟩,bZ (K:=K) (a:=p2) (xs:=cs.map V.int) (λi σ' G=>∃(v4 v5 v6:Option V)(rows:List c7),σ'=[rF sa,rF wa,rF ka,rF p1,v4,v5,v6]/\i6 B G p1 rows/\l0 wys kds i rows) ⟨none,none,none,[],rfl,R0,⟨IM _,IM _,by simp⟩⟩ (λi σ' G _ g=>by obtain⟨_,_,_,_,_,R,_⟩:=g;exact SqL.of (R.old _ _ kB)) ?_ ?_⟩
 .rintro i y σ' G hy ⟨v4,v5,v6,rows,rfl,R,ok⟩;have hi:=(List.getElem?_eq_some_iff.mp hy).1;rw[Iz]at hi;rw[Jc]at hy;obtain⟨c,_,rfl⟩:=Option.map_eq_some_iff.mp hy;obtain⟨j,ej,hj⟩:=j9 c 1 w0;obtain⟨wy,hwy⟩:∃wy,wys[j]?=some wy:=⟨wys[j],II hj⟩;have rl:=ok.len;obtain⟨us0,U1,U2,_⟩:=R.all;have addR:∀(w:Wy)(sw:Str)(G':Hp),sw=tx w.t->aj G G'->Av wys w->∀pl,G' pl=none->∀pt,(upd G' pl (.lst [])) pt=none->∃us,(upd (upd G' pl (.lst [])) pt (.tup [.str sw,.ref pl])) p1=some (.lst us)/\us.length<I0/\i6 B (upd (upd (upd G' pl (.lst [])) pt (.tup [.str sw,.ref pl])) p1 (.lst (us++[.ref pt]))) p1 (rows++[(w,[])])/\l0 wys kds (i+1) (rows++[(w,[])]):=λw sw G' esw m hw pl hpl pt hpt=>by
   subst esw;have m1:=ai hpl (.lst []);have m2:=ai hpt (.tup [.str (tx w.t),.ref pl]);obtain⟨us,u1,u2,_⟩:=R.all;have m3:=m.trans (m1.trans m2);exact⟨us,m3 _ _ u1,ay (by omega),R.add m3 (m.free hpl) (m2 _ _ ah) ((m.trans m1).free hpt) ah (m3 _ _ u1),ok.add hw⟩
  refine⟨_,rfl,_,rfl,_,rfl,_,_,rfl,.inl (R.old.seq hwB),c,1,(wys.length:Int),(by rw[wl];rfl),⟨by decide,by decide⟩,by omega,_,_,_,_,rfl,rfl,R.old.seq hwB,(by rw[ej];exact bX (by rw[Jc,Jc,hwy];rfl)),?_⟩
  exists 1
  rw[bP cH1];have wm:=IK hwy;cases wy with
  |eq =>
   refine iT rfl ?_;refine⟨_,rfl,.inl ⟨rfl,_,SqL.of U1⟩,le3,λp3 hp3=>?_⟩;obtain⟨n3,e3,h3⟩:=j9 c 2 (show 0<3 by decide);have e3:b7 c 2 3=(n3:Int):=e3;obtain⟨w,hw,ew⟩:=at3 n3 h3;have m3:=ai hp3 (.lst [V.str (Iy "="),V.str (Iy "=="),V.str (Iy "===")]);refine⟨_,rfl,c,2,3,rfl,⟨by decide,by decide⟩,by decide,_,_,_,_,rfl,rfl,SqL.of ah,(by rw[e3];exact ew),aW (by simp),λpl hpl=>?_⟩;refine⟨le2,λpt hpt=>?_⟩;obtain⟨us,u1,u2,u3,u4⟩:=addR w _ _ rfl m3 (.inr (.inr ⟨hw,wm⟩)) pl hpl pt hpt;exact⟨_,_,_,rfl,rfl,u1,u2,_,_,_,_,rfl,u3,u4⟩
  |way w =>
   have nh:=wnh w wm;refine iF (λz=>by have:w=.h1:=Wy.inj z;rw[this]at nh;cases nh) ?_
   exists 1
   rw[bP B9,decide_eq_false (show ¬ (WyD.t (.way w)=[119,111,114,100])from λz=>by revert z;cases w<;>decide)]
   left;refine⟨_,rfl,.inl ⟨rfl,_,SqL.of U1⟩,_,rfl,aW (by simp),λpl hpl=>?_⟩;refine⟨le2,λpt hpt=>?_⟩;obtain⟨us,u1,u2,u3,u4⟩:=addR w _ _ rfl (aj.refl _) (.inr (.inl wm)) pl hpl pt hpt;exact⟨_,_,_,rfl,rfl,u1,u2,_,_,_,_,rfl,u3,u4⟩
  |word =>
   refine iF (show ¬ (WyD.t .word=[61]) by decide) ?_
   exists 1
   rw[bP B9,decide_eq_true (show WyD.t .word=[119,111,114,100]from rfl)];right;obtain⟨j8,e8,h8⟩:=j9 c 8 k0;obtain⟨kd,hkd⟩:∃kd,kds[j8]?=some kd:=⟨kds[j8],II h8⟩;refine⟨_,rfl,_,rfl,_,rfl,_,_,rfl,.inl (R.old.seq hkB),c,8,(kds.length:Int),(by rw[kl];rfl),⟨by decide,by decide⟩,by omega,_,_,_,_,rfl,rfl,R.old.seq hkB,(by rw[e8];exact bX (by rw[Jc,hkd];rfl)),?_⟩;dsimp only[bA];have sumW:((rows++[((.words,[]):c7)]).map (·.2.length)).sum<=i:=by rw[IJ,Lu];have:=ok.sum;simp;omega
   refine cy (λσ' G'=>∃(ini:List c7)(w:Wy)(ws:List (Kw×Int)),σ'=[rF sa,rF wa,rF ka,rF p1,some (.int c),some (.str (tx (WyD.t .word))),some (.str kd.s)]/\i6 B G' p1 (ini++[(w,ws)])/\w.bare=false/\ws.length<=5/\(ini++[(w,ws)]).length<=i+1/\((ini++[(w,ws)]).map (·.2.length)).sum<=i/\∀r∈ini++[(w,ws)],At kds r/\Av wys r.1) ?_ (λkey=>?_)
   .rintro σ' G2 ⟨ini,w,ws,rfl,R2,nb,wl5,rl2,sm2,ok2⟩;obtain⟨vi,ra,lo,us,g1,g2,g3,g4,g5⟩:=R2.last;obtain⟨ch,u,ew,hw⟩:=Hy nb;have kin:kd∈kds\/kd=.plain:=.inl (IK hkd);refine cy (λσ' G'=>∃kd':Kw,σ'=[rF sa,rF wa,rF ka,rF p1,some (.int c),some (.str (tx (WyD.t .word))),some (.str kd'.s)]/\aj G2 G'/\(w.hd=true->kd'≠.foot)/\(w=.foot->kd'≠.mark/\kd'≠.foot)/\(kd'∈kds\/kd'=.plain)) ?_ (λkey=>?_)
    .rintro σ' G3 ⟨kd',rfl,m3,c1,c2,c3⟩;refine⟨_,rfl,_,rfl,_,_,_,_,rfl,rfl,SqL.of (m3 _ _ g1),jZ _ _,_,_,_,_,rfl,rfl,SqT.of (m3 _ _ g2),rfl,.inl ⟨rfl,_,SqL.of (m3 _ _ g3)⟩,_,rfl,_,rfl,le2,λpk hpk=>?_⟩;have m4:=ai hpk (.tup [.str kd'.s,.int c]);refine⟨_,_,_,rfl,rfl,m4 _ _ (m3 _ _ g3),ay (by omega),?_⟩;refine⟨_,_,_,ini++[(w,ws++[(kd',c)])],rfl,g5 _ pk (kd',c) (m3.trans m4) (m3.free hpk) ah,⟨?_,?_,λr hr=>?_⟩⟩
     .simpa using rl2
     .rw[IJ,Lu]at sm2⊢;simp at sm2⊢;omega
     .rcases List.mem_append.mp hr with hr|hr
      .exact ok2 r (Ku _ hr)
      .rw[List.mem_singleton.mp hr];obtain⟨o1,o2⟩:=ok2 (w,ws) (JB _ IL);have ap:∀{P:Kw×Int->Prop},(∀x∈ws,P x)->P (kd',c)->∀x∈ws++[(kd',c)],P x:=λh1 h2 x hx=>by
        rcases List.mem_append.mp hx with hx|hx
        .exact h1 x hx
        .rw[List.mem_singleton.mp hx];exact h2
       refine⟨⟨λz=>?_,?_,λz=>ap (o1.head z) (c1 z),λz=>ap (o1.foot z) (c2 z),ap o1.kds c3⟩,o2⟩
       .rw[show(w,ws++[(kd',c)]).1.bare=w.bare from rfl,nb]at z;cases z
       .show(ws++[(kd',c)]).length<=6;rw[IB];simp only[ID,Ja];omega
    .have m0:=aj.refl G2;have kpl:∀G',aj G2 G'->(∃kd':Kw,[some (V.ref sa),some (V.ref wa),some (V.ref ka),some (V.ref p1),some (V.int c),some (V.str (tx (WyD.t .word))),some (V.str (Iy "plain"))]=[some (V.ref sa),some (V.ref wa),some (V.ref ka),some (V.ref p1),some (V.int c),some (V.str (tx (WyD.t .word))),some (V.str kd'.s)]/\aj G2 G'/\(w.hd=true->kd'≠.foot)/\(w=.foot->kd'≠.mark/\kd'≠.foot)/\(kd'∈kds\/kd'=.plain)):=λG' m=>⟨.plain,rfl,m,λ_=>(by decide),λ_=>⟨by decide,by decide⟩,.inr rfl⟩;refine⟨_,rfl,_,rfl,_,_,_,_,rfl,rfl,SqL.of (m0 _ _ g1),jZ _ _,_,_,_,_,rfl,rfl,SqT.of (m0 _ _ g2),rfl,_,_,ch,rfl,rfl,(by rw[aV];cases w<;>exact aW (by decide)),(by rw[ew];exact fP _ _),rfl,_,rfl,?_⟩
     rw[bP cH1,show decide ([ch]=[61])=w.hd from by rw[<-hw];simp];cases hh:w.hd with
     |true =>
      have nf:w≠.foot:=λz=>by rw[z]at hh;cases hh
      left
      exists 1
      by_cases hf:kd=.foot
      .refine iT (by rw[hf];rfl) ?_;left;exact key _ _ (kpl _ m0)
      .refine iF (λz=>hf (Kw.inj (b:=.foot) (V.str.inj z))) ?_;refine⟨_,rfl,_,rfl,_,_,_,_,rfl,rfl,SqL.of (m0 _ _ g1),jZ _ _,_,_,_,_,rfl,rfl,SqT.of (m0 _ _ g2),rfl,rfl,_,rfl,?_⟩;rw[bP jJ,decide_eq_false (show ¬ (w.t=ku)from λz=>nf (Wy.inj (b:=.foot) z))];right;right;exact key _ _ ⟨kd,rfl,m0,λ_=>hf,λz=>absurd z nf,kin⟩
     |false =>
      have nh:w.hd=true->kd≠.foot:=λz=>by rw[hh]at z;cases z
      right;right;refine⟨_,rfl,_,rfl,_,_,_,_,rfl,rfl,SqL.of (m0 _ _ g1),jZ _ _,_,_,_,_,rfl,rfl,SqT.of (m0 _ _ g2),rfl,rfl,_,rfl,?_⟩;rw[bP jJ];by_cases hw2:w=.foot
      .refine iT (by rw[hw2];rfl) ?_;refine⟨_,rfl,le2,λp9 hp9=>?_⟩;refine⟨_,_,rfl,.inr (SqT.of ah),rfl,rfl,_,rfl,?_⟩;refine eB (λc2=>?_) (λc2=>?_)
       .exact key _ _ (kpl _ (ai hp9 _))
       .have c3:(decide (kd=.mark)||decide (kd=.foot))=false:=(Ip kd).symm.trans (Bool.eq_false_iff.mpr c2);simp only[Lg,decide_eq_false_iff_not]at c3;exact key _ _ ⟨kd,rfl,ai hp9 _,nh,λ_=>c3,kin⟩
      .refine iF (λz=>hw2 (Wy.inj (b:=.foot) z)) ?_;right;exact key _ _ ⟨kd,rfl,m0,nh,λz=>absurd z hw2,kin⟩
   .refine⟨_,rfl,aW (by simp),λp10 hp10=>?_⟩;have m1:=ai hp10 (.lst []);refine⟨_,_,_,rfl,rfl,SqL.of (m1 _ _ U1),SqL.of ah,_,rfl,?_⟩;rcases List.eq_nil_or_concat rows with e0|⟨ini,⟨w,ws⟩,e0⟩
    .have hz:us0=[]:=by
      rw[e0]at U2;exact List.length_eq_zero_iff.mp U2
     refine eB (λc2=>?_) (λc2=>?_)
     .left;refine⟨_,rfl,.inl ⟨rfl,_,SqL.of ((m1) _ _ U1)⟩,aW (by simp),λpl hpl=>?_⟩;refine⟨le2,λpt hpt=>?_⟩;obtain⟨us,u1,u2,u3,u4⟩:=addR .words _ _ jM (m1) (.inl rfl) pl hpl pt hpt;exact⟨_,_,_,rfl,rfl,u1,u2,key _ _ ⟨rows,.words,[],rfl,u3,rfl,by simp,u4.len,sumW,u4.ok⟩⟩
     .exact absurd (by rw[hz];rfl) c2
    .rw[List.concat_eq_append]at e0;have R':=R;rw[e0]at R';obtain⟨vi,ra,lo,us,g1,g2,g3,g4,g5⟩:=R'.last;have hz:us0=vi++[.ref ra]:=by
      rw[g1]at U1;injection U1 with U1;injection U1 with U1;exact U1.symm
     refine eB (λc2=>?_) (λc2=>?_)
     .rw[hz]at c2;exact absurd c2 (by cases vi<;>exact Jh)
     refine⟨_,rfl,_,rfl,_,_,_,_,rfl,rfl,SqL.of (m1 _ _ g1),jZ _ _,_,_,_,_,rfl,rfl,SqT.of (m1 _ _ g2),rfl,le4,λp11 hp11=>?_⟩;have m12:=m1.trans (ai hp11 (.tup [V.str (Iy ""),V.str (Iy ".page"),V.str (Iy ".odd"),V.str (Iy ".list")]));refine⟨_,_,rfl,.inr (SqT.of ah),rfl,rfl,_,rfl,?_⟩;refine eB (λc2=>?_) (λc2=>?_)
     .left;refine⟨_,rfl,.inl ⟨rfl,_,SqL.of ((m12) _ _ U1)⟩,aW (by simp),λpl hpl=>?_⟩;refine⟨le2,λpt hpt=>?_⟩;obtain⟨us,u1,u2,u3,u4⟩:=addR .words _ _ jM (m12) (.inl rfl) pl hpl pt hpt;exact⟨_,_,_,rfl,rfl,u1,u2,key _ _ ⟨rows,.words,[],rfl,u3,rfl,by simp,u4.len,sumW,u4.ok⟩⟩
     .have nb:w.bare=false:=(Gk w).symm.trans (Bool.eq_false_iff.mpr c2);refine⟨_,rfl,_,rfl,_,_,_,_,rfl,rfl,SqL.of (m12 _ _ g1),jZ _ _,_,_,_,_,rfl,rfl,SqT.of (m12 _ _ g2),rfl,_,_,rfl,.inl (SqL.of (m12 _ _ g3)),rfl,_,rfl,?_⟩;refine eB (λc3=>?_) (λc3=>?_)
      .refine⟨_,rfl,.inl ⟨rfl,_,SqL.of ((m12) _ _ U1)⟩,aW (by simp),λpl hpl=>?_⟩;refine⟨le2,λpt hpt=>?_⟩;obtain⟨us,u1,u2,u3,u4⟩:=addR .words _ _ jM (m12) (.inl rfl) pl hpl pt hpt;exact⟨_,_,_,rfl,rfl,u1,u2,key _ _ ⟨rows,.words,[],rfl,u3,rfl,by simp,u4.len,sumW,u4.ok⟩⟩
      .have n6:us.length≠6:=λz=>c3 (decide_eq_true (by rw[z];rfl));have o:=(ok.ok (w,ws) (by rw[e0];exact JB _ IL)).1.len;dsimp only at o;exact key _ _ ⟨ini,w,ws,rfl,R'.same m12,nb,by omega,by rw[<-e0];omega,by rw[<-e0];exact ok.sum,by rw[<-e0];exact ok.ok⟩
 rintro σ' G ⟨v4,v5,v6,rows,rfl,R,ok⟩;rw[Iz]at ok;obtain⟨us,u1,u2,u3⟩:=R.all;exact⟨_,rfl,q p1 G rows us hp1 (sB.trans R.old) u1 u3 ⟨by have:=ok.len;omega,by have:=ok.sum;omega,ok.ok⟩⟩
inductive AF(K:IC)(vs:List V)(H:Hp)(Q:VK)(x_1:XK):Prop
 |mk(fd fo qa tp ma ha:Addr)(us hvs:List V)(fs:List Addr)(σ:Ss)(d:DD)(kvs:List (Key×V))(_:vs=[.ref fd,.ref fo])(_:H fd=some (.tup [.ref qa,.ref ma,.ref ha]))(_:H qa=some (.tup [.ref fo,.ref tp]))(_:Rep K H d (.ref fo))(_:d.deep<=2)(_:H tp=some (.lst us))(_:aI (TwA σ H) us (σ.ws.zip fs))(_:H ma=some (.dK kvs))(_:H ha=some (.lst hvs))(_:Q (.bl true) H)
theorem uI:aN ["found","form","word"] ["found","form"] (aw (top 76)):=by walk_at "c"
theorem AG(T:Txt P w K mg a):bi P w K mg base CX0 6 a.rO a.pX ["found","form"] (AF K):=by
 exists T.rB.fn.ok,uI
 obtain⟨fd,fo,qa,tp,ma,ha,us,hvs,fs,σ,d,kvs,rfl,h1,h2,hr_,hd,h3,h4,h5,h6,q⟩:=h
 exists (ae (aG (PW.pt (eP (fC (cz (aF cX rfl T.bq Ji (aa (pv 0) (aa (dq (v:=.ty "tuple") rfl T.fR Kx rfl) ac))) (λ_=>rfl))) (eP (ao dZ (aF bp rfl T.bG Jg (aa (pv 0) ac)) ag (nomark _)) (eP (fC (cz (aF cX rfl T.bq Ji (aa (aB aZ (pv 0) ag (λ_ _=>rfl)) (aa (dq (v:=.ty "tuple") rfl T.fR Kx rfl) ac))) (λ_=>rfl))) (fS (ao dZ (aF bp rfl T.bG Jg (aa (aB aZ (pv 0) ag (λ_ _=>rfl)) ac)) ag (nomark _))))))) (af (aM cC)) aE)
   (ae (aG (PW.pt (eP (fC (cz (aC T.f8 (lJ T) (hM hr) rfl (aa (aB aZ (aB aZ (pv 0) ag (λ_ _=>rfl)) ag (λ_ _=>rfl)) (aa (pv 1) ac))) (λ_=>rfl))) (eP (fC (cz (aF cX rfl T.bq Ji (aa (aB aZ (aB aZ (pv 0) ag (λ_ _=>rfl)) ag (λ_ _=>rfl)) (aa (dq (v:=.ty "list") rfl T.iU K6 rfl) ac))) (λ_=>rfl))) (fS (fC (cz (aF BR rfl T.bq Ji (aa (aB aZ (pv 0) ag (λ_ _=>rfl)) (aa (dq (v:=.ty "dict") rfl T.mM PyProof.Rows.boot_dict rfl) ac))) (λ_=>rfl))))))) (af (aM cC)) aE)
   (ae (bY Jq rfl (bj (aB aZ (aB aZ (pv 0) ag (λ_ _=>rfl)) ag (λ_ _=>rfl))) (aJ (i:=2) uI.nd rfl (IP rfl)) (af (aG (PW.pt (eP (fC (cz (aF cX rfl T.bq Ji (aa (pv 2) (aa (dq (v:=.ty "tuple") rfl T.fR Kx rfl) ac))) (λ_=>rfl))) (eP (ao dZ (aF bp rfl T.bG Jg (aa (pv 2) ac)) ag (nomark _)) (fS (fC (cz (aF cX rfl T.bq Ji (aa (aB aZ (pv 2) ag (λ_ _=>rfl)) (aa (dq (v:=.ty "list") rfl T.iU K6 rfl) ac))) (λ_=>rfl))))))) (af (aM cC)) aE)))
   (af (aM (aF cX rfl T.bq Ji (aa (aB aZ (pv 0) ag (λ_ _=>rfl)) (aa (dq (v:=.ty "list") rfl T.iU K6 rfl) ac))))))))
 have F:∀{i:Int}{v:V},atI [V.ref qa,V.ref ma,V.ref ha] i=some v->True:=λ_=>trivial;refine⟨_,rfl,_,"tuple",true,rfl,by decide,.inr ⟨⟨_,SqT.of h1⟩,rfl⟩,_,rfl,?_⟩;right;refine⟨_,rfl,_,_,rfl,.inr (SqT.of h1),rfl,_,rfl,?_⟩;right;refine⟨_,rfl,_,_,_,_,rfl,rfl,SqT.of h1,rfl,_,"tuple",true,rfl,by decide,.inr ⟨⟨_,SqT.of h2⟩,rfl⟩,_,rfl,?_⟩;right;refine⟨_,rfl,_,_,_,_,rfl,rfl,SqT.of h1,rfl,_,_,rfl,.inr (SqT.of h2),rfl,_,rfl,?_⟩;right;dsimp only[cY];refine⟨_,rfl,_,_,_,_,rfl,rfl,SqT.of h1,rfl,_,_,_,_,rfl,rfl,SqT.of h2,rfl,_,rfl,d,_,_,rfl,by omega,hr_,hr_,_,rfl,?_⟩;right;refine⟨_,rfl,_,_,_,_,rfl,rfl,SqT.of h1,rfl,_,_,_,_,rfl,rfl,SqT.of h2,rfl,_,"list",true,rfl,by decide,.inl ⟨⟨_,SqL.of h3⟩,rfl⟩,_,rfl,?_⟩;right;refine⟨_,rfl,_,_,_,_,rfl,rfl,SqT.of h1,rfl,_,_,rfl,h5,_,rfl,?_⟩;right;dsimp only[cY];refine⟨_,rfl,_,_,_,_,rfl,rfl,SqT.of h1,rfl,_,_,_,_,rfl,rfl,SqT.of h2,rfl,tp,rfl,⟨_,SqL.of h3⟩,bZ (K:=K) (a:=tp) (xs:=us) (λi σ' G=>G=H/\∃v,σ'=[rF fd,rF fo,v]) ⟨rfl,none,rfl⟩ (λi σ' G _ g=>by rw[g.1];exact SqL.of h3) ?_ ?_⟩
 .rintro i y σ' G hy ⟨rfl,v,rfl⟩;obtain⟨⟨t,f⟩,hw,b,s,vs,rfl,hb,_,hf,_⟩:=h4.getL hy;refine⟨_,rfl,_,"tuple",true,rfl,by decide,.inr ⟨⟨_,SqT.of hb⟩,rfl⟩,_,rfl,?_⟩;right;refine⟨_,rfl,_,_,rfl,.inr (SqT.of hb),rfl,_,rfl,?_⟩;right;refine⟨_,rfl,_,_,_,_,rfl,rfl,SqT.of hb,rfl,_,"list",true,rfl,by decide,.inl ⟨⟨_,SqL.of hf⟩,rfl⟩,_,rfl,?_⟩;right;exact⟨rfl,_,rfl⟩
 rintro σ' G ⟨rfl,v,rfl⟩;exact⟨_,rfl,_,_,_,_,rfl,rfl,SqT.of h1,rfl,_,"list",true,rfl,by decide,.inl ⟨⟨_,SqL.of h6⟩,rfl⟩,q⟩
inductive yY(K:IC)(vs:List V)(H:Hp)(Q:VK)(x_1:XK):Prop
 |mk(ra:Addr)(f:Int)(rs:List (List Nat))(_:vs=[.ref ra,.int f])(_:SqL K H ra ((rs.map tx).map V.str))(_:rs.length<=200)(_:∀r∈rs,r.length<=8200)(_:∀p H' ss,H p=none->aj H H'->H' p=some (.lst ((ss.map tx).map V.str))->oZ rs ss->ss.length=rs.length->Q (.ref p) H')
theorem ga:aN ["rows","first","spaced","k","row","ahead","end"] ["rows","first"] (aw (top 78)):=by walk_at "c"
theorem yZ(T:Txt P w K mg a):bi P w K mg base CX0 2 a.pN a.nR ["rows","first"] (yY K):=by
 exists T.pI.fn.ok,ga
 obtain⟨ra,f,rs,rfl,hra,rl,rln,q⟩:=h
 exists (ae (av (i:=2) ga.nd rfl (IP rfl) (aQ ac))
   (ae (bY Jq rfl (zp rfl T.gb (pv 0)) (dD rfl (aU (aJ (i:=3) ga.nd rfl (IP rfl)) (aU (aJ (i:=4) ga.nd rfl (IP rfl)) cQ))) (ae (FY (ED (EC wO (aF oK rfl T.bG Jg (aa (pv 4) ac)) (nomark _)) (dQ (ao bn (aC T.b8 (bV T) (hM hr) rfl (aa (aH bS (pv 1) (pv 3)) (aa ag (aa ag ac)))) ag (nomark _)))) (Dk (i:=4) ga.nd rfl (IP rfl) (yU (pv 4) (by decide +kernel) (by decide +kernel))) aE)
   (ae (av (i:=5) ga.nd rfl (IP rfl) (aC T.b8 (bV T) (hM hr) rfl (aa (aH bS (pv 1) (pv 3)) (aa ag (aa ag ac)))))
   (ae (av (i:=6) ga.nd rfl (IP rfl) (aC T.b8 (bV T) (hM hr) rfl (aa (aH bS (pv 1) (pv 3)) (aa ag (aa ag ac)))))
   (af (bf (b_ IR Je Jf bT (pv 2) (aa (aH de (aH de (aH oP am (aF (mP rfl) rfl T.lM Lc (aa ag (aa (aH kD (pv 5) ag) ac)))) (pv 4)) (aH oP am (aF (mP rfl) rfl T.lM Lc (aa ag (aa (aH kD (pv 6) ag) ac))))) ac))))))))
   (af (aM (pv 2)))))
 refine⟨aW (by simp),λp1 hp1=>?_⟩
 exists hp1,H1,s1,k1
 refine⟨_,rfl,ra,rfl,⟨_,s1.seq hra⟩,xL (K:=K) (a:=ra) (xs:=(rs.map tx).map V.str) (λi σ' G=>∃(v3 v4 v5 v6:Option V)(ss:List (List Nat)),σ'=[rF ra,some (.int f),rF p1,v3,v4,v5,v6]/\aj H G/\G p1=some (.lst ((ss.map tx).map V.str))/\oZ (rs.take i) ss/\ss.length=i) ⟨none,none,none,none,[],rfl,s1,k1,trivial,rfl⟩ (λi σ' G _ g=>by obtain⟨_,_,_,_,_,_,m,_⟩:=g;exact m.seq hra) ?_ ?_⟩
 .rintro k y σ' G p0 hy ⟨v3,v4,v5,v6,ss,rfl,m,g1,sp,sl⟩ hp0;obtain⟨r,hr_,rfl⟩:=lZ hy;have hk:=(List.getElem?_eq_some_iff.mp hr_).1;have rl2:=rln r (IK hr_)
  exists hp0,G1,sZ,k0
  have m1:=m.trans sZ;have g2:=sZ _ _ g1;refine⟨p0,_,rfl,SqT.of k0,rfl,_,_,rfl,_,_,rfl,rfl,?_⟩;refine cy (λσ' G'=>∃d:Bool,σ'=[rF ra,some (.int f),rF p1,some (.int (k:Int)),some (.str (tx (if d then ny r else r))),v5,v6]/\G'=G1) ?_ (λkey=>?_)
  .rintro σ' G2 ⟨d,rfl,rfl⟩;have ha:=eS (f+(k:Int)) 84 (show(0:Int)<6 by decide);have hb:=eS (f+(k:Int)) 85 (show(0:Int)<6 by decide);have dl:(if d then ny r else r).length<=16400:=by have:=zC r;split<;>omega
   refine⟨_,rfl,_,rfl,_,_,rfl,rfl,_,84,6,rfl,⟨by decide,by decide⟩,by decide,?_⟩;refine⟨_,rfl,_,rfl,_,_,rfl,rfl,_,85,6,rfl,⟨by decide,by decide⟩,by decide,?_⟩;have ea:(if b7 (f+(k:Int)) 84 6-2>0 then b7 (f+(k:Int)) 84 6-2 else 0)=(((b7 (f+(k:Int)) 84 6-2).toNat:Nat):Int):=by split<;>omega
   have eb:(if b7 (f+(k:Int)) 85 6-3>0 then b7 (f+(k:Int)) 85 6-3 else 0)=(((b7 (f+(k:Int)) 85 6-3).toNat:Nat):Int):=by split<;>omega
   have a10:(b7 (f+(k:Int)) 84 6-2).toNat<=10:=by omega
   have b10:(b7 (f+(k:Int)) 85 6-3).toNat<=10:=by omega
   generalize (b7 (f+(k:Int)) 84 6-2).toNat=na at ea a10;generalize (b7 (f+(k:Int)) 85 6-3).toNat=nb at eb b10;refine⟨_,rfl,.inl ⟨rfl,_,SqL.of g2⟩,_,rfl,_,_,rfl,rfl,_,_,rfl,_,_,rfl,rfl,(by rw[ea];exact zA a10),_,rfl,_,_,rfl,rfl,?_,_,rfl,_,_,rfl,rfl,_,_,rfl,_,_,rfl,rfl,(by rw[eb];exact zA b10),_,_,rfl,rfl,?_,_,_,_,rfl,rfl,g2,ay (by simp only[Iz];omega),?_⟩
   .rw[ea,uF,aV,aV,JI];exact Jj (IU (show _<=20000 by omega) (by decide))
   .rw[ea,eb,uF,uF,eZ,aV,aV,IB,JI,JI];exact Jj (IU (show _<=20000 by omega) (by decide))
   .rw[ea,eb,uF,uF,eZ,eZ];refine⟨_,_,_,_,ss++[mV na nb d r],rfl,aY m1 hp1,?_,?_,by rw[IB,sl];rfl⟩
    .rw[ah,IJ,IJ];rfl
    .rw[aT hr_];exact sp.snoc ⟨na,nb,d,a10,b10,rfl⟩
  .refine⟨_,rfl,_,_,rfl,⟨(by rw[aV];exact Jj (IU rl2 (by decide))),rfl⟩,_,_,rfl,rfl,_,rfl,?_⟩;have kF:=key [rF ra,some (.int f),rF p1,some (.int (k:Int)),some (.str (tx r)),v5,v6] G1 ⟨false,rfl,rfl⟩;refine eB (λc1=>?_) (λc1=>?_)
   .refine⟨_,rfl,_,rfl,_,_,rfl,rfl,_,86,3,rfl,⟨by decide,by decide⟩,by decide,rfl,_,rfl,?_⟩;refine eB (λc2=>?_) (λc2=>?_)
    .refine⟨_,rfl,_,rfl,(by rw[aV];omega),?_⟩;refine key _ G1 ⟨true,?_,rfl⟩;rw[PyProof.Rows.replace_dbl _ _ _ 32 (by decide +kernel) (by decide +kernel)];rfl
    .exact kF
   .right;exact kF
 rintro σ' G ⟨v3,v4,v5,v6,ss,rfl,m,g1,sp,sl⟩;rw[Iz,Iz]at sl;rw[Iz,Iz,IZ]at sp;exact⟨_,rfl,q p1 G ss hp1 m g1 sp sl⟩
inductive y0(K:IC)(vs:List V)(H:Hp)(Q:VK)(x_1:XK):Prop
 |mk(na ta:Addr)(nv tv:List V)(named:List bu)(tt:List Ttl)(_:vs=[.ref na,.ref ta])(_:H na=some (.lst nv))(_:aI (NnA H) nv named)(_:H ta=some (.lst tv))(_:aI (TtA H) tv tt)(_:named.length<=200)(_:tt.length<=63)(_:∀r∈named,r.2.2.length<=129)(_:∀t∈tt,t.2.length<=129)(_:∀p H' us,H p=none->aj H H'->H' p=some (.lst us)->aI (SwA H') us (cM tt 0 named)->Q (.ref p) H')
theorem fc:aN ["named","titles","stream","heads","way","name","words","k"] ["named","titles"] (aw (top 71)):=by walk_at "c"
theorem y4(T:Txt P w K mg a):bi P w K mg base CX0 1 a.pO a.nS ["named","titles"] (y0 K):=by
 exists T.pJ.fn.ok,fc
 obtain⟨na,ta,nv,tv,named,tt,rfl,hna,nal,hta,tal,nl,tl,nw,tw,q⟩:=h
 exists (ae (av (i:=2) fc.nd rfl (IP rfl) (aQ ac))
   (ae (av (i:=3) fc.nd rfl (IP rfl) ag)
   (ae (bY Jq rfl (bj (pv 0)) (dD rfl (aU (aJ (i:=4) fc.nd rfl (IP rfl)) (aU (aJ (i:=5) fc.nd rfl (IP rfl)) (aU (aJ (i:=6) fc.nd rfl (IP rfl)) cQ)))) (ae (aG (ao bn (pv 4) am (nomark _)) (af (bf (b_ IR J1 J2 gB (pv 2) (aa (pv 6) ac)))) aE)
   (ae (aG (PW.pt (fT (ao dZ (pv 4) am (nomark _)) (dQ (ao bn (aB eu (pv 4) ag (λ_ _=>rfl)) am (nomark _))))) (ae (bf (b_ IR Je Jf bT (pv 2) (aa (a_ (aa am (aa (pv 3) ac))) ac)))
   (ae (bf (b_ IR J1 J2 gB (pv 2) (aa (pv 6) ac)))
   (af (av (i:=3) fc.nd rfl (IP rfl) (aH bS (pv 3) ag))))) aE)
   (af (aG (ao bn (pv 4) am (nomark _)) (af (bY Jq rfl (kA rfl T.eU (aa (aF bp rfl T.bG Jg (aa (pv 1) ac)) ac)) (aJ (i:=7) fc.nd rfl (IP rfl)) (ae (bf (b_ IR Je Jf bT (pv 2) (aa (a_ (aa am (aa (pv 7) ac))) ac)))
   (ae (bf (b_ IR J1 J2 gB (pv 2) (aa (gc rfl (eW (caps:=[]) (js:=[]) (cap:=trivial)) (bj (aB aZ (aB bC (pv 1) (pv 7) (λ_ _=>rfl)) ag (λ_ _=>rfl))) (λ_ _ _ _=>(iX (ao dZ (aB (r:=kQ K) aZ (pv 0) ag (λ_ _=>rfl)) am (nomark _)))) (λ_ _ _ _=>(pv 0))) ac)))
   (af (bf (b_ IR Je Jf bT (pv 2) (aa (a_ (aa am (aa (pv 7) ac))) ac)))))))) aE)))))
   (af (aM (pv 2))))))
 have ln:=nal.len;have lt:=tal.len;refine(⟨aW (by simp),λp1 hp1=>?_⟩)
 exists hp1,H1,s1,k1
 refine(⟨_,rfl,na,rfl,⟨_,SqL.of (s1 _ _ hna)⟩,bZ (K:=K) (a:=na) (xs:=nv) (λi σ' G=>∃(h:Nat)(v4 v5 v6 v7:Option V)(us:List V)(ss:List Sw),σ'=[rF na,rF ta,rF p1,some (.int (h:Int)),v4,v5,v6,v7]/\aj H G/\G p1=some (.lst us)/\aI (SwA (hid [p1] G)) us ss/\cM tt 0 named=ss++cM tt h (named.drop i)/\us.length<=9000*i) ⟨0,none,none,none,none,[],[],rfl,s1,k1,trivial,rfl,Jw _⟩ (λi σ' G _ g=>by obtain⟨_,_,_,_,_,_,_,_,m,_⟩:=g;exact SqL.of (m _ _ hna)) ?_ ?_⟩)
 .rintro i y σ' G hy ⟨h,v4,v5,v6,v7,us,ss,rfl,m,g1,sal,es,ul⟩;obtain⟨⟨wy,nm,ws⟩,hn,b,l,rfl,hb,hl⟩:=nal.getL hy;have hi:=(List.getElem?_eq_some_iff.mp hn).1;have wl:=nw _ (IK hn);dsimp only at hb hl wl;have ed:named.drop i=(wy,nm,ws)::named.drop (i+1):=by
   obtain⟨hi,e⟩:=List.getElem?_eq_some_iff.mp hn;rw[Js hi,e]
  rw[ed]at es;have es:cM tt 0 named=ss++(fb tt h (wy,nm,ws)++cM tt (h+hB wy.hd) (named.drop (i+1))):=es;obtain⟨cs,l1,l2⟩:=hl;have lc:=l2.len;unfold wkS at lc;rw[Iz]at lc;have nlp:l≠p1:=λz=>by rw[z,hp1]at l1;cases l1
  have hidO:∀{G'},aj H G'->aj H (hid [p1] G'):=λ{G'} m'=>lN m' (λb hb=>by rw[List.mem_singleton.mp hb];exact hp1);have csw:∀{G'},aj H G'->aI (SwA (hid [p1] G')) cs (ws.map .w):=λ{G'} m'=>(D3 l2).imp λ_ _=>SwA.mono (hidO m');have ext:∀(G':Hp)(us':List V)(ss':List Sw),aj H G'->aI (SwA (hid [p1] G')) us' ss'->aI (SwA (hid [p1] (upd G' p1 (.lst (us'++cs))))) (us'++cs) (ss'++ws.map .w):=λG' us' ss' m' a'=>by rw[bH (by simp)];exact a'.app (csw m')
  refine(⟨b,_,rfl,SqT.of (m _ _ hb),rfl,_,_,rfl,_,_,rfl,_,_,rfl,rfl,?_⟩);refine cy (λσ' G'=>∃(us':List V)(ss':List Sw),σ'=[rF na,rF ta,rF p1,some (.int (h:Int)),some (.str (tx wy.t)),some (.str (tx nm)),rF l,v7]/\aj H G'/\G' p1=some (.lst us')/\aI (SwA (hid [p1] G')) us' ss'/\ss'=ss++(if wy=.words then ws.map .w else[])/\us'.length<=9000*i+129) ?_ (λkey=>?_)
  .rintro σ' G2 ⟨us2,ss2,rfl,m2,g2,sal2,es2,ul2⟩;refine cy (λσ' G'=>∃(us':List V)(ss':List Sw),σ'=[rF na,rF ta,rF p1,some (.int ((h+hB wy.hd:Nat):Int)),some (.str (tx wy.t)),some (.str (tx nm)),rF l,v7]/\aj H G'/\G' p1=some (.lst us')/\aI (SwA (hid [p1] G')) us' ss'/\ss'=ss++(if wy=.words then ws.map .w else if wy.hd=true then .head h::ws.map .w else[])/\us'.length<=9000*i+300) ?_ (λkey=>?_)
   .rintro σ' G3 ⟨us3,ss3,rfl,m3,g3,sal3,es3,ul3⟩;refine(⟨_,rfl,rfl,_,rfl,?_⟩);rw[bP uD];by_cases hL:wy=.lst
    .refine iT (by rw[hL];rfl) ?_;subst hL;have es3:ss3=ss:=by rw[es3];exact IY _
     subst es3;refine(⟨_,rfl,_,_,rfl,.inl (SqL.of (m3 _ _ hta)),_,rfl,(by omega),(by omega),kC (λj σ' G'=>∃(v7:Option V)(us':List V),σ'=[rF na,rF ta,rF p1,some (.int ((h+hB (Wy.lst).hd:Nat):Int)),some (.str (tx (Wy.lst).t)),some (.str (tx nm)),rF l,v7]/\aj H G'/\G' p1=some (.lst us')/\aI (SwA (hid [p1] G')) us' (ss3++fW tt j)/\us'.length<=9000*i+300+131*j) ?_ ?_ ?_⟩)
     .refine(⟨_,us3,rfl,m3,g3,?_,by omega⟩);rw[show fW tt 0=[]from rfl,IY];exact sal3
     .rintro j σ' G4 hj ⟨w7,us4,rfl,m4,g4,sal4,ul4⟩;rw[LM];have hjt:j<tt.length:=by simp at hj;omega
      obtain⟨t,ht⟩:∃t,tt[j]?=some t:=⟨tt[j],II hjt⟩;obtain⟨v,hv,tb,tl',rfl,htb,c5,c51,c52⟩:=tal.getR ht;have tw5:=tw t (IK ht);have lc5:=c52.len;unfold wkS at lc5;rw[Iz]at lc5;refine(⟨_,rfl,.inl ⟨rfl,_,SqL.of g4⟩,_,rfl,le2,λp2 hp2=>?_⟩);have m5:=ai hp2 (.tup [.str (Iy "entry"),.int (j:Int)]);have np2:p2≠p1:=λz=>by rw[z,g4]at hp2;cases hp2
      refine(⟨_,_,_,rfl,rfl,m5 _ _ g4,IU (show us4.length<=2000000 by omega) (by decide),?_⟩);have m6:=aY (o:=.lst (us4++[.ref p2])) (m4.trans m5) hp1;have k6:upd (upd G4 p2 (.tup [.str (Iy "entry"),.int (j:Int)])) p1 (.lst (us4++[.ref p2])) p1=some (.lst (us4++[.ref p2])):=ah;have a6:aI (SwA (hid [p1] (upd (upd G4 p2 (.tup [.str (Iy "entry"),.int (j:Int)])) p1 (.lst (us4++[.ref p2]))))) (us4++[.ref p2]) (ss3++fW tt j++[.entry j]):=by
       rw[bH (by simp)];exact(sal4.imp λ_ _=>SwA.mono (bg m5)).snoc ⟨p2,rfl,br (by simpa using np2) ah⟩
      generalize upd (upd G4 p2 (.tup [.str (Iy "entry"),.int (j:Int)])) p1 (.lst (us4++[.ref p2]))=G6 at m6 k6 a6⊢;refine(⟨_,rfl,.inl ⟨rfl,_,SqL.of k6⟩,_,rfl,_,rfl,_,_,_,_,rfl,rfl,SqL.of (m6 _ _ hta),bX hv,_,_,_,_,rfl,rfl,SqT.of (m6 _ _ htb),rfl,tl',rfl,⟨_,SqL.of (m6 _ _ c51)⟩,dS (K:=K) (a:=tl') (xs:=c5) (λi ys G'=>G6=G'/\ys.length<=i/\aI (SwA H) ys (ttW (t.1,t.2.take i))) ⟨rfl,IM _,trivial⟩ (λi ys G' _ z=>by rw[<-z.1];exact SqL.of (m6 _ _ c51)) ?_ ?_ ?_⟩)
      .rintro i' ys G' hi' ⟨_,z,_⟩;exact ay (by omega)
      .rintro i' y' ys G' hy' ⟨rfl,z,az⟩;obtain⟨w',hw',wb,rfl,hwb⟩:=c52.getL hy';unfold wkS at hw';rw[Jc]at hw';obtain⟨d,hd,rfl⟩:=Option.map_eq_some_iff.mp hw';have en:ttW (t.1,t.2.take (i'+1))=ttW (t.1,t.2.take i')++ttW (t.1,[d]):=by
        unfold ttW;dsimp only;rw[aT hd,JK,IJ]
       refine(⟨_,rfl,_,_,_,_,rfl,rfl,SqT.of (m6 _ _ hwb),rfl,rfl,_,rfl,?_⟩);by_cases hm:d.1=.mark
       .refine nF (by show V.str d.1.s=_;rw[hm];rfl) ?_;refine(⟨rfl,by omega,?_⟩);rw[en,show ttW (t.1,[d])=[]from by unfold ttW;simp[hm],IY];exact az
       .refine nT (λzz=>hm (Kw.inj (b:=.mark) (V.str.inj zz))) ?_;refine(⟨_,rfl,rfl,by rw[IB];simp only[ID,Ja];omega,?_⟩);rw[en,show ttW (t.1,[d])=[.w d]from by unfold ttW;simp[hm]];exact az.snoc ⟨wb,rfl,hwb⟩
      rintro ys G' ⟨rfl,zl,az⟩ p3 hp3;rw[lc5,IZ]at az;have m7:=ai hp3 (.lst ys);have np3:p3≠p1:=λz=>by rw[z,k6]at hp3;cases hp3
      refine(⟨_,_,_,_,rfl,rfl,m7 _ _ k6,ah,Jj (IU (show(us4++[V.ref p2]).length+ys.length<=3000000 by rw[IB];simp only[ID,Ja];omega) (by decide)),?_⟩);have m8:=aY (o:=.lst (us4++[.ref p2]++ys)) (m6.trans m7) hp1;have k8:upd (upd G6 p3 (.lst ys)) p1 (.lst (us4++[.ref p2]++ys)) p1=some (.lst (us4++[.ref p2]++ys)):=ah;have a8:aI (SwA (hid [p1] (upd (upd G6 p3 (.lst ys)) p1 (.lst (us4++[.ref p2]++ys))))) (us4++[.ref p2]++ys) (ss3++fW tt j++[.entry j]++ttW t):=by
       rw[bH (by simp)];exact(a6.imp λ_ _=>SwA.mono (bg m7)).app (az.imp λ_ _=>SwA.mono (hidO (m6.trans m7)))
      generalize upd (upd G6 p3 (.lst ys)) p1 (.lst (us4++[.ref p2]++ys))=G8 at m8 k8 a8⊢;refine(⟨_,rfl,.inl ⟨rfl,_,SqL.of k8⟩,_,rfl,le2,λp5 hp5=>?_⟩);have m9:=ai hp5 (.tup [.str (Iy "goal"),.int (j:Int)]);have np5:p5≠p1:=λz=>by rw[z,k8]at hp5;cases hp5
      refine(⟨_,_,_,rfl,rfl,m9 _ _ k8,IU (show(us4++[V.ref p2]++ys).length<=3000000 by simp only[IB,ID,Ja];omega) (by decide),?_⟩);refine(⟨_,us4++[.ref p2]++ys++[.ref p5],rfl,aY (m8.trans m9) hp1,ah,?_,by simp only[IB,ID,Ja];omega⟩);rw[bH (by simp),show ss3++fW tt (j+1)=ss3++fW tt j++[.entry j]++ttW t++[.goal j]from by
       unfold fW;rw[Md,Ln];simp[mW,Jb,ht]]
      exact(a8.imp λ_ _=>SwA.mono (bg m9)).snoc ⟨p5,rfl,br (by simpa using np5) ah⟩
     .rintro σ' G4 ⟨w7,us4,rfl,m4,g4,sal4,ul4⟩;rw[show LS ((tv.length:Nat):Int)=tt.length by rw[lt];exact J0 _]at sal4 ul4;refine(⟨h+hB (Wy.lst).hd,_,_,_,_,us4,_,rfl,m4,g4,sal4,?_,by omega⟩);rw[es,IT];rfl
    .refine iF (λz=>hL (Wy.inj (b:=.lst) z)) ?_;refine(⟨h+hB wy.hd,_,_,_,_,us3,ss3,rfl,m3,g3,sal3,?_,by omega⟩);rw[es,es3];unfold fb;dsimp only;rw[if_neg hL,IT]
   .refine(⟨_,rfl,rfl,_,rfl,?_⟩);rw[show(!decide (V.str (tx wy.t)=V.str (Iy ""))) = !decide (wy=.empty)from by
     rw[bP nu];cases wy<;>decide]
    by_cases he:wy=.empty
    .rw[decide_eq_true he];right;right;refine key _ _ ⟨us2,ss2,by rw[he];rfl,m2,g2,sal2,?_,by omega⟩;rw[es2,he];rfl
    .rw[decide_eq_false he];left;obtain⟨c,u,ec,hc⟩:∃c u,wy.t=c::u/\decide (c=61)=wy.hd:=by
      cases wy<;>first|exact⟨_,_,rfl,rfl⟩|exact absurd rfl he
     refine(⟨_,rfl,_,_,c,rfl,rfl,(by rw[aV];cases wy<;>exact aW (by decide)),(by rw[ec];exact fP _ _),rfl,_,rfl,?_⟩)
     rw[bP cH1,show decide ([c]=[61])=wy.hd from by rw[<-hc];simp];cases hh:wy.hd with
     |false =>
      right;refine key _ _ ⟨us2,ss2,by simp[hB,hh],m2,g2,sal2,?_,by omega⟩;rw[es2];simp[hh]
     |true =>
      left;have nwd:wy≠.words:=λz=>by rw[z]at hh;cases hh
      refine(⟨_,rfl,.inl ⟨rfl,_,SqL.of g2⟩,_,rfl,le2,λp4 hp4=>?_⟩);have m4:=ai hp4 (.tup [.str (Iy "head"),.int (h:Int)]);have np4:p4≠p1:=λz=>by rw[z,g2]at hp4;cases hp4
      refine(⟨_,_,_,rfl,rfl,m4 _ _ g2,IU (show us2.length<=2000000 by omega) (by decide),?_⟩);have m5:=aY (o:=.lst (us2++[.ref p4])) (m2.trans m4) hp1;have k5:upd (upd G2 p4 (.tup [.str (Iy "head"),.int (h:Int)])) p1 (.lst (us2++[.ref p4])) p1=some (.lst (us2++[.ref p4])):=ah;have a5:aI (SwA (hid [p1] (upd (upd G2 p4 (.tup [.str (Iy "head"),.int (h:Int)])) p1 (.lst (us2++[.ref p4]))))) (us2++[.ref p4]) (ss2++[.head h]):=by
       rw[bH (by simp)];exact(sal2.imp λ_ _=>SwA.mono (bg m4)).snoc ⟨p4,rfl,br (by simpa using np4) ah⟩
      generalize upd (upd G2 p4 (.tup [.str (Iy "head"),.int (h:Int)])) p1 (.lst (us2++[.ref p4]))=G5 at m5 k5 a5⊢;refine(⟨_,rfl,.inl ⟨rfl,_,SqL.of k5⟩,_,rfl,_,_,_,_,rfl,rfl,k5,m5 _ _ l1,Jj (IU (show(us2++[V.ref p4]).length+cs.length<=3000000 by rw[IB];simp only[ID,Ja];omega) (by decide)),?_⟩);refine(⟨_,rfl,_,_,rfl,rfl,?_⟩);refine key _ _ ⟨us2++[.ref p4]++cs,_,by simp[hB,hh],aY m5 hp1,ah,ext G5 _ _ m5 a5,?_,by simp only[IB,ID,Ja];omega⟩;rw[es2];simp[nwd,hh]
  .refine(⟨_,rfl,rfl,_,rfl,?_⟩);rw[bP jM];by_cases hw:wy=.words
   .refine iT (by rw[hw];rfl) ?_;refine(⟨_,rfl,.inl ⟨rfl,_,SqL.of g1⟩,_,rfl,_,_,_,_,rfl,rfl,g1,m _ _ l1,Jj (IU (show us.length+cs.length<=3000000 by omega) (by decide)),?_⟩);refine key _ _ ⟨us++cs,_,rfl,aY m hp1,ah,ext G _ _ m sal,by rw[if_pos hw],by rw[IB];omega⟩
   .refine iF (λz=>hw (Wy.inj (b:=.words) z)) ?_;exact key _ _ ⟨us,ss,rfl,m,g1,sal,by rw[if_neg hw,IY],by omega⟩
 rintro σ' G ⟨h,v4,v5,v6,v7,us,ss,rfl,m,g1,sal,es,ul⟩;rw[ln,Kk]at es;have es:cM tt 0 named=ss:=by rw[es];exact IY _
 exact(⟨_,rfl,q p1 G us hp1 m g1 (by rw[es];exact sal.imp λ_ _=>SwA.mono bJ)⟩)
inductive yg(vs:List V)(H:Hp)(Q:VK)(x_1:XK):Prop
 |mk(l:List Nat)(_:vs=[.str (tx l)])(_:l.length<=1000)(_:Q (.bl (bU l)) H)
theorem qS:aN ["word","sign"] ["word"] (aw (top 61)):=by walk_at "c"
theorem yh(T:Txt P w K mg a):bi P w K mg base CX0 1 a.nJ a.mE ["word"] yg:=by
 exists T.nC.fn.ok,qS
 obtain⟨l,rfl,hl,q⟩:=h
 exists (ae (aG (PW.pt (eP (ao wO (aF dG rfl T.bG Jg (aa (pv 0) ac)) ag (nomark _)) (fS (ao iV (aF dG rfl T.bG Jg (aa (pv 0) ac)) ag (nomark _))))) (af (aM cC)) aE)
   (ae (bY Jq rfl (BA (pv 0)) (aJ (i:=1) qS.nd rfl (IP rfl)) (af (aG (ao qz (pv 1) am (by with_unfolding_all rfl)) (af (aM cC)) aE)))
   (af (aM (dL qz (aB eu (pv 0) ag (λ_ _=>rfl)) am (by with_unfolding_all rfl))))))
 refine⟨_,rfl,_,rfl,aW (by rw[aV];exact hl),_,_,rfl,rfl,_,rfl,?_⟩;rw[aV];cases l with
 |nil =>
  left;left;exact q
 |cons c r =>
  refine iF (by simp only[ID];omega) ?_;refine⟨_,rfl,_,rfl,aW (by rw[aV];exact hl),_,_,rfl,rfl,_,rfl,?_⟩;rw[aV];refine eB (λh=>?_) (λh=>?_)
  .have h2:¬ (c::r).length<=12:=by have:=of_decide_eq_true h;omega
   rw[vO h2]at q;exact q
  .have h2:(c::r).length<=12:=by
    refine Li λz=>h (decide_eq_true ?_);omega
   rw[oU h2]at q;refine⟨_,rfl,_,rfl,Ep (x:=tx (c::r)) (λi σ H2=>H2=H/\(∃v,σ=[some (.str (tx (c::r))),v])/\(((c::r).take i).all λd=>isL d||isF d)=true) ⟨rfl,⟨none,rfl⟩,rfl⟩ ?_ ?_⟩
   .rintro i d σ H2 hd ⟨rfl,⟨v,rfl⟩,ha⟩;rw[BD]at hd;refine⟨_,rfl,_,_,rfl,rfl,_,rfl,?_⟩;rw[EI];cases h3:(isL d||isF d)with
    |true =>
     right;refine⟨rfl,⟨_,rfl⟩,?_⟩;rw[Ld,hd,List.all_append,ha];simp[h3]
    |false =>
     left;have h4:((c::r).all λd=>isL d||isF d)=false:=by
      refine Bool.eq_false_iff.mpr λz=>?_;have:=List.all_eq_true.mp z d (IK hd);rw[h3]at this;cases this
     rw[h4,M5]at q;exact q
   .rintro σ H2 ⟨rfl,⟨v,rfl⟩,ha⟩;rw[zn,Kp (IM _)]at ha;rw[ha,Nd]at q;refine⟨_,rfl,_,_,c,rfl,rfl,aW (by rw[aV];exact hl),fP c r,_,_,rfl,rfl,?_⟩;rw[B3];have ha1:(isL c||isF c)=true:=List.all_eq_true.mp ha c IL;cases h5:isL c with
    |true =>
     rw[h5]at q;rw[EJ h5];exact q
    |false =>
     rw[h5]at q;rw[h5,Nc]at ha1;rw[ha1];exact q

def kwI:Kw->Nat
 |.mark=>0|.number=>1|.page=>2|.row=>3|.foot=>4|_=>5
def kw5:List V:=[V.str (Iy "mark"),V.str (Iy "number"),V.str (Iy "page"),V.str (Iy "row"),V.str (Iy "foot")]
theorem Gq{k:Kw}(h1:k≠.plain)(h2:k≠.entry):(∃v,kw5[kwI k]?=some v/\eqV v (.str k.s)=true)/\(∀(m:Nat)(v:V),m<kwI k->kw5[m]?=some v->eqV v (.str k.s)=false)/\atI (Iy "#@&^~").cps.toList ((kwI k:Nat):Int)=some (sgK k):=by
 have no:∀(n:Nat)(s:Str),(∀m:Nat,m<n->∀v,kw5[m]?=some v->eqV v (.str s)=false)↔((kw5.take n).all λv=>!eqV v (.str s))=true:=λn s=>by
  rw[List.all_eq_true];constructor
  .intro h v hv;obtain⟨m,hm,e⟩:=List.getElem_of_mem hv;rw[List.getElem_take]at e;rw[Jm]at hm;rw[h m (by omega) v (by rw[<-e];exact II _)];rfl
  .intro h m hm v hv;have:=h v (IK (i:=m) (by rw[List.getElem?_take,if_pos hm];exact hv));simpa using this
 have no:=λ(n:Nat)(s:Str)(z:((kw5.take n).all λv=>!eqV v (.str s))=true)=>λ(m:Nat)(v:V) hm hv=>(no n s).mpr z m hm v hv;cases k with
 |plain=>exact absurd rfl h1
 |entry=>exact absurd rfl h2
 |mark=>exact⟨⟨_,rfl,by decide +kernel⟩,no 0 _ (by decide +kernel),by decide +kernel⟩
 |number=>exact⟨⟨_,rfl,by decide +kernel⟩,no 1 _ (by decide +kernel),by decide +kernel⟩
 |page=>exact⟨⟨_,rfl,by decide +kernel⟩,no 2 _ (by decide +kernel),by decide +kernel⟩
 |row=>exact⟨⟨_,rfl,by decide +kernel⟩,no 3 _ (by decide +kernel),by decide +kernel⟩
 |foot=>exact⟨⟨_,rfl,by decide +kernel⟩,no 4 _ (by decide +kernel),by decide +kernel⟩
theorem D4:(Iy "!")=tx [33]:=by decide +kernel
theorem HE:(Iy ".![=")=tx [46,33,91,61]:=by decide +kernel
theorem HF:(Iy "#@&^~")=tx [35,64,38,94,126]:=by decide +kernel

inductive yi(vs:List V)(H:Hp)(Q:VK)(x_1:XK):Prop
 |mk(w:NWd)(_:vs=[.str w.1.s,.str (tx w.2)])(_:oY w)(_:∀H',aj H H'->Q (.str (tx (wrW true w))) H')
theorem yj:aN ["kind","rest"] ["kind","rest"] (aw (top 65)):=by walk_at "c"
theorem yk(T:Txt P w K mg a):bi P w K mg base CX0 2 a.nM a.mI ["kind","rest"] yi:=by
 exists T.nD.fn.ok,yj
 obtain⟨w,rfl,ok,q⟩:=h
 exists (@ae _ _ _ _ _ (@aG _ _ _ _ _ _ _ _ (ao dZ (pv 0) am (nomark _)) (@af _ _ _ (@aM _ _ _ _ (aH de (@aB _ _ _ _ _ _ _ eu am (b_ IR PySem.F.slot_list_index PySem.F.type_list_index C9 (@aQ _ _ _ _ (@ux _ _ _ (CL.str (CL.str (CL.str (CL.str (CL.str CL.nil))))))) (@aa _ _ _ _ _ (pv 0) ac (by rfl))) (λ_ _=>rfl)) (pv 1)))) aE)
   (@ae _ _ _ _ _ (@aG _ _ _ _ _ _ _ _ (PW.pt (eP (ao kE (@aB _ _ _ _ _ _ _ eu (pv 1) ag (λ_ _=>rfl)) am (by with_unfolding_all rfl)) (fS (PW.pt (fT (ao kE (@aB _ _ _ _ _ _ _ eu (pv 1) ag (λ_ _=>rfl)) am (by with_unfolding_all rfl)) (dQ (cz (aC T.nC (yh T) (hM hr) rfl (@aa _ _ _ _ _ (dR kH (pv 1) (eQ ag) fN) ac (by rfl))) (λ_=>rfl)))))))) (@af _ _ _ (@aM _ _ _ _ (aH de am (pv 1)))) aE)
   (@af _ _ _ (@aM _ _ _ _ (pv 1)))))
 obtain⟨k,r⟩:=w;obtain⟨he,sg,hw⟩:=ok;dsimp only at he sg hw;refine(⟨_,rfl,rfl,_,rfl,?_⟩);by_cases hk:k=.plain
 .subst hk;right;dsimp only[cY];obtain⟨_,hne,hl⟩|⟨z,_⟩:=hw
  .match r,hne,hl,sg,q with
   |c::u,_,hl,sg,q =>
   have eT:lI true (c::u)=true->∀H',aj H H'->Q (.str (tx (33::c::u))) H':=λb H' s=>by
    have:=q H' s;rw[show wrW true (.plain,c::u)=33::c::u from by unfold wrW;rw[if_pos rfl,if_pos b]]at this;exact this
   have eF:lI true (c::u)=false->∀H',aj H H'->Q (.str (tx (c::u))) H':=λb H' s=>by
    have:=q H' s;rw[show wrW true (.plain,c::u)=c::u from by unfold wrW;rw[if_pos rfl,if_neg (by rw[b];decide)]]at this;exact this
   have bang:∀{D:e9}{σ':St}{H'},σ'[1]?=some (some (.str (tx (c::u))))->D.rt=Q->lI true (c::u)=true->aj H H'->True:=λ_ _ _ _=>trivial;have ln:(Iy "!").length+(tx (c::u)).length<=I0:=by rw[D4,aV,aV];exact Jj (ay (by simp only[ID,Ja]at hl⊢;omega))
   have add:∀H',aj H H'->lI true (c::u)=true->Q (.str (Iy "!"++tx (c::u))) H':=λH' s b=>by rw[D4,eZ];exact eT b H' s
   have L1:(tx (c::u)).length<=I0:=by rw[aV];exact Jj (ay (by omega))
   have em:decide (c∈[35,64,38,94,126])=isM c:=rfl;have e4:decide (c∈[46,33,91,61])=(decide (c∈[46,33,91])||decide (c=61)):=by simp[Bool.or_assoc]
   refine(⟨_,rfl,_,_,c,rfl,rfl,L1,fP _ _,_,_,rfl,rfl,_,rfl,?_⟩);rw[HE,ut];cases b1:decide (c∈[46,33,91,61])with
   |true =>
    left;left;exact(⟨_,rfl,_,_,rfl,rfl,ln,add _ (aj.refl _) (by rw[vP,if_pos rfl,<-e4,b1];rfl)⟩)
   |false =>
    right;refine(⟨_,rfl,_,_,c,rfl,rfl,L1,fP _ _,_,_,rfl,rfl,_,rfl,?_⟩);rw[HF,ut,em];have lb:lI true (c::u)=(isM c&&bU u):=by rw[vP,if_pos rfl,<-e4,b1];rfl
    cases b3:isM c with
    |false =>
     rw[b3,Mq]at lb;right;right;exact(⟨_,rfl,eF lb _ (aj.refl _)⟩)
    |true =>
     rw[b3,LW]at lb;left;refine(⟨_,rfl,_,rfl,_,rfl,L1,u,(by rw[f9,show jv (c::u) (some 1) none=(c::u).drop 1 from Tl.cut_from (c::u) 1];rfl),(by simp only[ID]at hl;omega),_,rfl,?_⟩);cases b4:bU u with
     |true =>
      rw[b4]at lb;left;exact(⟨_,rfl,_,_,rfl,rfl,ln,add _ (aj.refl _) lb⟩)
     |false =>
      rw[b4]at lb;right;exact(⟨_,rfl,eF lb _ (aj.refl _)⟩)
  .exact absurd rfl z
 .rw[show(!decide (V.str k.s=V.str "plain"))=true from by rw[decide_eq_false (show ¬ (V.str k.s=V.str "plain")from λz=>hk (Kw.inj (b:=.plain) (V.str.inj z)))];rfl];left;obtain⟨z,_⟩|⟨_,hn,hl⟩:=hw
  .exact absurd z hk
  obtain⟨i1,i2,i3⟩:=Gq hk he;refine(⟨aW (by simp),λp1 hp1=>?_⟩);have s1:=ai hp1 (.lst kw5);have k1:upd H p1 (.lst kw5) p1=some (.lst kw5):=ah;change upd H p1 (.lst kw5) p1=_ at k1;refine(⟨.inl ⟨rfl,_,SqL.of k1⟩,_,rfl,p1,.str k.s,kw5,kwI k,rfl,rfl,k1,rfl,rfl,i1,i2,_,_,sgK k,rfl,rfl,aW (by decide +kernel),i3,_,rfl,_,_,rfl,rfl,(by rw[aV];exact Jj (ay (by show 1+r.length<=1000;omega))),?_⟩);have:=q _ s1;rw[show wrW true (k,r)=sgK k::r from by unfold wrW;rw[if_neg hk]]at this;show Q (.str (tx [sgK k]++tx r)) _;rw[eZ];exact this

theorem Gr(w:Wy):inV (.str (tx w.t)) [V.str (Iy ""),V.str (Iy "words")]=decide (w=.empty\/w=.words):=by
 rw[nu,jM];refine(oz [[],[119,111,114,100,115]]).trans ?_;cases w<;>decide

inductive Cl(vs:List V)(H:Hp)(Q:VK)(x_1:XK):Prop
 |mk(r:bu)(la:Addr)(_:vs=[.str (tx r.1.t),.str (tx r.2.1),.ref la])(_:c6 H la (wkS r.2.2))(_:jL r)(_:∀H',aj H H'->Q (.str (tx (df [32] (gU true r)))) H')
theorem mX:aN ["way","name","words","texts"] ["way","name","words"] (aw (top 69)):=by walk_at "c"
theorem Cm(T:Txt P w K mg a):bi P w K mg base CX0 3 a.ub a.rZ ["way","name","words"] Cl:=by
 exists T.tW.fn.ok,mX
 obtain⟨r,la,rfl,hl,ok,q⟩:=h
 exists (ae (F_ (k:=3) rfl (eW (caps:=[]) (js:=[]) (cap:=trivial)) (bj (pv 2)) (λ_ _ _ _=>dM) (λ_ _ _ _=>(aC T.nD (yk T) (hM hr) rfl (aa (pv 0) (aa (pv 1) ac)))) mX.nd rfl rfl)
   (ae (aG (ao bn (pv 0) am (nomark _)) (af (av (i:=3) mX.nd rfl (IP rfl) (aH fU (aQ (aa (pv 1) ac)) (pv 3)))) aE)
   (ae (aG (ao xB (pv 0) (a_ (aa am (aa am ac))) (by with_unfolding_all rfl)) (af (av (i:=3) mX.nd rfl (IP rfl) (aH fU (aQ (aa (pv 0) ac)) (pv 3)))) aE)
   (af (aM (b_ Kd KL KM og am (aa (pv 3) ac)))))))
 obtain⟨us,u1,u2⟩:=hl;have lu:=u2.len;have rwd:=mU true ok;have rln:=zy true ok;have okl:=ok.len;have okw:=ok.ok;obtain⟨wy,nm,ws⟩:=r;dsimp only at u2 lu okl okw;unfold wkS at lu;rw[Iz]at lu;refine⟨_,rfl,la,rfl,⟨_,SqL.of u1⟩,oT (K:=K) (a:=la) (xs:=us) (λi ys G=>aj H G/\ys=(((ws.take i).map (wrW true)).map tx).map V.str) ⟨aj.refl _,rfl⟩ (λi ys G _ z=>SqL.of (z.1 _ _ u1)) ?_ ?_ ?_⟩
 .rintro i ys G hi ⟨_,rfl⟩;simp only[Iz,Jm];exact ay (by omega)
 .rintro i y ys G hy ⟨m,rfl⟩;obtain⟨w',hw',b,rfl,hb⟩:=u2.getL hy;unfold wkS at hw';rw[Jc]at hw';obtain⟨w,hw,rfl⟩:=Option.map_eq_some_iff.mp hw';refine⟨b,_,_,rfl,SqT.of (m _ _ hb),fE ?_⟩;refine⟨_,rfl,_,rfl,w,rfl,okw w (IK hw),λH' s=>⟨m.trans s,?_⟩⟩;rw[aT hw,IJ,IJ,IJ];rfl
 rintro ys G ⟨m,rfl⟩ p1 hp1;rw[lu,IZ]
 exists hp1,G1,sZ,k1
 have s1:=m.trans sZ;dsimp only[bA];refine cy (λσ' G'=>∃pt,σ'=[some (.str (tx wy.t)),some (.str (tx nm)),rF la,rF pt]/\aj H G'/\G' pt=some (.lst ((((if wy=.foot then[nm]else[])++ws.map (wrW true)).map tx).map V.str))) ?_ (λkey=>?_)
 .rintro σ' G2 ⟨pt,rfl,s2,k2⟩;refine cy (λσ' G'=>∃pt,σ'=[some (.str (tx wy.t)),some (.str (tx nm)),rF la,rF pt]/\aj H G'/\G' pt=some (.lst (((gU true (wy,nm,ws)).map tx).map V.str))) ?_ (λkey=>?_)
  .rintro σ' G3 ⟨pt3,rfl,s3,k3⟩;refine⟨rfl,_,rfl,_,_,_,rfl,rfl,SqL.of k3,by decide,?_,?_⟩
   .have h1:=tN (gU true (wy,nm,ws)) λt ht=>(rwd t ht).2.2;simp only[Iz];omega
   .rw[show(Iy " ")=tx [32] by decide +kernel,oh];exact q _ s3
  .refine⟨_,rfl,le2,λp2 hp2=>?_⟩;have s3:=s2.trans (ai hp2 (.tup [V.str (Iy ""),V.str (Iy "words")]));refine⟨_,_,rfl,.inr (SqT.of ah),rfl,rfl,_,rfl,?_⟩;have k2':=ai hp2 (.tup [V.str (Iy ""),V.str (Iy "words")]) _ _ k2;generalize upd G2 p2 (.tup [V.str (Iy ""),V.str (Iy "words")])=G3 at s3 k2'⊢;refine eB (λc2=>?_) (λc2=>?_)
   .have c3:¬ (wy=.empty\/wy=.words):=λz=>by
     have:=Gr wy;rw[decide_eq_true z]at this;change (!inV (.str (tx wy.t)) [V.str (Iy ""),V.str (Iy "words")])=true at c2;rw[this]at c2;cases c2
    refine⟨_,rfl,le1,λp4 hp4=>?_⟩;have s4:=ai hp4 (.lst [.str (tx wy.t)]);refine⟨_,rfl,_,_,_,_,rfl,rfl,ah,s4 _ _ k2',?_,λp5 hp5=>?_⟩
    .simp only[Iz,IB,ID,Ja];have:(if wy=.foot then[nm]else([]:List (List Nat))).length<=1:=by split<;>simp
     exact Jj (ay (by omega))
    .refine key _ _ ⟨p5,rfl,(s3.trans s4).trans (ai hp5 _),?_⟩;rw[ah];unfold gU;rw[if_neg c3,IT,IJ (l₁:=[wy.t]),IJ];rfl
   .have c3:wy=.empty\/wy=.words:=by
     have:=Gr wy;change ¬ ((!inV (.str (tx wy.t)) [V.str (Iy ""),V.str (Iy "words")])=true)at c2;rw[this]at c2;by_cases z:wy=.empty\/wy=.words
     .exact z
     .rw[decide_eq_false z]at c2;exact absurd rfl c2
    refine key _ _ ⟨pt,rfl,s3,?_⟩;rw[k2'];unfold gU;rw[if_pos c3];rfl
 .exists 1
  rw[bP jJ];by_cases hf:wy=.foot
  .refine iT (by rw[hf];rfl) ?_;refine⟨_,rfl,le1,λp4 hp4=>?_⟩;have s4:=ai hp4 (.lst [.str (tx nm)]);refine⟨_,rfl,_,_,_,_,rfl,rfl,ah,s4 _ _ k1,?_,λp5 hp5=>?_⟩
   .simp only[Iz,ID,Ja];exact Jj (ay (by omega))
   .refine key _ _ ⟨p5,rfl,(s1.trans s4).trans (ai hp5 _),?_⟩;rw[ah,if_pos hf,IJ (l₁:=[nm]),IJ];rfl
  .refine iF (λz=>hf (Wy.inj (b:=.foot) z)) ?_;refine key _ _ ⟨p1,rfl,s1,?_⟩;rw[k1,if_neg hf];rfl

def cS:Wy->Nat
 |.h1=>1|.h2=>2|.h3=>3|_=>0
def a7:Nat×Nat×Nat->List bu->List Ttl
 |_,[]=>[]
 |c,r::rs=>if r.1.hd=true then(eX (bw c (cS r.1:Int)) (cS r.1:Int),r.2.2)::a7 (bw c (cS r.1:Int)) rs else a7 c rs
theorem HG{n:Nat}(h:n<=300):((n:Int)).natAbs.log2<1920:=by
 have:∀m:Nat,m<=300->((m:Int)).natAbs.log2<1920:=by decide +kernel
 exact this n h

def vNt(xs:List Nat):List V:=xs.map λ(x:Nat)=>V.int (x:Int)
theorem zF(xs:List Nat)(n x:Nat):(vNt xs).set n (.int (x:Int))=vNt (xs.set n x):=by unfold vNt;rw[List.map_set]
theorem Cn{xs:List Nat}{n:Nat}(h:n<xs.length):atI (vNt xs) (n:Int)=some (V.int ((xs.getD n 0:Nat):Int)):=bX (by unfold vNt;rw[Jc,II h,Jb,II h];rfl)
def zr(n:Nat):Nat->List Nat->List Nat
 |0,xs=>xs
 |j+1,xs=>(zr n j xs).set (n+1+j) 0
theorem ym(n:Nat)(xs:List Nat):∀j:Nat,(zr n j xs).length=xs.length
 |0=>rfl
 |j+1=>by show((zr n j xs).set _ 0).length=_;rw[MY,ym n xs j]
def cN4(c:Nat×Nat×Nat):List Nat:=[0,c.1,c.2.1,c.2.2]
def up4(c:Nat×Nat×Nat)(n:Nat):List Nat:=zr n (3-n) ((cN4 c).set n ((cN4 c).getD n 0+1))
theorem Gs{c:Nat×Nat×Nat}{n:Nat}(h1:1<=n)(h3:n<=3):up4 c n=cN4 (bw c (n:Int))/\df [46] ((Kj n).map λi=>dH ((up4 c n).getD (1+i) 0))=eX (bw c (n:Int)) (n:Int):=by
 rcases(show n=1\/n=2\/n=3 by omega)with rfl|rfl|rfl<;>exact⟨rfl,rfl⟩
theorem Gu{c:Nat×Nat×Nat}{n m:Nat}(h:c.1<=m/\c.2.1<=m/\c.2.2<=m):(cN4 c).getD n 0<=m:=by
 rcases n with _|_|_|_|n
 .exact Jw _
 .exact h.1
 .exact h.2.1
 .exact h.2.2
 .exact Jw _
theorem DE{c:Nat×Nat×Nat}{n m:Nat}(h1:1<=n)(h3:n<=3)(h:c.1<=m/\c.2.1<=m/\c.2.2<=m):(bw c (n:Int)).1<=m+1/\(bw c (n:Int)).2.1<=m+1/\(bw c (n:Int)).2.2<=m+1:=by
 obtain⟨a,b,d⟩:=c;rcases(show n=1\/n=2\/n=3 by omega)with rfl|rfl|rfl
 .exact⟨Lj h.1,Jw _,Jw _⟩
 .exact⟨ME h.1,Lj h.2.1,Jw _⟩
 .exact⟨ME h.1,ME h.2.1,Lj h.2.2⟩
inductive Gv(na p1 p2:Addr)(H:Hp)(named:List bu):Nat->St->Hp->Prop
 |mk{i:Nat}{G:Hp}(c:Nat×Nat×Nat)(v3 v4 v5 v6 v7:Option V)(us:List V)(tt:List Ttl)(m:aj H G)(g1:G p1=some (.lst (vNt (cN4 c))))(g2:G p2=some (.lst us))(tal:aI (TtA (hid [p1,p2] G)) us tt)(et:a7 (0,0,0) named=tt++a7 c (named.drop i))(ul:us.length<=i)(cb:c.1<=i/\c.2.1<=i/\c.2.2<=i):Gv na p1 p2 H named i [rF na,rF p1,rF p2,v3,v4,v5,v6,v7] G
theorem Gw{w:Wy}(h:w.hd=true):w.t.length=cS w/\1<=cS w/\cS w<=3:=by
 cases w<;>first|exact⟨rfl,by decide,by decide⟩|cases h

inductive y6(K:IC)(vs:List V)(H:Hp)(Q:VK)(x_1:XK):Prop
 |mk(na:Addr)(nv:List V)(named:List bu)(_:vs=[.ref na])(_:H na=some (.lst nv))(_:aI (NnA H) nv named)(_:named.length<=200)(_:∀p H' us,H p=none->aj H H'->H' p=some (.lst us)->aI (TtA H') us (a7 (0,0,0) named)->Q (.ref p) H')
theorem fg:aN ["named","counters","titles","way","name","words","k","number"] ["named"] (aw (top 70)):=by walk_at "c"
theorem y7(T:Txt P w K mg a):bi P w K mg base CX0 1 a.pP a.nU ["named"] (y6 K):=by
 exists T.pK.fn.ok,fg
 obtain⟨na,nv,named,rfl,hna,nal,nl,q⟩:=h
 exists (ae (av (i:=1) fg.nd rfl (Or.inr rfl) (aQ (aa ag (aa ag (aa ag (aa ag ac))))))
   (ae (av (i:=2) fg.nd rfl (IP rfl) (aQ ac))
   (ae (bY Jq rfl (bj (pv 0)) (dD rfl (aU (aJ (i:=3) fg.nd rfl (IP rfl)) (aU (aJ (i:=4) fg.nd rfl (IP rfl)) (aU (aJ (i:=5) fg.nd rfl (IP rfl)) cQ)))) (af (aG (PW.pt (fT (ao dZ (pv 3) am (nomark _)) (dQ (ao bn (aB eu (pv 3) ag (λ_ _=>rfl)) am (nomark _))))) (ae (nZ (aH bS (aB bC (pv 1) (aF dG rfl T.bG Jg (aa (pv 3) ac)) (λ_ _=>rfl)) ag) (nY (pv 1) (aF dG rfl T.bG Jg (aa (pv 3) ac)) jV))
   (ae (bY Jq rfl (vz rfl T.eU (aa (aH bS (aF dG rfl T.bG Jg (aa (pv 3) ac)) ag) (aa ag ac))) (aJ (i:=6) fg.nd rfl (IP rfl)) (af (nZ ag (nY (pv 1) (pv 6) jV))))
   (ae (av (i:=7) fg.nd rfl (IP rfl) (b_ Kd KL KM og am (aa (gc rfl (eW (caps:=["counters"]) (js:=[1]) (cap:=⟨⟨rfl,.inl rfl,rfl,.inl rfl⟩,trivial⟩)) (vz rfl T.eU (aa ag (aa (aH bS (aF dG rfl T.bG Jg (aa (pv 3) ac)) ag) ac))) (λ_ _ _ _=>dM) (λ_ _ _ _=>(gy lS rfl T.ju KI (aa (aB (r:=CW K) bC (pv 1) (pv 0) (λ_ _=>rfl)) ac)))) ac)))
   (af (bf (b_ IR Je Jf bT (pv 2) (aa (a_ (aa (pv 7) (aa (pv 5) ac))) ac))))))) aE)))
   (af (aM (pv 2))))))
 have ln:=nal.len;refine⟨le4,λp1 hp1=>?_⟩
 exists hp1,H1,s1,kZ
 have k1:H1 p1=some (.lst (vNt (cN4 (0,0,0)))):=kZ;refine⟨aW (by simp),λp2 hp2=>?_⟩;have hp2':=s1.free hp2;have n12:p1≠p2:=λz=>by rw[z]at k1;rw[k1]at hp2;cases hp2
 exists hp2,H2,sZ,k2
 have s2:=s1.trans sZ;have k1':=sZ _ _ k1;refine⟨_,rfl,na,rfl,⟨_,SqL.of (s2 _ _ hna)⟩,bZ (K:=K) (a:=na) (xs:=nv) (Gv na p1 p2 H named) ⟨(0,0,0),none,none,none,none,none,[],[],s2,k1',k2,trivial,rfl,IM _,IM _,IM _,IM _⟩ (λi σ' G _ g=>by obtain⟨_,_,_,_,_,_,_,_,m,_⟩:=g;exact SqL.of (m _ _ hna)) ?_ ?_⟩
 .rintro i y σ' G hy ⟨c,v3,v4,v5,v6,v7,us,tt,m,g1,g2,tal,et,ul,cb⟩;obtain⟨⟨wy,nm,ws⟩,hn,b,l,rfl,hb,hl⟩:=nal.getL hy;have hi:=(List.getElem?_eq_some_iff.mp hn).1;dsimp only at hb hl;have ed:named.drop i=(wy,nm,ws)::named.drop (i+1):=by
   obtain⟨hi,e⟩:=List.getElem?_eq_some_iff.mp hn;rw[Js hi,e]
  rw[ed]at et;have et:a7 (0,0,0) named=tt++(if wy.hd=true then(eX (bw c (cS wy:Int)) (cS wy:Int),ws)::a7 (bw c (cS wy:Int)) (named.drop (i+1))else a7 c (named.drop (i+1))):=et;refine⟨b,_,rfl,SqT.of (m _ _ hb),rfl,_,_,rfl,_,_,rfl,_,_,rfl,rfl,?_⟩
  exists 1
  rw[show(!decide (V.str (tx wy.t)=V.str (Iy ""))) = !decide (wy=.empty)from by
   rw[bP nu];cases wy<;>decide]
  by_cases he:wy=.empty
  .rw[decide_eq_true he];right;right;exact⟨c,_,_,_,_,_,us,tt,m,g1,g2,tal,by rw[et,he];rfl,by omega,by omega⟩
  rw[decide_eq_false he];left;obtain⟨ch,u,ec,hc⟩:∃c u,wy.t=c::u/\decide (c=61)=wy.hd:=by
   cases wy<;>first|exact⟨_,_,rfl,rfl⟩|exact absurd rfl he
  refine⟨_,rfl,_,_,ch,rfl,rfl,(by rw[aV];cases wy<;>exact aW (by decide)),(by rw[ec];exact fP _ _),rfl,_,rfl,?_⟩
  rw[bP cH1,show decide ([ch]=[61])=wy.hd from by rw[<-hc];simp];cases hh:wy.hd with
  |false =>
   right;rw[if_neg (by rw[hh];decide)]at et;exact⟨c,_,_,_,_,_,us,tt,m,g1,g2,tal,et,by omega,by omega⟩
  |true =>
   left;rw[if_pos hh]at et;obtain⟨wt,w1,w3⟩:=Gw hh;obtain⟨u1,u2⟩:=Gs (c:=c) w1 w3;have cb':=DE w1 w3 cb;have sL:(tx wy.t).length<=I0:=by rw[aV,wt];exact aW (by omega)
   have l4:(vNt (cN4 c)).length=4:=rfl;generalize hN:cS wy=n at *;have eL:(tx wy.t).length=n:=by rw[aV,wt]
   refine⟨_,rfl,_,rfl,_,rfl,sL,_,_,_,_,rfl,rfl,SqL.of g1,(by rw[eL];exact Cn (show n<4 by omega)),_,_,rfl,rfl,_,rfl,_,rfl,_,rfl,sL,_,_,_,n,rfl,rfl,g1,(by rw[eL,l4];exact oo (by omega)),?_⟩;have g2':upd G p1 (.lst ((vNt (cN4 c)).set n (.int ((((cN4 c).getD n 0:Nat):Int)+1)))) p1=some (.lst (vNt ((cN4 c).set n ((cN4 c).getD n 0+1)))):=by rw[ah];exact congrArg (λz=>some (HO.lst z)) (zF _ _ _)
   have m2:=aY (o:=.lst ((vNt (cN4 c)).set n (.int ((((cN4 c).getD n 0:Nat):Int)+1)))) m hp1;have g3':upd G p1 (.lst ((vNt (cN4 c)).set n (.int ((((cN4 c).getD n 0:Nat):Int)+1)))) p2=some (.lst us):=by rw[aq (JH n12)];exact g2
   have a3:aI (TtA (hid [p1,p2] (upd G p1 (.lst ((vNt (cN4 c)).set n (.int ((((cN4 c).getD n 0:Nat):Int)+1))))))) us tt:=by rw[bH (by simp)];exact tal
   have xl:((cN4 c).set n ((cN4 c).getD n 0+1)).length=4:=by rw[MY];rfl
   have u0:up4 c n=zr n (3-n) ((cN4 c).set n ((cN4 c).getD n 0+1)):=rfl;generalize (cN4 c).set n ((cN4 c).getD n 0+1)=XS at *;generalize upd G p1 (.lst ((vNt (cN4 c)).set n (.int ((((cN4 c).getD n 0:Nat):Int)+1))))=G1 at m2 g2' g3' a3⊢;dsimp only[cY];refine⟨_,rfl,_,rfl,sL,_,_,rfl,rfl,_,_,rfl,⟨by rw[eL];omega,by rw[eL];omega,by decide,by decide⟩,kC (λj σ' G'=>∃v6':Option V,σ'=[rF na,rF p1,rF p2,some (.str (tx wy.t)),some (.str (tx nm)),rF l,v6',v7]/\aj H G'/\G' p1=some (.lst (vNt (zr n j XS)))/\G' p2=some (.lst us)/\aI (TtA (hid [p1,p2] G')) us tt) ⟨_,rfl,m2,g2',g3',a3⟩ ?_ ?_⟩
   .rintro j σ' G' hj ⟨w6,rfl,m3,g31,g32,a3'⟩;rw[eL]at hj;have hj3:n+1+j<4:=by omega
    refine⟨_,rfl,_,rfl,_,_,_,n+1+j,rfl,rfl,g31,(by rw[eL,show((n:Nat):Int)+1+(j:Int)=((n+1+j:Nat):Int) by omega];exact oo (by unfold vNt;rw[Iz,ym,xl];exact hj3)),?_⟩;exact⟨_,rfl,aY m3 hp1,by rw[ah];exact congrArg (λz=>some (HO.lst z)) (zF _ _ 0),by rw[aq (JH n12)];exact g32,by rw[bH (by simp)];exact a3'⟩
   .rintro σ' G' ⟨w6,rfl,m3,g31,g32,a3'⟩;rw[eL,show(4-(((n:Nat):Int)+1)).toNat=3-n by omega,<-u0]at g31;have ul4:(up4 c n).length=4:=by rw[u0,ym,xl]
    have cle:∀k,(up4 c n).getD k 0<=300:=λk=>by rw[u1];exact Gu ⟨by omega,by omega,by omega⟩
    generalize hF:(Kj n).map (λi=>dH ((up4 c n).getD (1+i) 0))=FS at u2;have lF:FS.length=n:=by rw[<-hF,Iz,JJ]
    refine⟨rfl,_,rfl,_,rfl,sL,_,_,rfl,rfl,_,_,rfl,⟨by decide,by decide,by rw[eL];omega,by rw[eL];omega⟩,tz (λi ys G2=>G'=G2/\ys=((FS.take i).map tx).map V.str) ⟨rfl,rfl⟩ ?_ ?_ ?_⟩
    .rintro i' ys G2 hi' ⟨_,rfl⟩;exact ay (by simp only[Iz,Jm];omega)
    .rintro i' ys G2 hi' ⟨rfl,rfl⟩;rw[eL]at hi';have hin:i'<n:=by omega
     have fi:FS[i']?=some (dH ((up4 c n).getD (1+i') 0)):=by rw[<-hF,Jc,Mh hin];rfl
     refine fE ?_;refine⟨_,rfl,_,rfl,_,_,_,_,rfl,rfl,SqL.of g31,(by rw[show(1:Int)+(i':Int)=((1+i':Nat):Int) by omega];exact Cn (by rw[ul4];omega)),_,rfl,HG (cle _),rfl,?_⟩;rw[tE,aT fi,IJ,IJ];rfl
    rintro ys G2 ⟨rfl,ey⟩ p3 hp3;rw[eL,show((((n:Nat):Int)+1)-1).toNat=FS.length by omega,IZ]at ey;subst ey;have m4:=ai hp3 (.lst ((FS.map tx).map V.str));refine⟨_,_,_,rfl,rfl,SqL.of ah,by decide,?_,?_⟩
    .have h1:=tN FS λt ht=>by
      rw[<-hF]at ht;obtain⟨k,_,rfl⟩:=List.mem_map.mp ht;exact JC (lW 3 _ (by have:=cle (1+k);omega)) (by decide)
     rw[Iz];exact JC (Nat.add_le_add_right h1 _) (by omega)
    .have ej:Txt.join (Iy ".") (FS.map tx)=tx (eX (bw c (n:Int)) (n:Int)):=by
      rw[show(Iy ".")=tx [46] by decide +kernel,oh,u2]
     rw[ej];refine⟨_,rfl,.inl ⟨rfl,_,SqL.of (m4 _ _ g32)⟩,_,rfl,_,rfl,le2,λpt hpt=>?_⟩;have m5:=ai hpt (.tup [.str (tx (eX (bw c (n:Int)) (n:Int))),.ref l]);have q1:=m4 _ _ g31;have q2:=m4 _ _ g32;have k5:upd (upd G' p3 (.lst ((FS.map tx).map V.str))) pt (.tup [.str (tx (eX (bw c (n:Int)) (n:Int))),.ref l]) pt=some (.tup [.str (tx (eX (bw c (n:Int)) (n:Int))),.ref l]):=ah;have np:pt∉[p1,p2]:=λz=>by
      rcases List.mem_cons.mp z with z|z
      .rw[z,q1]at hpt;cases hpt
      .rw[List.mem_singleton.mp z,q2]at hpt;cases hpt
     have m45:=m4.trans m5;have mz:=m3.trans m45;have hz:aj H (hid [p1,p2] _):=lN mz λb hb=>by
      rcases List.mem_cons.mp hb with rfl|hb
      .exact hp1
      .rw[List.mem_singleton.mp hb];exact hp2'
     have q1:=m5 _ _ q1;have q2:=m5 _ _ q2;generalize upd (upd G' p3 (.lst ((FS.map tx).map V.str))) pt (.tup [.str (tx (eX (bw c (n:Int)) (n:Int))),.ref l])=G5 at k5 m45 mz hz q1 q2⊢;refine⟨_,_,_,rfl,rfl,q2,ay (by omega),?_⟩;refine⟨bw c (n:Int),_,_,_,_,_,us++[.ref pt],tt++[(eX (bw c (n:Int)) (n:Int),ws)],aY mz hp2',by rw[aq n12,q1,u1],ah,?_,?_,by rw[IB];simp only[ID,Ja];omega,cb'⟩
     .rw[bH (by simp)];exact(a3'.imp λ_ _=>TtA.mono (bg m45)).snoc ⟨pt,l,rfl,br np k5,hl.mono hz⟩
     .rw[et,IT];rfl
 rintro σ' G ⟨c,v3,v4,v5,v6,v7,us,tt,m,g1,g2,tal,et,ul,_⟩;rw[ln,Kk]at et;have et:a7 (0,0,0) named=tt:=by rw[et];exact IY _
 exact⟨_,rfl,q p2 G us hp2' m g2 (by rw[et];exact tal.imp λ_ _=>TtA.mono bJ)⟩

theorem Gx(k:Kw)(h:k≠.entry):inV (.str k.s) [V.str (Iy "head"),V.str (Iy "entry")]=false:=by
 cases k<;>first|exact absurd rfl h|decide +kernel
theorem DF(k:Kw):¬ (V.str k.s=V.str (Iy "goal")):=by
 intro z;have z:=V.str.inj z;revert z;cases k<;>decide +kernel

inductive Co(K:IC)(vs:List V)(H:Hp)(Q:VK)(x_1:XK):Prop
 |mk(ma ha:Addr)(s:Sw)(tt:List Ttl)(σ:Ss)(hvs:List V)(_:vs=[.str s.k,s.v,.ref ma,.ref ha])(_:H ma=some (.dK (mkV σ.ms)))(_:H ha=some (.lst hvs))(_:aI (HdA H) hvs σ.hs)(_:∀x,s=.w x->x.1≠.entry)(_:jI σ (bK tt s))(_:∀k,s=.head k\/s=.entry k->∃n,σ.hs[k]?=some (tx (tt.getD k ([],[])).1,n))(_:∀p H' x y,H p=none->aj H H'->H' p=some (.tup [x,y])->jH σ (bK tt s)=(x,y)->Q (.ref p) H')
theorem mY:aN ["kind","rest","marks","heads","number","one"] ["kind","rest","marks","heads"] (aw (top 74)):=by walk_at "c"
theorem vU(T:Txt P w K mg a):bi P w K mg base CX0 1 a.ua a.rY ["kind","rest","marks","heads"] (Co K):=by
 exists T.pH.fn.ok,mY
 obtain⟨ma,ha,s,tt,σ,hvs,rfl,hma,hha,hal,kes,ok,hks,q⟩:=h
 exists (ae (aG (ao bn (pv 0) am (nomark _)) (af (aM (a_ (aa am (aa (pv 1) ac))))) aE)
   (ae (aG (ao gz (pv 0) (a_ (aa am (aa am ac))) (by with_unfolding_all rfl)) (af (aM (a_ (aa am (aa (aB aZ (aB bC (pv 3) (pv 1) (λ_ _=>rfl)) ag (λ_ _=>rfl)) ac))))) aE)
   (ae (aG (ao bn (pv 0) am (nomark _)) (af (aM (a_ (aa am (aa (aB aZ (aB bC (pv 3) (pv 1) (λ_ _=>rfl)) ag (λ_ _=>rfl)) ac))))) aE)
   (ae (aG (ao dZ (pv 0) am (nomark _)) (af (aM (a_ (aa (pv 0) (aa (jY (eR hr) (pv 2) (pv 1) (λ_ _=>rfl)) ac))))) aE)
   (ae (av (i:=4) mY.nd rfl (IP rfl) am)
   (ae (bY Jq rfl (bj (pv 3)) (aJ (i:=5) mY.nd rfl (IP rfl)) (af (aG (ao zY (aB aZ (pv 5) ag (λ_ _=>rfl)) (jY (eR hr) (pv 2) (pv 1) (λ_ _=>rfl)) (nomark _)) (af (av (i:=4) mY.nd rfl (IP rfl) (aB aZ (pv 5) ag (λ_ _=>rfl)))) aE)))
   (af (aM (a_ (aa am (aa (pv 4) ac)))))))))))
 cases s with
 |w x =>
  obtain⟨k,r⟩:=x;have ke:k≠.entry:=kes _ rfl;have ok:jI σ (k,.str (tx r)):=ok;have q:∀p H' x y,H p=none->aj H H'->H' p=some (.tup [x,y])->jH σ (k,.str (tx r))=(x,y)->Q (.ref p) H':=q;clear kes hks;dsimp only[Sw.k,Sw.v]
  exists 1
  by_cases hp:k=.plain
  .subst hp;refine iT rfl ?_;exact⟨_,rfl,le2,λp1 hp1=>q p1 _ _ _ hp1 (ai hp1 _) ah rfl⟩
  refine iF (λz=>hp (Kw.inj (b:=.plain) (V.str.inj z))) ?_;dsimp only[cY];obtain⟨z,_⟩|⟨z,_⟩|⟨hk,n,at_,hn,km⟩:=ok
  .exact absurd z hp
  .exact absurd z ke
  dsimp only at hk hn;have hn:r=n:=jm (V.str.inj hn);subst hn;refine⟨_,rfl,le2,λp2 hp2=>?_⟩;have s2:=ai hp2 (.tup [V.str (Iy "head"),V.str (Iy "entry")]);refine⟨_,_,rfl,.inr (SqT.of ah),rfl,rfl,_,rfl,?_⟩;refine eB (λc2=>?_) (λc2=>?_)
  .exact absurd ((Gx k ke).symm.trans c2) Jh
  generalize upd H p2 (.tup [V.str (Iy "head"),V.str (Iy "entry")])=H2 at s2⊢;dsimp only[cY]
  exists 1
  refine iF (DF k) ?_;dsimp only[cY]
  exists 1
  have hg:fD H2 ma (kV (.inr (tx r))) (some (.int (at_:Int))):=by
   have:=fD.k (k:=.inr (tx r)) (s2 _ _ hma);rw[j6,km]at this;exact this
  have em:jG σ (rest (.str (tx r)))=at_:=by unfold jG;show(lkS (tx r) σ.ms).getD 0=at_;rw[km];rfl
  by_cases h3:k=.number
  .subst h3;refine nF rfl ?_;dsimp only[cY];have lh:=hal.len;refine⟨_,rfl,ha,rfl,⟨_,SqL.of (s2 _ _ hha)⟩,bZ (K:=K) (a:=ha) (xs:=hvs) (λi σ' G=>G=H2/\∃(n:Str)(v5:Option V),σ'=[some (.str Kw.number.s),some (.str (tx r)),rF ma,rF ha,some (.str n),v5]/\gF at_ "0" σ.hs=gF at_ n (σ.hs.drop i)) ⟨rfl,_,none,rfl,rfl⟩ (λi σ' G _ g=>by rw[g.1];exact SqL.of (s2 _ _ hha)) ?_ ?_⟩
   .rintro i y σ' G hy ⟨rfl,n,v5,rfl,en⟩;obtain⟨⟨t,at2⟩,hw,b,rfl,hb⟩:=hal.getL hy;have ed:σ.hs.drop i=(t,at2)::σ.hs.drop (i+1):=by
     obtain⟨hi,e⟩:=List.getElem?_eq_some_iff.mp hw;rw[Js hi,e]
    rw[ed]at en;have hb2:=s2 _ _ hb;refine⟨_,rfl,_,_,_,_,rfl,rfl,SqT.of hb2,rfl,_,rfl,_,rfl,_,_,rfl,hg,_,_,rfl,rfl,_,rfl,?_⟩;by_cases c1:at2<=at_
    .refine iT (by omega) ?_;refine⟨_,rfl,_,_,_,_,rfl,rfl,SqT.of hb2,rfl,rfl,_,_,rfl,?_⟩;rw[en];show gF at_ (if at2<=at_ then t else n) _=_;rw[if_pos c1]
    .refine iF (by omega) ?_;refine⟨rfl,_,_,rfl,?_⟩;rw[en];show gF at_ (if at2<=at_ then t else n) _=_;rw[if_neg c1]
   rintro σ' G ⟨rfl,n,v5,rfl,en⟩;rw[lh,Kk]at en;refine⟨_,rfl,le2,λp3 hp3=>q p3 _ _ _ (s2.free hp3) (s2.trans (ai hp3 _)) ah ?_⟩;show(V.str "text",V.str (gF (jG σ (rest (.str (tx r)))) "0" σ.hs))=_;rw[em,en];rfl
  .refine nT (λz=>h3 (Kw.inj (b:=.number) (V.str.inj z))) ?_;refine⟨_,rfl,_,rfl,_,rfl,_,_,rfl,hg,le2,λp4 hp4=>q p4 _ _ _ (s2.free hp4) (s2.trans (ai hp4 _)) ah ?_⟩;cases hk1:k with
   |page=>show(V.str "page",V.int ((jG σ (rest (.str (tx r))):Nat):Int))=_;rw[em];rfl
   |row=>show(V.str "row",V.int ((jG σ (rest (.str (tx r))):Nat):Int))=_;rw[em];rfl
   |number=>exact absurd hk1 h3
   |plain=>exact absurd hk1 hp
   |mark=>rw[hk1]at hk;cases hk
   |foot=>rw[hk1]at hk;cases hk
   |entry=>exact absurd hk1 ke
 |head k =>
  obtain⟨n,hn⟩:=hks k (.inl rfl);obtain⟨v,hv,b,rfl,hb⟩:=hal.getR hn
  exists 1
  refine iF (λz=>absurd (V.str.inj z) (by show ¬ (("head" : Str)=_);decide +kernel)) ?_;dsimp only[cY];refine⟨_,rfl,le2,λp2 hp2=>?_⟩;have s2:=ai hp2 (.tup [V.str (Iy "head"),V.str (Iy "entry")]);refine⟨_,_,rfl,.inr (SqT.of ah),rfl,rfl,_,rfl,?_⟩;refine eB (λc2=>?_) (λc2=>absurd (show inV (.str (Sw.head k).k) [V.str (Iy "head"),V.str (Iy "entry")]=true by show inV (.str (Iy "head")) _=true;decide +kernel) c2);generalize upd H p2 (.tup [V.str (Iy "head"),V.str (Iy "entry")])=H2 at s2⊢;exact⟨_,rfl,_,rfl,_,_,_,_,rfl,rfl,SqL.of (s2 _ _ hha),bX hv,_,_,_,_,rfl,rfl,SqT.of (s2 _ _ hb),rfl,le2,λp3 hp3=>q p3 _ _ _ (s2.free hp3) (s2.trans (ai hp3 _)) ah rfl⟩
 |entry k =>
  obtain⟨n,hn⟩:=hks k (.inr rfl);obtain⟨v,hv,b,rfl,hb⟩:=hal.getR hn
  exists 1
  refine iF (λz=>absurd (V.str.inj z) (by show ¬ (("entry" : Str)=_);decide +kernel)) ?_;dsimp only[cY];refine⟨_,rfl,le2,λp2 hp2=>?_⟩;have s2:=ai hp2 (.tup [V.str (Iy "head"),V.str (Iy "entry")]);refine⟨_,_,rfl,.inr (SqT.of ah),rfl,rfl,_,rfl,?_⟩;refine eB (λc2=>?_) (λc2=>absurd (show inV (.str (Sw.entry k).k) [V.str (Iy "head"),V.str (Iy "entry")]=true by show inV (.str (Iy "entry")) _=true;decide +kernel) c2);generalize upd H p2 (.tup [V.str (Iy "head"),V.str (Iy "entry")])=H2 at s2⊢;exact⟨_,rfl,_,rfl,_,_,_,_,rfl,rfl,SqL.of (s2 _ _ hha),bX hv,_,_,_,_,rfl,rfl,SqT.of (s2 _ _ hb),rfl,le2,λp3 hp3=>q p3 _ _ _ (s2.free hp3) (s2.trans (ai hp3 _)) ah rfl⟩
 |goal k =>
  obtain⟨hk,hh⟩:k<σ.hs.length/\True:=by
   rcases ok with⟨z,_⟩|⟨_,k',e,h⟩|⟨z,_⟩
   .cases z
   .have e:(k:Int)=(k':Int):=V.int.inj e;exact⟨by omega,trivial⟩
   .cases z
  obtain⟨v,hv,b,rfl,hb⟩:=hal.getR (II hk)
  exists 1
  refine iF (λz=>absurd (V.str.inj z) (by show ¬ (("goal" : Str)=_);decide +kernel)) ?_;dsimp only[cY];refine⟨_,rfl,le2,λp2 hp2=>?_⟩;have s2:=ai hp2 (.tup [V.str (Iy "head"),V.str (Iy "entry")]);refine⟨_,_,rfl,.inr (SqT.of ah),rfl,rfl,_,rfl,?_⟩;refine eB (λc2=>?_) (λc2=>?_)
  .exact absurd ((show inV (.str (Sw.goal k).k) [V.str (Iy "head"),V.str (Iy "entry")]=false by show inV (.str (Iy "goal")) _=false;decide +kernel).symm.trans c2) Jh
  generalize upd H p2 (.tup [V.str (Iy "head"),V.str (Iy "entry")])=H2 at s2⊢;dsimp only[cY]
  exists 1
  refine iT rfl ?_;refine⟨_,rfl,_,rfl,_,_,_,_,rfl,rfl,SqL.of (s2 _ _ hha),bX hv,_,_,_,_,rfl,rfl,SqT.of (s2 _ _ hb),rfl,le2,λp3 hp3=>q p3 _ _ _ (s2.free hp3) (s2.trans (ai hp3 _)) ah ?_⟩;show(V.str "page",V.int ((σ.hs.getD ((k:Nat):Int).toNat (JV,0)).2:Nat))=_;rw[J0,Jb,II hk];rfl
theorem fF(a b:List Wk):aO (a++b)=aO a+aO b:=by unfold aO;rw[JK,IB]
theorem fh(w:Wk)(r:List Wk):aO (w::r)=(if w.1=.mark then 0 else 1)+aO r:=by
 unfold aO;by_cases h:w.1=.mark<;>simp[h];omega
def ftC(ws:List Wk):Nat:=(ws.filter λw=>decide (w.1=.foot)).length
def fG(n:Nat):Wk:=(.plain,.str (ip n))
def cT(ft:List (Str×List Wk)):Nat->List Wk->List (Wk×List Wk)
 |_,[]=>[]
 |n,w::r =>
  if w.1=.mark then cT ft n r
  else if w.1=.foot then(fG (n+1),fG (n+1)::(lkS (rest w.2) ft).getD [])::cT ft (n+1) r
  else(w,[])::cT ft n r
theorem fX(ft:List (Str×List Wk))(n:Nat)(w:Wk)(r:List Wk):cT ft n (w::r)=if w.1=.mark then cT ft n r else if w.1=.foot then(fG (n+1),fG (n+1)::(lkS (rest w.2) ft).getD [])::cT ft (n+1) r else(w,[])::cT ft n r:=rfl
theorem l8(w:Wk)(r:List Wk):ftC (w::r)=(if w.1=.foot then 1 else 0)+ftC r:=by
 unfold ftC;by_cases h:w.1=.foot<;>simp[h];omega
theorem kK(ft:List (Str×List Wk)):∀(a b:List Wk)(n:Nat),cT ft n (a++b)=cT ft n a++cT ft (n+ftC a) b
 |[],b,n=>rfl
 |w::a,b,n=>by
  rw[K1,fX,fX,l8];by_cases h:w.1=.mark
  .rw[if_pos h,if_pos h,if_neg (by rw[h];decide),kK ft a b n,JT]
  .rw[if_neg h,if_neg h];by_cases h2:w.1=.foot
   .rw[if_pos h2,if_pos h2,if_pos h2,kK ft a b (n+1),Km];rfl
   .rw[if_neg h2,if_neg h2,if_neg h2,kK ft a b n,JT];rfl
theorem iz(ft:List (Str×List Wk)):∀(a:List Wk)(n:Nat),(cT ft n a).length=aO a
 |[],_=>rfl
 |w::a,n=>by
  rw[fX,fh];by_cases h:w.1=.mark
  .rw[if_pos h,if_pos h,iz ft a n,JT]
  .rw[if_neg h,if_neg h];by_cases h2:w.1=.foot
   .rw[if_pos h2,ID,iz ft a (n+1),Mm]
   .rw[if_neg h2,ID,iz ft a n,Mm]
def wf(t:Wt):Wk×List Wk:=(t.w,t.foot)
theorem zG(a b:List Wk):ftC (a++b)=ftC a+ftC b:=by unfold ftC;rw[JK,IB]

theorem zH{K:IC}{F:Hp}{σ:Ss}{w:Wk}{v:V}(h:SyA F v (jH σ w)):Rep K F (qI σ w) v:=by
 obtain⟨a,rfl,h⟩:=h;have two:∀(d e:DD)(x y:V),F a=some (.tup [x,y])->Rep K F d x->Rep K F e y->Rep K F (.tup [d,e]) (.ref a):=λd e x y hF h1 h2=>by
  unfold Rep;refine⟨a,[x,y],rfl,SqT.of hF,by show 2<=1000;decide,?_⟩;unfold cc;refine⟨x,[y],rfl,h1,?_⟩;unfold cc;refine⟨y,[],rfl,h2,?_⟩;unfold cc;rfl
 have s:∀t:Str,Rep K F (.str t) (.str t):=λt=>by unfold Rep;rfl
 have n:∀t:Int,Rep K F (.int t) (.int t):=λt=>by unfold Rep;rfl
 obtain⟨k,r⟩:=w;cases k with
 |plain=>exact two _ _ _ _ h (s _) (s _)
 |entry=>exact two _ _ _ _ h (s _) (n _)
 |number=>exact two _ _ _ _ h (s _) (s _)
 |mark=>exact two _ _ _ _ h (s _) (n _)
 |page=>exact two _ _ _ _ h (s _) (n _)
 |row=>exact two _ _ _ _ h (s _) (n _)
 |foot=>exact two _ _ _ _ h (s _) (n _)
theorem vV{K:IC}{F:Hp}{σ:Ss}:∀{ws:List Wk}{vs:List V},aI (λv w=>SyA F v (jH σ w)) vs ws->cc K F (ws.map (qI σ)) vs
 |[],[],_=>by rw[K4];unfold cc;rfl
 |w::ws,v::vs,h=>by
  rw[IQ];unfold cc;exact⟨v,vs,rfl,zH h.1,vV h.2⟩
theorem DG{K:IC}{F:Hp}{σ:Ss}{ws:List Wk}{vs:List V}{p:Addr}(hp:F p=some (.lst vs))(h:aI (λv w=>SyA F v (jH σ w)) vs ws)(hl:ws.length<=1000):Rep K F (.lst (ws.map (qI σ))) (.ref p):=by
 unfold Rep;exact⟨p,vs,rfl,SqL.of hp,by rw[Iz];exact hl,vV h⟩
theorem yn(σ:Ss)(w:Wk):(qI σ w).deep<=1:=by
 obtain⟨k,r⟩:=w;cases k<;>(show(DD.tup [_,_]).deep<=1;unfold DD.deep d9 DD.deep d9;simp[DD.deep,d9])
theorem Cp(σ:Ss)(ws:List Wk):(DD.lst (ws.map (qI σ))).deep<=2:=by
 have:∀l:List DD,(∀d∈l,d.deep<=1)->d9 l<=1:=λl=>by
  induction l with
  |nil=>intro _;unfold d9;exact Jw _
  |cons d l ih =>
   intro h;unfold d9;exact Nat.max_le.mpr ⟨h d IL,ih λx hx=>h x (IH _ hx)⟩
 unfold DD.deep;have:=this (ws.map (qI σ)) λd hd=>by
  obtain⟨w,_,rfl⟩:=List.mem_map.mp hd;exact yn σ w
 omega
theorem uJ{α β:Type}{P:V->β->Prop}{f:α->β}:∀{vs:List V}{ws:List α},aI P vs (ws.map f)->aI (λv w=>P v (f w)) vs ws
 |[],[],_=>trivial
 |_::_,_::_,h=>⟨h.1,uJ h.2⟩

theorem cLp:(Iy "(")=tx [40]:=by decide +kernel
theorem cRp:(Iy ")")=tx [41]:=by decide +kernel
def DwA(σ:Ss)(F:Hp)(v:V)(t:Wt):Prop:=∃f,TwA σ F v (t,f)
theorem DwA.mono{σ:Ss}{F F':Hp}(m:aj F F'){v:V}{t:Wt}(h:DwA σ F v t):DwA σ F' v t:=by
 obtain⟨f,h⟩:=h;exact⟨f,h.mono m⟩
theorem D5{σ:Ss}{F:Hp}:∀{us:List V}{ws:List Wt}{fs:List Addr},fs.length=ws.length->aI (TwA σ F) us (ws.zip fs)->aI (DwA σ F) us ws
 |[],[],_,_,_=>trivial
 |_::_,_::_,_::_,e,h=>⟨⟨_,h.1⟩,D5 (Nat.succ.inj e) h.2⟩
 |[],_::_,_::_,_,h=>h.elim
 |_::_,[],_,_,h=>h.elim
 |_,_::_,[],e,_=>by cases e
theorem Gy{K:IC}{F:Hp}{σ:Ss}{t:Wt}{v:V}(hl:t.foot.length<=1000)(h:DwA σ F v t):Rep K F (wtD σ t) v:=by
 obtain⟨f,a,s,us,rfl,h1,h2,h3,h4⟩:=h;unfold wtD Rep;refine⟨a,[.int t.lead,.bl t.kept,.ref s,.ref f],rfl,SqT.of h1,by show 4<=1000;decide,?_⟩;unfold cc;refine⟨_,_,rfl,by unfold Rep;rfl,?_⟩;unfold cc;refine⟨_,_,rfl,by unfold Rep;rfl,?_⟩;unfold cc;refine⟨_,_,rfl,zH h2,?_⟩;unfold cc;refine⟨_,_,rfl,DG h3 (uJ h4) hl,?_⟩;unfold cc;rfl
theorem zI{K:IC}{F:Hp}{σ:Ss}:∀{ts:List Wt}{vs:List V},(∀t∈ts,t.foot.length<=1000)->aI (DwA σ F) vs ts->cc K F (ts.map (wtD σ)) vs
 |[],[],_,_=>by rw[K4];unfold cc;rfl
 |t::ts,v::vs,hl,h=>by
  rw[IQ];unfold cc;exact⟨v,vs,rfl,Gy (hl t IL) h.1,zI (λq hq=>hl q (IH _ hq)) h.2⟩
theorem zJ{K:IC}{F:Hp}{σ:Ss}{ts:List Wt}{vs:List V}{a:Addr}(ha:F a=some (.lst vs))(tel:∀t∈ts,t.foot.length<=40)(h:aI (DwA σ F) vs ts)(hn:ts.length<=1000):Rep K F (.lst (ts.map (wtD σ))) (.ref a):=by
 unfold Rep;exact⟨a,vs,rfl,SqL.of ha,by rw[Iz];exact hn,zI (λt ht=>JC (tel t ht) (by decide)) h⟩
theorem DI(σ:Ss)(ts:List Wt):(DD.lst (ts.map (wtD σ))).deep<=4:=by
 have one:∀t:Wt,(wtD σ t).deep<=3:=λt=>by
  have h1:=yn σ t.w;have h2:=Cp σ t.foot;unfold wtD;simp only[DD.deep,d9]at h1 h2⊢;omega
 have:∀l:List DD,(∀d∈l,d.deep<=3)->d9 l<=3:=λl=>by
  induction l with
  |nil=>intro _;unfold d9;exact Jw _
  |cons d l ih =>
   intro h;unfold d9;exact Nat.max_le.mpr ⟨h d IL,ih λx hx=>h x (IH _ hx)⟩
 unfold DD.deep;have:=this (ts.map (wtD σ)) λd hd=>by
  obtain⟨p,_,rfl⟩:=List.mem_map.mp hd;exact one p
 omega
theorem zK:∀ws:List Wk,ftC ws<=aO ws
 |[]=>IM _
 |w::r=>by
  have:=zK r;rw[l8,fh];by_cases h:w.1=.foot
  .rw[if_pos h,if_neg (by rw[h];decide)];omega
  .rw[if_neg h];omega
theorem EV(ft:List (Str×List Wk))(a b:List Wk){w:Wk}(hm:w.1≠.mark):(cT ft 0 (a++w::b))[aO a]?=some (if w.1=.foot then(fG (ftC a+1),fG (ftC a+1)::(lkS (rest w.2) ft).getD [])else(w,[])):=by
 rw[kK,KH (by rw[iz];exact IM _),iz,Nat.sub_self,JT,fX,if_neg hm];by_cases h:w.1=.foot
 .rw[if_pos h,if_pos h];rfl
 .rw[if_neg h,if_neg h];rfl
theorem DJ{tt:List Ttl}{ft:List (Str×List Wk)}{st:List Sw}{ws:List Wt}{due:List Lk}(e1:ws.map lk=due)(e2:ws.map wf=cT ft 0 (st.map (bK tt))){i:Nat}{s:Sw}(h:st[i]?=some s)(hm:¬ s.isM=true):∃t,ws[aO ((st.take i).map (bK tt))]?=some t/\due[aO ((st.take i).map (bK tt))]?=some (t.lead,t.kept)/\(t.w,t.foot)=(if(bK tt s).1=.foot then(fG (ftC ((st.take i).map (bK tt))+1),fG (ftC ((st.take i).map (bK tt))+1)::(lkS (rest (bK tt s).2) ft).getD [])else(bK tt s,[])):=by
 have e:st.take i++s::st.drop (i+1)=st:=by
  obtain⟨hi,e⟩:=List.getElem?_eq_some_iff.mp h;rw[<-e,<-Js hi,KJ]
 have g:=EV ft ((st.take i).map (bK tt)) ((st.drop (i+1)).map (bK tt)) (w:=bK tt s) λz=>hm ((j7 tt s).mp z);rw[show(st.take i).map (bK tt)++bK tt s::(st.drop (i+1)).map (bK tt)=st.map (bK tt)from by rw[<-IQ,<-IJ,e],<-e2,Jc]at g;cases ew:ws[aO ((st.take i).map (bK tt))]? with
 |none=>rw[ew]at g;cases g
 |some t =>
  rw[ew]at g;refine⟨t,rfl,?_,Jy g⟩;rw[<-e1,Jc,ew];rfl
theorem Sw.foot_k(tt:List Ttl){s:Sw}:s.k=(Iy "foot")↔(bK tt s).1=.foot:=by
 cases s with
 |head k=>exact⟨λh=>absurd h (by show ¬ (("head" : Str)=_);decide +kernel),λh=>by cases h⟩
 |entry k=>exact⟨λh=>absurd h (by show ¬ (("entry" : Str)=_);decide +kernel),λh=>by cases h⟩
 |goal k=>exact⟨λh=>absurd h (by show ¬ (("goal" : Str)=_);decide +kernel),λh=>by cases h⟩
 |w x =>
  show x.1.s=Kw.foot.s↔x.1=.foot;exact⟨λh=>Kw.inj h,λh=>by rw[h]⟩
inductive Gz(sa la fa ma ha pd:Addr)(H:Hp)(st:List Sw)(tt:List Ttl)(σ:Ss):Nat->St->Hp->Prop
 |mk{i:Nat}{G:Hp}(n:Nat)(en:n=ftC ((st.take i).map (bK tt)))(v7 v8 v9 v10:Option V)(vs:List V)(m:aj H G)(g1:G pd=some (.lst vs))(vl:vs.length=aO ((st.take i).map (bK tt)))(al:aI (DwA σ (hid [pd] G)) vs (σ.ws.take vs.length)):Gz sa la fa ma ha pd H st tt σ i [rF sa,rF la,rF fa,rF ma,rF ha,rF pd,some (.int (n:Int)),v7,v8,v9,v10] G
theorem Cq{σ:Ss}{G G':Hp}{pd p f s:Addr}{vs us:List V}{t:Wt}(g:G' pd=some (.lst vs))(m:aj G G')(al:aI (DwA σ (hid [pd] G)) vs (σ.ws.take vs.length))(ht:σ.ws[vs.length]?=some t)(hp:G' p=some (.tup [.int t.lead,.bl t.kept,.ref s,.ref f]))(hs:SyA G' (.ref s) (jH σ t.w))(hf:G' f=some (.lst us))(nf:f≠pd)(hu:aI (SyA G') us (t.foot.map (jH σ))):aI (DwA σ (hid [pd] (upd G' pd (.lst (vs++[.ref p]))))) (vs++[.ref p]) (σ.ws.take (vs++[V.ref p]).length):=by
 have hid':∀{a:Addr}{o:HO},a≠pd->G' a=some o->hid [pd] G' a=some o:=λna h=>br (λz=>na (List.mem_singleton.mp z)) h;have tp:∀{a:Addr}{o:List V},G' a=some (.tup o)->a≠pd:=λh z=>by rw[z,g]at h;cases h
 have sy:∀{v:V}{x:V×V},SyA G' v x->SyA (hid [pd] G') v x:=λh=>by
  obtain⟨a,e,h⟩:=h;exact⟨a,e,hid' (tp h) h⟩
 rw[IB,bH (List.mem_singleton.mpr rfl),show([V.ref p]:List V).length=1 from rfl,aT ht];exact(al.imp λ_ _=>DwA.mono (bg m)).snoc ⟨f,p,s,us,rfl,hid' (tp hp) hp,sy hs,hid' nf hf,hu.imp λ_ _=>sy⟩

inductive AH(K:IC)(vs:List V)(H:Hp)(Q:VK)(x_1:XK):Prop
 |mk(sa la fa ma ha:Addr)(sv lv hvs:List V)(kvs:List (Key×V))(ft:List (Str×List Wk))(σ:Ss)(tt:List Ttl)(st:List Sw)(due:List Lk)(_:vs=[.ref sa,.ref la,.ref fa,.ref ma,.ref ha])(_:H sa=some (.lst sv))(_:aI (SwA H) sv st)(_:H la=some (.lst lv))(_:aI (LkA H) lv due)(_:H fa=some (.dK kvs))(_:FtA H kvs ft)(_:H ma=some (.dK (mkV σ.ms)))(_:H ha=some (.lst hvs))(_:aI (HdA H) hvs σ.hs)(_:σ.ws.map lk=due)(_:σ.ws.map wf=cT ft 0 (st.map (bK tt)))(_:due.length<=400)(_:∀s∈st,(∀x,s=.w x->x.1≠.entry)/\(∀k,s=.head k\/s=.entry k->∃n,σ.hs[k]?=some (tx (tt.getD k ([],[])).1,n))/\((bK tt s).1=.foot->∃f,lkS (rest (bK tt s).2) ft=some f))(_:∀p∈ft,∀w∈p.2,w.1≠.entry/\∃n,w.2=.str (tx n))(_:uB σ)(_:∀p H',aj H H'->Rep K H' (.lst (σ.ws.map (wtD σ))) (.ref p)->Q (.ref p) H')
theorem fY:aN ["stream","leads","feet","marks","heads","due","many","kind","rest","number","foot"] ["stream","leads","feet","marks","heads"] (aw (top 77)):=by walk_at "c"
theorem AI(T:Txt P w K mg a):bi P w K mg base CX0 2 a.rP a.pY ["stream","leads","feet","marks","heads"] (AH K):=by
 exists T.rC.fn.ok,fY
 obtain⟨sa,la,fa,ma,ha,sv,lv,hvs,kvs,ft,σ,tt,st,due,rfl,hsa,sal,hla,lal,hfa,hft,hma,hha,hal,elk,ewf,dl,sin,fts,tel,q⟩:=h
 exists (ae (av (i:=5) fY.nd rfl (IP rfl) (aQ ac))
   (ae (av (i:=6) fY.nd rfl (IP rfl) ag)
   (ae (bY Jq rfl (bj (pv 0)) (dD rfl (aU (aJ (i:=7) fY.nd rfl (IP rfl)) (aU (aJ (i:=8) fY.nd rfl (IP rfl)) cQ))) (af (aG (ao bn (pv 7) am (nomark _)) (ae (av (i:=6) fY.nd rfl (IP rfl) (aH bS (pv 6) ag))
   (ae (av (i:=9) fY.nd rfl (IP rfl) (a_ (aa am (aa (aH de (aH de am (gy lS rfl T.ju KI (aa (pv 6) ac))) am) ac))))
   (ae (av (i:=10) fY.nd rfl (IP rfl) (aH fU (aQ (aa (pv 9) ac)) (uy rfl (eW (caps:=["marks","heads"]) (js:=[3,4]) (cap:=⟨⟨rfl,.inl rfl,rfl,.inl rfl⟩,⟨⟨rfl,.inl rfl,rfl,.inl rfl⟩,trivial⟩⟩)) (bj (jY (eR hr) (pv 2) (pv 8) (λ_ _=>rfl))) (λ_ _ _ _=>dM) (λ_ _ _ _=>(aC T.pH (vU T) (hM hr) rfl (aa (pv 0) (aa (pv 1) (aa (pv 2) (aa (pv 3) ac)))))))))
   (af (bf (b_ IR Je Jf bT (pv 5) (aa (aH zh (aB bC (pv 1) (aF bp rfl T.bG Jg (aa (pv 5) ac)) (λ_ _=>rfl)) (a_ (aa (pv 9) (aa (pv 10) ac)))) ac))))))) (af (aG (ao dZ (pv 7) am (nomark _)) (af (bf (b_ IR Je Jf bT (pv 5) (aa (aH zh (aB bC (pv 1) (aF bp rfl T.bG Jg (aa (pv 5) ac)) (λ_ _=>rfl)) (a_ (aa (aC T.pH (vU T) (hM hr) rfl (aa (pv 7) (aa (pv 8) (aa (pv 3) (aa (pv 4) ac))))) (aa (aQ ac) ac)))) ac)))) aE)))))
   (af (aM (pv 5))))))
 have lsv:=sal.len;have le:σ.ws.length=due.length:=by rw[<-elk,Iz]
 refine⟨aW (by simp),λpd hpd=>?_⟩
 exists hpd,H1,s1,k1
 refine⟨_,rfl,sa,rfl,⟨_,SqL.of (s1 _ _ hsa)⟩,bZ (K:=K) (a:=sa) (xs:=sv) (Gz sa la fa ma ha pd H st tt σ) ⟨0,rfl,none,none,none,none,[],s1,k1,rfl,trivial⟩ (λi σ' G _ g=>by obtain⟨_,_,_,_,_,_,_,m,_⟩:=g;exact SqL.of (m _ _ hsa)) ?_ ?_⟩
 .rintro i y σ' G hy ⟨n,en,v7,v8,v9,v10,vs,m,g1,vl,al⟩;obtain⟨s,hs',b,rfl,hb⟩:=sal.getL hy;have hsm:=IK hs';obtain⟨kes,hks,hfo⟩:=sin s hsm;have e1:(st.take (i+1)).map (bK tt)=(st.take i).map (bK tt)++[bK tt s]:=by rw[aT hs',IJ];rfl
  have ec:aO ((st.take (i+1)).map (bK tt))=vs.length+((if(bK tt s).1=.mark then 0 else 1)+0):=by rw[e1,fF,<-vl,fh];rfl
  have ef:ftC ((st.take (i+1)).map (bK tt))=n+((if(bK tt s).1=.foot then 1 else 0)+0):=by rw[e1,zG,<-en,l8];rfl
  have at_:=λhm=>DJ elk ewf hs' (hm:¬ s.isM=true);have nc:=zK ((st.take i).map (bK tt));rw[<-vl,<-en]at at_ nc;clear en vl;refine⟨b,_,rfl,SqT.of (m _ _ hb),rfl,_,_,rfl,_,_,rfl,rfl,?_⟩
  exists 1
  by_cases hk:(bK tt s).1=.foot
  .refine iT (congrArg V.str ((Sw.foot_k tt).mpr hk)) ?_;obtain⟨t,ht,hd,et⟩:=at_ λz=>by rw[(j7 tt s).mpr z]at hk;cases hk
   rw[if_neg (by rw[hk];decide)]at ec;rw[if_pos hk]at ef et;obtain⟨f,hf'⟩:=hfo hk;rw[hf']at et;obtain⟨x,rfl⟩:∃x,s=.w x:=by
    cases s with
    |w x=>exact⟨x,rfl⟩
    |head k=>cases hk
    |entry k=>cases hk
    |goal k=>cases hk
   have ff:=fts _ (lO hf');have hf':lkS (tx x.2) ft=some f:=hf';obtain⟨tk1,tk2,tk3⟩:=tel t (IK ht);obtain⟨ld,kp,tw_,tf_⟩:=t;injection et with et1 et2;dsimp only at hd et1 et2 tk1 tk2 tk3;subst et1 et2;have hdl:=(List.getElem?_eq_some_iff.mp hd).1;obtain⟨v,hv,c,rfl,hc⟩:=lal.getR hd;obtain⟨l,hv',fv,l1,l2⟩:=(FtA.val (n:=tx x.2) hft).2 f hf';have lf:=l2.len;have f40:f.length+1<=40:=tk2;refine⟨_,rfl,_,_,rfl,rfl,?_⟩;dsimp only[bA];rw[show((n:Nat):Int)+1=((n+1:Nat):Int)from rfl];have fl:(dH (n+1)).length<=4:=lW 3 _ (by omega);refine⟨_,rfl,_,rfl,vL (n:=n+1) (IU (show n+1<=1001 by omega) (by decide +kernel)),?_⟩;rw[tE];refine⟨_,_,rfl,rfl,(by rw[cLp,aV,aV];exact Jj (ay (by simp only[ID,Ja];omega))),_,_,rfl,rfl,(by rw[cLp,cRp,eZ,aV,aV];exact Jj (ay (by simp only[IB,ID,Ja];omega))),le2,λp1 hp1=>?_⟩;have s2:aj G _:=ai hp1 (.tup [.str "text",.str (ip (n+1))]);have k2:upd G p1 (.tup [.str "text",.str (ip (n+1))]) p1=some (.tup [.str "text",.str (ip (n+1))]):=ah;generalize eG2:upd G p1 (.tup [.str "text",.str (ip (n+1))])=G2 at s2 k2;rw[show upd G p1 (.tup [.str (Iy "text"),.str (Iy "("++tx (dH (n+1))++Iy ")")])=G2 from eG2];clear eG2;refine⟨_,rfl,le1,λp2 hp2=>?_⟩
   exists hp2,G3,s3,k3
   have s13:=m.trans (s2.trans s3);refine⟨_,rfl,_,rfl,_,_,rfl,(by rw[<-hv'];exact fD.k (k:=.inr (tx x.2)) (s13 _ _ hfa)),l,rfl,⟨_,SqL.of (s13 _ _ l1)⟩,oT (K:=K) (a:=l) (xs:=fv) (λj ys G'=>aj G3 G'/\ys.length=j/\aI (SyA G') ys ((f.take j).map (jH σ))) ⟨aj.refl _,rfl,trivial⟩ (λj ys G' _ z=>SqL.of ((s13.trans z.1) _ _ l1)) ?_ ?_ ?_⟩
   .rintro j ys G' hj ⟨_,z,_⟩;exact ay (by omega)
   .rintro j z ys G' hx ⟨mj,zl,az⟩;obtain⟨⟨kx,rx⟩,hwx,c',rfl,hc'⟩:=l2.getL hx;have hxm:=IK hwx;obtain⟨xe,nx,hnx⟩:=ff _ hxm;have ok:=tk3 _ (IH _ hxm);dsimp only at hnx xe;subst hnx;have mc:=s13.trans mj;refine⟨c',_,_,rfl,SqT.of (mc _ _ hc'),fE ?_⟩;refine⟨_,rfl,_,rfl,_,rfl,_,rfl,ma,ha,.w (kx,nx),tt,σ,hvs,rfl,mc _ _ hma,mc _ _ hha,hal.imp λ_ _=>HdA.mono mc,(λ_ e=>by cases e;exact xe),ok,(λk e=>by rcases e with e|e<;>cases e),λp5 G5 x5 y5 hp5 m5 k5 es=>?_⟩
    refine⟨mj.trans m5,by rw[IB,zl];rfl,?_⟩;rw[aT hwx,IJ];exact(az.imp λ_ _=>SyA.mono m5).snoc ⟨p5,rfl,by rw[show jH σ (kx,V.str (tx nx))=(x5,y5)from es];exact k5⟩
   rintro ys G' ⟨mj,zl,az⟩ p3 hp3;rw[lf,IZ]at az
   exists hp3,G4,s4,k4
   have az:=az.imp λ_ _=>SyA.mono s4;have s34:=mj.trans s4;refine⟨_,_,_,_,rfl,rfl,s34 _ _ k3,k4,aW (show 1+ys.length<=1000 by omega),λp5 hp5=>?_⟩
   exists hp5,G5,s5,k5
   have s24:=s2.trans (s3.trans s34);have n5:p5≠pd:=λz=>by rw[z,s24 _ _ g1]at hp5;cases hp5
   have s25:=s24.trans s5;have k2':=(s3.trans (s34.trans s5)) _ _ k2;have az:=az.imp λ_ _=>SyA.mono s5;have g5:=s25 _ _ g1;have m5:=m.trans s25;refine⟨_,rfl,.inl ⟨rfl,_,SqL.of g5⟩,_,rfl,_,rfl,_,_,rfl,.inl (SqL.of g5),_,_,_,_,rfl,rfl,SqL.of (m5 _ _ hla),bX hv,_,rfl,_,rfl,le2,λp6 hp6=>?_⟩
   exists hp6,G6,s6,k6
   refine⟨_,_,_,_,rfl,rfl,SqT.of ((m5.trans s6) _ _ hc),SqT.of k6,List.cons_ne_nil _ _,le4,(λz=>by cases z),λ_ p7 hp7=>?_⟩
   exists hp7,G7,sZ,kZ
   have s7:=s6.trans sZ;have k7:G7 p7=some (.tup [.int ld,.bl kp,.ref p1,.ref p5]):=kZ;have g7:=s7 _ _ g5;refine⟨_,_,_,rfl,rfl,g7,ay (by omega),?_⟩;have sy1:SyA G7 (.ref p1) (jH σ (fG (n+1))):=⟨p1,rfl,s7 _ _ k2'⟩;exact⟨n+1,ef.symm,_,_,_,_,vs++[.ref p7],aY (m5.trans s7) hpd,ah,by rw[ec,IB];rfl,Cq g7 (s25.trans s7) al ht k7 sy1 (s7 _ _ k5) n5 ⟨sy1,az.imp λ_ _=>SyA.mono s7⟩⟩
  .refine iF (λz=>hk ((Sw.foot_k tt).mp (V.str.inj z))) ?_;rw[if_neg hk]at ef
   exists 1
   by_cases hm:s.isM=true
   .refine nF (congrArg V.str (Sw.mark_k.mpr hm)) ?_;rw[if_pos ((j7 tt s).mpr hm)]at ec;exact⟨n,ef.symm,_,_,_,_,vs,m,g1,ec.symm,al⟩
   .refine nT (λzz=>hm (Sw.mark_k.mp (V.str.inj zz))) ?_;rw[if_neg (λz=>hm ((j7 tt s).mp z))]at ec;obtain⟨t,ht,hd,et⟩:=at_ hm;rw[if_neg hk]at et;obtain⟨tk1,tk2,tk3⟩:=tel t (IK ht);obtain⟨ld,kp,tw_,tf_⟩:=t;injection et with et1 et2;dsimp only at hd et1 et2 tk1 tk2 tk3;subst et1 et2;have hdl:=(List.getElem?_eq_some_iff.mp hd).1;obtain⟨v,hv,c,rfl,hc⟩:=lal.getR hd;refine⟨_,rfl,.inl ⟨rfl,_,SqL.of g1⟩,_,rfl,_,rfl,_,_,rfl,.inl (SqL.of g1),_,_,_,_,rfl,rfl,SqL.of (m _ _ hla),bX hv,_,rfl,_,rfl,_,rfl,_,rfl,ma,ha,s,tt,σ,hvs,rfl,m _ _ hma,m _ _ hha,hal.imp λ_ _=>HdA.mono m,kes,tk1,hks,λp2 G2 x2 y2 hp2 s3 k2 es=>?_⟩;refine⟨aW (by simp),λp3 hp3=>?_⟩
    exists hp3,G3,sZ,k3
    have s4:=s3.trans sZ;have k2':=sZ _ _ k2;have n3:p3≠pd:=λz=>by rw[z,s3 _ _ g1]at hp3;cases hp3
    refine⟨le2,λp4 hp4=>?_⟩
    exists hp4,G4,s5,k4
    have m4:=s4.trans s5;refine⟨_,_,_,_,rfl,rfl,SqT.of ((m.trans m4) _ _ hc),SqT.of k4,List.cons_ne_nil _ _,le4,(λz=>by cases z),λ_ p7 hp7=>?_⟩
    exists hp7,G7,sZ,kZ
    have s7:=s5.trans sZ;have m7:=s4.trans s7;have k7:G7 p7=some (.tup [.int ld,.bl kp,.ref p2,.ref p3]):=kZ;have g7:=m7 _ _ g1;refine⟨_,_,_,rfl,rfl,g7,ay (by omega),?_⟩;exact⟨n,ef.symm,_,_,_,_,vs++[.ref p7],aY (m.trans m7) hpd,ah,by rw[ec,IB];rfl,Cq g7 m7 al ht k7 ⟨p2,rfl,by rw[es];exact s7 _ _ k2'⟩ (s7 _ _ k3) n3 trivial⟩
 rintro σ' G ⟨n,en,v7,v8,v9,v10,vs,m,g1,vl,al⟩;rw[lsv,IZ]at vl;have lw_:=congrArg LF ewf;rw[Iz,iz,<-vl]at lw_;rw[<-lw_,IZ]at al;exact⟨_,rfl,q pd G m (zJ g1 (λt ht=>(tel t ht).2.1) (al.imp λ_ _=>DwA.mono bJ) (by omega))⟩
inductive wA(vs:List V)(H:Hp)(Q:VK)(x_1:XK):Prop
 |mk(n:Nat)(_:vs=[.int (n:Int)])(_:n<10^100)(_:Q (.str (tx (dH n))) H)
theorem wB:aN ["number"] ["number"] (aw (top 20)):=by walk_at "c"
theorem qd(T:Txt P w K mg a):bi P w K mg base CX0 1 a.mv a.lg ["number"] wA:=by
 exists T.jR.fn.ok,wB
 obtain⟨n,rfl,hn,q⟩:=h
 exists (af (aM (gy lS rfl T.ju KI (aa (pv 0) ac))))
 refine⟨_,rfl,_,rfl,vL hn,?_⟩;have e:=tE n;exact Eq.mpr (congrArg (λz=>Q (.str z) H) e) q
inductive wC(K:IC)(vs:List V)(H:Hp)(Q:VK)(x_1:XK):Prop
 |mk(la:Addr)(ls:List Int)(_:vs=[.ref la])(_:SqL K H la (ls.map V.int))(_:DA ls)(_:ls.length<=63)(_:∀p H',H p=none->aj H H'->H' p=some (.lst (((gp ls ls.length).map tx).map V.str))->Q (.ref p) H')
theorem gP:aN ["levels","counters","numbers","level"] ["levels"] (aw (top 23)):=by walk_at "c"
theorem wD(T:Txt P w K mg a):bi P w K mg base CX0 2 a.mx a.lm ["levels"] (wC K):=by
 exists T.mq.fn.ok,gP
 obtain⟨la,ls,rfl,hL,l123,h63,q⟩:=h
 exists (ae (av (i:=1) gP.nd rfl (IP rfl) (aQ (aa ag (aa ag (aa ag ac)))))
   (ae (av (i:=2) gP.nd rfl (IP rfl) (aQ ac))
   (ae (bY Jq rfl (bj (pv 0)) (aJ (i:=3) gP.nd rfl (IP rfl)) (ae (av (i:=1) gP.nd rfl (IP rfl) (aH fU (aH fU (dR oa (pv 1) fN (eQ (aH kD (pv 3) ag))) (aQ (aa (aH bS (aB bC (pv 1) (aH kD (pv 3) ag) (λ_ _=>rfl)) ag) ac))) (aH kG (aQ (aa ag ac)) (aH kD ag (pv 3)))))
   (af (bf (b_ IR Je Jf bT (pv 2) (aa (b_ Kd KL KM og am (aa (gc rfl (eW (caps:=[]) (js:=[]) (cap:=trivial)) (bj (dR oa (pv 1) fN (eQ (pv 3)))) (λ_ _ _ _=>dM) (λ_ _ _ _=>(aC T.jR (qd T) (hM hr) rfl (aa (pv 0) ac)))) ac)) ac))))))
   (af (aM (pv 2))))))
 refine⟨aW (by decide),λp1 hp1=>?_⟩;refine⟨Jw _,λp2 hp2=>?_⟩;have s1:=ai hp1 (.lst (vb (0,0,0)));have hr:H p2=none:=s1.free hp2;have s2:=s1.trans (ai hp2 (.lst []));refine⟨_,rfl,_,rfl,⟨_,s2.seq hL⟩,bZ (K:=K) (a:=la) (xs:=ls.map V.int) (λi σ H2=>aj H H2/\∃(pc:Addr)(v:Option V),σ=[rF la,rF pc,rF p2,v]/\H2 pc=some (.lst (vb (ctr (ls.take i))))/\H2 p2=some (.lst (((gp ls i).map tx).map V.str)))
  ⟨s2,p1,none,rfl,(ai hp2 _) _ _ ah,ah⟩ (λi σ H2 _ h2=>h2.1.seq hL) ?_ ?_⟩
 .rintro i y σ H2 hi ⟨sH,pc,v,rfl,hc,hn⟩;obtain⟨z,rfl,ez⟩:=EO hi;have i63:i<63:=by
   have:=(List.getElem?_eq_some_iff.mp ez).1;omega
  have bc:=Ca (ls.take (i+1));have nl:=o4 ls i;rw[Jm]at bc;rw[Cb ez];rw[DB ez]at bc⊢;generalize ctr (ls.take i)=c at hc bc⊢;generalize gp ls i=ts at hn nl⊢;obtain⟨pre,k,cs,e1,e2,e3,l1,l2,l3,l4,e4,l5,cs63,e5⟩:=lev (l123 z (IK ez)) c (m:=63) (by omega) (by omega) (by omega);rw[<-e5];rw[<-e3]at e4⊢;refine⟨_,rfl,_,rfl,_,_,rfl,rfl,_,rfl,_,_,rfl,SqL.of hc,λp3 hp3=>?_⟩;rw[e1];have s3:=ai hp3 (.lst pre);refine⟨_,rfl,_,rfl,_,_,rfl,rfl,_,_,_,_,rfl,rfl,s3.seq (SqL.of hc),e2,_,_,rfl,rfl,le1,λp4 hp4=>?_⟩;refine⟨_,_,pre,[V.int (k+1)],rfl,rfl,(ai hp4 _) _ _ ah,ah,aW (by simp;omega),λp5 hp5=>?_⟩;refine⟨le1,λp6 hp6=>?_⟩;refine⟨_,rfl,_,_,rfl,rfl,_,_,[V.int 0],rfl,rfl,ah,(by omega),(by omega),aW (by simp;omega),λp7 hp7=>?_⟩;refine⟨_,_,pre++[V.int (k+1)],(IN (3-z).toNat [V.int 0]).flatten,rfl,rfl,(ai hp7 _) _ _ ((ai hp6 _) _ _ ah),ah,aW (by rw[zj];simp;omega),λp8 hp8=>?_⟩;have h28:H2 p8=none:=(s3.trans ((ai hp4 _).trans ((ai hp5 _).trans ((ai hp6 _).trans (ai hp7 _))))).free hp8;have s8:=s3.trans ((ai hp4 (.lst [V.int (k+1)])).trans ((ai hp5 (.lst (pre++[V.int (k+1)]))).trans ((ai hp6 (.lst [V.int 0])).trans ((ai hp7 (.lst (IN (3-z).toNat [V.int 0]).flatten)).trans (ai hp8 (.lst (pre++[V.int (k+1)]++(IN (3-z).toNat [V.int 0]).flatten)))))));have hc8:=ah (H:=(upd (upd (upd (upd (upd H2 p3 (.lst pre)) p4 (.lst [V.int (k+1)])) p5 (.lst (pre++[V.int (k+1)]))) p6 (.lst [V.int 0])) p7 (.lst (IN (3-z).toNat [V.int 0]).flatten))) (a:=p8) (o:=.lst (pre++[V.int (k+1)]++(IN (3-z).toNat [V.int 0]).flatten));generalize upd (upd (upd (upd (upd (upd H2 p3 (.lst pre)) p4 (.lst [V.int (k+1)])) p5 (.lst (pre++[V.int (k+1)]))) p6 (.lst [V.int 0])) p7 (.lst (IN (3-z).toNat [V.int 0]).flatten)) p8 (.lst (pre++[V.int (k+1)]++(IN (3-z).toNat [V.int 0]).flatten))=H8 at s8 hc8⊢;generalize pre++[V.int (k+1)]++(IN (3-z).toNat [V.int 0]).flatten=cv at hc8 e4⊢;have hn8:=s8 _ _ hn;refine⟨_,rfl,.inl ⟨rfl,_,SqL.of hn8⟩,rfl,_,rfl,_,rfl,_,rfl,_,_,rfl,SqL.of hc8,λp9 hp9=>?_⟩;rw[e4];have s9:=ai hp9 (.lst (cs.map nV));refine⟨_,rfl,⟨_,SqL.of ah⟩,dS (K:=K) (a:=p9) (xs:=cs.map nV) (λi ys H3=>H3=upd H8 p9 (.lst (cs.map nV))/\ys=(((cs.take i).map dH).map tx).map V.str) ⟨rfl,rfl⟩ (λi ys H3 _ h3=>by rw[h3.1];exact SqL.of ah) ?_ ?_ ?_⟩
  .rintro j ys H3 hj ⟨_,rfl⟩;rw[Iz,Iz,Iz,Jm];exact Jl (show _<1000 by omega) (aW (IM _))
  .rintro j y ys H3 hj ⟨rfl,rfl⟩;obtain⟨n,rfl,en⟩:=Gm hj;refine fE ?_;refine⟨_,rfl,n,rfl,Ir (cs63 n (IK en)),rfl,?_⟩;rw[aT en];simp only[IJ,IQ,K4]
  .rintro ys H3 ⟨rfl,rfl⟩ p hp;rw[Iz,IZ];have s10:=ai hp (.lst (((cs.map dH).map tx).map V.str));have hsum:=ya cs cs63;have hn10:=s10 _ _ (s9 _ _ hn8);refine⟨_,p,(cs.map dH).map tx,rfl,rfl,SqL.of ah,(by decide),(by rw[Iz,Iz];omega),_,_,_,rfl,rfl,hn10,?_,?_⟩
   .rw[Iz,Iz];exact Jl (show _<1000 by omega) (aW (IM _))
   .have st:=sH.trans (s8.trans (s9.trans s10));have nc:p8≠p2:=λz=>cH hn h28 z.symm;refine⟨st.put hr,p8,_,rfl,?_,?_⟩
    .rw[aq nc];exact s10 _ _ (s9 _ _ hc8)
    .rw[ah,Iq,oh];simp only[IJ,IQ,K4]
 .rintro σ H2 ⟨sH,pc,v,rfl,hc,hn⟩;rw[Iz]at hn;exact⟨_,rfl,q p2 _ hr sH hn⟩

theorem gq{F:Hp}{x C dx:Addr}{L:List (Str×V)}{n:Nat}(f:Str)(v:V)(k:F x=some (.ins C dx L))(l:L.length<=n):∃F' L',upd F x (.ins C dx (bW f v L))=F'/\bW f v L=L'/\L'.length<=n+1/\F' x=some (.ins C dx L')/\FrX F F' x:=⟨_,_,rfl,rfl,JC xR (Lj l),ah,FrX.refl.at⟩
theorem oB{F:Hp}{p:Addr}(o:HO)(h:F p=none):∃F',upd F p o=F'/\F' p=some o/\aj F F':=⟨_,rfl,ah,ai h _⟩
theorem kg{H H1 H2:Hp}{x:Addr}(f:FrX H H1 x)(g:FrX H1 H2 x):FrX H H2 x:=λb u n h=>g b u n (f b u n h)
theorem fB{F:Hp}{p q:Addr}{o:HO}(a:F p=some o)(h:F q=none):p≠q:=λz=>by rw[z,h]at a;cases a

def HtA(F:Hp)(v:V)(h:Nat×List Wk):Prop:=∃a l,v=.ref a/\F a=some (.tup [.str "head",.int (h.1:Int),.ref l])/\c6 F l h.2
def eY(hs:List (Nat×List Wk)):List Int:=hs.map λh=>(h.1:Int)
def gW(hs:List (Nat×List Wk))(feet:List (Str×List Wk)):Sc:=⟨(gp (eY hs) (eY hs).length).map tx,hs.map (·.2),feet⟩

inductive vc(C:Addr)(vs:List V)(H:Hp)(Q:VK)(x_1:XK):Prop
 |mk(x dx hl fa:Addr)(hv:List V)(hs:List (Nat×List Wk))(kvs:List (Key×V))(feet:List (Str×List Wk))(_:vs=[.ref x,.ref hl,.ref fa])(_:H x=some (.ins C dx []))(_:H hl=some (.lst hv))(_:aI (HtA H) hv hs)(_:H fa=some (.dK kvs))(_:FtA H kvs feet)(_:DA (eY hs))(_:hs.length<=63)(_:∀H' A,A.x=x->FrX H H' x->StA C (hid A.os H') H' A (gW hs feet) ss0->(H A.wa=none/\H A.ma=none/\H A.ha=none)->Q .non H')
theorem vd:aN ["self","all_heads","feet"] ["self","all_heads","feet"] (aw (aP 55 0)):=by walk_at "c"
theorem ve(T:Txt P w K mg a):bi P w K mg base CX0 3 a.k_ a.kj ["self","all_heads","feet"] (vc a.aL):=by
 exists T.kX.fn.ok,vd
 obtain⟨x,dx,hl,fa,hv,hs,kvs,feet,rfl,hx,hh,ha,hf,hft,lv,hsl,q⟩:=h
 exists (ae (dr (pv 0) (aC T.mq (wD T) (hM hr) rfl (aa (gc rfl (eW (caps:=[]) (js:=[]) (cap:=trivial)) (bj (pv 1)) (λ_ _ _ _=>dM) (λ_ _ _ _=>(aB (r:=kQ K) aZ (pv 0) ag (λ_ _=>rfl)))) ac)) rfl)
   (ae (dr (pv 0) (gc rfl (eW (caps:=[]) (js:=[]) (cap:=trivial)) (bj (pv 1)) (λ_ _ _ _=>dM) (λ_ _ _ _=>(aB (r:=kQ K) aZ (pv 0) ag (λ_ _=>rfl)))) rfl)
   (ae (dr (pv 0) (pv 2) rfl)
   (ae (dr (pv 0) ag rfl)
   (ae (dr (pv 0) (aQ ac) rfl)
   (ae (dr (pv 0) tq rfl)
   (ae (dr (pv 0) (aQ ac) rfl)
   (ae (dr (pv 0) ag rfl)
   (af (dr (pv 0) cC rfl))))))))))
 have lh:=ha.len;have k:=hx;have f:FrX H H x:=FrX.refl;have l:([]:List (Str×V)).length<=0:=IM _;refine⟨_,rfl,hl,rfl,⟨_,SqL.of hh⟩,dS (K:=K) (a:=hl) (xs:=hv) (λi ys G'=>H=G'/\ys=((eY hs).take i).map V.int) ⟨rfl,rfl⟩ (λi ys G' _ z=>by rw[<-z.1];exact SqL.of hh) ?_ ?_ ?_⟩
 .rintro i ys G' hi ⟨_,z⟩;rw[z,Iz,Jm];exact ay (by unfold eY;rw[Iz];omega)
 .rintro i y ys G' hy ⟨rfl,z⟩;obtain⟨h,hw,b,l,rfl,hb,_⟩:=ha.getL hy;refine fE ?_;refine⟨_,rfl,_,_,_,_,rfl,rfl,SqT.of hb,rfl,rfl,?_⟩;rw[z,aT (l:=eY hs) (x:=(h.1:Int)) (by unfold eY;rw[Jc,hw];rfl),IJ];rfl
 rintro ys G' ⟨rfl,z⟩ q1 hq1;rw[lh,show hs.length=(eY hs).length from by unfold eY;rw[Iz],IZ]at z;have sq:=ai hq1 (.lst ys);refine⟨q1,eY hs,rfl,SqL.of (by rw[<-z];exact ah),lv,(by unfold eY;rw[Iz];exact hsl),λna Hn hna sna kna=>?_⟩;have sn:=sq.trans sna;have kn:Hn na=some (.lst ((gW hs feet).nums.map V.str)):=kna;have hna':H na=none:=sq.free hna;clear sna kna sq;have e0:=f.free k hna';have f:=f.same sn;have k:=sn _ _ k;have a0:=kn;have d0:na≠x:=λz=>by rw[z,k]at a0;cases a0
 refine⟨_,rfl,_,_,_,_,rfl,k,T.aD.cl,T.gg,IU l (by decide),?_⟩;obtain⟨H2,L0,eH,g0,l,k,r⟩:=gq "numbers" (V.ref na) k l;rw[eH];have f:=kg f r;have a0:=r _ _ d0 a0;have hhn:H2 hl=some (.lst hv):=f.get hh (by intro z;rw[z,hx]at hh;cases hh);refine⟨_,rfl,hl,rfl,⟨_,SqL.of hhn⟩,dS (K:=K) (a:=hl) (xs:=hv) (λi ys G'=>H2=G'/\ys.length=i/\aI (TlA H) ys ((hs.take i).map (·.2))) ⟨rfl,rfl,trivial⟩ (λi ys G' _ z=>by rw[<-z.1];exact SqL.of hhn) ?_ ?_ ?_⟩
 .rintro i ys G' hi ⟨_,z,_⟩;rw[z];exact ay (by omega)
 .rintro i y ys G' hy ⟨rfl,z,al⟩;obtain⟨h,hw,b,l,rfl,hb,hb2⟩:=ha.getL hy;refine fE ?_;refine⟨_,rfl,_,_,_,_,rfl,rfl,SqT.of (f.get hb (by intro z;rw[z,hx]at hb;cases hb)),rfl,rfl,(by rw[IB,z];rfl),?_⟩;rw[aT hw,IJ];exact al.snoc ⟨l,rfl,hb2⟩
 rintro ys G' ⟨rfl,z,al⟩ q2 hq2;rw[lh,IZ]at al
 exists hq2,Ht,st,kt
 have e1:=f.free k hq2;have d0_1:na≠q2:=fB a0 hq2;have f:=f.same st;have k:=st _ _ k;have a0:=st _ _ a0;have a1:=kt;have d1:q2≠x:=λz=>by rw[z,k]at a1;cases a1
 refine⟨_,rfl,_,_,_,_,rfl,k,T.aD.cl,T.gM,IU l (by decide),?_⟩;obtain⟨H4,L1,eH,g1,l,k,r⟩:=gq "titles" (V.ref q2) k l;rw[eH];have f:=kg f r;have a0:=r _ _ d0 a0;have a1:=r _ _ d1 a1;refine⟨_,rfl,_,rfl,_,_,_,_,rfl,k,T.aD.cl,T.gx,IU l (by decide),?_⟩;obtain⟨H5,L2,eH,g2,l,k,r⟩:=gq "feet" (V.ref fa) k l;rw[eH];have f:=kg f r;have a0:=r _ _ d0 a0;have a1:=r _ _ d1 a1;refine⟨_,rfl,_,_,_,_,rfl,k,T.aD.cl,T.eO,IU l (by decide),?_⟩;obtain⟨H6,L3,eH,g3,l,k,r⟩:=gq "feet_set" (V.int 0) k l;rw[eH];have f:=kg f r;have a0:=r _ _ d0 a0;have a1:=r _ _ d1 a1;refine⟨aW (by simp),λp4 hp4=>?_⟩;obtain⟨H7,eH,b4,w4⟩:=oB (.lst []) hp4;rw[eH];have e4:=f.free k hp4;have d0_4:na≠p4:=fB a0 hp4;have d1_4:q2≠p4:=fB a1 hp4;have f:=f.same w4;have k:=w4 _ _ k;have a0:=w4 _ _ a0;have a1:=w4 _ _ a1;have a4:=b4;have d4:p4≠x:=λz=>by rw[z,k]at a4;cases a4
 refine⟨_,rfl,_,_,_,_,rfl,k,T.aD.cl,T.cJ,IU l (by decide),?_⟩;obtain⟨H8,L4,eH,g4,l,k,r⟩:=gq "words" (V.ref p4) k l;rw[eH];have f:=kg f r;have a0:=r _ _ d0 a0;have a1:=r _ _ d1 a1;have a4:=r _ _ d4 a4;intro p5 hp5;obtain⟨H9,eH,b5,w5⟩:=oB (.dK []) hp5;rw[eH];have e5:=f.free k hp5;have d0_5:na≠p5:=fB a0 hp5;have d1_5:q2≠p5:=fB a1 hp5;have d4_5:p4≠p5:=fB a4 hp5;have f:=f.same w5;have k:=w5 _ _ k;have a0:=w5 _ _ a0;have a1:=w5 _ _ a1;have a4:=w5 _ _ a4;have a5:=b5;have d5:p5≠x:=λz=>by rw[z,k]at a5;cases a5
 refine⟨_,rfl,_,_,_,_,rfl,k,T.aD.cl,T.cI,IU l (by decide),?_⟩;obtain⟨H10,L5,eH,g5,l,k,r⟩:=gq "marks" (V.ref p5) k l;rw[eH];have f:=kg f r;have a0:=r _ _ d0 a0;have a1:=r _ _ d1 a1;have a4:=r _ _ d4 a4;have a5:=r _ _ d5 a5;refine⟨aW (by simp),λp6 hp6=>?_⟩;obtain⟨H11,eH,b6,w6⟩:=oB (.lst []) hp6;rw[eH];have e6:=f.free k hp6;have d0_6:na≠p6:=fB a0 hp6;have d1_6:q2≠p6:=fB a1 hp6;have d4_6:p4≠p6:=fB a4 hp6;have d5_6:p5≠p6:=fB a5 hp6;have f:=f.same w6;have k:=w6 _ _ k;have a0:=w6 _ _ a0;have a1:=w6 _ _ a1;have a4:=w6 _ _ a4;have a5:=w6 _ _ a5;have a6:=b6;have d6:p6≠x:=λz=>by rw[z,k]at a6;cases a6
 refine⟨_,rfl,_,_,_,_,rfl,k,T.aD.cl,T.dJ,IU l (by decide),?_⟩;obtain⟨H12,L6,eH,g6,l,k,r⟩:=gq "heads" (V.ref p6) k l;rw[eH];have f:=kg f r;have a0:=r _ _ d0 a0;have a1:=r _ _ d1 a1;have a4:=r _ _ d4 a4;have a5:=r _ _ d5 a5;have a6:=r _ _ d6 a6;refine⟨_,rfl,_,_,_,_,rfl,k,T.aD.cl,T.cW,IU l (by decide),?_⟩;obtain⟨H13,L7,eH,g7,l,k,r⟩:=gq "leap" (V.int 0) k l;rw[eH];have f:=kg f r;have a0:=r _ _ d0 a0;have a1:=r _ _ d1 a1;have a4:=r _ _ d4 a4;have a5:=r _ _ d5 a5;have a6:=r _ _ d6 a6;refine⟨_,rfl,_,_,_,_,rfl,k,T.aD.cl,T.dB,IU l (by decide),?_⟩;obtain⟨H14,L8,eH,g8,l,k,r⟩:=gq "behind_head" (V.bl false) k l;rw[eH];have f:=kg f r;have a0:=r _ _ d0 a0;have a1:=r _ _ d1 a1;have a4:=r _ _ d4 a4;have a5:=r _ _ d5 a5;have a6:=r _ _ d6 a6;have eL:L8=fsS ⟨x,dx,na,q2,fa,p4,p5,p6⟩ 0 0 false:=by rw[<-g8,<-g7,<-g6,<-g5,<-g4,<-g3,<-g2,<-g1,<-g0];exact EH ⟨x,dx,na,q2,fa,p4,p5,p6⟩
 rw[eL]at k;have nfx:fa≠x:=λz=>by rw[z,hx]at hf;cases hf
 have hid':∀b u,b≠x->b≠p4->b≠p5->b≠p6->H b=some u->hid [x,p4,p5,p6] H14 b=some u:=λb u n1 n2 n3 n4 h=>br (by simp[n1,n2,n3,n4]) (f b u n1 h);have inH:∀b u,H b=some u->b≠x->hid [x,p4,p5,p6] H14 b=some u:=λb u h n1=>hid' b u n1 (λz=>by rw[z,e4]at h;cases h) (λz=>by rw[z,e5]at h;cases h) (λz=>by rw[z,e6]at h;cases h) h;have tupX:∀{b us},H b=some (.tup us)->hid [x,p4,p5,p6] H14 b=some (.tup us):=λ{b us} h=>inH b _ h (λz=>by rw[z,hx]at h;cases h);have lstX:∀{b us},H b=some (.lst us)->hid [x,p4,p5,p6] H14 b=some (.lst us):=λ{b us} h=>inH b _ h (λz=>by rw[z,hx]at h;cases h);have lsX:∀{l ws},c6 H l ws->c6 (hid [x,p4,p5,p6] H14) l ws:=λ{l ws} ⟨us,h1,h2⟩=>⟨us,lstX h1,h2.imp λv w ⟨b,z1,z2⟩=>⟨b,z1,tupX z2⟩⟩;refine q _ ⟨x,dx,na,q2,fa,p4,p5,p6⟩ rfl f ⟨bJ,k,⟨?_,⟨ys,?_,?_⟩,⟨kvs,?_,?_⟩⟩,?_,d4_6,⟨[],a4,trivial⟩,a5,⟨[],a6,trivial⟩⟩ ⟨e4,e5,e6⟩
 .exact br (by simp[Sad.os,d0,d0_4,d0_5,d0_6]) a0
 .exact br (by simp[Sad.os,d1,d1_4,d1_5,d1_6]) a1
 .exact al.imp λv w ⟨l,z1,z2⟩=>⟨l,z1,lsX z2⟩
 .exact inH fa _ hf nfx
 .exact ftX (λl ws h=>lsX h) hft
 .intro b hb;unfold hid;rw[if_pos hb]
inductive oC(cls:Xc->Addr)(C:Addr)(vs:List V)(H:Hp)(Q:VK)(E:XK):Prop
 |mk(A:Sad)(G:Hp)(c:Sc)(σ:Ss)(_:vs=[.ref A.x])(_:StA C G H A c σ)(_:kS c)(_:tI c σ)(_:σ.ws.length<=400)(_:∀e,fA c σ=some e->∀H',aj G H'->E (.ref (cls e)) none H')(_:fA c σ=none->∀H',aj H H'->StA C G H' A c σ->Q .non H')
theorem cu:aN ["self","name","k","words","text","kind","rest"] ["self"] (aw (aP 55 8)):=by walk_at "c"
theorem oE(T:Txt P w K mg a):bi P w K mg base (CXe P w) 1 a.gI a.gr ["self"] (oC (oS a.dX a.di a.ci a.dj) a.aL):=by
 have d_:=T.d_;obtain⟨d_,k_POINTING⟩:=d_
 exists T.gH.fn.okE,cu
 obtain⟨A,G,c,σ,rfl,S,so,ss,wl,qe,q⟩:=h
 exists (ae (zv KQ rfl (Di (bz (pv 0) rfl)) (dD rfl (aU (aJ (i:=1) cu.nd rfl (IP rfl)) (aU (aJ (i:=2) cu.nd rfl (IP rfl)) cQ))) (af (aG (ao bn (pv 2) (aF bp rfl T.bG Jg (aa (bz (pv 0) rfl) ac)) (nomark _)) (af (lV rfl oj T.ud rfl (aa (om (fq kI (fq (sr (pv 1)) (fq kI qG)))) ac))) aE)))
   (ae (Af (k:=3) rfl (eW (caps:=[]) (js:=[]) (cap:=trivial)) (bj (bz (pv 0) rfl)) (λ_ _ _ _=>dM) (λ_ _ _ _=>(aB (r:=kQ K) aZ (pv 0) ag (λ_ _=>rfl))) cu.nd rfl rfl)
   (ae (zv KQ rfl (EB (bz (pv 0) rfl)) (aJ (i:=4) cu.nd rfl (IP rfl)) (af (bf (b_ IR J1 J2 gB (pv 3) (aa (pv 4) ac)))))
   (af (bY KQ rfl (bj (pv 3)) (dD rfl (aU (aJ (i:=5) cu.nd rfl (IP rfl)) (aU (aJ (i:=6) cu.nd rfl (IP rfl)) cQ))) (af (aG (PW.pt (fT (ao gz (pv 5) (dm (v:=.ref a.fZ) rfl d_ rfl) (by with_unfolding_all rfl)) (dQ (ao (kR (eR hr)) (pv 6) (bz (pv 0) rfl) (by with_unfolding_all rfl))))) (af (lV rfl oj T.ud rfl (aa (om (fq kI (fq (sr (pv 6)) qG))) ac))) aE)))))))
 obtain⟨wvs,w2,w3⟩:=S.words;have lw:=w3.len;obtain⟨n1,n2,n3,n4,n5⟩:=S.nes;refine⟨_,rfl,_,_,_,_,_,rfl,S.ins,T.aD.cl,T.cI,jx,A.ma,mkV σ.ms,rfl,S.marks,λhz o=>?_⟩;have kf:upd H A.ma (.frz o (.dK (mkV σ.ms))) A.ma=some (.frz o (.dK (mkV σ.ms))):=ah;have ix:upd H A.ma (.frz o (.dK (mkV σ.ms))) A.x=some (.ins a.aL A.dx (fsS A (σ.fs:Int) σ.lp σ.bh)):=by rw[aq n2];exact S.ins
 have iw:upd H A.ma (.frz o (.dK (mkV σ.ms))) A.wa=some (.lst wvs):=by rw[aq n4];exact w2
 have sg:aj G (upd H A.ma (.frz o (.dK (mkV σ.ms)))):=aY S.old (S.fr _ wV);have th:∀H2,aj (upd H A.ma (.frz o (.dK (mkV σ.ms)))) H2->aj H (upd H2 A.ma (.dK (mkV σ.ms))):=λH2 s=>BX S.marks s;generalize upd H A.ma (.frz o (.dK (mkV σ.ms)))=Hf at kf ix iw sg th⊢;refine BT hz (λi σ' H2=>∃(v1 v2:Option V),σ'=[rF A.x,v1,v2,none,none,none,none]/\aj Hf H2/\∀m∈σ.ms.take i,m.2≠σ.ws.length) ?_ ?_ ?_ ?_
 .rintro i σ' H2 ⟨v1,v2,rfl,m,_⟩;exact m _ _ kf
 .exact⟨none,none,rfl,aj.refl _,by simp⟩
 .rintro i qv p σ' H2 hq ⟨v1,v2,rfl,m,no⟩ hp;have hq':=hq;unfold mkV at hq';rw[Jc]at hq';obtain⟨⟨mn,mk_⟩,hm,rfl⟩:=Option.map_eq_some_iff.mp hq';obtain⟨ml,e1,e2,e3⟩:=ss.ms _ (IK hm);dsimp only at e1;subst e1;have s1:=m.trans (ai hp (.tup [.str (tx ml),.int (mk_:Int)]));refine⟨p,_,rfl,SqT.of ah,rfl,_,_,rfl,_,_,rfl,rfl,?_⟩;refine⟨_,rfl,_,rfl,_,_,_,_,_,rfl,s1 _ _ ix,T.aD.cl,T.cJ,jw,_,_,rfl,.inl (SqL.of (s1 _ _ iw)),rfl,_,rfl,?_⟩;by_cases c1:mk_=σ.ws.length
  .refine iT (by rw[c1,lw]) ?_;refine⟨⟨trivial,⟨ml,rfl,by omega,e3⟩,trivial,trivial⟩,λz=>⟨le1,qe .nomark ?_ _ (sg.trans s1)⟩⟩;unfold fA;rw[if_pos];rw[List.any_eq_true];exact⟨_,IK hm,decide_eq_true c1⟩
  .refine iF (λz=>c1 (by injection z with z;omega)) ?_;refine⟨_,_,rfl,s1,?_⟩;rw[aT hm];intro x hx;rcases List.mem_append.mp hx with hx|hx
   .exact no x hx
   .rw[List.mem_singleton.mp hx];exact c1
 rintro σ' H2 ⟨v1,v2,rfl,m,no⟩;rw[u6,IZ]at no;have s0:=th H2 m;have S1:=S.same s0;generalize upd H2 A.ma (.dK (mkV σ.ms))=H3 at s0 S1⊢;obtain⟨wvs',w2',w3'⟩:=S1.words;have lw':=w3'.len;refine⟨_,rfl,_,_,_,_,_,rfl,S1.ins,T.aD.cl,T.cJ,jw,A.wa,rfl,⟨_,SqL.of w2'⟩,dS (K:=K) (a:=A.wa) (xs:=wvs') (λi ys G'=>H3=G'/\ys.length=i/\cm H3 ys ((σ.ws.take i).map (·.w))) ⟨rfl,rfl,trivial⟩ (λi ys G' _ z=>by rw[<-z.1];exact SqL.of w2') ?_ ?_ ?_⟩
 .rintro i ys G' hi ⟨_,z,_⟩;exact ay (by omega)
 .rintro i y ys G' hy ⟨rfl,zl,al⟩;obtain⟨tw,hw,ta,wa',fa',rfl,h1,h2,h3⟩:=w3'.getL hy;refine fE ?_;refine⟨_,rfl,_,_,_,_,rfl,rfl,SqT.of (bJ _ _ h1),rfl,rfl,?_,?_⟩
  .rw[IB,zl];rfl
  .rw[aT hw,IJ];exact al.snoc (h2.mono bJ)
 rintro ys G' ⟨rfl,zl,al⟩ pw hpw;rw[lw',IZ]at al
 exists hpw,H4,s4,k4
 have S4:=S1.same s4;have al4:=cm.mono s4 al;have fr:=S1.fresh hpw;have gpw:G pw=none:=S1.old.free hpw;obtain⟨kvs,f1,f2⟩:=S4.cl.feet;have fl:=f2.len;have hfa:H4 A.fa=some (.dK kvs):=S4.old _ _ f1;have npf:pw≠A.fa:=λz=>by rw[z,f1]at gpw;cases gpw
 have nos:∀b∈A.os,b≠A.fa:=λb hb z=>by have:=S4.fr b hb;rw[z,f1]at this;cases this
 refine⟨_,rfl,_,_,_,_,_,rfl,S4.ins,T.aD.cl,T.gx,u5,A.fa,kvs,rfl,hfa,λhz2 o2=>?_⟩;have F1:∀b,b≠A.fa->upd H4 A.fa (.frz o2 (.dK kvs)) b=H4 b:=λb hb=>aq hb;have F2:upd H4 A.fa (.frz o2 (.dK kvs)) A.fa=some (.frz o2 (.dK kvs)):=ah;generalize upd H4 A.fa (.frz o2 (.dK kvs))=F at F1 F2⊢;refine Dj hz2 (λi σ' H2=>∃(us:List V)(v4:Option V),σ'=[rF A.x,v1,v2,rF pw,v4,none,none]/\H2=upd F pw (.lst us)/\cm H4 us (σ.ws.map (·.w)++(c.feet.take i).flatMap (·.2))/\us.length<=400+39*i) ?_ ?_ ?_ ?_
 .rintro i σ' H2 ⟨us,v4,rfl,rfl,_⟩;rw[aq (JH npf)];exact F2
 .refine⟨ys,none,rfl,(Dn (by rw[F1 _ npf];exact k4)).symm,?_,by omega⟩;rw[M6,List.flatMap_nil,IY];exact al4
 .rintro i ⟨fk,fv⟩ σ' H2 hq ⟨us,v4,rfl,rfl,al5,ul⟩;obtain⟨⟨fn,fw⟩,hf,e1,l,e2,l1,l2,l3⟩:=f2.get hq;dsimp only at e2;subst e2;have hi:=(List.getElem?_eq_some_iff.mp hq).1;have ff:=(so.fw _ (IK hf)).1;dsimp only at ff;have ll:=l3.len;dsimp only at ll;have nl:l≠pw:=λz=>by rw[z,gpw]at l2;cases l2
  have nlf:l≠A.fa:=λz=>by rw[z,f1]at l2;cases l2
  have fle:=so.fl;refine⟨_,rfl,.inl ⟨rfl,_,SqL.of ah⟩,_,rfl,_,_,_,_,rfl,rfl,ah,(by rw[aq nl,F1 _ nlf];exact S4.old _ _ l2),Jj (IU (show us.length+l1.length<=10000 by omega) (by decide)),?_⟩;rw[BW];refine⟨us++l1,_,rfl,rfl,?_,by rw[IB];omega⟩;rw[aT hf,Ln,<-IT];refine al5.app ?_;rw[show List.flatMap (λx:Str×List Wk=>x.2) [(fn,fw)]=fw from by simp];exact cm.mono S4.old l3
 rintro σ' H2 ⟨us,v4,rfl,rfl,al5,ul⟩;rw[fl,IZ]at al5;have T5:∀{b xs},H4 b=some (.tup xs)->upd (upd F pw (.lst us)) A.fa (.dK kvs) b=some (.tup xs):=λ{b xs} h=>by
  have b1:b≠A.fa:=λz=>by rw[z,hfa]at h;cases h
  have b2:b≠pw:=λz=>by rw[z,k4]at h;cases h
  rw[aq b1,aq b2,F1 _ b1];exact h
 have s5:aj H3 (upd (upd F pw (.lst us)) A.fa (.dK kvs)):=λb u h=>by
  have b2:b≠pw:=λz=>by rw[z,hpw]at h;cases h
  by_cases b1:b=A.fa
  .rw[b1,ah];have:=s4 _ _ h;rw[b1,hfa]at this;exact this
  .rw[aq b1,aq b2,F1 _ b1];exact s4 _ _ h
 have k5:upd (upd F pw (.lst us)) A.fa (.dK kvs) pw=some (.lst us):=by rw[aq npf];exact ah
 generalize upd (upd F pw (.lst us)) A.fa (.dK kvs)=H5 at T5 s5 k5⊢;have S5:=S1.same s5;have al6:cm H5 us (σ.ws.map (·.w)++c.feet.flatMap (·.2)):=al5.imp λv w ⟨b,z1,z2⟩=>⟨b,z1,T5 z2⟩;have l6:=al6.len;have all:∀w∈σ.ws.map (·.w)++c.feet.flatMap (·.2),gE w.1=true->∃n:List Nat,n.length<=200/\(∀d∈n,d<127)/\w.2=.str (tx n):=λw hw hk=>by
  rcases List.mem_append.mp hw with hw|hw
  .obtain⟨t,ht,rfl⟩:=List.mem_map.mp hw;rcases(ss.ws t ht).1 with⟨z,_⟩|⟨z,_⟩|⟨_,h⟩
   .rw[z]at hk;cases hk
   .rw[z]at hk;cases hk
   .exact h
  .obtain⟨p,hp,hw⟩:=List.mem_flatMap.mp hw;rcases((so.fw p hp).2 w hw).1 with⟨_,h⟩|⟨z,_⟩
   .exact h
   .rw[z]at hk;cases hk
 have noA:(σ.ms.any λm=>m.2=σ.ws.length)=false:=by
  rw[KN];intro m hm;simpa using no m hm
 refine⟨_,rfl,pw,rfl,⟨_,SqL.of k5⟩,bZ (K:=K) (a:=pw) (xs:=us) (λi σ' H2=>∃(v5 v6:Option V),σ'=[rF A.x,v1,v2,rF pw,v4,v5,v6]/\H2=H5/\∀w∈(σ.ws.map (·.w)++c.feet.flatMap (·.2)).take i,jr σ w=false) ⟨none,none,rfl,rfl,by simp⟩ (λi σ' H2 _ g=>by obtain⟨_,_,_,rfl,_⟩:=g;exact SqL.of k5) ?_ ?_⟩
 .rintro i y σ' H2 hy ⟨v5,v6,rfl,rfl,nb⟩;obtain⟨⟨kd,vv⟩,hw,b,rfl,hb⟩:=al6.getL hy;have gw:=all _ (IK hw);dsimp only at gw;have step:jr σ (kd,vv)=false->∀w∈(σ.ws.map (·.w)++c.feet.flatMap (·.2)).take (i+1),jr σ w=false:=λz=>by
   rw[aT hw];intro w hw;rcases List.mem_append.mp hw with hw|hw
   .exact nb w hw
   .rw[List.mem_singleton.mp hw];exact z
  refine⟨b,_,rfl,SqT.of hb,rfl,_,_,rfl,_,_,rfl,rfl,?_⟩;refine⟨_,rfl,_,_,rfl,.inr (k_POINTING _),rfl,rfl,_,rfl,?_⟩;rw[Hu];by_cases hk:gE kd=true
  .rw[hk];left;obtain⟨n,nl,nc,hn⟩:=gw hk
   .subst hn;refine⟨_,rfl,_,rfl,_,_,_,_,_,rfl,S5.ins,T.aD.cl,T.cI,jx,_,_,rfl,fD.k (k:=.inr (tx n)) S5.marks,_,rfl,?_⟩;rw[j6];cases hv:lkS (tx n) σ.ms with
    |none =>
     left;refine⟨⟨trivial,⟨n,rfl,by omega,nc⟩,trivial⟩,λz=>⟨le1,qe .nomark ?_ _ S5.old⟩⟩;unfold fA;rw[if_neg (by rw[noA];decide),if_pos];rw[List.any_eq_true];refine⟨_,IK hw,?_⟩;show(gE kd&&(lkS (tx n) σ.ms).isNone)=true;rw[hk,hv];rfl
    |some k =>
     right;refine⟨_,_,rfl,rfl,step ?_⟩;show(gE kd&&(lkS (tx n) σ.ms).isNone)=false;rw[hv];exact M5 _
  .rw[J6]at hk;rw[hk];right;right;refine⟨_,_,rfl,rfl,step ?_⟩;show(gE kd&&_)=false;rw[hk];rfl
 rintro σ' H2 ⟨v5,v6,rfl,rfl,nb⟩;rw[l6,IZ]at nb;refine q ?_ _ (s0.trans s5) S5;unfold fA;rw[if_neg (by rw[noA];decide),if_neg];rw[J6,KN];intro w hw;rw[nb w hw];decide
inductive qT(cls:Xc->Addr)(C:Addr)(vs:List V)(H:Hp)(Q:VK)(E:XK):Prop
 |mk(A:Sad)(G:Hp)(c:Sc)(σ:Ss)(n:List Nat)(_:vs=[.ref A.x,.str (tx n)])(_:StA C G H A c σ)(_:n.length<=200)(_:∀d∈n,d<127)(_:σ.ms.length<=1000000)(_:∀e,eC σ (tx n)=.error e->∀H',aj G H'->E (.ref (cls e)) none H')(_:∀σ' H',eC σ (tx n)=.ok σ'->StA C G H' A c σ'->Q .non H')
theorem qU:aN ["self","name"] ["self","name"] (aw (aP 55 5)):=by walk_at "c"
theorem qV(T:Txt P w K mg a):bi P w K mg base (CXe P w) 1 a.ji a.iR ["self","name"] (qT (oS a.dX a.di a.ci a.dj) a.aL):=by
 exists T.jd.fn.okE,qU
 obtain⟨A,G,c,σ,n,rfl,S,nl,nc,ml,qe,q⟩:=h
 exists (ae (aG (ao (uu (eR hr)) (pv 1) (bz (pv 0) rfl) (by with_unfolding_all rfl)) (af (lV rfl oj T.zW rfl (aa (om (fq kI (fq (sr (pv 1)) (fq kI qG)))) ac))) aE)
   (af (uR (eR hr) (bz (pv 0) rfl) (pv 1) (aF bp rfl T.bG Jg (aa (bz (pv 0) rfl) ac)) rfl)))
 obtain⟨wvs,w2,w3⟩:=S.words;have lw:=w3.len;refine⟨_,rfl,_,rfl,_,_,_,_,_,rfl,S.ins,T.aD.cl,T.cI,jx,_,_,rfl,fD.k (k:=.inr (tx n)) S.marks,_,rfl,?_⟩;rw[j6];cases hv:lkS (tx n) σ.ms with
 |some k =>
  left;exact⟨⟨trivial,⟨n,rfl,by omega,nc⟩,trivial,trivial⟩,λz=>⟨le1,qe .twice (by unfold eC;rw[hv];rfl) H S.old⟩⟩
 |none =>
  right;dsimp only[cY];refine⟨_,rfl,_,_,_,_,_,rfl,S.ins,T.aD.cl,T.cJ,jw,_,_,rfl,.inl (SqL.of w2),_,rfl,_,_,_,_,_,rfl,S.ins,T.aD.cl,T.cI,jx,_,rfl,_,_,rfl,tj.k (k:=.inr (tx n)) S.marks (by rw[u6];exact IU ml (by decide)),?_⟩;rw[tf _ (by rw[j6,hv];rfl),lw,<-Dl];exact q _ _ (by unfold eC;rw[hv];rfl) (S.mark (tx n) σ.ws.length)
inductive qg(cls:Xc->Addr)(C:Addr)(vs:List V)(H:Hp)(Q:VK)(E:XK):Prop
 |mk(A:Sad)(G:Hp)(c:Sc)(σ:Ss)(n:List Nat)(_:vs=[.ref A.x,.str (tx n)])(_:StA C G H A c σ)(_:kS c)(_:n.length<=200)(_:∀d∈n,d<127)(_:σ.fs<=1000)(_:∀e,gk c σ (tx n)=.error e->∀H',aj G H'->E (.ref (cls e)) none H')(_:∀σ' f H' p,gk c σ (tx n)=.ok (σ',f)->StA C G H' A c σ'->H p=none->c6 H' p f->Q (.ref p) H')
theorem qh:aN ["self","name"] ["self","name"] (aw (aP 55 7)):=by walk_at "c"
theorem qi(T:Txt P w K mg a):bi P w K mg base (CXe P w) 2 a.iK a.ib ["self","name"] (qg (oS a.dX a.di a.ci a.dj) a.aL):=by
 exists T.iD.fn.okE,qh
 obtain⟨A,G,c,σ,n,rfl,S,so,nl,nc,ml,qe,q⟩:=h
 exists (ae (aG (ao (kR (eR hr)) (pv 1) (bz (pv 0) rfl) (by with_unfolding_all rfl)) (af (lV rfl oj T.yM rfl (aa (om (fq kI (fq (sr (pv 1)) qG))) ac))) aE)
   (ae (dr (pv 0) (aH bS (bz (pv 0) rfl) ag) rfl)
   (af (aM (aH fU (aQ (aa (a_ (aa am (aa (aH de (aH de am (aC T.jR (qd T) (hM hr) rfl (aa (bz (pv 0) rfl) ac))) am) ac))) ac)) (jY (eR hr) (bz (pv 0) rfl) (pv 1) (λ_ _=>rfl)))))))
 obtain⟨kvs,f2,f3⟩:=S.cl.feet;refine⟨_,rfl,_,rfl,_,_,_,_,_,rfl,S.ins,T.aD.cl,T.gx,u5,_,_,rfl,fD.k (k:=.inr (tx n)) (S.old _ _ f2),_,rfl,?_⟩;obtain⟨v1,v2⟩:=FtA.val (n:=tx n) f3;cases hv:lkS (tx n) c.feet with
 |none =>
  rw[v1 hv];left;exact⟨⟨trivial,⟨n,rfl,by omega,nc⟩,trivial⟩,λz=>⟨le1,qe .nofoot (by unfold gk;rw[hv]) H S.old⟩⟩
 |some f =>
  obtain⟨l,e,hl⟩:=v2 f hv;rw[e];right;dsimp only[cY];refine⟨_,rfl,_,_,_,_,_,rfl,S.ins,T.aD.cl,T.eO,sT,_,_,rfl,rfl,_,rfl,_,_,_,_,rfl,S.ins,T.aD.cl,T.eO,ou,?_⟩;rw[wu];have S1:StA a.aL G (upd H A.x (.ins a.aL A.dx (fsS A ((σ.fs:Int)+1) σ.lp σ.bh))) A c { σ with fs:=σ.fs+1 }:=S.flds (σ.fs+1) σ.lp σ.bh;have hfr:∀p,upd H A.x (.ins a.aL A.dx (fsS A ((σ.fs:Int)+1) σ.lp σ.bh)) p=none->H p=none:=λp hp=>by
   by_cases z:p=A.x
   .rw[z,ah]at hp;cases hp
   .rw[aq z]at hp;exact hp
  generalize upd H A.x (.ins a.aL A.dx (fsS A ((σ.fs:Int)+1) σ.lp σ.bh))=H1 at S1 hfr⊢;have cL:(Iy "(")=tx [40]:=by decide +kernel
  have cR:(Iy ")")=tx [41]:=by decide +kernel
  have fl:(dH (σ.fs+1)).length<=5:=lW 4 _ (by omega);refine⟨_,rfl,_,_,_,_,_,rfl,S1.ins,T.aD.cl,T.eO,sT,σ.fs+1,rfl,IU (show σ.fs+1<=1001 by omega) (by decide +kernel),_,_,rfl,rfl,(by rw[cL,aV,aV];exact Jj (ay (by simp only[ID,Ja];omega))),_,_,rfl,rfl,(by rw[cL,cR,eZ,aV,aV];exact Jj (ay (by simp only[IB,ID,Ja];omega))),le2,λp1 hp1=>?_⟩;have s1:=ai hp1 (.tup [.str "plain",.str (ip (σ.fs+1))]);have k1:upd H1 p1 (.tup [.str "plain",.str (ip (σ.fs+1))]) p1=some (.tup [.str "plain",.str (ip (σ.fs+1))]):=ah;have S2:=S1.same s1;refine⟨le1,λp2 hp2=>?_⟩;change upd H1 p1 (.tup [.str "plain",.str (ip (σ.fs+1))]) p2=none at hp2;have s2:=ai hp2 (.lst [.ref p1]);have k2:upd (upd H1 p1 (.tup [.str "plain",.str (ip (σ.fs+1))])) p2 (.lst [.ref p1]) p2=some (.lst [.ref p1]):=ah;have k1':=s2 _ _ k1;have S3:=S2.same s2;have hfr3:=λ(p:Addr) hp=>hfr p ((s1.trans s2).free hp);obtain⟨fv,g1,g2⟩:=hl.mono S3.old;have lf:=g2.len;have ff:=(so.fw (tx n,f) (lO hv)).1;have hg:fD (upd (upd H1 p1 (.tup [.str "plain",.str (ip (σ.fs+1))])) p2 (.lst [.ref p1])) A.fa (kV (.inr (tx n))) (some (.ref l)):=by rw[<-e];exact fD.k (S3.old _ _ f2)
  refine⟨_,rfl,_,_,_,_,_,rfl,S3.ins,T.aD.cl,T.gx,u5,_,rfl,_,_,rfl,hg,_,_,_,_,rfl,rfl,k2,g1,(by show 1+fv.length<=_;rw[lf];exact Jj (ay (by dsimp only at ff;omega))),λp3 hp3=>?_⟩;have s3:=ai hp3 (.lst ([.ref p1]++fv));exact q { σ with fs:=σ.fs+1 } ((.plain,.str (ip (σ.fs+1)))::f) _ p3 (by unfold gk;rw[hv]) (S3.same s3) (hfr3 p3 hp3) ⟨_,ah,show cm _ (.ref p1::fv) ((.plain,.str (ip (σ.fs+1)))::f)from⟨⟨p1,rfl,s3 _ _ k1'⟩,cm.mono s3 g2⟩⟩
inductive qW(cls:Xc->Addr)(C:Addr)(vs:List V)(H:Hp)(Q:VK)(E:XK):Prop
 |mk(A:Sad)(G:Hp)(c:Sc)(σ:Ss)(lead:Int)(w:Addr)(wk:Wk)(_:vs=[.ref A.x,.int lead,.ref w])(_:StA C G H A c σ)(_:kS c)(_:WkA H (.ref w) wk)(_:GWk wk)(_:σ.ws.length<=400)(_:σ.fs<=σ.ws.length)(_:∀e,cr c σ lead wk=.error e->∀H',aj G H'->E (.ref (cls e)) none H')(_:∀σ' H',cr c σ lead wk=.ok σ'->StA C G H' A c σ'->Q .non H')
theorem eG:aN ["self","lead","word","foot"] ["self","lead","word"] (aw (aP 55 6)):=by walk_at "c"
theorem qX(T:Txt P w K mg a):bi P w K mg base (CXe P w) 3 a.jj a.iS ["self","lead","word"] (qW (oS a.dX a.di a.ci a.dj) a.aL):=by
 have bL:=T.bL;obtain⟨t_MOST_WORDS_books,bL⟩:=bL
 exists T.je.fn.okE,eG
 obtain⟨A,G,c,σ,lead,w,wk,rfl,S,so,hw,gw,wl,fl,qe,q⟩:=h
 exists (ae (av (i:=3) eG.nd rfl (IP rfl) (aQ ac))
   (ae (aG (ao bn (aB aZ (pv 2) ag (λ_ _=>rfl)) am (nomark _)) (ae (av (i:=3) eG.nd rfl (IP rfl) (dO gi T.aD T.iD (qi T) (hM hr) (pv 0) (aa (aB aZ (pv 2) ag (λ_ _=>rfl)) ac)))
   (af (av (i:=2) eG.nd rfl (IP rfl) (aB bC (pv 3) ag (λ_ _=>rfl))))) aE)
   (ae (aG (ao bn (aF bp rfl T.bG Jg (aa (bz (pv 0) rfl) ac)) (dm (v:=.int 400) rfl bL ⟨_,rfl⟩) (nomark _)) (af (lV rfl oj T.r_ rfl (aa (om (fq kI (fq (FP (dm (v:=.int 400) rfl bL ⟨_,rfl⟩)) (fq kI qG)))) ac))) aE)
   (ae (aG (ao iV (bz (pv 0) rfl) ag (nomark _)) (ae (av (i:=1) eG.nd rfl (IP rfl) (bz (pv 0) rfl))
   (af (dr (pv 0) ag rfl))) aE)
   (af (bf (b_ IR Je Jf bT (bz (pv 0) rfl) (aa (a_ (aa (pv 1) (aa (jE (bz (pv 0) rfl) (jl (dL zY (pv 1) ag (nomark _)))) (aa (pv 2) (aa (pv 3) ac))))) ac))))))))
 refine⟨aW (by simp),λp1 hp1=>?_⟩;have n1:p1≠A.wa:=λz=>by obtain⟨_,w2,_⟩:=S.words;rw[z,w2]at hp1;cases hp1
 have n2:p1≠A.ha:=λz=>by obtain⟨_,w2,_⟩:=S.heads;rw[z,w2]at hp1;cases hp1
 exists hp1,H1,s1,k1
 have S1:=S.same s1;have hw1:=hw.mono s1;dsimp only[bA];refine cy (λσ' H'=>∃(w' p:Addr)(wk':Wk)(f:List Wk)(σ1:Ss),σ'=[rF A.x,some (.int lead),rF w',rF p]/\StA a.aL G H' A c σ1/\WkA H' (.ref w') wk'/\c6 H' p f/\p≠A.wa/\p≠A.ha/\cr c σ lead wk=ge σ1 lead wk' f/\σ1.ws=σ.ws) ?_ (λkey=>?_)
 .rintro σ' H2 ⟨w',p,wk',f,σ1,rfl,S2,hw2,hp2,m1,m2,e,ew⟩;obtain⟨wvs,w2,w3⟩:=S2.words;have lw:=w3.len;rw[ew]at lw;refine⟨_,rfl,_,_,_,_,_,rfl,S2.ins,T.aD.cl,T.cJ,jw,_,_,rfl,.inl (SqL.of w2),rfl,_,rfl,?_⟩;refine eB (λc1=>?_) (λc1=>?_)
  .have c2:wvs.length=400:=by have:=of_decide_eq_true c1;injection this with this;omega
   exact⟨⟨trivial,trivial,trivial,trivial⟩,λz=>⟨le1,qe .toolong (by rw[e];unfold ge;rw[ew,if_pos (by omega)]) H2 S2.old⟩⟩
  have c2:¬ (wvs.length=400):=λz=>c1 (decide_eq_true (by rw[z];rfl));dsimp only[cY];refine cy (λσ' H'=>σ'=[rF A.x,some (.int (if 0<σ1.lp then σ1.lp else lead)),rF w',rF p]/\StA a.aL G H' A c { σ1 with lp:=if 0<σ1.lp then 0 else σ1.lp }/\WkA H' (.ref w') wk'/\c6 H' p f/\H' A.wa=some (.lst wvs)) ?_ (λkey=>?_)
  .rintro σ' H3 ⟨rfl,S3,hw3,hp3,w23⟩;generalize hld:(if 0<σ1.lp then σ1.lp else lead)=ld;have go:∀(b:Bool),b=(σ1.bh&&decide (ld<=2))->∀p2,H3 p2=none->StA a.aL G (upd (upd H3 p2 (.tup [.int ld,.bl b,.ref w',.ref p])) A.wa (.lst (wvs++[.ref p2]))) A c { σ1 with lp:=if 0<σ1.lp then 0 else σ1.lp,ws:=σ1.ws++[⟨ld,σ1.bh&&decide (ld<=2),wk',f⟩] }:=λb hb p2 hp2=>by
    have s3:=ai hp2 (.tup [.int ld,.bl b,.ref w',.ref p]);exact(S3.same s3).word (t:=⟨ld,σ1.bh&&decide (ld<=2),wk',f⟩) (s3 _ _ w23) rfl (by rw[<-hb];exact ah) (hw3.mono s3) (hp3.mono s3) m1 m2
   have fin:cr c σ lead wk=.ok { σ1 with lp:=if 0<σ1.lp then 0 else σ1.lp,ws:=σ1.ws++[⟨ld,σ1.bh&&decide (ld<=2),wk',f⟩] }:=by
    rw[e];unfold ge;rw[if_neg (by rw[ew];omega),hld]
   refine⟨_,rfl,_,_,_,_,_,rfl,S3.ins,T.aD.cl,T.cJ,jw,.inl ⟨rfl,_,SqL.of w23⟩,_,rfl,_,rfl,_,_,_,_,_,rfl,S3.ins,T.aD.cl,T.dB,ot,_,rfl,?_⟩;have wf:wvs.length<I0:=ay (by omega);cases hb:σ1.bh with
   |true =>
    left;refine⟨_,rfl,_,_,rfl,rfl,_,rfl,_,rfl,le4,λp2 hp2=>?_⟩;have s3:=ai hp2 (.tup [.int ld,.bl (decide (ld<=2)),.ref w',.ref p]);refine⟨_,_,_,rfl,rfl,s3 _ _ w23,wf,?_⟩;exact q _ _ fin (go _ (by rw[hb];rfl) p2 hp2)
   |false =>
    right;refine⟨_,rfl,_,rfl,le4,λp2 hp2=>?_⟩;have s3:=ai hp2 (.tup [.int ld,.bl false,.ref w',.ref p]);refine⟨_,_,_,rfl,rfl,s3 _ _ w23,wf,?_⟩;exact q _ _ fin (go _ (by rw[hb];rfl) p2 hp2)
  .refine⟨_,rfl,_,_,_,_,_,rfl,S2.ins,T.aD.cl,T.cW,sx,_,_,rfl,rfl,_,rfl,?_⟩;by_cases hl:0<σ1.lp
   .refine iT hl ?_;refine⟨_,rfl,_,_,_,_,_,rfl,S2.ins,T.aD.cl,T.cW,sx,?_⟩;refine⟨_,rfl,_,_,_,_,rfl,S2.ins,T.aD.cl,T.cW,ou,?_⟩;rw[qL];have S3:=S2.flds σ1.fs 0 σ1.bh;obtain⟨e1,e2,e3,e4,e5⟩:=S2.nes;have tup:∀{b us},H2 b=some (.tup us)->upd H2 A.x (.ins a.aL A.dx (fsS A (σ1.fs:Int) 0 σ1.bh)) b=some (.tup us):=λ{b us} h=>by rw[aq (λz=>S2.nt b (by rw[z];exact Dm) us h)];exact h
    have lsx:∀{b us},H2 b=some (.lst us)->upd H2 A.x (.ins a.aL A.dx (fsS A (σ1.fs:Int) 0 σ1.bh)) b=some (.lst us):=λ{b us} h=>by rw[aq (λz=>by rw[z,S2.ins]at h;cases h)];exact h
    refine key _ _ ⟨by rw[if_pos hl];rfl,by rw[if_pos hl];exact S3,?_,?_,lsx w2⟩
    .obtain⟨b,z1,z2⟩:=hw2;exact⟨b,z1,tup z2⟩
    .obtain⟨us,z1,z2⟩:=hp2;exact⟨us,lsx z1,z2.imp λv w ⟨b,y1,y2⟩=>⟨b,y1,tup y2⟩⟩
   .refine iF hl ?_;refine key _ _ ⟨by rw[if_neg hl],by rw[if_neg hl];exact S2,hw2,hp2,w2⟩
 .obtain⟨wb,e1,hb⟩:=hw1;injection e1 with e1;subst e1;refine⟨_,rfl,_,_,_,_,rfl,rfl,SqT.of hb,rfl,rfl,_,rfl,?_⟩;by_cases hk:wk.1=.foot
  .refine iT (by rw[hk];rfl) ?_;obtain⟨_,n,nl,nc,hn⟩|⟨z,_⟩:=gw
   .rw[hn]at hb;refine⟨_,rfl,_,_,_,rfl,S1.ins,jy (by decide +kernel),_,rfl,_,_,_,_,rfl,rfl,SqT.of hb,rfl,?_⟩;have hr_:rest wk.2=tx n:=by rw[hn];rfl
    have ew:cr c σ lead wk=(match gk c σ (tx n)with|.error x=>.error x|.ok (s',f)=>ge s' lead (f.headD wk) f):=by
     unfold cr;rw[if_pos hk,hr_]
     first|done|(cases gk c σ (tx n)<;>rfl)
    refine⟨A,G,c,σ,n,rfl,S1,so,nl,nc,by omega,λe he H' s'=>qe e (by rw[ew,he]) H' s',λσ' f H2 p he S2 hp hf=>?_⟩;rw[he]at ew;dsimp only[bA];have hws:σ'.ws=σ.ws/\∃x r,f=x::r:=by
     unfold gk at he;cases hv:lkS (tx n) c.feet with
     |none=>rw[hv]at he;cases he
     |some g=>rw[hv]at he;cases he;exact⟨rfl,_,_,rfl⟩
    obtain⟨hws,x,r,rfl⟩:=hws;obtain⟨us,u1,u2⟩:=hf
    match us,u2 with
    |u::us,⟨⟨b,z1,z2⟩,u3⟩ =>
    subst z1;refine⟨_,rfl,_,_,_,_,rfl,rfl,SqL.of u1,fP _ _,?_⟩;refine key _ _ ⟨b,p,x,x::r,σ',rfl,S2,⟨b,rfl,z2⟩,⟨_,u1,⟨b,rfl,z2⟩,u3⟩,?_,?_,ew,hws⟩
    .exact λz=>by obtain⟨_,w2,_⟩:=S1.words;rw[z,w2]at hp;cases hp
    .exact λz=>by obtain⟨_,w2,_⟩:=S1.heads;rw[z,w2]at hp;cases hp
   .rw[hk]at z;cases z
  .have nk:¬ (V.str wk.1.s=V.str "foot"):=λz=>hk (Kw.inj (b:=.foot) (V.str.inj z));rw[decide_eq_false nk];right;refine key _ _ ⟨w,p1,wk,[],σ,rfl,S1,⟨w,rfl,hb⟩,⟨[],k1,trivial⟩,n1,n2,?_,rfl⟩;unfold cr;rw[if_neg hk]
inductive sJ(cls:Xc->Addr)(C:Addr)(vs:List V)(H:Hp)(Q:VK)(E:XK):Prop
 |mk(A:Sad)(G:Hp)(c:Sc)(σ:Ss)(lead:Int)(la:Addr)(byh:Bool)(ws:List Wk)(_:vs=[.ref A.x,.int lead,.ref la,.bl byh])(_:StA C G H A c σ)(_:kS c)(_:c6 G la ws)(_:∀w∈ws,GWk w)(_:ws.length<=600)(_:Bd σ ws.length)(_:∀e,ca c σ lead byh ws=.error e->∀H',aj G H'->E (.ref (cls e)) none H')(_:∀σ' H',ca c σ lead byh ws=.ok σ'->StA C G H' A c σ'->Q .non H')
theorem i8:aN ["self","lead","words","by_head","word"] ["self","lead","words","by_head"] (aw (aP 55 4)):=by walk_at "c"
theorem gf(T:Txt P w K mg a):bi P w K mg base (CXe P w) 4 a.jz a.jk ["self","lead","words","by_head"] (sJ (oS a.dX a.di a.ci a.dj) a.aL):=by
 exists T.dY.fn.okE,i8
 obtain⟨A,G,c,σ,lead,la,byh,ws,rfl,S,so,hl,gw,wl,bd,qe,q⟩:=h
 exists (af (bY KQ rfl (bj (pv 2)) (aJ (i:=4) i8.nd rfl (IP rfl)) (af (aG (ao bn (aB aZ (pv 4) ag (λ_ _=>rfl)) am (nomark _)) (af (bf (dO gi T.aD T.jd (qV T) (hM hr) (pv 0) (aa (aB aZ (pv 4) ag (λ_ _=>rfl)) ac)))) (ae (bf (dO gi T.aD T.je (qX T) (hM hr) (pv 0) (aa (pv 1) (aa (pv 4) ac))))
   (ae (dr (pv 0) (pv 3) rfl)
   (af (av (i:=1) i8.nd rfl (IP rfl) ag))))))))
 obtain⟨us,l1,l2⟩:=hl;have lu:=l2.len;refine⟨_,rfl,la,rfl,⟨_,SqL.of (S.old _ _ l1)⟩,bZ (K:=K) (a:=la) (xs:=us) (λi σ' H2=>∃(vw:Option V)(ld:Int)(σ1:Ss),σ'=[rF A.x,some (.int ld),rF la,some (.bl byh),vw]/\StA a.aL G H2 A c σ1/\ca c σ lead byh ws=ca c σ1 ld byh (ws.drop i)/\Bd σ1 (ws.length-i)) ⟨none,lead,σ,rfl,S,rfl,bd⟩ (λi σ' H2 _ g=>by obtain⟨_,_,_,_,S1,_⟩:=g;exact SqL.of (S1.old _ _ l1)) ?_ ?_⟩
 .rintro i y σ' H2 hy ⟨vw,ld,σ1,rfl,S1,er,b1⟩;obtain⟨w,hw,wb,rfl,hb⟩:=l2.getL hy;have hi:=(List.getElem?_eq_some_iff.mp hw).1;have gww:=gw w (IK hw);have ed:ws.drop i=w::ws.drop (i+1):=by
   obtain⟨hi,e⟩:=List.getElem?_eq_some_iff.mp hw;rw[Js hi,e]
  have hb2:=S1.old _ _ hb;rw[ed]at er;refine⟨_,rfl,_,_,_,_,rfl,rfl,SqT.of hb2,rfl,rfl,_,rfl,?_⟩;by_cases hk:w.1=.mark
  .refine iT (by rw[hk];rfl) ?_;have er2:ca c σ1 ld byh (w::ws.drop (i+1))=(match eC σ1 (rest w.2)with|.error x=>.error x|.ok s'=>ca c s' ld byh (ws.drop (i+1))):=by
    show(if w.1=.mark then _ else _)=_;rw[if_pos hk]
    first|done|(cases eC σ1 (rest w.2)<;>rfl)
   obtain⟨_,n,nl,nc,hn⟩|⟨z,_⟩:=gww
   .rw[hn]at hb2;have hr_:rest w.2=tx n:=by rw[hn];rfl
    rw[hr_]at er2;refine⟨_,rfl,_,_,_,rfl,S1.ins,jy (by decide +kernel),_,rfl,_,_,_,_,rfl,rfl,SqT.of hb2,rfl,?_⟩;refine⟨A,G,c,σ1,n,rfl,S1,nl,nc,(by have:=b1.ms;omega),λe he H' s'=>?_,λσ2 H3 he S2=>?_⟩
    .refine qe e ?_ H' s';rw[er,er2,he]
    .rw[he]at er2;have hs2:σ2.ws=σ1.ws/\σ2.fs=σ1.fs/\σ2.ms.length=σ1.ms.length+1:=by
      unfold eC at he;by_cases z:(lkS (tx n) σ1.ms).isSome=true
      .rw[if_pos z]at he;cases he
      .rw[if_neg z]at he;cases he;exact⟨rfl,rfl,by simp⟩
     exact⟨_,ld,σ2,rfl,S2,er.trans er2,⟨by rw[hs2.1];exact b1.ws,by rw[hs2.1,hs2.2.1];exact b1.fs,by rw[hs2.2.2];have:=b1.ms;omega⟩⟩
   .rw[hk]at z;cases z
  .have nk:¬ (V.str w.1.s=V.str "mark"):=λz=>hk (Kw.inj (b:=.mark) (V.str.inj z));rw[decide_eq_false nk];right;have er2:ca c σ1 ld byh (w::ws.drop (i+1))=(match cr c σ1 ld w with|.error x=>.error x|.ok s'=>ca c { s' with bh:=byh } 0 byh (ws.drop (i+1))):=by
    show(if w.1=.mark then _ else _)=_;rw[if_neg hk]
    first|done|(cases cr c σ1 ld w<;>rfl)
   refine⟨_,rfl,_,_,_,rfl,S1.ins,jy (by decide +kernel),_,rfl,_,rfl,?_⟩;refine⟨A,G,c,σ1,ld,wb,w,rfl,S1,so,⟨wb,rfl,hb2⟩,gww,b1.ws,b1.fs,λe he H' s'=>qe e (by rw[er,er2,he]) H' s',λσ2 H3 he S2=>?_⟩;rw[he]at er2;have b2:=vN he;refine⟨_,rfl,_,rfl,_,_,_,_,rfl,S2.ins,T.aD.cl,T.dB,ou,?_⟩;rw[tG];exact⟨_,0,_,rfl,S2.flds σ2.fs σ2.lp byh,er.trans er2,⟨by show σ2.ws.length<=400;have:=b1.ws;omega,by show σ2.fs<=σ2.ws.length;have:=b1.fs;omega,by show σ2.ms.length+_<=_;rw[b2.2.2.2];have:=b1.ms;omega⟩⟩
 rintro σ' H2 ⟨vw,ld,σ1,rfl,S1,er,b1⟩;rw[lu,Kk]at er;exact q _ _ er S1
inductive qY(cls:Xc->Addr)(C:Addr)(vs:List V)(H:Hp)(Q:VK)(E:XK):Prop
 |mk(A:Sad)(G:Hp)(c:Sc)(σ:Ss)(k:Nat)(_:vs=[.ref A.x,.int (k:Int)])(_:StA C G H A c σ)(_:kS c)(_:k<c.nums.length)(_:σ.hs.length<=1000)(_:Bd σ 200)(_:∀e,qH c σ k=.error e->∀H',aj G H'->E (.ref (cls e)) none H')(_:∀σ' H',qH c σ k=.ok σ'->StA C G H' A c σ'->Q .non H')
theorem kL:aN ["self","k","number"] ["self","k"] (aw (aP 55 2)):=by walk_at "c"
theorem qZ(T:Txt P w K mg a):bi P w K mg base (CXe P w) 5 a.jg a.iP ["self","k"] (qY (oS a.dX a.di a.ci a.dj) a.aL):=by
 exists T.jb.fn.okE,kL
 obtain⟨A,G,c,σ,k,rfl,S,so,hk,hl,bd,qe,q⟩:=h
 exists (ae (av (i:=2) kL.nd rfl (IP rfl) (aB bC (bz (pv 0) rfl) (pv 1) (λ_ _=>rfl)))
   (ae (bf (b_ IR Je Jf bT (bz (pv 0) rfl) (aa (a_ (aa (pv 2) (aa (aF bp rfl T.bG Jg (aa (bz (pv 0) rfl) ac)) ac))) ac)))
   (af (bf (dO gi T.aD T.dY (gf T) (hM hr) (pv 0) (aa ag (aa (aH fU (aQ (aa (a_ (aa am (aa (pv 2) ac))) ac)) (aB bC (bz (pv 0) rfl) (pv 1) (λ_ _=>rfl))) (aa cC ac))))))))
 obtain⟨nm,hnm⟩:∃nm,c.nums[k]?=some nm:=⟨c.nums[k],II hk⟩;obtain⟨tt,htt⟩:∃tt,c.titles[k]?=some tt:=⟨c.titles[k]'(by rw[so.tl];exact hk),II _⟩;have e1:c.nums.getD k JV=nm:=by rw[Jb,hnm];rfl
 have e2:c.titles.getD k []=tt:=by rw[Jb,htt];rfl
 obtain⟨nl,hnl,nll⟩:=so.nl nm (IK hnm);obtain⟨ttl,ttw⟩:=so.tw tt (IK htt);refine⟨_,rfl,_,_,_,_,_,rfl,S.ins,T.aD.cl,T.gg,uA,_,rfl,_,_,_,_,rfl,rfl,SqL.of (S.old _ _ S.cl.nums),bX (j:=k) (by rw[Jc,hnm];rfl),?_⟩;obtain⟨wvs,w2,w3⟩:=S.words;obtain⟨hvs,h2,h3⟩:=S.heads;have lw:=w3.len;have lh:=h3.len;refine⟨_,rfl,_,_,_,_,_,rfl,S.ins,T.aD.cl,T.dJ,lY,.inl ⟨rfl,_,SqL.of h2⟩,_,rfl,_,rfl,_,_,_,_,_,rfl,S.ins,T.aD.cl,T.cJ,jw,_,_,rfl,.inl (SqL.of w2),le2,λp1 hp1=>?_⟩;rw[lw]
 exists hp1,H1,s1,k1
 have S1:=S.same s1;have h2':=s1 _ _ h2;refine⟨_,_,_,rfl,rfl,h2',ay (by omega),?_⟩;have S2:=S1.headp h2' k1;generalize upd H1 A.ha (.lst (hvs++[.ref p1]))=H2 at S2⊢;refine⟨_,rfl,_,_,_,rfl,S2.ins,jy (by decide +kernel),_,rfl,le2,λp2 hp2=>?_⟩;have s3:=ai hp2 (.tup [.str "plain",.str nm]);have k3:upd H2 p2 (.tup [.str "plain",.str nm]) p2=some (.tup [.str "plain",.str nm]):=ah;have S3:=S2.same s3;change _ at k3;generalize upd H2 p2 (.tup [.str "plain",.str nm])=H3 at s3 k3 S3⊢;refine⟨le1,λp3 hp3=>?_⟩
 exists hp3,H4,s4,k4
 have k4':=s4 _ _ k3;have S4:=S3.same s4;obtain⟨tvs,t1,t2⟩:=S4.cl.titles;obtain⟨v,hv,l,rfl,tl⟩:=t2.getR htt;obtain⟨us,u1,u2⟩:=tl.mono S4.old;have lu:=u2.len;refine⟨_,rfl,_,_,_,_,_,rfl,S4.ins,T.aD.cl,T.gM,vM,_,rfl,_,_,_,_,rfl,rfl,SqL.of (S4.old _ _ t1),bX hv,_,_,_,_,rfl,rfl,k4,u1,(by show 1+us.length<=_;rw[lu];exact Jj (ay (by omega))),λp4 hp4=>?_⟩
 exists hp4,H5,s5,kZ
 have k5:H5 p4=some (.lst (.ref p2::us)):=kZ;have k5':=s5 _ _ k4';have u2':=cm.mono s5 u2;have S5:=S4.same s5;have fr:=S4.fresh hp4;have run:qH c σ k=ca c { σ with hs:=σ.hs++[(nm,σ.ws.length)] } 2 true ((.plain,.str nm)::tt):=by
  unfold qH;rw[e1,e2]
 refine⟨A,hid A.os H5,c,_,2,p4,true,(.plain,.str nm)::tt,rfl,S5.re,so,u7 S5.nt fr ⟨_,k5,⟨p2,rfl,k5'⟩,u2'⟩,?_,?_,⟨bd.ws,bd.fs,?_⟩,λe he H' s'=>qe e (by rw[run];exact he) H' (S5.out.trans s'),λσ' H' he S'=>q σ' H' (by rw[run];exact he) (S'.base S5.out S.cl)⟩
 .intro w hw;rcases List.mem_cons.mp hw with rfl|hw
  .exact .inl ⟨(show Kw.plain≠Kw.entry by decide),nl,by omega,so.nc nl (by rw[<-hnl];exact IK hnm),by rw[hnl]⟩
  .exact ttw w hw
 .simp only[ID];omega
 .simp only[ID];have:=bd.ms;show σ.ms.length+_<=_;omega
inductive q_(cls:Xc->Addr)(C:Addr)(vs:List V)(H:Hp)(Q:VK)(E:XK):Prop
 |mk(A:Sad)(G:Hp)(c:Sc)(σ:Ss)(_:vs=[.ref A.x])(_:StA C G H A c σ)(_:kS c)(_:Bd σ 200)(_:∀e,fV c σ 2 0 c.nums=.error e->∀H',aj G H'->E (.ref (cls e)) none H')(_:∀σ' H',fV c σ 2 0 c.nums=.ok σ'->StA C G H' A c σ'->Q .non H')
theorem du:aN ["self","lead","k","number","title"] ["self"] (aw (aP 55 3)):=by walk_at "c"
theorem rb(T:Txt P w K mg a):bi P w K mg base (CXe P w) 5 a.jh a.iQ ["self"] (q_ (oS a.dX a.di a.ci a.dj) a.aL):=by
 exists T.jc.fn.okE,du
 obtain⟨A,G,c,σ,rfl,S,so,bd,qe,q⟩:=h
 exists (ae (av (i:=1) du.nd rfl (IP rfl) ag)
   (af (bY KQ rfl (zp rfl T.gb (bz (pv 0) rfl)) (dD rfl (aU (aJ (i:=2) du.nd rfl (IP rfl)) (aU (aJ (i:=3) du.nd rfl (IP rfl)) cQ))) (ae (Af (k:=4) rfl (eW (caps:=[]) (js:=[]) (cap:=trivial)) (bj (aB bC (bz (pv 0) rfl) (pv 2) (λ_ _=>rfl))) (λ_ _ _ _=>(iX (ao dZ (aB (r:=kQ K) aZ (pv 0) ag (λ_ _=>rfl)) am (nomark _)))) (λ_ _ _ _=>(pv 0)) du.nd rfl rfl)
   (ae (bf (dO gi T.aD T.dY (gf T) (hM hr) (pv 0) (aa (pv 1) (aa (aH fU (aH fU (aQ (aa (a_ (aa am (aa (pv 3) ac))) ac)) (pv 4)) (aQ (aa (a_ (aa am (aa (pv 2) ac))) ac))) (aa cC ac)))))
   (af (av (i:=1) du.nd rfl (IP rfl) ag)))))))
 refine⟨_,rfl,_,_,_,_,_,rfl,S.ins,T.aD.cl,T.gg,uA,A.na,rfl,⟨_,SqL.of (S.old _ _ S.cl.nums)⟩,xL (K:=K) (a:=A.na) (xs:=c.nums.map V.str) (λi σ' H2=>∃(ld:Int)(v2 v3 v4:Option V)(σ1:Ss),σ'=[rF A.x,some (.int ld),v2,v3,v4]/\StA a.aL G H2 A c σ1/\fV c σ 2 0 c.nums=fV c σ1 ld i (c.nums.drop i)/\Bd σ1 200) ?_ ?_ ?_ ?_⟩
 .exact⟨2,none,none,none,σ,rfl,S,rfl,bd⟩
 .rintro i σ' H2 _ ⟨ld,v2,v3,v4,σ1,rfl,S1,_⟩;exact SqL.of (S1.old _ _ S1.cl.nums)
 .rintro k y σ' H1 p0 hy ⟨ld,v2,v3,v4,σ1,rfl,S1,er,bd1⟩ hp0;rw[Jc]at hy;obtain⟨nm,hnm,rfl⟩:=Option.map_eq_some_iff.mp hy;obtain⟨hk,ek⟩:=List.getElem?_eq_some_iff.mp hnm;have ed:c.nums.drop k=nm::c.nums.drop (k+1):=by rw[Js hk,ek]
  obtain⟨tt,htt⟩:∃tt,c.titles[k]?=some tt:=⟨c.titles[k]'(by rw[so.tl];exact hk),II _⟩;have e2:c.titles.getD k []=tt:=by rw[Jb,htt];rfl
  obtain⟨nl,hnl,nll⟩:=so.nl nm (IK hnm);obtain⟨ttl,ttw⟩:=so.tw tt (IK htt);rw[ed]at er
  exists hp0,H2,s0,k0
  have S2:=S1.same s0;refine⟨p0,_,rfl,SqT.of k0,rfl,_,_,rfl,_,_,rfl,rfl,?_⟩;obtain⟨tvs,t1,t2⟩:=S2.cl.titles;obtain⟨v,hv,l,rfl,tl⟩:=t2.getR htt;obtain⟨us,u1,u2⟩:=tl.mono S2.old;have lu:=u2.len;refine⟨_,rfl,_,_,_,_,_,rfl,S2.ins,T.aD.cl,T.gM,vM,_,rfl,_,_,_,_,rfl,rfl,SqL.of (S2.old _ _ t1),bX hv,l,rfl,⟨_,SqL.of u1⟩,dS (K:=K) (a:=l) (xs:=us) (λi ys G'=>H2=G'/\ys.length<=i/\cm H2 ys (iq (tt.take i))) ⟨rfl,IM _,trivial⟩ (λi ys G' _ z=>by rw[<-z.1];exact SqL.of u1) ?_ ?_ ?_⟩
  .rintro i ys G' hi ⟨_,z,_⟩;exact ay (by omega)
  .rintro i y ys G' hy ⟨rfl,zl,al⟩;obtain⟨w,hw,b,rfl,hb⟩:=u2.getL hy;have en:iq (tt.take (i+1))=iq (tt.take i)++iq [w]:=by
    rw[aT hw];unfold iq;rw[JK]
   refine⟨_,rfl,_,_,_,_,rfl,rfl,SqT.of hb,rfl,rfl,_,rfl,?_⟩;by_cases hm:w.1=.mark
   .refine nF (by rw[hm];rfl) ?_;refine⟨rfl,by omega,?_⟩;rw[en,show iq [w]=[]from by unfold iq;simp[hm],IY];exact al
   .refine nT (λz=>hm (Kw.inj (b:=.mark) (V.str.inj z))) ?_;refine⟨_,rfl,rfl,by rw[IB];simp only[ID,Ja];omega,?_⟩;rw[en,show iq [w]=[w]from by unfold iq;simp[hm]];exact al.snoc ⟨b,rfl,hb⟩
  rintro ys G' ⟨rfl,zl,al⟩ p1 hp1;rw[lu,IZ]at al;have ly:=al.len;have fk:(iq tt).length<=tt.length:=JU _ _
  exists hp1,H3,s1,k1
  have S3:=S2.same s1;have al1:=cm.mono s1 al;refine⟨_,rfl,_,_,_,rfl,S3.ins,jy (by decide +kernel),_,rfl,_,rfl,le2,λp2 hp2=>?_⟩
  exists hp2,H4,s2,k2
  have S4:=S3.same s2;have k1':=s2 _ _ k1;have al2:=cm.mono s2 al1;refine⟨le1,λp3 hp3=>?_⟩
  exists hp3,H5,s3,k3
  have k2':=s3 _ _ k2;have k1':=s3 _ _ k1';have S5:=S4.same s3;have al3:=cm.mono s3 al2;refine⟨_,rfl,_,_,_,_,rfl,rfl,k3,k1',(by show 1+ys.length<=_;exact Jj (ay (by omega))),λp4 hp4=>?_⟩
  exists hp4,H6,s4,k4
  have k2':=s4 _ _ k2';have S6:=S5.same s4;have al4:=cm.mono s4 al3;refine⟨_,rfl,le2,λp5 hp5=>?_⟩
  exists hp5,H7,s5,k5
  have k2':=s5 _ _ k2';have k4':=s5 _ _ k4;have S7:=S6.same s5;have al5:=cm.mono s5 al4;refine⟨le1,λp6 hp6=>?_⟩
  exists hp6,H8,s6,k6
  have k2':=s6 _ _ k2';have k4':=s6 _ _ k4';have k5':=s6 _ _ k5;have S8:=S7.same s6;have al6:=cm.mono s6 al5;refine⟨_,_,_,_,rfl,rfl,k4',k6,(by rw[IB];show(1+ys.length)+1<=_;exact Jj (ay (by omega))),λp7 hp7=>?_⟩
  exists hp7,H9,s7,kZ
  have k7:H9 p7=some (.lst (.ref p2::(ys++[.ref p5]))):=kZ;have k2':=s7 _ _ k2';have k5':=s7 _ _ k5';have fr:=S8.fresh hp7;have S9:=S8.same s7;have al7:=cm.mono s7 al6;have hws:cj c k nm=(.plain,.str nm)::(iq tt++[(.entry,.int (k:Int))]):=by unfold cj;rw[e2]
  have er2:fV c σ1 ld k (nm::c.nums.drop (k+1))=(match ca c σ1 ld false (cj c k nm)with|.error x=>.error x|.ok s'=>fV c s' 1 (k+1) (c.nums.drop (k+1))):=by
   show(match ca c σ1 ld false (cj c k nm)with|.error x=>_|.ok s'=>_)=_
   cases ca c σ1 ld false (cj c k nm)with
   |error x=>rfl
   |ok p=>rfl
  refine⟨A,hid A.os H9,c,σ1,ld,p7,false,cj c k nm,rfl,S9.re,so,?_,?_,?_,⟨bd1.ws,bd1.fs,?_⟩,λe he H' s'=>qe e (by rw[er,er2,he]) H' (S9.out.trans s'),λσ2 H' he S'=>?_⟩
  .rw[hws];exact u7 S9.nt fr ⟨_,k7,⟨p2,rfl,k2'⟩,al7.snoc ⟨p5,rfl,k5'⟩⟩
  .rw[hws];intro w hw;rcases List.mem_cons.mp hw with rfl|hw
   .exact .inl ⟨(show Kw.plain≠Kw.entry by decide),nl,by omega,so.nc nl (by rw[<-hnl];exact IK hnm),by rw[hnl]⟩
   .rcases List.mem_append.mp hw with hw|hw
    .exact ttw w (List.mem_filter.mp hw).1
    .rw[List.mem_singleton.mp hw];exact .inr ⟨rfl,k,rfl⟩
  .rw[hws];simp only[ID,IB,Ja];omega
  .rw[hws];simp only[ID,IB,Ja];have:=bd1.ms;omega
  .rw[he]at er2;refine⟨1,_,_,_,σ2,rfl,S'.base S9.out S.cl,er.trans er2,?_⟩;have h1:=tH (hm:=?_) he
   .exact⟨h1.1 bd1.ws,h1.2.1 bd1.fs,by rw[h1.2.2];exact bd1.ms⟩
   .rw[hws];intro w hw;rcases List.mem_cons.mp hw with rfl|hw
    .show Kw.plain≠Kw.mark;decide
    .rcases List.mem_append.mp hw with hw|hw
     .simpa using(List.mem_filter.mp hw).2
     .rw[List.mem_singleton.mp hw];show Kw.entry≠Kw.mark;decide
 rintro σ' H2 ⟨ld,v2,v3,v4,σ1,rfl,S1,er,_⟩;rw[Iz,Kk]at er;exact q _ _ er S1

def Iv(c:Sc)(σ:Ss):Tg->Prop
 |.head _ _=>σ.hs.length<c.nums.length
 |.par ws=>(∀w∈ws,GWk w)/\ws.length<=600
 |_=>True
inductive qj(cls:Xc->Addr)(C:Addr)(vs:List V)(H:Hp)(Q:VK)(E:XK):Prop
 |mk(A:Sad)(G:Hp)(c:Sc)(σ:Ss)(v:V)(t:Tg)(_:vs=[.ref A.x,v])(_:StA C G H A c σ)(_:kS c)(_:TgA G v t)(_:Iv c σ t)(_:σ.hs.length<=1000)(_:Bd σ 600)(_:∀e,gR c σ t=.error e->∀H',aj G H'->E (.ref (cls e)) none H')(_:∀σ' H',gR c σ t=.ok σ'->StA C G H' A c σ'->Q .non H')
theorem jS:aN ["self","thing","kind"] ["self","thing"] (aw (aP 55 1)):=by walk_at "c"
theorem qk(T:Txt P w K mg a):bi P w K mg base (CXe P w) 6 a.iN a.ig ["self","thing"] (qj (oS a.dX a.di a.ci a.dj) a.aL):=by
 have gu:=T.gu;obtain⟨gu,k_LEAPS⟩:=gu
 exists T.iG.fn.okE,jS
 obtain⟨A,G,c,σ,v,t,rfl,S,so,tg,ok,hl,bd,qe,q⟩:=h
 exists (ae (av (i:=2) jS.nd rfl (IP rfl) (aB aZ (pv 1) ag (λ_ _=>rfl)))
   (af (aG (ao vJ (pv 2) (dm (v:=.ref a.dz) rfl gu rfl) (by with_unfolding_all rfl)) (af (dr (pv 0) (aF (mP rfl) rfl T.lM Lc (aa (bz (pv 0) rfl) (aa (xK (dm (v:=.ref a.dz) rfl gu rfl) (pv 2) (λ_ _=>rfl)) ac))) rfl)) (af (aG (ao bn (pv 2) am (nomark _)) (af (bf (dO gi T.aD T.jb (qZ T) (hM hr) (pv 0) (aa (aF bp rfl T.bG Jg (aa (bz (pv 0) rfl) ac)) ac)))) (af (aG (ao bn (pv 2) am (nomark _)) (af (bf (xO gi T.aD T.jc (rb T) (hM hr) (pv 0) ))) (af (aG (cz (bz (pv 0) rfl) (λ_=>rfl)) (af (bf (dO gi T.aD T.dY (gf T) (hM hr) (pv 0) (aa ag (aa (aB aZ (pv 1) ag (λ_ _=>rfl)) (aa cC ac)))))) (af (bf (dO gi T.aD T.dY (gf T) (hM hr) (pv 0) (aa ag (aa (aB aZ (pv 1) ag (λ_ _=>rfl)) (aa cC ac)))))))))))))))
 have bd2:Bd σ 200:=⟨bd.ws,bd.fs,by have:=bd.ms;omega⟩;have L1:dh ik (.inr "page")=some (.int 3):=rfl;have L2:dh ik (.inr "odd")=some (.int 4):=by
  unfold ik;rw[eV (λz=>by injection z with z;exact absurd z (by decide +kernel)),lU rfl]
 have L0:∀s:Str,¬ (s = "page")->¬ (s = "odd")->dh ik (.inr s)=none:=λs h1 h2=>by
  unfold ik;rw[eV (λz=>h1 (by injection z with z;exact z.symm)),eV (λz=>h2 (by injection z with z;exact z.symm))];rfl
 have put:∀n:Int,StA a.aL G (upd H A.x (.ins a.aL A.dx (fsS A (σ.fs:Int) (if n>σ.lp then n else σ.lp) σ.bh))) A c { σ with lp:=if σ.lp<n then n else σ.lp }:=λn=>S.flds σ.fs (if n>σ.lp then n else σ.lp) σ.bh;cases t with
 |page =>
  obtain⟨b,rfl,hb⟩:=tg;refine⟨_,rfl,_,_,_,_,rfl,rfl,SqT.of (S.old _ _ hb),rfl,?_⟩;refine⟨_,rfl,a.dz,ik,.inr "page",rfl,k_LEAPS,rfl,_,rfl,?_⟩;rw[L1];left;refine⟨_,rfl,_,_,_,_,_,rfl,S.ins,T.aD.cl,T.cW,sx,_,rfl,a.dz,ik,.inr "page",_,rfl,k_LEAPS,rfl,L1,_,_,rfl,_,rfl,_,_,_,_,rfl,S.ins,T.aD.cl,T.cW,ou,?_⟩;rw[qL];exact q _ _ rfl (put 3)
 |odd =>
  obtain⟨b,rfl,hb⟩:=tg;refine⟨_,rfl,_,_,_,_,rfl,rfl,SqT.of (S.old _ _ hb),rfl,?_⟩;refine⟨_,rfl,a.dz,ik,.inr "odd",rfl,k_LEAPS,rfl,_,rfl,?_⟩;rw[L2];left;refine⟨_,rfl,_,_,_,_,_,rfl,S.ins,T.aD.cl,T.cW,sx,_,rfl,a.dz,ik,.inr "odd",_,rfl,k_LEAPS,rfl,L2,_,_,rfl,_,rfl,_,_,_,_,rfl,S.ins,T.aD.cl,T.cW,ou,?_⟩;rw[qL];exact q _ _ rfl (put 4)
 |lst =>
  obtain⟨b,rfl,hb⟩:=tg;refine⟨_,rfl,_,_,_,_,rfl,rfl,SqT.of (S.old _ _ hb),rfl,?_⟩;refine⟨_,rfl,a.dz,ik,.inr "list",rfl,k_LEAPS,rfl,_,rfl,?_⟩;rw[L0 _ (by decide +kernel) (by decide +kernel)];right
  exists 1
  refine iF (λz=>absurd (V.str.inj z) (by decide +kernel)) ?_
  exists 1
  rw[decide_eq_true rfl];left;exact⟨_,rfl,_,_,_,rfl,S.ins,jy (by decide +kernel),A,G,c,σ,rfl,S,so,bd2,qe,λσ' H' e S'=>q σ' H' e S'⟩
 |head n ws =>
  obtain⟨b,l,rfl,hb,hl2⟩:=tg;obtain⟨hvs,h2,h3⟩:=S.heads;have lh:=h3.len;refine⟨_,rfl,_,_,_,_,rfl,rfl,SqT.of (S.old _ _ hb),rfl,?_⟩;refine⟨_,rfl,a.dz,ik,.inr "head",rfl,k_LEAPS,rfl,_,rfl,?_⟩;rw[L0 _ (by decide +kernel) (by decide +kernel)];right
  exists 1
  rw[decide_eq_true rfl];left;refine⟨_,rfl,_,_,_,rfl,S.ins,jy (by decide +kernel),_,rfl,_,_,_,_,_,rfl,S.ins,T.aD.cl,T.dJ,lY,_,_,rfl,.inl (SqL.of h2),?_⟩;rw[lh];exact⟨A,G,c,σ,σ.hs.length,rfl,S,so,ok,hl,bd2,qe,λσ' H' e S'=>q σ' H' e S'⟩
 |par ws =>
  obtain⟨b,l,rfl,hb,hl2⟩:=tg;refine⟨_,rfl,_,_,_,_,rfl,rfl,SqT.of (S.old _ _ hb),rfl,?_⟩;refine⟨_,rfl,a.dz,ik,.inr "paragraph",rfl,k_LEAPS,rfl,_,rfl,?_⟩;rw[L0 _ (by decide +kernel) (by decide +kernel)];right
  exists 1
  refine iF (λz=>absurd (V.str.inj z) (by decide +kernel)) ?_
  exists 1
  refine iF (λz=>absurd (V.str.inj z) (by decide +kernel)) ?_;refine⟨_,rfl,_,_,_,_,_,rfl,S.ins,T.aD.cl,T.dB,ot,_,rfl,?_⟩;have bd3:Bd σ ws.length:=⟨bd.ws,bd.fs,by have:=bd.ms;have:=ok.2;omega⟩;cases hb2:σ.bh with
  |true =>
   left;have e0:gR c σ (.par ws)=ca c σ 1 false ws:=by show ca c σ (if σ.bh then 1 else 2) false ws=_;rw[hb2];rfl
   exact⟨_,rfl,_,_,_,rfl,S.ins,jy (by decide +kernel),_,rfl,_,_,_,_,rfl,rfl,SqT.of (S.old _ _ hb),rfl,A,G,c,σ,1,l,false,ws,rfl,S,so,hl2,ok.1,ok.2,bd3,λe he H' s'=>qe e (by rw[e0];exact he) H' s',λσ' H' he S'=>q σ' H' (by rw[e0];exact he) S'⟩
  |false =>
   right;have e0:gR c σ (.par ws)=ca c σ 2 false ws:=by show ca c σ (if σ.bh then 1 else 2) false ws=_;rw[hb2];rfl
   exact⟨_,rfl,_,_,_,rfl,S.ins,jy (by decide +kernel),_,rfl,_,_,_,_,rfl,rfl,SqT.of (S.old _ _ hb),rfl,A,G,c,σ,2,l,false,ws,rfl,S,so,hl2,ok.1,ok.2,bd3,λe he H' s'=>qe e (by rw[e0];exact he) H' s',λσ' H' he S'=>q σ' H' (by rw[e0];exact he) S'⟩
inductive ql(C:Addr)(vs:List V)(H:Hp)(Q:VK)(x_1:XK):Prop
 |mk(A:Sad)(G:Hp)(c:Sc)(σ:Ss)(k:Nat)(_:vs=[.ref A.x,.int (k:Int)])(_:StA C G H A c σ)(_:Q (.str (gF k "0" σ.hs)) H)
theorem dP:aN ["self","k","number","text","at"] ["self","k"] (aw (aP 55 11)):=by walk_at "c"
theorem qm(T:Txt P w K mg a):bi P w K mg base CX0 1 a.iL a.ic ["self","k"] (ql a.aL):=by
 exists T.iE.fn.ok,dP
 obtain⟨A,G,c,σ,k,rfl,S,q⟩:=h
 exists (ae (av (i:=2) dP.nd rfl (IP rfl) am)
   (ae (bY Jq rfl (bj (bz (pv 0) rfl)) (dD rfl (aU (aJ (i:=3) dP.nd rfl (IP rfl)) (aU (aJ (i:=4) dP.nd rfl (IP rfl)) cQ))) (af (aG (ao zY (pv 4) (pv 1) (nomark _)) (af (av (i:=2) dP.nd rfl (IP rfl) (pv 3))) aE)))
   (af (aM (pv 2)))))
 obtain⟨hvs,h2,h3⟩:=S.heads;have lh:=h3.len;refine⟨_,rfl,_,_,_,_,_,rfl,S.ins,T.aD.cl,T.dJ,lY,A.ha,rfl,⟨_,SqL.of h2⟩,bZ (K:=K) (a:=A.ha) (xs:=hvs) (λi σ' H2=>H2=H/\∃(n:Str)(v1 v2:Option V),σ'=[rF A.x,some (.int (k:Int)),some (.str n),v1,v2]/\gF k "0" σ.hs=gF k n (σ.hs.drop i)) ⟨rfl,_,none,none,rfl,rfl⟩ (λi σ' H2 _ g=>by rw[g.1];exact SqL.of h2) ?_ ?_⟩
 .rintro i y σ' H2 hy ⟨rfl,n,v1,v2,rfl,en⟩;obtain⟨⟨t,at_⟩,hw,b,rfl,hb⟩:=h3.getL hy;have ed:σ.hs.drop i=(t,at_)::σ.hs.drop (i+1):=by
   obtain⟨hi,e⟩:=List.getElem?_eq_some_iff.mp hw;rw[Js hi,e]
  rw[ed]at en;have hb2:=bJ _ _ hb;refine⟨b,_,rfl,SqT.of hb2,rfl,_,_,rfl,_,_,rfl,rfl,?_⟩;refine⟨_,rfl,_,rfl,_,_,rfl,rfl,_,rfl,?_⟩;by_cases c1:at_<=k
  .refine iT (by omega) ?_;refine⟨_,rfl,rfl,_,_,_,rfl,?_⟩;rw[en];show gF k (if at_<=k then t else n) _=_;rw[if_pos c1]
  .refine iF (by omega) ?_;refine⟨rfl,_,_,_,rfl,?_⟩;rw[en];show gF k (if at_<=k then t else n) _=_;rw[if_neg c1]
 rintro σ' H2 ⟨rfl,n,v1,v2,rfl,en⟩;rw[lh,Kk]at en;exact⟨_,rfl,by rw[show n=gF k "0" σ.hs from en.symm];exact q⟩
inductive qo(K:IC)(C:Addr)(vs:List V)(H:Hp)(Q:VK)(x_1:XK):Prop
 |mk(A:Sad)(G:Hp)(c:Sc)(σ:Ss)(w:Addr)(wk:Wk)(_:vs=[.ref A.x,.ref w])(_:StA C G H A c σ)(_:WkA H (.ref w) wk)(_:jI σ wk)(_:∀p H' x y,H p=none->H'=upd H p (.tup [x,y])->jH σ wk=(x,y)->Q (.ref p) H')
theorem gX:aN ["self","word","kind","rest"] ["self","word"] (aw (aP 55 10)):=by walk_at "c"
theorem jT(T:Txt P w K mg a):bi P w K mg base CX0 2 a.iM a.ie ["self","word"] (qo K a.aL):=by
 exists T.f7.fn.ok,gX
 obtain⟨A,G,c,σ,w,wk,rfl,S,hw,ok,q⟩:=h
 exists (ae (av (i:=2) gX.nd rfl (IP rfl) (aB aZ (pv 1) ag (λ_ _=>rfl)))
   (ae (av (i:=3) gX.nd rfl (IP rfl) (aB aZ (pv 1) ag (λ_ _=>rfl)))
   (ae (aG (ao bn (pv 2) am (nomark _)) (af (aM (a_ (aa am (aa (pv 3) ac))))) aE)
   (ae (aG (ao bn (pv 2) am (nomark _)) (af (aM (a_ (aa am (aa (aB aZ (aB bC (bz (pv 0) rfl) (pv 3) (λ_ _=>rfl)) ag (λ_ _=>rfl)) ac))))) aE)
   (ae (aG (ao bn (pv 2) am (nomark _)) (af (aM (a_ (aa am (aa (dO fI T.aD T.iE (qm T) (hM hr) (pv 0) (aa (jY (eR hr) (bz (pv 0) rfl) (pv 3) (λ_ _=>rfl)) ac)) ac))))) aE)
   (af (aM (a_ (aa (pv 2) (aa (jY (eR hr) (bz (pv 0) rfl) (pv 3) (λ_ _=>rfl)) ac))))))))))
 obtain⟨wb,e1,hb⟩:=hw;injection e1 with e1;subst e1;obtain⟨kd,v⟩:=wk;refine⟨_,rfl,_,_,_,_,rfl,rfl,SqT.of hb,rfl,?_⟩;refine⟨_,rfl,_,_,_,_,rfl,rfl,SqT.of hb,rfl,?_⟩
 exists 1
 rcases ok with⟨hk,n,hn⟩|⟨hk,k,hn,kl⟩|⟨hk,n,k,hn,km⟩<;>dsimp only at hk hn<;>subst hn
 .refine iT (by rw[hk];rfl) ?_;exact⟨_,rfl,le2,λp1 hp1=>q p1 _ _ _ hp1 rfl (by rw[hk];rfl)⟩
 .refine iF (show ¬ (V.str kd.s=V.str "plain") by rw[hk];exact λz=>absurd (Kw.inj (b:=.plain) (V.str.inj z)) (by decide)) ?_
  exists 1
  refine iT (by rw[hk];rfl) ?_;obtain⟨hvs,h2,h3⟩:=S.heads;obtain⟨⟨t,at_⟩,hw⟩:∃h,σ.hs[k]?=some h:=⟨σ.hs[k],II kl⟩;obtain⟨v,hv,b,rfl,hb2⟩:=h3.getR hw;refine⟨_,rfl,_,_,_,_,_,rfl,S.ins,T.aD.cl,T.dJ,lY,_,rfl,_,_,_,_,rfl,rfl,SqL.of h2,bX hv,_,_,_,_,rfl,rfl,SqT.of (bJ _ _ hb2),rfl,le2,λp2 hp2=>q p2 _ _ _ hp2 rfl ?_⟩
  .skip
   rw[hk];show(V.str "page",V.int (((σ.hs.getD (LS (k:Int)) (JV,0)).2:Nat):Int))=_;rw[J0,Jb,hw];rfl
 .have n1:¬ (V.str kd.s=V.str "plain"):=λz=>by rw[Kw.inj (b:=.plain) (V.str.inj z)]at hk;cases hk
  have n2:¬ (V.str kd.s=V.str "entry"):=λz=>by rw[Kw.inj (b:=.entry) (V.str.inj z)]at hk;cases hk
  rw[decide_eq_false n1];right
  exists 1
  rw[decide_eq_false n2];right
  exists 1
  have hg:fD H A.ma (kV (.inr (tx n))) (some (.int (k:Int))):=by
   have:=fD.k (k:=.inr (tx n)) S.marks;rw[j6,km]at this;exact this
  have em:jG σ (rest (.str (tx n)))=k:=by unfold jG;show(lkS (tx n) σ.ms).getD 0=k;rw[km];rfl
  by_cases h3:kd=.number
  .refine iT (by rw[h3];rfl) ?_;refine⟨_,rfl,_,_,_,rfl,S.ins,jy (by decide +kernel),_,rfl,_,_,_,_,_,rfl,S.ins,T.aD.cl,T.cI,jx,_,rfl,_,_,rfl,hg,A,G,c,σ,k,rfl,S,le2,λp3 hp3=>q p3 _ _ _ hp3 rfl ?_⟩
   .skip
    rw[h3];show(V.str "text",V.str (gF (jG σ (rest (.str (tx n)))) "0" σ.hs))=_;rw[em]
  .refine iF (λz=>h3 (Kw.inj (b:=.number) (V.str.inj z))) ?_;refine⟨_,rfl,_,rfl,_,_,_,_,_,rfl,S.ins,T.aD.cl,T.cI,jx,_,rfl,_,_,rfl,hg,le2,λp4 hp4=>q p4 _ _ _ hp4 rfl ?_⟩
   .skip
    cases hk1:kd with
    |page=>show(V.str "page",V.int ((jG σ (rest (.str (tx n))):Nat):Int))=_;rw[em];rfl
    |row=>show(V.str "row",V.int ((jG σ (rest (.str (tx n))):Nat):Int))=_;rw[em];rfl
    |number=>exact absurd hk1 h3
    |plain=>rw[hk1]at hk;cases hk
    |mark=>rw[hk1]at hk;cases hk
    |foot=>rw[hk1]at hk;cases hk
    |entry=>rw[hk1]at hk;cases hk
inductive o6(C:Addr)(vs:List V)(H:Hp)(Q:VK)(x_1:XK):Prop
 |mk(A:Sad)(G:Hp)(c:Sc)(σ:Ss)(_:vs=[.ref A.x])(_:StA C G H A c σ)(_:uB σ)(_:σ.ws.length<=400)(_:∀p H' us fs,aj H H'->lD H H' σ p us fs->Q (.ref p) H')
theorem cU:aN ["self","told","lead","kept","word","foot"] ["self"] (aw (aP 55 9)):=by walk_at "c"
theorem o7(T:Txt P w K mg a):bi P w K mg base CX0 3 a.hX a.gL ["self"] (o6 a.aL):=by
 exists T.hR.fn.ok,cU
 obtain⟨A,G,c,σ,rfl,S,ok,wl,q⟩:=h
 exists (ae (av (i:=1) cU.nd rfl (IP rfl) (aQ ac))
   (ae (bY Jq rfl (bj (bz (pv 0) rfl)) (dD rfl (aU (aJ (i:=2) cU.nd rfl (IP rfl)) (aU (aJ (i:=3) cU.nd rfl (IP rfl)) (aU (aJ (i:=4) cU.nd rfl (IP rfl)) (aU (aJ (i:=5) cU.nd rfl (IP rfl)) cQ))))) (af (bf (b_ IR Je Jf bT (pv 1) (aa (a_ (aa (pv 2) (aa (pv 3) (aa (dO fI T.aD T.f7 (jT T) (hM hr) (pv 0) (aa (pv 4) ac)) (aa (gc rfl (eW (caps:=["self"]) (js:=[0]) (cap:=⟨⟨rfl,.inl rfl,rfl,.inl rfl⟩,trivial⟩)) (bj (pv 5)) (λ_ _ _ _=>dM) (λ_ _ _ _=>(dO fI T.aD T.f7 (jT T) (hM hr) (pv 1) (aa (pv 0) ac)))) ac))))) ac)))))
   (af (aM (pv 1)))))
 obtain⟨wvs,w2,w3⟩:=S.words;have lw:=w3.len;refine⟨aW (by simp),λp1 hp1=>?_⟩
 exists hp1,H1,s1,k1
 have S1:=S.same s1;refine⟨_,rfl,_,_,_,_,_,rfl,S1.ins,T.aD.cl,T.cJ,jw,A.wa,rfl,⟨_,SqL.of (s1 _ _ w2)⟩,bZ (K:=K) (a:=A.wa) (xs:=wvs) (λi σ' G'=>∃(v2 v3 v4 v5:Option V)(us:List V)(fs:List Addr),σ'=[rF A.x,rF p1,v2,v3,v4,v5]/\aj H G'/\G' p1=some (.lst us)/\fs.length=i/\fs.Nodup/\(∀f∈fs,H f=none/\f≠p1/\G' f≠none)/\aI (TwA σ (hid [p1] G')) us ((σ.ws.take i).zip fs)) ⟨none,none,none,none,[],[],rfl,s1,k1,rfl,List.nodup_nil,(by simp),trivial⟩ (λi σ' G' _ g=>by obtain⟨_,_,_,_,_,_,_,m,_⟩:=g;exact SqL.of (m _ _ w2)) ?_ ?_⟩
 .rintro i y σ' G1 hy ⟨v2,v3,v4,v5,us,fs,rfl,m,g1,fl,nd,fr,al⟩;obtain⟨t,ht,ta,wa',fa',rfl,h1,h2,h3⟩:=w3.getL hy;have hi:=(List.getElem?_eq_some_iff.mp ht).1;have h1:=m _ _ (bJ _ _ h1);have h2:=(h2.mono bJ).mono m;obtain⟨fu,h3,h4⟩:=(h3.mono bJ).mono m;obtain⟨ok1,ok2,ok3⟩:=ok t (IK ht);have lu:=al.len;rw[List.length_zip,Jm]at lu;have lf:=h4.len;refine⟨ta,_,rfl,SqT.of h1,rfl,_,_,rfl,_,_,rfl,_,_,rfl,_,_,rfl,rfl,?_⟩;have Sg:=S.same m;refine⟨_,rfl,.inl ⟨rfl,_,SqL.of g1⟩,_,rfl,_,rfl,_,rfl,_,_,_,rfl,Sg.ins,jy (by decide +kernel),_,rfl,A,G,c,σ,wa',t.w,rfl,Sg,h2,ok1,λps G2 x y hps e es=>?_⟩;have s2:aj G1 G2:=by rw[e];exact ai hps _
  have ks:G2 ps=some (.tup [x,y]):=by rw[e];exact ah
  clear e;have m2:=m.trans s2;have Sg2:=S.same m2;refine⟨_,rfl,fa',rfl,⟨_,SqL.of (s2 _ _ h3)⟩,dS (K:=K) (a:=fa') (xs:=fu) (λj ys G3=>aj G2 G3/\ys.length=j/\aI (SyA (hid [p1] G3)) ys ((t.foot.take j).map (jH σ))) ⟨aj.refl _,rfl,trivial⟩ (λj ys G3 _ z=>SqL.of ((s2.trans z.1) _ _ h3)) ?_ ?_ ?_⟩
  .rintro j ys G3 hj ⟨_,z,_⟩;exact ay (by omega)
  .rintro j y' ys G3 hy' ⟨m3,z,al3⟩;obtain⟨w,hw,wb,rfl,hwb⟩:=h4.getL hy';refine fE ?_;have Sg3:=Sg2.same m3;refine⟨_,rfl,_,_,_,rfl,Sg3.ins,jy (by decide +kernel),_,rfl,A,G,c,σ,wb,w,rfl,Sg3,⟨wb,rfl,(s2.trans m3) _ _ hwb⟩,ok3 w (IK hw),λpq G4 x' y'' hpq e' es'=>?_⟩;have s4:aj G3 G4:=by rw[e'];exact ai hpq _
   have kq:G4 pq=some (.tup [x',y'']):=by rw[e'];exact ah
   have np:pq≠p1:=λzz=>by rw[zz,(s2.trans m3) _ _ g1]at hpq;cases hpq
   refine⟨m3.trans s4,by rw[IB,z];rfl,?_⟩;rw[aT hw,IJ];refine(al3.imp λ_ _=>SyA.mono (bg s4)).snoc ⟨pq,rfl,?_⟩;rw[es'];exact br (by simpa using np) kq
  rintro ys G3 ⟨m3,z,al3⟩ pl hpl;rw[lf,IZ]at al3
  exists hpl,G4,s4,k4
  have npl:pl≠p1:=λzz=>by rw[zz,(s2.trans m3) _ _ g1]at hpl;cases hpl
  have nps:ps≠p1:=λzz=>by rw[zz,g1]at hps;cases hps
  have hHpl:H pl=none:=(m2.trans m3).free hpl;have nfs:pl∉fs:=λzz=>by
   have:=(fr pl zz).2.2;exact this (by cases e:G1 pl with|none=>rfl|some u=>rw[(s2.trans m3) _ _ e]at hpl;cases hpl)
  have m4:=(m2.trans m3).trans s4;have g14:=(s2.trans m3).trans s4;refine⟨le4,λpt hpt=>?_⟩
  exists hpt,G5,s5,k5
  have npt:pt≠p1:=λzz=>by rw[zz,g14 _ _ g1]at hpt;cases hpt
  have m5:=m4.trans s5;have g15:=g14.trans s5;refine⟨_,_,_,rfl,rfl,g15 _ _ g1,ay (by omega),?_⟩;refine⟨_,_,_,_,us++[.ref pt],fs++[pl],rfl,aY m5 hp1,ah,by rw[IB,fl];rfl,?_,?_,?_⟩
  .rw[Kh];refine⟨nd,by simp,λx hx y hy=>?_⟩;rw[List.mem_singleton.mp hy];exact λzz=>nfs (by rw[<-zz];exact hx)
  .intro f hf;rcases List.mem_append.mp hf with hf|hf
   .obtain⟨r1,r2,r3⟩:=fr f hf;refine⟨r1,r2,λzz=>r3 ?_⟩;rw[aq r2]at zz;exact g15.free zz
   .rw[List.mem_singleton.mp hf];refine⟨hHpl,npl,λzz=>?_⟩;rw[aq npl,s5 _ _ k4]at zz;cases zz
  .rw[bH (by simp),aT ht,List.zip_append (by rw[Jm,fl];omega)];have g5:=bg (os:=[p1]) g15;refine(al.imp λ_ _=>TwA.mono g5).snoc ⟨pt,ps,ys,rfl,br (by simpa using npt) k5,⟨ps,rfl,?_⟩,br (by simpa using npl) (s5 _ _ k4),al3.imp λ_ _=>SyA.mono (bg (s4.trans s5))⟩;dsimp only;rw[es];exact br (by simpa using nps) ((m3.trans (s4.trans s5)) _ _ ks)
 rintro σ' G1 ⟨v2,v3,v4,v5,us,fs,rfl,m,g1,fl,nd,fr,al⟩;rw[lw,IZ]at al;exact⟨_,rfl,q p1 _ us fs m ⟨g1,hp1,fl.trans lw,nd,λf hf=>⟨(fr f hf).1,(fr f hf).2.1⟩,al⟩⟩

theorem EW(p0 p1 p2:Addr):bW "going_on" (V.bl false) (bW "things" (V.ref p2) (bW "feet" (V.ref p1) (bW "shorts" (V.ref p0) [])))=([("shorts",V.ref p0),("feet",V.ref p1),("things",V.ref p2),("going_on",V.bl false)]:List (Str×V)):=by
 rw[show bW "shorts" (V.ref p0) []=([("shorts",V.ref p0)]:List (Str×V))from rfl];rw[oX (l:=([("shorts",V.ref p0)]:List (Str×V))) (by show([("shorts" : Str)]:List Str).all (λm=>m != "feet")=true;decide +kernel)];rw[oX (l:=([("shorts",V.ref p0)]:List (Str×V))++([("feet",V.ref p1)]:List (Str×V))) (by show([("shorts" : Str),("feet" : Str)]:List Str).all (λm=>m != "things")=true;decide +kernel)];rw[oX (l:=([("shorts",V.ref p0)]:List (Str×V))++([("feet",V.ref p1)]:List (Str×V))++([("things",V.ref p2)]:List (Str×V))) (by show([("shorts" : Str),("feet" : Str),("things" : Str)]:List Str).all (λm=>m != "going_on")=true;decide +kernel)];rfl

inductive vf(C:Addr)(vs:List V)(H:Hp)(Q:VK)(x_1:XK):Prop
 |mk(x dx:Addr)(_:vs=[.ref x])(_:H x=some (.ins C dx []))(_:∀H',(∀H0,aj H0 H->H0 x=none->RdA C H0 H' x rs0)->FrX H H' x->Q .non H')
theorem vg:aN ["self"] ["self"] (aw (aP 49 0)):=by walk_at "c"
theorem vh(T:Txt P w K mg a):bi P w K mg base CX0 1 a.kY a.ki ["self"] (vf a.bN):=by
 exists T.kW.fn.ok,vg
 obtain⟨x,dx,rfl,hx,q⟩:=h
 exists (ae (dr (pv 0) (aQ ac) rfl)
   (ae (dr (pv 0) tq rfl)
   (ae (dr (pv 0) (aQ ac) rfl)
   (af (dr (pv 0) cC rfl)))))
 have k:=hx;have f:FrX H H x:=FrX.refl;have l:([]:List (Str×V)).length<=0:=IM _;refine⟨aW (by simp),λp0 hp0=>?_⟩;obtain⟨H1,eH,b0,w0⟩:=oB (.lst []) hp0;rw[eH];have e0:=f.free k hp0;have f:=f.same w0;have k:=w0 _ _ k;have a0:=b0;have d0:p0≠x:=λz=>by rw[z,k]at a0;cases a0
 refine⟨_,rfl,_,_,_,_,rfl,k,T.bI.cl,T.jA,IU l (by decide),?_⟩;obtain⟨H2,L0,eH,g0,l,k,r⟩:=gq "shorts" (V.ref p0) k l;rw[eH];have f:=kg f r;have a0:=r _ _ d0 a0;intro p1 hp1;obtain⟨H3,eH,b1,w1⟩:=oB (.dK []) hp1;rw[eH];have e1:=f.free k hp1;have d0_1:p0≠p1:=fB a0 hp1;have f:=f.same w1;have k:=w1 _ _ k;have a0:=w1 _ _ a0;have a1:=b1;have d1:p1≠x:=λz=>by rw[z,k]at a1;cases a1
 refine⟨_,rfl,_,_,_,_,rfl,k,T.bI.cl,T.gv,IU l (by decide),?_⟩;obtain⟨H4,L1,eH,g1,l,k,r⟩:=gq "feet" (V.ref p1) k l;rw[eH];have f:=kg f r;have a0:=r _ _ d0 a0;have a1:=r _ _ d1 a1;refine⟨aW (by simp),λp2 hp2=>?_⟩;obtain⟨H5,eH,b2,w2⟩:=oB (.lst []) hp2;rw[eH];have e2:=f.free k hp2;have d0_2:p0≠p2:=fB a0 hp2;have d1_2:p1≠p2:=fB a1 hp2;have f:=f.same w2;have k:=w2 _ _ k;have a0:=w2 _ _ a0;have a1:=w2 _ _ a1;have a2:=b2;have d2:p2≠x:=λz=>by rw[z,k]at a2;cases a2
 refine⟨_,rfl,_,_,_,_,rfl,k,T.bI.cl,T.fH,IU l (by decide),?_⟩;obtain⟨H6,L2,eH,g2,l,k,r⟩:=gq "things" (V.ref p2) k l;rw[eH];have f:=kg f r;have a0:=r _ _ d0 a0;have a1:=r _ _ d1 a1;have a2:=r _ _ d2 a2;refine⟨_,rfl,_,_,_,_,rfl,k,T.bI.cl,T.dA,IU l (by decide),?_⟩;obtain⟨H7,L3,eH,g3,l,k,r⟩:=gq "going_on" (V.bl false) k l;rw[eH];have f:=kg f r;have a0:=r _ _ d0 a0;have a1:=r _ _ d1 a1;have a2:=r _ _ d2 a2;have eL:L3=([("shorts",V.ref p0),("feet",V.ref p1),("things",V.ref p2),("going_on",V.bl false)]:List (Str×V)):=by rw[<-g3,<-g2,<-g1,<-g0];exact EW p0 p1 p2
 rw[eL]at k;exact q _ (λH0 m hx0=>⟨f.old m hx0,dx,p0,p1,p2,p2,[],[],k,br (by simp;exact⟨d0,d0_1,d0_2⟩) a0,a1,a2,⟨hx0,m.free e1,m.free e2,m.free e2⟩,trivial,.inl ⟨rfl,rfl,trivial⟩⟩) f
inductive qp(C:Addr)(vs:List V)(H:Hp)(Q:VK)(x_1:XK):Prop
 |mk(r:Addr)(v:V)(H0 H1:Hp)(s:Rs)(t:Tg)(_:vs=[.ref r,v])(_:RdA C H0 H1 r s)(_:aj H1 H)(_:TgN H1 H v t)(_:s.things.length<=200)(_:∀H',RdA C H0 H' r { s with things:=s.things++[t],g:=false }->(∀dx sa fa ta vs g,H1 r=some (.ins C dx (fsR sa fa ta g))->H1 ta=some (.lst vs)->H'=upd (upd H ta (.lst (vs++[v]))) r (.ins C dx (fsR sa fa ta false)))->Q .non H')
theorem qq:aN ["self","thing"] ["self","thing"] (aw (aP 49 6)):=by walk_at "c"
theorem gY(T:Txt P w K mg a):bi P w K mg base CX0 1 a.iH a.hZ ["self","thing"] (qp a.bN):=by
 exists T.eI.fn.ok,qq
 obtain⟨r,v,H0,H1,s,t,rfl,R,m,tn,sl,q⟩:=h
 exists (ae (bf (b_ IR Je Jf bT (bz (pv 0) rfl) (aa (pv 1) ac)))
   (af (dr (pv 0) cC rfl)))
 obtain⟨dx,sa,fa,ta,kvs,vs,h1,h2,h3,h4,lv,lf,fn,put,_⟩:=R.use;have ne:r≠ta:=λz=>by rw[z,h4]at h1;cases h1
 refine⟨_,rfl,_,_,_,_,_,rfl,m _ _ h1,T.bI.cl,T.fH,qJ,.inl ⟨rfl,_,SqL.of (m _ _ h4)⟩,_,rfl,_,_,_,rfl,rfl,m _ _ h4,ay (by omega),?_⟩;refine⟨_,rfl,_,_,_,_,rfl,(by rw[aq ne];exact m _ _ h1),T.bI.cl,T.dA,uY,?_⟩;rw[qK];refine q _ (put H v t m tn) λdx' sa' fa' ta' vs' g' e1 e2=>?_;rw[h1]at e1;injection e1 with e1;injection e1 with _ f1 f2;obtain⟨rfl,rfl,rfl,rfl⟩:=EE f2;subst f1;rw[h4]at e2;injection e2 with e2;injection e2 with e2;rw[e2]
inductive o8(K:IC)(C:Addr)(vs:List V)(H:Hp)(Q:VK)(x_1:XK):Prop
 |mk(r la:Addr)(H0:Hp)(s:Rs)(w:List Nat)(rw:Rw)(_:vs=[.ref r,.ref la])(_:RdA C H0 H r s)(_:SqL K H la [.str (tx w)])(_:D1 w rw)(_:s.things.length<=200)(_:∀H',RdA C H0 H' r (bD s rw)->Q .non H')
theorem jN:aN ["self","words","first"] ["self","words"] (aw (aP 49 4)):=by walk_at "c"
theorem o9(T:Txt P w K mg a):bi P w K mg base CX0 2 a.hU a.gJ ["self","words"] (o8 K a.bN):=by
 exists T.g_.fn.ok,jN
 obtain⟨r,la,H0,s,w,rw,rfl,R,hl,al,sl,q⟩:=h
 exists (ae (av (i:=2) jN.nd rfl (IP rfl) (aB bC (pv 1) ag (λ_ _=>rfl)))
   (ae (aG (ao iV (aF bp rfl T.bG Jg (aa (pv 1) ac)) ag (nomark _)) (af gD) aE)
   (af (bf (dO fI T.bI T.eI (gY T) (hM hr) (pv 0) (aa (a_ (aa (dR kH (pv 2) (eQ ag) fN) ac)) ac))))))
 refine⟨_,rfl,_,_,_,_,rfl,rfl,hl,rfl,?_⟩;refine⟨_,rfl,_,_,rfl,.inl hl,_,_,rfl,rfl,_,rfl,?_⟩;right;dsimp only[cY];obtain⟨dx,sa,fa,ta,kvs,vs,h1,_⟩:=R.use;refine⟨_,rfl,_,_,_,rfl,h1,ni (by decide +kernel),_,rfl,_,rfl,_,rfl,(by rcases al with⟨rfl,_⟩|⟨rfl,_⟩|⟨rfl,_⟩<;>exact aW (by decide)),le1,λp1 hp1=>?_⟩
 rcases al with⟨rfl,rfl⟩|⟨rfl,rfl⟩|⟨rfl,rfl⟩
 .exact⟨r,.ref p1,H0,H,s,.page,rfl,R,ai hp1 _,⟨p1,rfl,by rw[f9];exact ah⟩,sl,λH' R' _=>q H' R'⟩
 .exact⟨r,.ref p1,H0,H,s,.odd,rfl,R,ai hp1 _,⟨p1,rfl,by rw[f9];exact ah⟩,sl,λH' R' _=>q H' R'⟩
 .exact⟨r,.ref p1,H0,H,s,.lst,rfl,R,ai hp1 _,⟨p1,rfl,by rw[f9];exact ah⟩,sl,λH' R' _=>q H' R'⟩
inductive AJ(vs:List V)(H:Hp)(Q:VK)(x_1:XK):Prop
 |mk(l:List Nat)(_:vs=[.str (tx l)])(_:l.length<=1000)(_:∀H',aj H H'->Q (.bl (bU l)) H')
theorem AK:aN ["word"] ["word"] (aw (top 19)):=by walk_at "c"
theorem o_(T:Txt P w K mg a):bi P w K mg base CX0 1 a.rJ a.pS ["word"] AJ:=by
 have fj:=T.fj;have eK:=T.eK;have cE:=T.cE;obtain⟨t_FIGURES,fj⟩:=fj;obtain⟨t_LETTERS,eK⟩:=eK;obtain⟨t_LONGEST_NAME,cE⟩:=cE
 exists T.kO.fn.ok,AK
 obtain⟨l,rfl,hl,q⟩:=h
 exists (ae (aG (PW.pt (eP (ao bn (pv 0) am (nomark _)) (fS (ao iV (aF dG rfl T.bG Jg (aa (pv 0) ac)) (dm (v:=.int 12) rfl cE ⟨_,rfl⟩) (nomark _))))) (af (aM cC)) aE)
   (af (aM (jE (dL kE (aB eu (pv 0) ag (λ_ _=>rfl)) (dm (v:=.str (Iy "abcdefghijklmnopqrstuvwxyz")) rfl eK ⟨_,rfl⟩) (by with_unfolding_all rfl)) (jl (aF (C7 rfl) rfl T.sE PyProof.Rows.boot_all (aa (gc rfl (eW (caps:=[]) (js:=[]) (cap:=trivial)) (BA (pv 0)) (λ_ _ _ _=>dM) (λ_ _ _ _=>(DU (dL kE (pv 0) (dm (v:=.str (Iy "abcdefghijklmnopqrstuvwxyz")) rfl eK ⟨_,rfl⟩) (by with_unfolding_all rfl)) (jl (dL kE (pv 0) (dm (v:=.str (Iy "0123456789")) rfl fj ⟨_,rfl⟩) (by with_unfolding_all rfl)))))) ac)))))))
 exists 1
 cases l with
 |nil =>
  rw[xV];left;left;exact q H (aj.refl _)
 |cons c r =>
  rw[xU];right;refine⟨_,rfl,_,rfl,aW (by rw[aV];exact hl),_,_,rfl,rfl,_,rfl,?_⟩;rw[aV];refine eB (λh=>?_) (λh=>?_)
  .have h2:¬ (c::r).length<=12:=by have:=of_decide_eq_true h;omega
   have:=q H (aj.refl _);rw[vO h2]at this;exact this
  .have h2:(c::r).length<=12:=by
    refine Li λz=>h (decide_eq_true ?_);omega
   rw[oU h2]at q;refine⟨_,rfl,_,_,c,rfl,rfl,aW (by rw[aV];exact hl),fP c r,_,_,rfl,rfl,_,rfl,?_⟩;rw[B2];cases hc:isL c with
   |false =>
    rw[hc]at q;right;exact q H (aj.refl _)
   |true =>
    rw[hc]at q;left;refine⟨_,rfl,_,rfl,FK (x:=tx (c::r)) (λi ys H2=>H2=H/\ys=(((c::r).take i).map λd=>isL d||isF d).map V.bl) ⟨rfl,rfl⟩ ?_ ?_ ?_⟩
    .rintro i ys H2 hi ⟨rfl,rfl⟩;rw[Iz,Iz,Jm];exact IU (show _<=12 by omega) (ay (by omega))
    .rintro i d ys H2 hd ⟨rfl,rfl⟩;rw[BD]at hd;refine fE ?_;refine⟨_,rfl,_,_,rfl,rfl,_,rfl,?_⟩;rw[B2,Ld,hd];cases h3:isL d with
     |true =>
      left;refine⟨rfl,?_⟩;simp[h3]
     |false =>
      right;refine⟨_,rfl,_,_,rfl,rfl,?_⟩;rw[B3];refine⟨rfl,?_⟩;simp[h3]
    .rintro ys H2 ⟨rfl,rfl⟩ p hp;rw[zn,Kp (IM _)];refine⟨_,_,rfl,SqL.of ah,?_⟩;rw[Ga];have:=q _ (ai hp (.lst ((((c::r)).map λd=>isL d||isF d).map V.bl)));rw[LW]at this;exact this
inductive AL(vs:List V)(H:Hp)(Q:VK)(x_1:XK):Prop
 |mk(c:Nat)(r:List Nat)(_:vs=[.str (tx (c::r))])(_:r.length<=900)(_:∀p H',H p=none->aj H H'->H' p=some (.tup [.str (Iy (lH (c::r)).1),.str (tx (lH (c::r)).2)])->Q (.ref p) H')
theorem pe:aN ["word","first","rest"] ["word"] (aw (top 21)):=by walk_at "c"
theorem AM(T:Txt P w K mg a):bi P w K mg base CX0 2 a.rK a.pT ["word"] AL:=by
 have gt:=T.gt;obtain⟨gt,k_KINDS⟩:=gt
 exists T.rm.fn.ok,pe
 obtain⟨c,r,rfl,hl,q⟩:=h
 exists (ae (av (i:=1) pe.nd rfl (IP rfl) (dR kH (pv 0) fN (eQ ag)))
   (ae (av (i:=2) pe.nd rfl (IP rfl) (dR kH (pv 0) (eQ ag) fN))
   (ae (aG (PW.pt (fT (ao vJ (pv 1) (dm (v:=.ref a.fQ) rfl gt rfl) (by with_unfolding_all rfl)) (dQ (cz (aC T.kO (o_ T) (hM hr) rfl (aa (pv 2) ac)) (λ_=>rfl))))) (af (aM (a_ (aa (xK (dm (v:=.ref a.fQ) rfl gt rfl) (pv 1) (λ_ _=>rfl)) (aa (pv 2) ac))))) aE)
   (ae (aG (PW.pt (fT (ao bn (pv 1) am (nomark _)) (dQ (ao dZ (pv 2) am (nomark _))))) (af (aM (a_ (aa am (aa (pv 2) ac))))) aE)
   (af (aM (a_ (aa am (aa (pv 0) ac)))))))))
 have sz:(tx (c::r)).length<=I0:=by rw[aV];exact aW (by simp only[ID];omega)
 refine⟨_,rfl,_,rfl,_,rfl,sz,?_⟩;rw[Ij];refine⟨_,rfl,_,rfl,_,rfl,sz,?_⟩;rw[Ik]
 try dsimp only[bA]
 with_reducible refine cy (λσ' H'=>σ'=[some (.str (tx (c::r))),some (.str (tx [c])),some (.str (tx r))]/\aj H H'/\lH (c::r)=if c=33/\r≠[]then("plain",r)else("plain",c::r)) ?_ (λkey=>?_)
 .rintro σ' H' ⟨rfl,s1,ek⟩;rw[ek]at q
  exists 1
  rw[Hw];refine eB (λh=>?_) (λh=>?_)
  .have h33:=of_decide_eq_true h
   exists 1
   cases r with
   |nil =>
    rw[xV];right;rw[if_neg (λz=>z.2 rfl)]at q;exact⟨_,rfl,le2,λp hp=>q p _ (s1.free hp) (s1.trans (ai hp _)) ah⟩
   |cons d r =>
    rw[xU];left;rw[if_pos ⟨h33,by simp⟩]at q;exact⟨_,rfl,le2,λp hp=>q p _ (s1.free hp) (s1.trans (ai hp _)) ah⟩
  .right;rw[if_neg (λz=>h (decide_eq_true z.1))]at q;exact⟨_,rfl,le2,λp hp=>q p _ (s1.free hp) (s1.trans (ai hp _)) ah⟩
 .refine⟨_,rfl,a.fQ,lG,.inr (tx [c]),rfl,k_KINDS,rfl,_,rfl,?_⟩;cases hm:mk c with
  |none =>
   have:=Ds c hm;rw[show dh lG (.inr (tx [c]))=none from this];right;right;refine key _ _ ⟨rfl,aj.refl _,?_⟩;show(match mk c,bU r with
    |some s,true=>(s,r)
    |_,_=>if c=33/\r≠[]then("plain",r)else("plain",c::r))=_
   rw[hm]
  |some s =>
   have hv:=Dt c s hm;rw[show dh lG (.inr (tx [c]))=some (.str (Iy s))from hv];left;refine⟨_,rfl,r,rfl,by omega,λH2 s2=>?_⟩;refine⟨_,rfl,?_⟩;cases hn:bU r with
   |true =>
    left;have ek:lH (c::r)=(s,r):=by
     show(match mk c,bU r with
      |some s,true=>(s,r)
      |_,_=>if c=33/\r≠[]then("plain",r)else("plain",c::r))=_
     rw[hm,hn]
    rw[ek]at q;exact⟨_,rfl,a.fQ,lG,.inr (tx [c]),_,rfl,k_KINDS,rfl,hv,_,rfl,le2,λp hp=>q p _ (s2.free hp) (s2.trans (ai hp _)) ah⟩
   |false =>
    right;refine key _ _ ⟨rfl,s2,?_⟩;show(match mk c,bU r with
     |some s,true=>(s,r)
     |_,_=>if c=33/\r≠[]then("plain",r)else("plain",c::r))=_
    rw[hm,hn]
inductive AN(vs:List V)(H:Hp)(Q:VK)(x_1:XK):Prop
 |mk(sa:Addr)(_:vs=[.ref sa])(_:H sa=some (.lst []))(_:∀p H',H p=none->aj H H'->H' p=some (.dK [])->Q (.ref p) H')
theorem AO:aN ["shorts"] ["shorts"] (aw (top 39)):=by walk_at "c"
theorem AQ(T:Txt P w K mg a):bi P w K mg base CX0 1 a.rH a.pR ["shorts"] AN:=by
 exists T.rj.fn.ok,AO
 obtain⟨sa,rfl,hs,q⟩:=h
 exists (af (aM (gy (ww rfl) rfl T.mM PyProof.Rows.boot_dict (aa (gc rfl (eW (caps:=[]) (js:=[]) (cap:=trivial)) (bj (pv 0)) (λ_ _ _ _=>dM) (λ_ _ _ _=>(a_ (aa (aB (r:=kQ K) aZ (pv 0) ag (λ_ _=>rfl)) (aa (pv 0) ac))))) ac))))
 refine⟨_,rfl,sa,rfl,⟨_,SqL.of hs⟩,dS (K:=K) (a:=sa) (xs:=[]) (λi ys G=>G=H/\ys=[]) ⟨rfl,rfl⟩ (λi ys G _ g=>by rw[g.1];exact SqL.of hs) (λi ys G hi _=>absurd hi (Me _)) (λi y ys G hy _=>by simp at hy) ?_⟩;rintro ys G ⟨rfl,rfl⟩ p1 hp1
 exists hp1,H1,s1,k1
 exact⟨p1,rfl,SqL.of k1,λp2 hp2=>q p2 _ (s1.free hp2) (s1.trans (ai hp2 _)) ah⟩
inductive wE(vs:List V)(H:Hp)(Q:VK)(x_1:XK):Prop
 |mk(d nl:Addr)(ws:List V)(ts:List (List Nat))(_:vs=[.ref d,.ref nl,.int 0])(_:H nl=some (.lst ws))(_:aI (NdA H) ws ts)(_:ts.length<=130)(_:∀p r H',H p=none->aj H H'->H' p=some (.tup [.ref r,.int 0])->H' r=some (.lst [.int (ts.length:Int)])->Q (.ref p) H')
theorem jt:aN ["named","nodes","count","row","calls","node","short","k","argument","size"] ["named","nodes","count"] (aw (top 41)):=by walk_at "c"
theorem wF(T:Txt P w K mg a):bi P w K mg base CX0 1 a.mC a.lx ["named","nodes","count"] wE:=by
 exists T.mt.fn.ok,jt
 obtain⟨d,nl,ws,ts,rfl,hn,al,tl,q⟩:=h
 exists (ae (av (i:=3) jt.nd rfl (IP rfl) (aH kG (aQ (aa ag ac)) (aH bS (pv 2) ag)))
   (ae (av (i:=4) jt.nd rfl (IP rfl) ag)
   (ae (bY Jq rfl (bj (pv 1)) (aJ (i:=5) jt.nd rfl (IP rfl)) (af (aG (ao bn (aB aZ (pv 5) ag (λ_ _=>rfl)) am (nomark _)) (af (nZ (aH bS (aB bC (pv 3) ag (λ_ _=>rfl)) ag) (nY (pv 3) ag jV))) im)))
   (af (aM (a_ (aa (pv 3) (aa (pv 4) ac))))))))
 refine⟨aW (by simp),λp1 hp1=>?_⟩
 exists hp1,H1,s1,k1
 refine⟨_,rfl,_,_,rfl,rfl,_,_,_,rfl,rfl,k1,(by omega),(by omega),aW (by simp),λp2 hp2=>?_⟩;have hp2':=s1.free hp2;dsimp only[bA];have s2:=ai hp2 (.lst [V.int 0]);have k2:upd H1 p2 (.lst (IN (LS (0+1)) [V.int 0]).flatten) p2=some (.lst [V.int ((0:Nat):Int)]):=ah;change aj H1 (upd H1 p2 (.lst (IN (LS (0+1)) [V.int 0]).flatten))at s2;generalize upd H1 p2 (.lst (IN (LS (0+1)) [V.int 0]).flatten)=H2 at s2 k2⊢;have s12:=s1.trans s2;have lw:=al.len;refine⟨_,rfl,nl,rfl,⟨_,SqL.of (s12 _ _ hn)⟩,bZ (K:=K) (a:=nl) (xs:=ws) (λk σ G=>∃(vw:Option V),σ=[rF d,rF nl,some (.int 0),rF p2,some (.int 0),vw,none,none,none,none]/\aj H G/\G p2=some (.lst [.int (k:Int)])) ⟨none,rfl,s12,k2⟩ (λk σ G _ g=>by obtain⟨_,_,m,_⟩:=g;exact SqL.of (m _ _ hn)) ?_ ?_⟩
 .rintro k y σ G hy ⟨vw,rfl,m,g⟩;obtain⟨t,ht,b,rfl,hb⟩:=al.getL hy;refine⟨_,rfl,_,_,_,_,rfl,rfl,SqT.of (m _ _ hb),rfl,rfl,_,rfl,?_⟩;rw[decide_eq_true rfl];left;refine⟨_,rfl,_,_,_,_,rfl,rfl,SqL.of g,rfl,_,_,rfl,rfl,_,rfl,_,_,_,_,rfl,rfl,g,rfl,?_⟩;exact⟨_,rfl,aY m hp2',by rw[ah];rfl⟩
 rintro σ G ⟨vw,rfl,m,g⟩;rw[lw]at g;refine⟨_,rfl,_,rfl,le2,λp3 hp3=>?_⟩;exact q p3 p2 _ (m.free hp3) (m.trans (ai hp3 _)) ah (ai hp3 _ _ _ g)
inductive yo(vs:List V)(H:Hp)(Q:VK)(x_1:XK):Prop
 |mk(d nl al:Addr)(ws:List V)(ts:List (List Nat))(_:vs=[.ref d,.ref nl,.ref al])(_:H nl=some (.lst ws))(_:aI (NdA H) ws ts)(_:ts.length<=130)(_:∀p H',H p=none->aj H H'->H' p=some (.lst ((ts.map tx).map V.str))->Q (.ref p) H')
theorem l9:aN ["named","nodes","arguments","words","node","given"] ["named","nodes","arguments"] (aw (top 43)):=by walk_at "c"
theorem yp(T:Txt P w K mg a):bi P w K mg base CX0 1 a.nP a.mL ["named","nodes","arguments"] yo:=by
 exists T.nH.fn.ok,l9
 obtain⟨d,nl,ar,ws,ts,rfl,hn,al,tl,q⟩:=h
 exists (ae (av (i:=3) l9.nd rfl (IP rfl) (aQ ac))
   (ae (bY Jq rfl (bj (pv 1)) (aJ (i:=4) l9.nd rfl (IP rfl)) (af (aG (ao bn (aB aZ (pv 4) ag (λ_ _=>rfl)) am (nomark _)) (af (bf (b_ IR Je Jf bT (pv 3) (aa (aB aZ (pv 4) ag (λ_ _=>rfl)) ac)))) im)))
   (af (aM (pv 3)))))
 refine⟨aW (by simp),λp1 hp1=>?_⟩;have s1:=ai hp1 (.lst []);have lw:=al.len;refine⟨_,rfl,nl,rfl,⟨_,SqL.of (s1 _ _ hn)⟩,bZ (K:=K) (a:=nl) (xs:=ws) (λk σ G=>∃(vw:Option V),σ=[rF d,rF nl,rF ar,rF p1,vw,none]/\aj H G/\G p1=some (.lst (((ts.take k).map tx).map V.str))) ⟨none,rfl,s1,ah⟩ (λk σ G _ g=>by obtain⟨_,_,m,_⟩:=g;exact SqL.of (m _ _ hn)) ?_ ?_⟩
 .rintro k y σ G hy ⟨vw,rfl,m,g⟩;obtain⟨t,ht,b,rfl,hb⟩:=al.getL hy;have hk:=(List.getElem?_eq_some_iff.mp hy).1;refine⟨_,rfl,_,_,_,_,rfl,rfl,SqT.of (m _ _ hb),rfl,rfl,_,rfl,?_⟩;rw[decide_eq_true rfl];left;refine⟨_,rfl,.inl ⟨rfl,_,SqL.of g⟩,_,rfl,_,_,_,_,rfl,rfl,SqT.of (m _ _ hb),rfl,_,_,_,rfl,rfl,g,ay (by rw[Iz,Iz,Jm];omega),?_⟩;refine⟨_,rfl,aY m hp1,?_⟩;rw[ah,aT ht,IJ,IJ];rfl
 rintro σ G ⟨vw,rfl,m,g⟩;rw[lw,IZ]at g;exact⟨_,rfl,q p1 _ hp1 m g⟩
inductive AR(vs:List V)(H:Hp)(Q:VK)(x_1:XK):Prop
 |mk(sa nl:Addr)(ws:List V)(ts:List (List Nat))(_:vs=[.ref sa,.ref nl])(_:H sa=some (.lst []))(_:H nl=some (.lst ws))(_:aI (NdA H) ws ts)(_:ts.length<=130)(_:∀p H',H p=none->aj H H'->H' p=some (.lst ((ts.map tx).map V.str))->Q (.ref p) H')
theorem pi:aN ["shorts","nodes","named","size"] ["shorts","nodes"] (aw (top 38)):=by walk_at "c"
theorem AS(T:Txt P w K mg a):bi P w K mg base CX0 2 a.rR a.p_ ["shorts","nodes"] AR:=by
 have db:=T.db;have bM:=T.bM;obtain⟨t_MOST_CALLS,db⟩:=db;obtain⟨t_MOST_WORDS_shorts,bM⟩:=bM
 exists T.rE.fn.ok,pi
 obtain⟨sa,nl,ws,ts,rfl,hs,hn,al,tl,q⟩:=h
 exists (ae (av (i:=2) pi.nd rfl (IP rfl) (aC T.rj (AQ T) (hM hr) rfl (aa (pv 0) ac)))
   (ae (av (i:=3) pi.nd rfl (IP rfl) (aC T.mt (wF T) (hM hr) rfl (aa (pv 2) (aa (pv 1) (aa ag ac)))))
   (ae (aG (PW.pt (eP (ao iV (aB bC (aB aZ (pv 3) ag (λ_ _=>rfl)) ag (λ_ _=>rfl)) (dm (v:=.int 400) rfl bM ⟨_,rfl⟩) (nomark _)) (fS (ao iV (aB aZ (pv 3) ag (λ_ _=>rfl)) (dm (v:=.int 400) rfl db ⟨_,rfl⟩) (nomark _))))) (af gD) aE)
   (af (aM (aC T.nH (yp T) (hM hr) rfl (aa (pv 2) (aa (pv 1) (aa (aQ ac) ac)))))))))
 refine⟨_,rfl,sa,rfl,hs,λp1 H1 hp1 s1 k1=>?_⟩;dsimp only[bA];refine⟨_,rfl,_,rfl,p1,nl,ws,ts,rfl,s1 _ _ hn,NdsA.mono s1 al,tl,λp2 r H2 hp2 s2 k2 k3=>?_⟩;dsimp only[bA];refine⟨_,rfl,_,_,_,_,rfl,rfl,SqT.of k2,rfl,_,_,_,_,rfl,rfl,SqL.of k3,rfl,_,_,rfl,rfl,_,rfl,?_⟩;refine iF (by omega) ?_;refine⟨_,rfl,_,_,_,_,rfl,rfl,SqT.of k2,rfl,_,_,rfl,rfl,_,rfl,?_⟩;right;dsimp only[cY];have s12:=s1.trans s2;refine⟨_,rfl,_,rfl,aW (by simp),λp3 hp3=>?_⟩;have s3:=ai hp3 (.lst []);have s13:=s12.trans s3;exact⟨p1,nl,p3,ws,ts,rfl,s13 _ _ hn,NdsA.mono s13 al,tl,λp4 H4 hp4 s4 k4=>q p4 H4 (s13.free hp4) (s13.trans s4) k4⟩
inductive AT(vs:List V)(H:Hp)(Q:VK)(x_1:XK):Prop
 |mk(w:List Nat)(_:vs=[.str (tx w),.non])(_:∀p,H p=none->Q (.ref p) (upd H p (.tup [.str "word",.str (tx w)])))
theorem AU:aN ["word","count","k"] ["word","count"] (aw (top 30)):=by walk_at "c"
theorem AV(T:Txt P w K mg a):bi P w K mg base CX0 1 a.rQ a.pZ ["word","count"] AT:=by
 exists T.rD.fn.ok,AU
 obtain⟨w,rfl,q⟩:=h
 exists (ae (aG (PW.pt (eP (ao Fw (pv 1) Bh (nomark _)) (fS Dh))) (af (aM (a_ (aa am (aa (pv 0) ac))))) aE)
   im)
 exists 1
 left;left;exact⟨_,rfl,le2,λp hp=>q p hp⟩
inductive wG(vs:List V)(H:Hp)(Q:VK)(x_1:XK):Prop
 |mk(w:List Nat)(_:vs=[.str (tx w)])(_:w.length<=100)(_:∀H',aj H H'->Q (.bl (opn w)) H')
theorem wH:aN ["word"] ["word"] (aw (top 28)):=by walk_at "c"
theorem wI(T:Txt P w K mg a):bi P w K mg base CX0 2 a.my a.lq ["word"] wG:=by
 exists T.mr.fn.ok,wH
 obtain⟨w,rfl,hw,q⟩:=h
 exists (af (aM (jE (dL bn (dR kH (pv 0) fN (eQ ag)) am (nomark _)) (jl (aC T.kO (o_ T) (hM hr) rfl (aa (dR kH (pv 0) (eQ ag) fN) ac))))))
 refine⟨_,rfl,_,rfl,_,rfl,aW (by rw[aV];omega),rfl,_,rfl,?_⟩;rw[f9,show jv w none (some 1)=w.take 1 from Tl.cut_to w 1,bP c91];cases w with
 |nil =>
  right;exact q H (aj.refl _)
 |cons c r =>
  by_cases e:c=91
  .refine iT (by rw[e];rfl) ?_;refine⟨_,rfl,_,rfl,_,rfl,aW (by rw[aV];omega),r,?_,by simp at hw;omega,λH2 s2=>?_⟩
   .rw[f9,show jv (c::r) (some 1) none=(c::r).drop 1 from Tl.cut_from (c::r) 1];rfl
   .have:=q H2 s2;change Q (.bl (decide (c=91)&&bU r)) H2 at this;rw[decide_eq_true e,LW]at this;exact this
  .refine iF (λz=>e (by simpa using z)) ?_;have:=q H (aj.refl _);change Q (.bl (decide (c=91)&&bU r)) H at this;rw[decide_eq_false e,Mq]at this;exact this
inductive AW(K:IC)(vs:List V)(H:Hp)(Q:VK)(x_1:XK):Prop
 |mk(la:Addr)(ts:List (List Nat))(_:vs=[.ref la,.non])(_:SqL K H la ((ts.map tx).map V.str))(_:ts.length<=130)(_:∀t∈ts,opn t=false/\t.length<=100)(_:∀p H' ws,H p=none->aj H H'->H' p=some (.lst ws)->aI (NdA H') ws ts->Q (.ref p) H')
theorem lK:aN ["words","count","nodes","pending","word"] ["words","count"] (aw (top 26)):=by walk_at "c"
theorem AX(T:Txt P w K mg a):bi P w K mg base CX0 3 a.rS a.qb ["words","count"] (AW K):=by
 exists T.rG.fn.ok,lK
 obtain⟨la,ts,rfl,hW,tl,ok,q⟩:=h;have hu:=Le (eR hr)
 exists (ae (av (i:=2) lK.nd rfl (IP rfl) (aQ ac))
   (ae (av (i:=3) lK.nd rfl (IP rfl) (aQ ac))
   (ae (bY Jq rfl (bj (pv 0)) (aJ (i:=4) lK.nd rfl (IP rfl)) (af (aG (cz (aC T.mr (wI T) (hM hr) rfl (aa (pv 4) ac)) (λ_=>rfl)) im (af (aG (PW.pt (fT (ao bn (pv 4) am (nomark _)) (dQ (ao (lX hu) (pv 3) (aQ ac) (nomark _))))) im (af (aG (PW.pt (fT (ao bn (pv 4) am (nomark _)) (dQ (ao (lX hu) (pv 3) (aQ ac) (nomark _))))) im (af (bf (b_ IR Je Jf bT (pv 2) (aa (aC T.rD (AV T) (hM hr) rfl (aa (pv 4) (aa (pv 1) ac))) ac)))))))))))
   (ae (aG (ao (lX hu) (pv 3) (aQ ac) (nomark _)) (af gD) aE)
   (af (aM (pv 2)))))))
 refine⟨aW (by simp),λp1 hp1=>?_⟩
 exists hp1,H1,s1,k1
 refine⟨aW (by simp),λp2 hp2=>?_⟩;have n1:=s1.free hp2;have n12:p1≠p2:=cH k1 hp2
 exists hp2,H2,s2,k2
 have s12:=s1.trans s2;refine⟨_,rfl,la,rfl,⟨_,s12.seq hW⟩,bZ (K:=K) (a:=la) (xs:=(ts.map tx).map V.str) (λk σ G=>∃(vw:Option V)(ws:List V),σ=[rF la,some .non,rF p1,rF p2,vw]/\aj H G/\G p1=some (.lst ws)/\G p2=some (.lst [])/\aI (NdA (hid [p1] G)) ws (ts.take k)) ⟨none,[],rfl,s12,s2 _ _ k1,k2,trivial⟩ (λk σ G _ g=>by obtain⟨_,_,_,m,_⟩:=g;exact m.seq hW) ?_ ?_⟩
 .rintro k y σ G hy ⟨vw,ws,rfl,m,g1,g2,al⟩;obtain⟨w,hw,rfl⟩:=lZ hy;obtain⟨o1,o2⟩:=ok w (IK hw);have lw:=al.len;rw[Jm]at lw;refine⟨_,rfl,w,rfl,o2,λG1 m1=>⟨_,rfl,?_⟩⟩;rw[o1];right
  exists 1
  rw[bP Il];by_cases b1:w=FU
  .rw[decide_eq_true b1];left;refine⟨_,rfl,aW (by simp),λp3 hp3=>?_⟩;have m2:=m1.trans (ai hp3 (.lst []));refine⟨_,_,_,rfl,rfl,SqL.of (m2 _ _ g2),SqL.of ah,_,rfl,?_⟩;right
   exists 1
   rw[bP Gb,decide_eq_false (λz=>by rw[b1]at z;exact absurd z (by decide))];right;right;refine⟨_,rfl,.inl ⟨rfl,_,SqL.of (m2 _ _ g1)⟩,_,rfl,_,rfl,w,rfl,λp4 hp4=>?_⟩;have m3:=m2.trans (ai hp4 (.tup [.str "word",.str (tx w)]));refine⟨_,_,_,rfl,rfl,m3 _ _ g1,ay (by omega),?_⟩;refine⟨_,_,rfl,aY (m.trans m3) hp1,ah,?_,?_⟩
   .rw[aq (JH n12)];exact m3 _ _ g2
   .rw[bH (by simp),aT hw];exact(NdsA.mono (bg m3) al).snoc ⟨p4,rfl,br (by simp;exact JH (cH (m2 _ _ g1) hp4)) ah⟩
  rw[decide_eq_false b1];right;right
  exists 1
  rw[bP Gb];by_cases b2:w=FV
  .rw[decide_eq_true b2];left;refine⟨_,rfl,aW (by simp),λp3 hp3=>?_⟩;have m2:=m1.trans (ai hp3 (.lst []));refine⟨_,_,_,rfl,rfl,SqL.of (m2 _ _ g2),SqL.of ah,_,rfl,?_⟩;right;refine⟨_,rfl,.inl ⟨rfl,_,SqL.of (m2 _ _ g1)⟩,_,rfl,_,rfl,w,rfl,λp4 hp4=>?_⟩;have m3:=m2.trans (ai hp4 (.tup [.str "word",.str (tx w)]));refine⟨_,_,_,rfl,rfl,m3 _ _ g1,ay (by omega),?_⟩;refine⟨_,_,rfl,aY (m.trans m3) hp1,ah,?_,?_⟩
   .rw[aq (JH n12)];exact m3 _ _ g2
   .rw[bH (by simp),aT hw];exact(NdsA.mono (bg m3) al).snoc ⟨p4,rfl,br (by simp;exact JH (cH (m2 _ _ g1) hp4)) ah⟩
  rw[decide_eq_false b2];right;right;have m2:=m1;refine⟨_,rfl,.inl ⟨rfl,_,SqL.of (m2 _ _ g1)⟩,_,rfl,_,rfl,w,rfl,λp4 hp4=>?_⟩;have m3:=m2.trans (ai hp4 (.tup [.str "word",.str (tx w)]));refine⟨_,_,_,rfl,rfl,m3 _ _ g1,ay (by omega),?_⟩;refine⟨_,_,rfl,aY (m.trans m3) hp1,ah,?_,?_⟩
  .rw[aq (JH n12)];exact m3 _ _ g2
  .rw[bH (by simp),aT hw];exact(NdsA.mono (bg m3) al).snoc ⟨p4,rfl,br (by simp;exact JH (cH (m2 _ _ g1) hp4)) ah⟩
 rintro σ G ⟨vw,ws,rfl,m,g1,g2,al⟩;rw[Iz,Iz,IZ]at al;refine⟨_,rfl,aW (by simp),λp5 hp5=>?_⟩;have m2:=ai hp5 (.lst []);refine⟨_,_,_,rfl,rfl,SqL.of (m2 _ _ g2),SqL.of ah,_,rfl,?_⟩;right;exact⟨_,rfl,q p1 _ ws hp1 (m.trans m2) (m2 _ _ g1) (NdsA.mono (bJ.trans m2) al)⟩
inductive qr(K:IC)(C:Addr)(vs:List V)(H:Hp)(Q:VK)(x_1:XK):Prop
 |mk(r la bt dx sa fa ta:Addr)(g:Bool)(ts:List (List Nat))(bs:List Kw)(_:vs=[.ref r,.ref la,.ref bt])(_:H r=some (.ins C dx (fsR sa fa ta g)))(_:H sa=some (.lst []))(_:SqL K H la ((ts.map tx).map V.str))(_:SqT K H bt (bs.map kwV))(_:ts.length<=130)(_:∀t∈ts,oV t/\(kwL t).1∉bs)(_:∀p H' ws,H p=none->aj H H'->H' p=some (.lst ws)->cm (hid [p] H') ws (ts.map wkL)->Q (.ref p) H')
theorem fK:aN ["self","words","barred","read","kind","rest"] ["self","words","barred"] (aw (aP 49 7)):=by walk_at "c"
theorem gZ(T:Txt P w K mg a):bi P w K mg base CX0 4 a.iJ a.ia ["self","words","barred"] (qr K a.bN):=by
 have cF:=T.cF;obtain⟨t_LONGEST_TEXT,cF⟩:=cF
 exists T.eJ.fn.ok,fK
 obtain⟨r,la,bt,dx,sa,fa,ta,g,ts,bs,rfl,hr_,hs,hl,hb,tl,ok,q⟩:=h
 exists (ae (Af (k:=3) rfl (eW (caps:=[]) (js:=[]) (cap:=trivial)) (bj (aC T.rE (AS T) (hM hr) rfl (aa (bz (pv 0) rfl) (aa (BN (dx:=.non) T.rG rfl (AX T) (hM hr) rfl (aa (pv 1) ac)) ac)))) (λ_ _ _ _=>dM) (λ_ _ _ _=>(aC T.rm (AM T) (hM hr) rfl (aa (pv 0) ac))) fK.nd rfl rfl)
   (ae (bY Jq rfl (bj (pv 3)) (dD rfl (aU (aJ (i:=4) fK.nd rfl (IP rfl)) (aU (aJ (i:=5) fK.nd rfl (IP rfl)) cQ))) (ae (aG (ao gz (pv 4) (pv 2) (by with_unfolding_all rfl)) (af gD) aE)
   (af (aG (PW.pt (fT (ao bn (pv 4) am (nomark _)) (dQ (ao iV (aF dG rfl T.bG Jg (aa (pv 5) ac)) (dm (v:=.int 60) rfl cF ⟨_,rfl⟩) (nomark _))))) (af gD) aE))))
   (af (aM (pv 3)))))
 refine⟨_,rfl,_,_,_,_,_,rfl,hr_,T.bI.cl,T.jA,BV,_,rfl,la,ts,rfl,hl,tl,(λt ht=>⟨(ok t ht).1.opn,by have:=(ok t ht).1.len;omega⟩),λp1 H1 ws hp1 s1 k1 al=>?_⟩;refine⟨sa,p1,ws,ts,rfl,s1 _ _ hs,k1,al,tl,λp2 H2 hp2 s2 k2=>?_⟩;have s12:=s1.trans s2;refine⟨p2,rfl,⟨_,SqL.of k2⟩,dS (K:=K) (a:=p2) (xs:=(ts.map tx).map V.str) (λi ys G=>aj H2 G/\ys.length=i/\cm G ys ((ts.take i).map wkL)) ⟨aj.refl _,rfl,trivial⟩ (λi ys G _ g=>SqL.of (g.1 _ _ k2)) ?_ ?_ ?_⟩
 .rintro i ys G hi ⟨_,e,_⟩;rw[Iz,Iz]at hi;rw[e];exact ay (by omega)
 .rintro i y ys G hy ⟨m,e,al⟩;obtain⟨t,ht,rfl⟩:=lZ hy;have gd:=(ok t (IK ht)).1;refine fE ?_;cases t with
  |nil=>exact absurd rfl gd.ne
  |cons c u =>
  have gl:=gd.len;simp only[ID]at gl;refine⟨_,rfl,c,u,rfl,by omega,λp H3 hp m3 k3=>⟨m.trans m3,by rw[IB,e];rfl,?_⟩⟩;rw[aT ht,IJ];refine(cm.mono m3 al).snoc ⟨p,rfl,?_⟩;obtain⟨e1,e2⟩:=EK (c::u);rw[k3,e1,e2];rfl
 rintro ys G ⟨m,e,al⟩ p3 hp3;rw[Iz,Iz]at e;rw[Iz,Iz,IZ]at al;have hfree:=(s12.trans m).free hp3
 exists hp3,G3,s3,k3
 have al3:=cm.mono (lN s3 (os:=[p3]) (λb hb=>by rw[List.mem_singleton.mp hb];exact hp3)) al;have s13:=s12.trans (m.trans s3);refine⟨_,rfl,p3,rfl,⟨_,SqL.of k3⟩,bZ (K:=K) (a:=p3) (xs:=ys) (λi σ G=>∃(v1 v2:Option V),σ=[rF r,rF la,rF bt,rF p3,v1,v2]/\aj G3 G) ⟨none,none,rfl,aj.refl _⟩ (λi σ G _ g=>by obtain⟨_,_,_,m⟩:=g;exact SqL.of (m _ _ k3)) ?_ ?_⟩
 .rintro i y σ G hy ⟨v1,v2,rfl,m⟩;obtain⟨w,hw,b,rfl,hb'⟩:=al3.getL hy;rw[Jc]at hw;obtain⟨t,ht,rfl⟩:=Option.map_eq_some_iff.mp hw;obtain⟨gd,nb⟩:=ok t (IK ht);have hG:=m _ _ (bJ _ _ hb');refine⟨b,_,rfl,SqT.of hG,rfl,_,_,rfl,_,_,rfl,rfl,?_⟩;refine⟨_,rfl,_,rfl,_,_,rfl,.inr ((s13.trans m).tup hb),rfl,xX bs,_,rfl,?_⟩;change (if(if false=true then _ else inV (kwV (wkL t).1) (bs.map kwV))=true then _ else _);rw[sU (k:=(wkL t).1) nb];right;dsimp only[cY]
  exists 1
  by_cases pk:(kwL t).1=.plain
  .refine eB (λ_=>?_) (λ_=>?_)
   .have pl:=gd.pl pk;refine⟨_,rfl,_,rfl,aW (by rw[aV];omega),_,_,rfl,rfl,_,rfl,?_⟩;rw[aV,decide_eq_false (by omega)];right;exact⟨_,_,rfl,m⟩
   .right;exact⟨_,_,rfl,m⟩
  .have:¬ (V.str (wkL t).1.s=V.str "plain"):=λz=>pk (Kw.inj (b:=.plain) (V.str.inj z));rw[decide_eq_false this];right;right;exact⟨_,_,rfl,m⟩
 rintro σ G ⟨v1,v2,rfl,m⟩;exact⟨_,rfl,q p3 G ys (hfree) (s13.trans m) (m _ _ k3) (cm.mono (bg m) al3)⟩
inductive qt(K:IC)(C:Addr)(vs:List V)(H:Hp)(Q:VK)(x_1:XK):Prop
 |mk(r la:Addr)(H0:Hp)(s:Rs)(n:List Nat)(ts:List (List Nat))(_:vs=[.ref r,.ref la])(_:RdA C H0 H r s)(_:SqL K H la (((ku::n::ts).map tx).map V.str))(_:bU n=true)(_:n.length<=12)(_:ts.length<=39)(_:∀t∈ts,oV t/\(kwL t).1∉[Kw.mark,Kw.foot])(_:lkS (tx n) s.feet=none)(_:s.feet.length<=200)(_:∀H',RdA C H0 H' r (bD s (.foot (tx n) (ts.map wkL)))->Q .non H')
theorem g9:aN ["self","words","name","text"] ["self","words"] (aw (aP 49 3)):=by walk_at "c"
theorem qu(T:Txt P w K mg a):bi P w K mg base CX0 5 a.iI a.h_ ["self","words"] (qt K a.bN):=by
 have b9:=T.b9;obtain⟨t_MOST_FOOT_WORDS,b9⟩:=b9
 exists T.iC.fn.ok,g9
 obtain⟨r,la,H0,s,n,ts,rfl,R,hl,nn,nl,tl,ok,nt,sl,q⟩:=h
 exists (ae (aG (PW.pt (eP (ao wO (aF bp rfl T.bG Jg (aa (pv 1) ac)) ag (nomark _)) (fS (fC (cz (aC T.kO (o_ T) (hM hr) rfl (aa (aB bC (pv 1) ag (λ_ _=>rfl)) ac)) (λ_=>rfl)))))) (af gD) aE)
   (ae (av (i:=2) g9.nd rfl (IP rfl) (aB bC (pv 1) ag (λ_ _=>rfl)))
   (ae (aG (ao (uu (eR hr)) (pv 2) (bz (pv 0) rfl) (by with_unfolding_all rfl)) (af gD) aE)
   (ae (av (i:=3) g9.nd rfl (IP rfl) (dO fI T.bI T.eJ (gZ T) (hM hr) (pv 0) (aa (dR oa (pv 1) (eQ ag) fN) (aa (a_ (aa am (aa am ac))) ac))))
   (ae (aG (ao iV (aF bp rfl T.bG Jg (aa (pv 3) ac)) (dm (v:=.int 39) rfl b9 ⟨_,rfl⟩) (nomark _)) (af gD) aE)
   (af (uR (eR hr) (bz (pv 0) rfl) (pv 2) (pv 3) rfl)))))))
 refine⟨_,rfl,_,_,rfl,.inl hl,_,_,rfl,rfl,_,rfl,?_⟩;refine iF (by simp;omega) ?_;refine⟨_,rfl,_,_,_,_,rfl,rfl,hl,bX (j:=1) rfl,n,rfl,(by omega),λH1 s1=>⟨_,rfl,?_⟩⟩;rw[nn];right;dsimp only[cY];refine⟨_,rfl,_,_,_,_,rfl,rfl,s1.seq hl,bX (j:=1) rfl,?_⟩;obtain⟨dx,sa,fa,ta,kvs,vs,h1,h2,h3,h4,lv,lf,fn,put,stop,foot,_⟩:=(R.same s1).use;refine⟨_,rfl,_,rfl,_,_,_,_,_,rfl,h1,T.bI.cl,T.gv,uX,_,_,rfl,fD.k (k:=.inr (tx n)) h3,_,rfl,?_⟩;rw[fn _ nt];right;dsimp only[cY];refine⟨_,rfl,_,_,_,rfl,h1,ni (by decide +kernel),_,rfl,_,rfl,_,_,rfl,s1.seq hl,λp1 hp1=>?_⟩;have s2:=ai hp1 (.lst (io (((ku::n::ts).map tx).map V.str) (some 2) none));have k2:upd H1 p1 (.lst (io (((ku::n::ts).map tx).map V.str) (some 2) none)) p1=some (.lst ((ts.map tx).map V.str)):=by
  rw[ah];have:=Tl.cut_from (((ku::n::ts).map tx).map V.str) 2;exact congrArg (λl=>some (HO.lst l)) this
 generalize upd H1 p1 (.lst (io (((ku::n::ts).map tx).map V.str) (some 2) none))=H2 at s2 k2⊢;refine⟨le2,λp2 hp2=>?_⟩;have s3:=ai hp2 (.tup [kwV .mark,kwV .foot]);have k3:upd H2 p2 (.tup [kwV .mark,kwV .foot]) p2=some (.tup [kwV .mark,kwV .foot]):=ah;have s23:=s2.trans s3;refine⟨r,p1,p2,dx,sa,fa,ta,s.g,ts,[.mark,.foot],rfl,s23 _ _ h1,s23 _ _ h2,SqL.of (s3 _ _ k2),SqT.of k3,(by omega),ok,λp4 H4 ws hp4 s4 k4 al=>?_⟩;have s14:=s23.trans s4;have lw:=al.len;rw[Iz]at lw;refine⟨_,rfl,_,_,rfl,.inl (SqL.of k4),_,_,rfl,rfl,_,rfl,?_⟩;refine iF (by omega) ?_;dsimp only[cY];refine⟨_,rfl,_,rfl,_,_,_,_,_,rfl,s14 _ _ h1,T.bI.cl,T.gv,uX,_,rfl,_,_,rfl,tj.k (k:=.inr (tx n)) (s14 _ _ h3) (ay (by omega)),?_⟩;rw[tf _ (fn _ nt)];exact q _ (foot H4 _ p4 _ s14 (s23.free hp4) ⟨ws,k4,cm.mono bJ al⟩)
inductive pz(K:IC)(C:Addr)(vs:List V)(H:Hp)(Q:VK)(x_1:XK):Prop
 |mk(r la:Addr)(H0:Hp)(s:Rs)(ts:List (List Nat))(_:vs=[.ref r,.ref la])(_:RdA C H0 H r s)(_:SqL K H la ((ts.map tx).map V.str))(_:ts.length<=130)(_:∀t∈ts,oV t)(_:s.things.length<=200)(_:tgS s.things<=500)(_:∀H',RdA C H0 H' r (bD s (.par (ts.map wkL)))->Q .non H')
theorem jO:aN ["self","words","read"] ["self","words"] (aw (aP 49 5)):=by walk_at "c"
theorem pA(T:Txt P w K mg a):bi P w K mg base CX0 5 a.hV a.gK ["self","words"] (pz K a.bN):=by
 exists T.hJ.fn.ok,jO
 obtain⟨r,la,H0,s,ts,rfl,R,hl,tl,ok,sl,sn,q⟩:=h
 exists (ae (av (i:=2) jO.nd rfl (IP rfl) (dO fI T.bI T.eJ (gZ T) (hM hr) (pv 0) (aa (pv 1) (aa (a_ ac) ac))))
   (af (aG (cz (bz (pv 0) rfl) (λ_=>rfl)) (af (bf (b_ IR J1 J2 gB (aB aZ (aB bC (bz (pv 0) rfl) (sf n_ ag) (λ_ _=>rfl)) ag (λ_ _=>rfl)) (aa (pv 2) ac)))) (ae (bf (dO fI T.bI T.eI (gY T) (hM hr) (pv 0) (aa (a_ (aa am (aa (pv 2) ac))) ac)))
   (af (dr (pv 0) cC rfl))))))
 obtain⟨dx,sa,fa,ta,kvs,vs,h1,h2,h3,h4,lv,lf,fn,put,stop,foot,more,first,_⟩:=R.use
 refine⟨_,rfl,_,_,_,rfl,h1,ni (by decide +kernel),_,rfl,aW (by simp),λp1 hp1=>?_⟩;have s1:=ai hp1 (.tup []);refine⟨r,la,p1,dx,sa,fa,ta,s.g,ts,[],rfl,s1 _ _ h1,s1 _ _ h2,s1.seq hl,SqT.of ah,tl,(λt ht=>⟨ok t ht,by simp⟩),λp2 H2 ws hp2 s2 k2 al=>?_⟩;dsimp only[bA];have s12:=s1.trans s2;refine⟨_,rfl,_,_,_,_,_,rfl,s12 _ _ h1,T.bI.cl,T.dA,yV,_,rfl,?_⟩;by_cases g:s.g=true
 .rw[g];left;obtain⟨vi,a,lo,wvs,ini,ws0,e1,e2,e3,e4,e5,key⟩:=more g;have hw:=EG (ini:=ini) (ws:=ws0);rw[<-e4]at hw;have lw:=al.len;rw[Iz]at lw;refine⟨_,rfl,_,_,_,_,_,rfl,s12 _ _ h1,T.bI.cl,T.fH,qJ,_,rfl,_,_,_,_,rfl,rfl,SqL.of (s12 _ _ h4),(by rw[e1];exact jZ _ _),_,_,_,_,rfl,rfl,SqT.of (s12 _ _ e2),rfl,.inl ⟨rfl,_,SqL.of (s12 _ _ e3)⟩,_,rfl,_,_,_,_,rfl,rfl,s12 _ _ e3,k2,Jj (ay (by omega)),?_⟩;have:=key H2 ws (ts.map wkL) s12 (cm.mono bJ al);refine q _ ?_;rw[show bD s (.par (ts.map wkL))={ s with things:=a9 (ts.map wkL) s.things }from by unfold bD;exact if_pos g];exact this
 .rw[J6]at g;rw[g];right;refine⟨_,rfl,_,_,_,rfl,s12 _ _ h1,ni (by decide +kernel),_,rfl,le2,λp3 hp3=>?_⟩
  exists hp3,H3,s3,k3
  have s13:=s12.trans s3;have hp2':=s1.free hp2;have la2:c6 H3 p2 (ts.map wkL):=⟨ws,s3 _ _ k2,cm.mono (bJ.trans s3) al⟩;refine⟨r,.ref p3,H0,H,s,.par (ts.map wkL),rfl,R,s13,⟨p3,p2,rfl,k3,hp2',la2⟩,sl,λH4 R4 e4=>?_⟩;have e4:=e4 _ _ _ _ _ _ h1 h4;have h4':H4 r=some (.ins a.bN dx (fsR sa fa ta false)):=by rw[e4];exact ah
  refine⟨_,rfl,_,_,_,_,rfl,h4',T.bI.cl,T.dA,uY,?_⟩;rw[qK,e4];refine q _ ?_;rw[show bD s (.par (ts.map wkL))={ s with things:=s.things++[.par (ts.map wkL)],g:=true }from by unfold bD;exact if_neg (by rw[g];decide)];exact first H3 p3 p2 _ s13 k3 hp2' la2
inductive rc(K:IC)(C:Addr)(vs:List V)(H:Hp)(Q:VK)(x_1:XK):Prop
 |mk(r la:Addr)(H0:Hp)(s:Rs)(ts:List (List Nat))(rw:Rw)(_:vs=[.ref r,.ref la])(_:RdA C H0 H r s)(_:SqL K H la ((ts.map tx).map V.str))(_:jK ts rw)(_:Du s rw)(_:s.things.length<=200)(_:tgS s.things<=500)(_:s.feet.length<=200)(_:∀H',RdA C H0 H' r (bD s rw)->Q .non H')
theorem kM:aN ["self","words","first"] ["self","words"] (aw (aP 49 1)):=by walk_at "c"
theorem rh(T:Txt P w K mg a):bi P w K mg base CX0 6 a.jf a.iO ["self","words"] (rc K a.bN):=by
 have gS:=T.gS;have gT:=T.gT;obtain⟨gS,k_ALONE⟩:=gS;obtain⟨gT,k_HEADS⟩:=gT
 exists T.ja.fn.ok,kM
 obtain⟨r,la,H0,s,ts,rw,rfl,R,hl,ri,tw,sl,sn,fl,q⟩:=h;have hu:=Le (eR hr)
 exists (ae (aG (ao (tD hu) (pv 1) (aQ ac) (nomark _)) (ae (dr (pv 0) cC rfl)
   (af Ee)) aE)
   (ae (av (i:=2) kM.nd rfl (IP rfl) (aB bC (pv 1) ag (λ_ _=>rfl)))
   (af (aG (ao bn (pv 2) am (nomark _)) im (af (aG (ao bn (pv 2) am (nomark _)) (af (bf (dO fI T.bI T.iC (qu T) (hM hr) (pv 0) (aa (pv 1) ac)))) (af (aG (ao gz (pv 2) (dm (v:=.ref a.jC) rfl gS rfl) (by with_unfolding_all rfl)) (af (bf (dO fI T.bI T.g_ (o9 T) (hM hr) (pv 0) (aa (pv 1) ac)))) (af (aG (ao gz (pv 2) (dm (v:=.ref a.jD) rfl gT rfl) (by with_unfolding_all rfl)) (af (bf (dO fI T.bI T.eI (gY T) (hM hr) (pv 0) (aa (a_ (aa am (aa (aF dG rfl T.bG Jg (aa (pv 2) ac)) (aa (dO fI T.bI T.eJ (gZ T) (hM hr) (pv 0) (aa (dR oa (pv 1) (eQ ag) fN) (aa (a_ (aa am ac)) ac))) ac)))) ac)))) (af (aG (ao bn (aB eu (pv 2) ag (λ_ _=>rfl)) am (nomark _)) (af gD) (af (bf (dO fI T.bI T.hJ (pA T) (hM hr) (pv 0) (aa (pv 1) ac))))))))))))))))
 refine⟨_,rfl,aW (by simp),λp1 hp1=>?_⟩
 exists hp1,H1,s1,k1
 have R1:=R.same s1;have hl1:=s1.seq hl;refine⟨_,_,_,rfl,rfl,hl1,SqL.of k1,_,rfl,?_⟩;obtain⟨dx,sa,fa,ta,kvs,vs,h1,h2,h3,h4,lv,lf,fn,put,stop,_⟩:=R1.use;have eA:∀w:List Nat,inV (.str (tx w)) [.str (Iy ".page"),.str (Iy ".odd"),.str (Iy ".list")]=decide (w∈[oW,tJ,ky]):=λw=>by
  rw[Aq,Ar,uD];exact oz [oW,tJ,ky]
 have eH:∀w:List Nat,inV (.str (tx w)) [.str (Iy "="),.str (Iy "=="),.str (Iy "===")]=decide (w∈[[61],[61,61],[61,61,61]]):=λw=>by
  rw[cH1,cH2,cH3];exact oz [[61],[61,61],[61,61,61]]
 cases ri with
 |empty =>
  left;refine⟨_,rfl,_,_,_,_,rfl,h1,T.bI.cl,T.dA,uY,?_⟩;rw[qK];exact q _ (stop H1 (aj.refl _))
 |@foot n ts nn nl tl ok =>
  right;refine⟨_,rfl,_,_,_,_,rfl,rfl,hl1,bX (j:=0) rfl,?_⟩
  exists 1
  rw[bP Ap,decide_eq_false (by decide)];right
  exists 1
  rw[bP jJ,decide_eq_true rfl];left;exact⟨_,rfl,_,_,_,rfl,h1,ni (by decide +kernel),_,rfl,r,la,H0,s,n,ts,rfl,R1,hl1,nn,nl,tl,ok,tw,fl,λH' R'=>q H' R'⟩
 |@alone w rw al =>
  right;refine⟨_,rfl,_,_,_,_,rfl,rfl,hl1,bX (j:=0) rfl,?_⟩
  exists 1
  rw[bP Ap,decide_eq_false (by rcases al with⟨rfl,_⟩|⟨rfl,_⟩|⟨rfl,_⟩<;>decide)]
  right
  exists 1
  rw[bP jJ,decide_eq_false (by rcases al with⟨rfl,_⟩|⟨rfl,_⟩|⟨rfl,_⟩<;>decide)]
  right;refine⟨_,rfl,_,_,rfl,.inr (k_ALONE _),rfl,rfl,_,rfl,?_⟩;rw[eA,decide_eq_true (by rcases al with⟨rfl,_⟩|⟨rfl,_⟩|⟨rfl,_⟩<;>decide)]
  left;exact⟨_,rfl,_,_,_,rfl,h1,ni (by decide +kernel),_,rfl,r,la,H0,s,w,rw,rfl,R1,hl1,al,sl,λH' R'=>q H' R'⟩
 |@head k ts k3 tl ok =>
  right;refine⟨_,rfl,_,_,_,_,rfl,rfl,hl1,bX (j:=0) rfl,?_⟩;have kk:IN (k+1) 61∈[[61],[61,61],[61,61,61]]:=by
   rcases(show k=0\/k=1\/k=2 by omega)with rfl|rfl|rfl<;>decide
  exists 1
  rw[bP Ap,decide_eq_false (λz=>by rw[z]at kk;exact absurd kk (by decide))];right
  exists 1
  rw[bP jJ,decide_eq_false (λz=>by rw[z]at kk;exact absurd kk (by decide))];right;refine⟨_,rfl,_,_,rfl,.inr (k_ALONE _),rfl,rfl,_,rfl,?_⟩;rw[eA,decide_eq_false (λz=>by rcases(show k=0\/k=1\/k=2 by omega)with rfl|rfl|rfl<;>exact absurd z (by decide))]
  right;refine⟨_,rfl,_,_,rfl,.inr (k_HEADS _),rfl,rfl,_,rfl,?_⟩;rw[eH,decide_eq_true kk];left;refine⟨_,rfl,_,_,_,rfl,h1,ni (by decide +kernel),_,rfl,_,rfl,ay (by rw[JI];omega),_,rfl,_,_,_,rfl,h1,ni (by decide +kernel),_,rfl,_,rfl,_,_,rfl,hl1,λp2 hp2=>?_⟩;have s2:=ai hp2 (.lst (io (((IN (k+1) 61::ts).map tx).map V.str) (some 1) none));have k2:upd H1 p2 (.lst (io (((IN (k+1) 61::ts).map tx).map V.str) (some 1) none)) p2=some (.lst ((ts.map tx).map V.str)):=by
   rw[ah];have:=Tl.cut_from (((IN (k+1) 61::ts).map tx).map V.str) 1;exact congrArg (λl=>some (HO.lst l)) this
  generalize upd H1 p2 (.lst (io (((IN (k+1) 61::ts).map tx).map V.str) (some 1) none))=H2 at s2 k2⊢;refine⟨le1,λp3 hp3=>?_⟩;have s3:=ai hp3 (.tup [kwV .foot]);have k3':upd H2 p3 (.tup [kwV .foot]) p3=some (.tup [kwV .foot]):=ah;change _ at s3;have s23:=s2.trans s3;refine⟨r,p2,p3,dx,sa,fa,ta,s.g,ts,[.foot],rfl,s23 _ _ h1,s23 _ _ h2,SqL.of (s3 _ _ k2),SqT.of k3',(by omega),ok,λp4 H4 ws hp4 s4 k4 al=>?_⟩;have s14:=s23.trans s4;refine⟨le3,λp5 hp5=>?_⟩;have s5:=ai hp5 (.tup [.str "head",.int (((IN (k+1) 61).length:Nat):Int),.ref p4]);refine⟨r,.ref p5,H0,H1,s,.head (k+1) (ts.map wkL),rfl,R1,s14.trans s5,⟨p5,p4,rfl,?_,s23.free hp4,ws,s5 _ _ k4,cm.mono (bJ.trans s5) al⟩,sl,λH' R' _=>q H' R'⟩;exact ah.trans (by rw[aV,JI])
 |@par c u ts c46 nh tl ok =>
  right;refine⟨_,rfl,_,_,_,_,rfl,rfl,hl1,bX (j:=0) rfl,?_⟩
  exists 1
  rw[bP Ap,decide_eq_false (λz=>c46 (by injection z))];right
  exists 1
  rw[bP jJ,decide_eq_false (λz=>c46 (by injection z))];right;refine⟨_,rfl,_,_,rfl,.inr (k_ALONE _),rfl,rfl,_,rfl,?_⟩;rw[eA,decide_eq_false (λz=>by
   simp only[J8,JQ,or_false]at z;rcases z with z|z|z<;>exact c46 (by injection z))]
  right;refine⟨_,rfl,_,_,rfl,.inr (k_HEADS _),rfl,rfl,_,rfl,?_⟩;rw[eH,decide_eq_false nh];right;refine⟨_,rfl,_,_,_,rfl,rfl,ay (by have:=(ok _ IL).len;simp only[ID]at this;omega),fP _ _,rfl,_,rfl,?_⟩;rw[bP Io,decide_eq_false (λz=>c46 (by injection z))];right;exact⟨_,rfl,_,_,_,rfl,h1,ni (by decide +kernel),_,rfl,r,la,H0,s,_,rfl,R1,hl1,(by simp only[ID];omega),ok,sl,sn,λH' R'=>q H' R'⟩
inductive y8(vs:List V)(H:Hp)(Q:VK)(x_1:XK):Prop
 |mk(l:List Nat)(_:vs=[.str (tx l)])(_:l.length<=200000)(_:∀p H',H p=none->aj H H'->H' p=some (.lst (((dt l).map tx).map V.str))->Q (.ref p) H')
theorem y9:aN ["row"] ["row"] (aw (top 18)):=by walk_at "c"
theorem y_(T:Txt P w K mg a):bi P w K mg base CX0 1 a.pQ a.nX ["row"] y8:=by
 exists T.pL.fn.ok,y9
 obtain⟨l,rfl,hl,q⟩:=h
 exists (af (aM (gc rfl (eW (caps:=[]) (js:=[]) (cap:=trivial)) (bj (b_ Kd PySem.F.slot_str_split PySem.F.type_str_split BC (pv 0) (aa am ac))) (λ_ _ _ _=>(iX (ao dZ (pv 0) am (nomark _)))) (λ_ _ _ _=>(pv 0)))))
 have hs:=uC 32 l;refine⟨_,rfl,rfl,_,32,rfl,congrArg (λz=>[V.str z]) c32,?_,λp1 hp1=>?_⟩
 .rw[aV];exact BK (by omega)
 rw[C5];refine⟨p1,rfl,⟨_,SqL.of ah⟩,dS (xs:=((bB 32 l).map tx).map V.str) (λi ys H2=>H2=upd H p1 (.lst (((bB 32 l).map tx).map V.str))/\ys=((neW ((bB 32 l).take i)).map tx).map V.str) ⟨rfl,rfl⟩ ?_ ?_ ?_ ?_⟩
 .rintro i ys H2 _ ⟨rfl,_⟩;exact SqL.of ah
 .rintro i ys H2 hi ⟨rfl,rfl⟩;rw[Iz,Iz];have h1:(neW ((bB 32 l).take i)).length<=((bB 32 l).take i).length:=JU _ _;rw[Jm]at h1;exact Jl (show _<1000000 by omega) (BK (IM _))
 .rintro i x ys H2 hx ⟨rfl,rfl⟩;obtain⟨w,hw,rfl⟩:=lZ hx
  exists 1
  rw[Ld,hw];show if(!decide (V.str (tx w)=V.str (Iy "")))=true then _ else _;rw[show(some w).toList=[w]from rfl,Dr];refine eB (λc=>?_) (λc=>?_)
  .refine⟨_,rfl,rfl,?_⟩;have hne:w≠[]:=by
    intro e;rw[e,ce]at c;rw[decide_eq_true rfl]at c;cases c
   rw[if_neg hne];simp
  .have hne:w=[]:=by
    by_cases e:V.str (tx w)=V.str (Iy "")
    .rw[ce]at e;exact jm (V.str.inj e)
    .rw[decide_eq_false e]at c;exact absurd rfl c
   rw[if_pos hne];exact⟨rfl,rfl⟩
 .rintro ys H2 ⟨rfl,rfl⟩ p hp;have el:(((bB 32 l).map tx).map V.str).length=(bB 32 l).length:=by rw[Iz,Iz]
  rw[el,Kp (IM _)];have g1:=ai hp1 (.lst (((bB 32 l).map tx).map V.str));exact q p _ (g1.free hp) (g1.trans (ai hp _)) ah
inductive yq(K:IC)(vs:List V)(H:Hp)(Q:VK)(x_1:XK):Prop
 |mk(ra:Addr)(rs:List (List Nat))(rws:List Rw)(_:vs=[.ref ra])(_:SqL K H ra ((rs.map tx).map V.str))(_:nj rs rws)(_:rs.length<=200)(_:mT rs0 rws)(_:(rws.map rwN).sum<=500)(_:∀p H' ta fa vs kvs,H p=none->aj H H'->H' p=some (.tup [.ref ta,.ref fa])->H ta=none->H fa=none->H' ta=some (.lst vs)->H' fa=some (.dK kvs)->gj H' vs (aS rs0 rws).things->FtA H' kvs (aS rs0 rws).feet->Q (.ref p) H')
theorem l_:aN ["rows","reader","row"] ["rows"] (aw (top 48)):=by walk_at "c"
theorem yr(T:Txt P w K mg a):bi P w K mg base CX0 7 a.nN a.mJ ["rows"] (yq K):=by
 exists T.nE.fn.ok,l_
 obtain⟨ra,rs,rws,rfl,hr_,ar,rl,tw,sm,q⟩:=h
 exists (ae (av (i:=1) l_.nd rfl (IP rfl) (Ey fI T.bI T.kW (vh T) (hM hr) rfl ))
   (ae (bY Jq rfl (bj (pv 0)) (aJ (i:=2) l_.nd rfl (IP rfl)) (af (bf (dO fI T.bI T.ja (rh T) (hM hr) (pv 1) (aa (aC T.pL (y_ T) (hM hr) rfl (aa (pv 2) ac)) ac)))))
   (af (aM (a_ (aa (bz (pv 1) rfl) (aa (bz (pv 1) rfl) ac)))))))
 intro x dx hx hdx ndx;have sd:=ai hdx (.own x);have hx1:upd H dx (.own x) x=none:=by rw[aq (JH ndx)];exact hx
 have s1:=sd.trans (ai hx1 (.ins a.bN dx []));have k1:upd (upd H dx (.own x)) x (.ins a.bN dx []) x=some (.ins a.bN dx []):=ah;refine⟨x,dx,rfl,k1,λH1 r1 f1=>?_⟩;have R0:=r1 H s1 hx;have al:=ar.len;refine⟨rfl,?_⟩;refine⟨_,rfl,ra,rfl,⟨_,R0.old.seq hr_⟩,bZ (K:=K) (a:=ra) (xs:=(rs.map tx).map V.str) (λi σ G=>∃(v1:Option V),σ=[rF ra,rF x,v1]/\RdA a.bN H G x (aS rs0 (rws.take i))) ⟨none,rfl,R0⟩ (λi σ G _ g=>by obtain⟨_,_,R⟩:=g;exact R.old.seq hr_) ?_ ?_⟩
 .rintro i y σ G hy ⟨v1,rfl,R⟩;obtain⟨l,hl,rfl⟩:=lZ hy;have hi:=(List.getElem?_eq_some_iff.mp hl).1;obtain⟨rw,hw,l2,ri⟩:=ar.get hl;obtain⟨dx',sa,fa,ta,kvs,vs,h1,h2,h3,h4,_⟩:=R.use;have n1:=uZ (rws.take i) rs0;have n2:=sS rwN rws i;have n3:=List.length_take_le i rws;simp only[rs0,tgS,K4,List.sum_nil,Ja,JT]at n1;refine⟨_,rfl,_,_,_,rfl,h1,ni (by decide +kernel),_,rfl,l,rfl,(by omega),λp H2 hp s2 k2=>?_⟩;refine⟨x,p,H,_,dt l,rw,rfl,R.same s2,SqL.of k2,ri,tw.at hw,(by simp only[rs0];omega),(by simp only[rs0,tgS];omega),(by simp only[rs0];omega),λH3 R3=>?_⟩;refine⟨_,rfl,?_⟩;rw[aT hw,BU];exact R3
 rintro σ G ⟨v1,rfl,R⟩;rw[Iz,Iz,al,IZ]at R;obtain⟨dx',sa,fa,ta,kvs,vs,h1,h2,h3,h4,_,_,_,_,_,_,_,_,ft,tg,n1,n2⟩:=R.use;refine⟨_,rfl,_,_,_,_,_,rfl,h1,T.bI.cl,T.fH,qJ,_,rfl,_,_,_,_,_,rfl,h1,T.bI.cl,T.gv,uX,le2,λp1 hp1=>?_⟩;have s5:=ai hp1 (.tup [.ref ta,.ref fa]);exact q p1 _ ta fa vs kvs (R.old.free hp1) (R.old.trans s5) ah n2 n1 (s5 _ _ h4) (s5 _ _ h3) (gj.mono s5 tg) (ft.mono s5)

theorem GA{ls:List Int}{i:Nat}(hl:ls.length<=63):(ctr (ls.take i)).1<=63/\(ctr (ls.take i)).2.1<=63/\(ctr (ls.take i)).2.2<=63:=by
 obtain⟨a,b,c⟩:=Ca (ls.take i);have:=List.length_take_le i ls;have h2:=List.length_take_le' i ls;omega
theorem EX{c:Nat×Nat×Nat}{l:Int}(h1:c.1<=63)(h2:c.2.1<=63)(h3:c.2.2<=63):(eX c l).length<=20/\∀d∈eX c l,d<127:=by
 have f1:=wX h1;have f2:=wX h2;have f3:=wX h3;have fi:∀n d,d∈dH n->d<127:=λn d hd=>by have:=Ew n d hd;omega
 unfold eX;by_cases e1:l=1
 .rw[if_pos e1];exact⟨by omega,λd hd=>fi _ d hd⟩
 rw[if_neg e1];by_cases e2:l=2
 .rw[if_pos e2];refine⟨by simp only[IB,ID,Ja];omega,λd hd=>?_⟩;rcases List.mem_append.mp hd with hd|hd
  .rcases List.mem_append.mp hd with hd|hd
   .exact fi _ d hd
   .rw[List.mem_singleton.mp hd];decide
  .exact fi _ d hd
 rw[if_neg e2];refine⟨by simp only[IB,ID,Ja];omega,λd hd=>?_⟩;rcases List.mem_append.mp hd with hd|hd
 .rcases List.mem_append.mp hd with hd|hd
  .exact fi _ d hd
  .rw[List.mem_singleton.mp hd];decide
 .rcases List.mem_append.mp hd with hd|hd
  .rcases List.mem_append.mp hd with hd|hd
   .exact fi _ d hd
   .rw[List.mem_singleton.mp hd];decide
  .exact fi _ d hd
theorem gC{n:Nat}{ws:List Wk}:∀{ts:List Tg},(n,ws)∈aK ts->Tg.head n ws∈ts
 |[],h=>by cases h
 |t::r,h=>by
  cases t with
  |head m us =>
   rcases List.mem_cons.mp h with e|h
   .cases e;exact IL
   .exact IH _ (gC h)
  |page=>exact IH _ (gC (ts:=r) h)
  |odd=>exact IH _ (gC (ts:=r) h)
  |lst=>exact IH _ (gC (ts:=r) h)
  |par us=>exact IH _ (gC (ts:=r) h)
theorem dy:∀(a b:List Tg),aK (a++b)=aK a++aK b
 |[],b=>rfl
 |t::r,b=>by cases t<;>simp[aK,dy r b]
theorem mZ(t:Tg):(aK [t]).length=bE t:=by cases t<;>rfl
structure TxG(things:List Tg)(feet:List (Str×List Wk)):Prop where
 tg:∀t∈things,TgG t
 ft:FtG feet
 hs:(aK things).length<=63
 len:things.length<=200
section
variable {things:List Tg}{feet:List (Str×List Wk)}
theorem TxG.sc(h:TxG things feet):kS (gW (aK things) feet):=by
 have ll:(eY (aK things)).length<=63:=by unfold eY;rw[Iz];exact h.hs
 have nn:∀l∈gp (eY (aK things)) (eY (aK things)).length,l.length<=20/\∀d∈l,d<127:=λl hl=>by
  unfold gp at hl;obtain⟨k,_,rfl⟩:=List.mem_map.mp hl;obtain⟨a,b,c⟩:=GA (i:=k+1) ll;exact EX a b c
 refine⟨?_,?_,?_,h.ft.1,?_,?_,?_⟩
 .show(NK tx _).length<=200;rw[Iz,o4];omega
 .show(NK _ _).length=(NK tx _).length;rw[Iz,Iz,o4];unfold eY;rw[Iz]
 .intro t ht;obtain⟨⟨n,ws⟩,hm,rfl⟩:=List.mem_map.mp ht;obtain⟨_,_,h3,h4⟩:=h.tg _ (gC hm);exact⟨h3,λw hw=>(h4 w hw).1⟩
 .intro p hp;obtain⟨h1,h2⟩:=h.ft.2 p hp;exact⟨h1,λw hw=>⟨(h2 w hw).1.1,(h2 w hw).2⟩⟩
 .intro n hn;obtain⟨l,hl,rfl⟩:=List.mem_map.mp hn;exact⟨l,rfl,by have:=(nn l hl).1;omega⟩
 .intro l hl;obtain⟨l',hl',e⟩:=List.mem_map.mp hl;rw[<-jm e];exact(nn l' hl').2
theorem TxG.fo(h:TxG things feet):u9 (gW (aK things) feet):=⟨λp hp=>by
 obtain⟨h1,h2⟩:=h.ft.2 p hp;exact⟨h1,λw hw=>(h2 w hw).1.run.ws (h2 w hw).2.1 (h2 w hw).2.2⟩⟩
theorem TxG.st(h:TxG things feet):∀t∈(gW (aK things) feet).titles,∀w∈t,RdW w:=λt ht=>by
 obtain⟨⟨n,ws⟩,hm,rfl⟩:=List.mem_map.mp ht;exact(h.tg _ (gC hm)).2.2.2
theorem TxG.nl(h:TxG things feet):(gW (aK things) feet).nums.length=(aK things).length:=by
 show(NK tx _).length=_;rw[Iz,o4];unfold eY;rw[Iz]
theorem TxG.lv(h:TxG things feet):DA (eY (aK things)):=λl hl=>by
 unfold eY at hl;obtain⟨⟨n,ws⟩,hm,rfl⟩:=List.mem_map.mp hl;obtain⟨h1,h2,_⟩:=h.tg _ (gC hm);dsimp only;omega
end
theorem AY{c:Sc}{σ:Ss}{t:Tg}{r:List Tg}:iY c σ (t::r)=(match gR c σ t with|.error x=>.error x|.ok s'=>iY c s' r):=rfl

inductive yt(K:IC)(cls:Xc->Addr)(vs:List V)(H:Hp)(Q:VK)(E:XK):Prop
 |mk(ra:Addr)(fv:V)(rs:List (List Nat))(rws:List Rw)(_:vs=[.ref ra,fv])(_:SqL K H ra ((rs.map tx).map V.str))(_:nj rs rws)(_:rs.length<=200)(_:mT rs0 rws)(_:(rws.map rwN).sum<=500)(_:TxG (aS rs0 rws).things (aS rs0 rws).feet)(_:∀e,ir (gW (aK (aS rs0 rws).things) (aS rs0 rws).feet) (aS rs0 rws).things=.error e->∀H',aj H H'->E (.ref (cls e)) none H')(_:∀σ p H' q tp ma ha us fs hvs,ir (gW (aK (aS rs0 rws).things) (aS rs0 rws).feet) (aS rs0 rws).things=.ok σ->aj H H'->H p=none->H' p=some (.tup [.ref q,.ref ma,.ref ha])->H' q=some (.tup [fv,.ref tp])->lD H H' σ tp us fs->H' ma=some (.dK (mkV σ.ms))->H ma=none->H' ha=some (.lst hvs)->aI (HdA H') hvs σ.hs->H ha=none->tp≠ha->ha∉fs->σ.ws.length<=400->Q (.ref p) H')
theorem iA:aN ["rows","form","read","things","setter","thing"] ["rows","form"] (aw (top 54)):=by walk_at "c"
theorem yu(T:Txt P w K mg a):bi P w K mg base (CXe P w) 8 a.nO a.mK ["rows","form"] (yt K (oS a.dX a.di a.ci a.dj)):=by
 exists T.nG.fn.okE,iA
 obtain⟨ra,fv,rs,rws,rfl,hr_,ar,rl,tw,sm,tx_,qe,q⟩:=h
 exists (ae (av (i:=2) iA.nd rfl (IP rfl) (aC T.nE (yr T) (hM hr) rfl (aa (pv 0) ac)))
   (ae (av (i:=3) iA.nd rfl (IP rfl) (aB aZ (pv 2) ag (λ_ _=>rfl)))
   (ae (av (i:=4) iA.nd rfl (IP rfl) (FW fI T.aD T.kX (ve T) (hM hr) rfl (aa (gc rfl (eW (caps:=[]) (js:=[]) (cap:=trivial)) (bj (pv 3)) (λ_ _ _ _=>(iX (ao bn (aB (r:=kQ K) aZ (pv 0) ag (λ_ _=>rfl)) am (nomark _)))) (λ_ _ _ _=>(pv 0))) (aa (aB aZ (pv 2) ag (λ_ _=>rfl)) ac))))
   (ae (bY KQ rfl (bj (pv 3)) (aJ (i:=5) iA.nd rfl (IP rfl)) (af (bf (dO gi T.aD T.iG (qk T) (hM hr) (pv 4) (aa (pv 5) ac)))))
   (ae (bf (xO gi T.aD T.gH (oE T) (hM hr) (pv 4) ))
   (af (aM (a_ (aa (a_ (aa (pv 1) (aa (xO fI T.aD T.hR (o7 T) (hM hr) (pv 4) ) ac))) (aa (bz (pv 4) rfl) (aa (bz (pv 4) rfl) ac)))))))))))
 refine⟨_,rfl,ra,rs,rws,rfl,hr_,ar,rl,tw,sm,λp1 H1 ta fa tv kvs hp1 s1 k1 nta nfa kta kfa tgs ft=>?_⟩;dsimp only[bA];generalize (aS rs0 rws).things=things at *;generalize (aS rs0 rws).feet=feet at *;have lt:=tgs.len;refine⟨_,rfl,_,_,_,_,rfl,rfl,SqT.of k1,rfl,?_⟩;refine⟨_,rfl,ta,rfl,⟨_,SqL.of kta⟩,dS (K:=K) (a:=ta) (xs:=tv) (λi ys G'=>H1=G'/\ys.length<=i/\aI (HtA H1) ys (aK (things.take i))) ⟨rfl,IM _,trivial⟩ (λi ys G' _ z=>by rw[<-z.1];exact SqL.of kta) ?_ ?_ ?_⟩
 .rintro i ys G' hi ⟨_,z,_⟩;exact ay (by have:=tx_.len;omega)
 .rintro i y ys G' hy ⟨rfl,z,al⟩;obtain⟨t,ht,htg⟩:=tgs.getL hy;have en:aK (things.take (i+1))=aK (things.take i)++aK [t]:=by rw[aT ht,dy]
  cases t with
  |head n ws =>
   obtain⟨b,l,rfl,hb,hl⟩:=htg;refine⟨_,rfl,_,_,_,_,rfl,rfl,SqT.of hb,rfl,rfl,_,rfl,?_⟩;rw[decide_eq_true rfl];left;refine⟨_,rfl,rfl,by rw[IB];simp only[ID,Ja];omega,?_⟩;rw[en];exact al.snoc ⟨b,l,rfl,hb,hl⟩
  |page =>
   obtain⟨b,rfl,hb⟩:=htg;refine⟨_,rfl,_,_,_,_,rfl,rfl,SqT.of hb,rfl,rfl,_,rfl,?_⟩;refine iF (λz=>absurd (V.str.inj z) (by decide +kernel)) ?_;refine⟨rfl,by omega,?_⟩;rw[en];simpa[aK]using al
  |odd =>
   obtain⟨b,rfl,hb⟩:=htg;refine⟨_,rfl,_,_,_,_,rfl,rfl,SqT.of hb,rfl,rfl,_,rfl,?_⟩;refine iF (λz=>absurd (V.str.inj z) (by decide +kernel)) ?_;refine⟨rfl,by omega,?_⟩;rw[en];simpa[aK]using al
  |lst =>
   obtain⟨b,rfl,hb⟩:=htg;refine⟨_,rfl,_,_,_,_,rfl,rfl,SqT.of hb,rfl,rfl,_,rfl,?_⟩;refine iF (λz=>absurd (V.str.inj z) (by decide +kernel)) ?_;refine⟨rfl,by omega,?_⟩;rw[en];simpa[aK]using al
  |par ws =>
   obtain⟨b,l,rfl,hb,hl⟩:=htg;refine⟨_,rfl,_,_,_,_,rfl,rfl,SqT.of hb,rfl,rfl,_,rfl,?_⟩;refine iF (λz=>absurd (V.str.inj z) (by decide +kernel)) ?_;refine⟨rfl,by omega,?_⟩;rw[en];simpa[aK]using al
 rintro hv G' ⟨rfl,z,al⟩ hl hhl;rw[lt,IZ]at al
 exists hhl,H2,s2,k2
 have al2:aI (HtA H2) hv (aK things):=al.imp λv h ⟨b,l,z1,z2,z3⟩=>⟨b,l,z1,s2 _ _ z2,z3.mono s2⟩;have k1':=s2 _ _ k1;have kfa':=s2 _ _ kfa;have kta':=s2 _ _ kta;have tgs2:=gj.mono s2 tgs;have ft2:=ft.mono s2;have s12:=s1.trans s2;refine⟨_,rfl,_,_,_,_,rfl,rfl,SqT.of k1',rfl,λx dx hx hdx ndx=>?_⟩;have sd:=ai hdx (.own x);have hx1:upd H2 dx (.own x) x=none:=by rw[aq (JH ndx)];exact hx
 have s3:=sd.trans (ai hx1 (.ins a.aL dx []));have k3:upd (upd H2 dx (.own x)) x (.ins a.aL dx []) x=some (.ins a.aL dx []):=ah;have nx:H x=none:=s12.free hx;generalize upd (upd H2 dx (.own x)) x (.ins a.aL dx [])=H3 at s3 k3⊢;have al3:aI (HtA H3) hv (aK things):=al2.imp λv h ⟨b,l,z1,z2,z3⟩=>⟨b,l,z1,s3 _ _ z2,z3.mono s3⟩;refine⟨x,dx,hl,fa,hv,aK things,kvs,feet,rfl,k3,s3 _ _ k2,al3,s3 _ _ kfa',ft2.mono s3,tx_.lv,tx_.hs,λH4 A ax f4 S4 fr4=>?_⟩;refine⟨rfl,?_⟩;subst ax;dsimp only[bA];have sG:aj H2 (hid A.os H4):=λb u h=>by
  have h3:=s3 _ _ h;refine br (λz=>?_) (f4 b u (λz=>by rw[z,hx]at h;cases h) h3);simp only[Sad.os,J8,JQ,or_false]at z;rcases z with z|z|z|z
  .rw[z,hx]at h;cases h
  .rw[z,fr4.1]at h3;cases h3
  .rw[z,fr4.2.1]at h3;cases h3
  .rw[z,fr4.2.2]at h3;cases h3
 generalize hid A.os H4=G at sG S4;have sHG:=s12.trans sG;have so:=tx_.sc;have fo:=tx_.fo;have st:=tx_.st;have nl:=tx_.nl;have lt3:=tx_.len;have hs3:=tx_.hs;have ktG:=sG _ _ kta';have tgG:=gj.mono sG tgs2;generalize gW (aK things) feet=c at S4 so fo st nl qe q;have setE:∀e,iY c ss0 things=.error e->ir c things=.error e:=λe h=>by unfold ir;rw[h]
 refine⟨_,rfl,ta,rfl,⟨_,SqL.of (S4.old _ _ ktG)⟩,bZ (K:=K) (a:=ta) (xs:=tv) (λi σ' Hi=>∃(v5:Option V)(σ1:Ss),σ'=[rF ra,some fv,rF p1,rF ta,rF A.x,v5]/\StA a.aL G Hi A c σ1/\iY c ss0 things=iY c σ1 (things.drop i)/\tI c σ1/\σ1.ws.length<=400/\σ1.fs<=σ1.ws.length/\σ1.ms.length<=600*i/\σ1.hs.length=(aK (things.take i)).length) ⟨none,ss0,rfl,S4,rfl,⟨(by intro t ht;cases ht),(by intro t ht;cases ht)⟩,by decide,IM _,IM _,rfl⟩ (λi σ' Hi _ g=>by obtain⟨_,_,_,S,_⟩:=g;exact SqL.of (S.old _ _ ktG)) ?_ ?_⟩
 .rintro i y σ' Hi hy ⟨v5,σ1,rfl,S5,er,ss,wl,fl,ml,hl5⟩;obtain⟨t,ht,htg⟩:=tgG.getL hy;have hi:=(List.getElem?_eq_some_iff.mp ht).1;have ed:things.drop i=t::things.drop (i+1):=by
   obtain⟨hi,e⟩:=List.getElem?_eq_some_iff.mp ht;rw[Js hi,e]
  have tg0:=tx_.tg t (IK ht);have en:aK (things.take (i+1))=aK (things.take i)++aK [t]:=by rw[aT ht,dy]
  have eall:(aK things).length=(aK (things.take i)).length+bE t+(aK (things.drop (i+1))).length:=by
   have:=congrArg (λl=>(aK l).length) (KJ (i+1) things)
   try dsimp only at this
   rw[dy,IB,en,IB,mZ]at this;omega
  have hh:bE t=1->σ1.hs.length<c.nums.length:=λz=>by rw[nl,hl5];omega
  rw[ed,AY]at er;refine⟨_,rfl,_,_,_,rfl,S5.ins,jy (by decide +kernel),_,rfl,A,G,c,σ1,_,t,rfl,S5,so,htg,?_,(by rw[hl5];omega),⟨wl,fl,by omega⟩,λe he H' s'=>qe e (setE e (by rw[er,he])) H' (sHG.trans s'),λσ2 H5 he S6=>?_⟩
  .cases t with
   |head n ws=>exact hh rfl
   |par ws=>exact⟨λw hw=>(tg0.2 w hw).1,tg0.1⟩
   |page=>trivial
   |odd=>trivial
   |lst=>trivial
  .obtain⟨b,bh⟩:=BY so fo st he tg0 hh;rw[he]at er;refine⟨_,σ2,rfl,S6,er,b.ok ss,b.ws wl,b.fs fl,by have:=b.ms;omega,?_⟩;rw[bh,en,IB,mZ,hl5]
 rintro σ' H5 ⟨v5,σ1,rfl,S5,er,ss,wl,fl,ml,hl5⟩;rw[lt]at er hl5;rw[Kk]at er;rw[IZ]at hl5;have er:iY c ss0 things=.ok σ1:=er;refine⟨_,rfl,_,_,_,rfl,S5.ins,jy (by decide +kernel),A,G,c,σ1,rfl,S5,so,ss,wl,λe he H' s'=>qe e (by unfold ir;rw[er];show(match fA c σ1 with|some e=>_|none=>_)=_;rw[he]) H' (sHG.trans s'),λck H6 s6 S6=>?_⟩
 have fin:ir c things=.ok σ1:=by unfold ir;rw[er];show(match fA c σ1 with|some e=>_|none=>_)=_;rw[ck]
 have tel:=F0 ss fo (by rw[hl5,nl]) ck;refine⟨_,rfl,_,rfl,_,_,_,rfl,S6.ins,jy (by decide +kernel),A,G,c,σ1,rfl,S6,tel,wl,λtp H7 us fs s7 T7=>?_⟩;have S7:=S6.same s7;refine⟨le2,λq1 hq1=>?_⟩
 exists hq1,H8,s8,k8
 have S8:=S7.same s8;have T8:=T7.same s8;refine⟨_,rfl,_,_,_,_,_,rfl,S8.ins,T.aD.cl,T.cI,jx,_,rfl,_,_,_,_,_,rfl,S8.ins,T.aD.cl,T.dJ,lY,le3,λp9 hp9=>?_⟩
 exists hp9,H9,s9,k9
 have S9:=S8.same s9;have T9:=(T8.same s9).base (sHG.trans S6.old);have k8':=s9 _ _ k8;have hp9':H p9=none:=(sHG.trans S8.old).free hp9;obtain⟨hvs,h91,h92⟩:=S9.heads;obtain⟨hv6,h61,_⟩:=S6.heads;exact q σ1 p9 H9 q1 tp A.ma A.ha us fs hvs fin (sHG.trans S9.old) hp9' k9 k8' T9 S9.marks (sHG.free (S9.fr _ wV)) h91 (h92.imp λ_ _=>HdA.mono bJ) (sHG.free (S9.fr _ Ao)) (λz=>by have:=T7.new;rw[z,h61]at this;cases this) (λz=>by have:=(T7.fr _ z).1;rw[h61]at this;cases this) wl

def nms(nm:Nat->List Nat)(at_ n:Nat):List (List Nat):=(Kj n).map λi=>nm (at_+i)
theorem vk(nm:Nat->List Nat)(a m n:Nat):nms nm a (m+n)=nms nm a m++nms nm (a+m) n:=by
 unfold nms;rw[List.range_add,IJ,Ki];congr 1;refine Mg λi _=>?_;show nm (a+(m+i))=nm (a+m+i);rw[Km]
def kU(ws:List NWd):List (List Nat):=(ws.filter λw=>decide (w.1=.mark)).map (·.2)
theorem tP(a b:List NWd):kU (a++b)=kU a++kU b:=by unfold kU;rw[JK,IJ]
theorem WdG.mark{nm:Nat->List Nat}{k:Kw}{at_ M F:Nat}{w:NWd}(h:WdG nm k at_ M F w):kU [w]=nms nm at_ (b1 (decide (k=.mark))):=by
 rcases h with⟨rfl,rfl⟩|⟨h1,h2,_⟩|⟨h1,_,h2,_⟩
 .simp[kU,nms,b1]
 .rw[decide_eq_false h1];simp[kU,nms,b1,h2]
 .rw[decide_eq_false h1];simp[kU,nms,b1,h2,h1]
theorem WsR.marks{nm:Nat->List Nat}{M F:Nat}:∀{ws:List (Kw×Int)}{ds:List NWd}{at_:Nat},WsR nm M F at_ ws ds->kU ds=nms nm at_ (mkN ws)
 |[],[],_,_=>rfl
 |k::ws,d::ds,at_,h=>by
  have e:mkN (k::ws)=b1 (decide (k.1=.mark))+mkN ws:=by
   unfold mkN;cases e:decide (k.1=.mark)<;>simp[LZ,e,b1]<;>omega
  rw[e,vk,<-WsR.marks h.2,<-h.1.mark,<-tP];rfl
theorem WsR.mem{nm:Nat->List Nat}{M F:Nat}:∀{ws:List (Kw×Int)}{ds:List NWd}{at_:Nat},WsR nm M F at_ ws ds->∀d∈ds,∃k∈ws,∃a,WdG nm k.1 a M F d
 |[],[],_,_,d,hd=>by cases hd
 |k::ws,x::ds,at_,h,d,hd=>by
  rcases List.mem_cons.mp hd with rfl|hd
  .exact⟨k,IL,at_,h.1⟩
  .obtain⟨k',hk,a,g⟩:=WsR.mem h.2 d hd;exact⟨k',IH _ hk,a,g⟩
theorem WsR.len{nm:Nat->List Nat}{M F:Nat}:∀{ws:List (Kw×Int)}{ds:List NWd}{at_:Nat},WsR nm M F at_ ws ds->ds.length=ws.length
 |[],[],_,_=>rfl
 |_::_,_::_,_,h=>congrArg (·+1) h.2.len
def nW(ns:List bu):List NWd:=ns.flatMap (·.2.2)
theorem e_.marks{nm:Nat->List Nat}{M F:Nat}:∀{rs:List c7}{ns:List bu}{at_ hung:Nat},e_ nm M F at_ hung rs ns->kU (nW ns)=nms nm at_ (cp rs)
 |[],[],_,_,_=>rfl
 |r::rs,n::ns,at_,hung,h=>by
  have e:cp (r::rs)=mkN r.2+cp rs:=by unfold cp;simp
  have e2:nW (n::ns)=n.2.2++nW ns:=by unfold nW;simp
  rw[e,vk,<-e_.marks h.2,e2,tP,h.1.2.2.marks]
theorem e_.mem{nm:Nat->List Nat}{M F:Nat}:∀{rs:List c7}{ns:List bu}{at_ hung:Nat},e_ nm M F at_ hung rs ns->∀n∈ns,∃r∈rs,∃a h,x_ nm M F a h r n
 |[],[],_,_,_,d,hd=>by cases hd
 |r::rs,x::ns,at_,hung,h,d,hd=>by
  rcases List.mem_cons.mp hd with rfl|hd
  .exact⟨r,IL,at_,hung,h.1⟩
  .obtain⟨r',hr,a,g⟩:=e_.mem h.2 d hd;exact⟨r',IH _ hr,a,g⟩
theorem e_.len{nm:Nat->List Nat}{M F:Nat}:∀{rs:List c7}{ns:List bu}{at_ hung:Nat},e_ nm M F at_ hung rs ns->ns.length=rs.length/\(ns.map (·.2.2.length)).sum=(rs.map (·.2.length)).sum
 |[],[],_,_,_=>⟨rfl,rfl⟩
 |r::rs,n::ns,_,_,h=>by
  obtain⟨h1,h2⟩:=h.2.len;refine⟨by simp[h1],?_⟩;rw[IQ,J9,IQ,J9,h2,h.1.2.2.len]
theorem x_.ok{nm:Nat->List Nat}(hn:NmF nm){kds:List Kw}(ke:∀k∈kds,k≠.entry){M F a h:Nat}{r:c7}{n:bu}(g:x_ nm M F a h r n)(ok:At kds r):jL n:=by
 obtain⟨g1,g2,g3⟩:=g;have gl:=g3.len;have kin:∀k∈r.2,k.1≠.entry:=λk hk=>by
  rcases ok.kds k hk with z|z
  .exact ke _ z
  .rw[z];decide
 have wk:∀w∈n.2.2,∃k∈r.2,w.1=k.1\/w.1=.plain:=λw hw=>by
  obtain⟨k,hk,a,z⟩:=g3.mem w hw;refine⟨k,hk,?_⟩;rcases z with⟨z1,z2⟩|⟨_,z,_⟩|⟨_,_,z,_⟩
  .exact .inl (by rw[z2,z1])
  .exact .inr z
  .exact .inl z
 by_cases e:r.1=.words/\r.2=[]
 .rw[if_pos e]at g1;have n0:n.2.2=[]:=by rw[e.2]at gl;exact List.length_eq_zero_iff.mp gl
  exact⟨λ_=>n0,(by rw[n0];simp),(λz=>by rw[g1]at z;cases z),(λz=>by rw[n0];simp),(λz=>by rw[g1]at z;cases z),(by rw[n0];simp)⟩
 .rw[if_neg e]at g1;refine⟨λz=>?_,by rw[gl];have:=ok.len;omega,λz=>?_,λz w hw=>?_,λz=>?_,λw hw=>?_⟩
  .rw[g1]at z;have:=ok.bare z;rw[this]at gl;exact List.length_eq_zero_iff.mp gl
  .rw[g1]at z;intro z2;rw[z2]at gl;exact e ⟨z,List.length_eq_zero_iff.mp gl.symm⟩
  .rw[g1]at z;obtain⟨k,hk,y|y⟩:=wk w hw
   .rw[y];exact ok.head z k hk
   .rw[y];decide
  .rw[g1]at z;rw[if_pos z]at g2;rw[g2];refine⟨hn.name _,hn.len _,hn.sg _,by rw[gl];have:=ok.len;omega,λw hw=>?_⟩;obtain⟨k,hk,y|y⟩:=wk w hw
   .rw[y];exact ok.foot z k hk
   .rw[y];exact⟨by decide,by decide⟩
  .obtain⟨k,hk,a,z⟩:=g3.mem w hw;exact z.ok hn (kin k hk)
theorem EY:∀r∈eD,jL r:=λr hr=>by
 have:r=(.empty,[],[])\/r=(.words,[],[(.plain,[101,110,100])]):=by simpa[eD]using hr
 rcases this with rfl|rfl
 .exact⟨λ_=>rfl,by simp,(λz=>by cases z),(λz=>by cases z),(λz=>by cases z),by simp⟩
 .refine⟨(λz=>by cases z),by simp,λ_=>by simp,(λz=>by cases z),(λz=>by cases z),λw hw=>?_⟩;have:w=(.plain,[101,110,100]):=by simpa using hw
  subst this;exact⟨by show Kw.plain≠Kw.entry;decide,by decide,.inl ⟨rfl,by simp,by simp⟩⟩
theorem md{β:Type}{n:Str}:∀{l:List (Str×β)},n∉l.map (·.1)->lkS n l=none
 |[],_=>rfl
 |(m,j)::r,h=>by
  have h1:m≠n:=λz=>h (by rw[z];exact IL);show(if m=n then some j else lkS n r)=none;rw[if_neg h1];exact md λz=>h (IH _ z)
theorem tQ{β:Type}{n:Str}:∀{l:List (Str×β)},n∈l.map (·.1)->∃k,lkS n l=some k
 |[],h=>by cases h
 |(m,j)::r,h=>by
  by_cases c:m=n
  .exact⟨j,if_pos c⟩
  .rcases List.mem_cons.mp h with z|z
   .exact absurd z.symm c
   .obtain⟨k,e⟩:=tQ z;exact⟨k,by show(if m=n then some j else lkS n r)=_;rw[if_neg c];exact e⟩
theorem vm:∀(ws:List Wk)(n:Nat),∀m∈bv ws n,m.2<=n+aO ws
 |[],_,m,h=>by cases h
 |w::r,n,m,h=>by
  by_cases k:w.1=.mark
  .have ec:aO (w::r)=aO r:=by unfold aO;simp[k]
   have em:bv (w::r) n=(rest w.2,n)::bv r n:=by show(if w.1=.mark then _ else _)=_;rw[if_pos k]
   rw[em]at h;rw[ec];rcases List.mem_cons.mp h with rfl|h
   .exact J5 _ _
   .exact vm r n m h
  .have ec:aO (w::r)=aO r+1:=by unfold aO;simp[k]
   have em:bv (w::r) n=bv r (n+1):=by show(if w.1=.mark then _ else _)=_;rw[if_neg k]
   rw[em]at h;have:=vm r (n+1) m h;omega
theorem oY.rd{d:NWd}(h:oY d):RdW (tL d):=by
 obtain⟨h1,h2,h3⟩:=h;refine⟨.inl ⟨h1,d.2,?_,λc hc=>(h2 c hc).2,rfl⟩,h1⟩;rcases h3 with⟨_,_,l⟩|⟨_,_,l⟩<;>omega
theorem vW{α β:Type}{f:α->β}:∀{l:List α},(∀a∈l,∀b∈l,f a=f b->a=b)->l.Nodup->(l.map f).Nodup
 |[],_,_=>by simp
 |a::l,h,nd=>by
  rw[List.nodup_cons]at nd;rw[IQ,List.nodup_cons];refine⟨λz=>?_,vW (λx hx y hy=>h x (IH _ hx) y (IH _ hy)) nd.2⟩;obtain⟨b,hb,e⟩:=List.mem_map.mp z;have:=h b (IH _ hb) a IL e;rw[this]at hb;exact nd.1 hb
def i9(c:Sc):Nat->List Str->List Wk
 |_,[]=>[]
 |k,n::r=>cj c k n++i9 c (k+1) r
def thW(c:Sc)(h:Nat):Tg->List Wk
 |.head _ _=>(.plain,.str (c.nums.getD h JV))::c.titles.getD h []
 |.lst=>i9 c 0 c.nums
 |.par ws=>ws
 |_=>[]
def thH(c:Sc)(h n:Nat)(t:Tg):List (Str×Nat):=if bE t=1 then[(c.nums.getD h JV,n)]else[]
def cG(c:Sc):Nat->List Tg->List Wk
 |_,[]=>[]
 |h,t::r=>thW c h t++cG c (h+bE t) r
def dU(c:Sc):Nat->Nat->List Tg->List (Str×Nat)
 |_,_,[]=>[]
 |h,n,t::r=>thH c h n t++dU c (h+bE t) (n+aO (thW c h t)) r
theorem m_(ft:List (Str×List Wk)):∀(a:List Wk)(n:Nat),∀p∈cT ft n a,(∃m f,p=(fG m,fG m::f)/\(f=[]\/∃q∈ft,f=q.2))\/(p.1∈a/\p.1.1≠.mark/\p.1.1≠.foot/\p.2=[])
 |[],_,p,h=>by cases h
 |w::a,n,p,h=>by
  have up:(∃m f,p=(fG m,fG m::f)/\(f=[]\/∃q∈ft,f=q.2))\/(p.1∈a/\p.1.1≠.mark/\p.1.1≠.foot/\p.2=[])->(∃m f,p=(fG m,fG m::f)/\(f=[]\/∃q∈ft,f=q.2))\/(p.1∈w::a/\p.1.1≠.mark/\p.1.1≠.foot/\p.2=[]):=λz=>z.imp id λ⟨z1,z2⟩=>⟨IH _ z1,z2⟩;rw[fX]at h;by_cases h1:w.1=.mark
  .rw[if_pos h1]at h;exact up (m_ ft a n p h)
  .rw[if_neg h1]at h;by_cases h2:w.1=.foot
   .rw[if_pos h2]at h;rcases List.mem_cons.mp h with rfl|h
    .refine .inl ⟨_,_,rfl,?_⟩;cases e:lkS (rest w.2) ft with
     |none=>exact .inl rfl
     |some f=>exact .inr ⟨_,lO e,rfl⟩
    .exact up (m_ ft a (n+1) p h)
   .rw[if_neg h2]at h;rcases List.mem_cons.mp h with rfl|h
    .exact .inr ⟨IL,h1,h2,rfl⟩
    .exact up (m_ ft a n p h)
structure AZ(ft:List (Str×List Wk))(σ σ':Ss)(rs:List Wk):Prop where
 ms:σ'.ms=σ.ms++bv rs σ.ws.length
 ws:σ'.ws.map wf=σ.ws.map wf++cT ft σ.fs rs
 fs:σ'.fs=σ.fs+ftC rs
 hs:σ'.hs=σ.hs
theorem tR{c:Sc}{byh:Bool}:∀{ws:List Wk}{σ:Ss}{ld:Int},(∀w∈ws,w.1=.foot->∃f,lkS (rest w.2) c.feet=some f)->((σ.ms++bv ws σ.ws.length).map (·.1)).Nodup->σ.ws.length+aO ws<=400->∃σ',ca c σ ld byh ws=.ok σ'/\AZ c.feet σ σ' ws
 |[],σ,_,_,_,_=>⟨σ,rfl,by simp[bv],by simp[cT],rfl,rfl⟩
 |w::r,σ,ld,hf,nd,hl=>by
  have hr:∀x∈r,x.1=.foot->∃f,lkS (rest x.2) c.feet=some f:=λx hx=>hf x (IH _ hx);rw[lE];rw[fh]at hl;by_cases k:w.1=.mark
  .rw[if_pos k];have em:bv (w::r) σ.ws.length=(rest w.2,σ.ws.length)::bv r σ.ws.length:=by show(if w.1=.mark then _ else _)=_;rw[if_pos k]
   rw[if_pos k]at hl;rw[em]at nd;have nn:lkS (rest w.2) σ.ms=none:=md λz=>by
    rw[IJ,Kh]at nd;exact nd.2.2 _ z _ (by rw[IQ];exact IL) rfl
   have es:eC σ (rest w.2)=.ok { σ with ms:=σ.ms++[(rest w.2,σ.ws.length)] }:=by unfold eC;rw[nn];rfl
   rw[es];obtain⟨σ',e,h1,h2,h3,h4⟩:=tR (σ:={ σ with ms:=σ.ms++[(rest w.2,σ.ws.length)] }) (ld:=ld) hr (by rw[IT];exact nd) (by show σ.ws.length+_<=_;omega);refine⟨σ',e,?_,?_,?_,h4⟩
   .rw[h1,em,IT];rfl
   .rw[h2,fX,if_pos k]
   .rw[h3,l8,if_neg (by rw[k];decide),JT]
  .rw[if_neg k];have em:bv (w::r) σ.ws.length=bv r (σ.ws.length+1):=by show(if w.1=.mark then _ else _)=_;rw[if_neg k]
   rw[if_neg k]at hl;rw[em]at nd;have put:∀(σ1:Ss)(x:Wk)(f:List Wk),σ1.ws=σ.ws->σ1.ms=σ.ms->σ1.hs=σ.hs->cr c σ ld w=ge σ1 ld x f->cT c.feet σ.fs (w::r)=(x,f)::cT c.feet σ1.fs r->σ1.fs=σ.fs+(if w.1=.foot then 1 else 0)->∃σ',(match cr c σ ld w with|.error y=>.error y|.ok s'=>ca c { s' with bh:=byh } 0 byh r)=Except.ok σ'/\AZ c.feet σ σ' (w::r):=λσ1 x f ew emm eh es ef efs=>by
    rw[es];unfold ge;rw[if_neg (by rw[ew];omega)];have step:=λ(t:Wt)(lp:Int)=>tR (c:=c) (byh:=byh) (ws:=r) (σ:={ σ1 with lp:=lp,ws:=σ1.ws++[t],bh:=byh }) (ld:=0) hr (by show((σ1.ms++bv r (σ1.ws++[t]).length).map (·.1)).Nodup;rw[emm,ew,IB];exact nd) (by show(σ1.ws++[t]).length+_<=_;rw[ew,IB];simp only[ID,Ja];omega);obtain⟨σ',e,h1,h2,h3,h4⟩:=step ⟨if 0<σ1.lp then σ1.lp else ld,σ1.bh&&decide ((if 0<σ1.lp then σ1.lp else ld)<=2),x,f⟩ (if 0<σ1.lp then 0 else σ1.lp);refine⟨σ',e,?_,?_,?_,h4.trans eh⟩
    .rw[h1,em];show σ1.ms++bv r (σ1.ws++[_]).length=_;rw[emm,ew,IB];rfl
    .rw[h2,ef];show(σ1.ws++[_]).map _++_=_;rw[ew,IJ,IT];rfl
    .rw[h3,l8];show σ1.fs+_=_;rw[efs];omega
   by_cases k2:w.1=.foot
   .obtain⟨f,ef⟩:=hf w IL k2;refine put { σ with fs:=σ.fs+1 } (fG (σ.fs+1)) (fG (σ.fs+1)::f) rfl rfl rfl ?_ ?_ (by rw[if_pos k2])
    .unfold cr;rw[if_pos k2];unfold gk;rw[ef];rfl
    .rw[fX,if_neg k,if_pos k2,ef];rfl
   .refine put σ w [] rfl rfl rfl ?_ ?_ (by rw[if_neg k2];rfl)
    .unfold cr;rw[if_neg k2]
    .rw[fX,if_neg k,if_neg k2]

def jP(c:Sc)(ws:List Wk):Prop:=∀w∈ws,w.1=.foot->∃f,lkS (rest w.2) c.feet=some f
structure nz(c:Sc)(σ σ':Ss)(rs:List Wk)(hp:List (Str×Nat)):Prop where
 ms:σ'.ms=σ.ms++bv rs σ.ws.length
 ws:σ'.ws.map wf=σ.ws.map wf++cT c.feet σ.fs rs
 fs:σ'.fs=σ.fs+ftC rs
 hs:σ'.hs=σ.hs++hp
theorem AZ.t{c:Sc}{σ σ':Ss}{rs:List Wk}(h:AZ c.feet σ σ' rs):nz c σ σ' rs []:=⟨h.ms,h.ws,h.fs,by rw[h.hs,IY]⟩
theorem nz.len{c:Sc}{σ σ':Ss}{rs:List Wk}{hp:List (Str×Nat)}(h:nz c σ σ' rs hp):σ'.ws.length=σ.ws.length+aO rs:=by
 have:=congrArg LF h.ws;simpa[iz]using this
theorem nz.trans{c:Sc}{σ σ1 σ2:Ss}{a b:List Wk}{p q:List (Str×Nat)}(h:nz c σ σ1 a p)(h2:nz c σ1 σ2 b q):nz c σ σ2 (a++b) (p++q):=
 ⟨by rw[h2.ms,h.ms,h.len,iu,IT],by rw[h2.ws,h.ws,h.fs,kK,IT],by rw[h2.fs,h.fs,zG,Km],by rw[h2.hs,h.hs,IT]⟩
def Two(c:Sc)(x:Except Xc Ss)(σ:Ss)(rs:List Wk)(hp:List (Str×Nat)):Prop:=(σ.ws.length+aO rs<=400/\∃σ',x=.ok σ'/\nz c σ σ' rs hp)\/(400<σ.ws.length+aO rs/\x=.error .toolong)
theorem tS{c:Sc}{byh:Bool}:∀{ws:List Wk}{σ:Ss}{ld:Int},jP c ws->((σ.ms++bv ws σ.ws.length).map (·.1)).Nodup->σ.ws.length<=400->400<σ.ws.length+aO ws->ca c σ ld byh ws=.error .toolong
 |[],σ,_,_,_,h1,h2=>by
  have:aO []=0:=rfl;omega
 |w::r,σ,ld,hf,nd,h1,hl=>by
  have hr:jP c r:=λx hx=>hf x (IH _ hx);rw[lE];rw[fh]at hl;by_cases k:w.1=.mark
  .rw[if_pos k]at hl⊢;have em:bv (w::r) σ.ws.length=(rest w.2,σ.ws.length)::bv r σ.ws.length:=by show(if w.1=.mark then _ else _)=_;rw[if_pos k]
   rw[em]at nd;have nn:lkS (rest w.2) σ.ms=none:=md λz=>by
    rw[IJ,Kh]at nd;exact nd.2.2 _ z _ (by rw[IQ];exact IL) rfl
   have es:eC σ (rest w.2)=.ok { σ with ms:=σ.ms++[(rest w.2,σ.ws.length)] }:=by unfold eC;rw[nn];rfl
   rw[es];exact tS (σ:={ σ with ms:=σ.ms++[(rest w.2,σ.ws.length)] }) (ld:=ld) hr (by rw[IT];exact nd) h1 (by show 400<σ.ws.length+_;omega)
  .rw[if_neg k]at hl⊢;have em:bv (w::r) σ.ws.length=bv r (σ.ws.length+1):=by show(if w.1=.mark then _ else _)=_;rw[if_neg k]
   obtain⟨σ1,x,f,ew,emm,ep⟩:∃(σ1:Ss)(x:Wk)(f:List Wk),σ1.ws=σ.ws/\σ1.ms=σ.ms/\cr c σ ld w=ge σ1 ld x f:=by
    unfold cr;by_cases kf:w.1=.foot
    .obtain⟨f,hf'⟩:=hf w IL kf;exact⟨{ σ with fs:=σ.fs+1 },fG (σ.fs+1),fG (σ.fs+1)::f,rfl,rfl,by rw[if_pos kf];unfold gk;rw[hf'];rfl⟩
    .exact⟨σ,w,[],rfl,rfl,by rw[if_neg kf]⟩
   rw[em]at nd;rw[ep];unfold ge;by_cases e:σ.ws.length=400
   .rw[if_pos (by rw[ew];exact e)]
   .rw[if_neg (by rw[ew];exact e)];have step:=λ(t:Wt)(lp:Int)=>tS (c:=c) (byh:=byh) (ws:=r) (σ:={ σ1 with lp:=lp,ws:=σ1.ws++[t],bh:=byh }) (ld:=0) hr (by show((σ1.ms++bv r (σ1.ws++[t]).length).map (·.1)).Nodup;rw[emm,ew,IB];exact nd) (by show(σ1.ws++[t]).length<=_;rw[ew,IB];simp only[ID,Ja];omega) (by show _<(σ1.ws++[t]).length+_;rw[ew,IB];simp only[ID,Ja];omega);exact step _ _
theorem vn{c:Sc}{byh:Bool}{ws:List Wk}{σ:Ss}{ld:Int}(hf:jP c ws)(nd:((σ.ms++bv ws σ.ws.length).map (·.1)).Nodup)(hl:σ.ws.length<=400):Two c (ca c σ ld byh ws) σ ws []:=by
 by_cases h:σ.ws.length+aO ws<=400
 .obtain⟨σ',e,r⟩:=tR hf nd h;exact .inl ⟨h,σ',e,r.t⟩
 .exact .inr ⟨by omega,tS hf nd hl (by omega)⟩
theorem Two.then{c:Sc}{x:Except Xc Ss}{f:Ss->Except Xc Ss}{σ:Ss}{a b:List Wk}{p q:List (Str×Nat)}(h:Two c x σ a p)(k:∀σ1,nz c σ σ1 a p->σ1.ws.length<=400->Two c (f σ1) σ1 b q):Two c (match(generalizing:=false) x with|.error e=>.error e|.ok s=>f s) σ (a++b) (p++q):=by
 rcases h with⟨h1,σ1,rfl,r1⟩|⟨h1,rfl⟩
 .have l1:=r1.len;rcases k σ1 r1 (by omega)with⟨h2,σ2,e2,r2⟩|⟨h2,e2⟩
  .exact .inl ⟨by rw[fF];omega,σ2,e2,r1.trans r2⟩
  .exact .inr ⟨by rw[fF];omega,e2⟩
 .exact .inr ⟨by rw[fF];omega,rfl⟩
theorem zL{σ:Ss}{a b:List Wk}(nd:((σ.ms++bv (a++b) σ.ws.length).map (·.1)).Nodup):((σ.ms++bv a σ.ws.length).map (·.1)).Nodup:=by
 rw[iu,<-IT,IJ,Kh]at nd;exact nd.1
theorem yv{c:Sc}{σ σ1:Ss}{a b:List Wk}{p:List (Str×Nat)}(r:nz c σ σ1 a p)(nd:((σ.ms++bv (a++b) σ.ws.length).map (·.1)).Nodup):((σ1.ms++bv b σ1.ws.length).map (·.1)).Nodup:=by
 rw[iu,<-IT]at nd;rw[r.ms,r.len];exact nd
theorem jP.left{c:Sc}{a b:List Wk}(h:jP c (a++b)):jP c a:=λw hw=>h w (Ku _ hw)
theorem jP.right{c:Sc}{a b:List Wk}(h:jP c (a++b)):jP c b:=λw hw=>h w (JB _ hw)
theorem yw{c:Sc}:∀{ns:List Str}{k:Nat}{σ:Ss}{ld:Int},jP c (i9 c k ns)->((σ.ms++bv (i9 c k ns) σ.ws.length).map (·.1)).Nodup->σ.ws.length<=400->Two c (fV c σ ld k ns) σ (i9 c k ns) []
 |[],k,σ,ld,_,_,hl=>.inl ⟨hl,σ,rfl,by simp[i9,bv],by simp[i9,cT],rfl,by simp⟩
 |n::r,k,σ,ld,hf,nd,hl=>by
  have e:i9 c k (n::r)=cj c k n++i9 c (k+1) r:=rfl;rw[e]at hf nd⊢;exact Two.then (p:=[]) (q:=[]) (f:=λs=>fV c s 1 (k+1) r) (vn (c:=c) (byh:=false) (ld:=ld) hf.left (zL nd) hl) λσ1 r1 l1=>yw hf.right (yv r1 nd) l1
theorem Cr{c:Sc}{σ:Ss}{t:Tg}(hf:jP c (thW c σ.hs.length t))(nd:((σ.ms++bv (thW c σ.hs.length t) σ.ws.length).map (·.1)).Nodup)(hl:σ.ws.length<=400):Two c (gR c σ t) σ (thW c σ.hs.length t) (thH c σ.hs.length σ.ws.length t):=by
 cases t with
 |page=>exact .inl ⟨hl,_,rfl,by simp[thW,bv],by simp[thW,cT],rfl,by simp[thH,bE]⟩
 |odd=>exact .inl ⟨hl,_,rfl,by simp[thW,bv],by simp[thW,cT],rfl,by simp[thH,bE]⟩
 |lst=>exact yw hf nd hl
 |par ws=>exact vn hf nd hl
 |head n ws =>
  rcases vn (c:=c) (byh:=true) (ld:=2) (σ:={ σ with hs:=σ.hs++[(c.nums.getD σ.hs.length JV,σ.ws.length)] }) hf nd hl with⟨h1,σ',e,r⟩|h
  .refine .inl ⟨h1,σ',e,r.ms,r.ws,r.fs,?_⟩;rw[r.hs,IY];rfl
  .exact .inr h
theorem zM(c:Sc)(h n:Nat)(t:Tg):(thH c h n t).length=bE t:=by cases t<;>rfl
theorem zN{c:Sc}:∀{ts:List Tg}{σ:Ss},jP c (cG c σ.hs.length ts)->((σ.ms++bv (cG c σ.hs.length ts) σ.ws.length).map (·.1)).Nodup->σ.ws.length<=400->Two c (iY c σ ts) σ (cG c σ.hs.length ts) (dU c σ.hs.length σ.ws.length ts)
 |[],σ,_,_,hl=>.inl ⟨hl,σ,rfl,by simp[cG,bv],by simp[cG,cT],rfl,by simp[dU]⟩
 |t::r,σ,hf,nd,hl=>by
  have e:cG c σ.hs.length (t::r)=thW c σ.hs.length t++cG c (σ.hs.length+bE t) r:=rfl;have e2:dU c σ.hs.length σ.ws.length (t::r)=thH c σ.hs.length σ.ws.length t++dU c (σ.hs.length+bE t) (σ.ws.length+aO (thW c σ.hs.length t)) r:=rfl;rw[e]at hf nd⊢;rw[e2];refine Two.then (f:=λs=>iY c s r) (Cr hf.left (zL nd) hl) λσ1 r1 l1=>?_;have el:σ.hs.length+bE t=σ1.hs.length:=by rw[r1.hs,IB,zM]
  have ew:=r1.len;rw[<-ew,el];rw[el]at hf nd;exact zN hf.right (yv r1 nd) l1
def hdN(l:List Tg):Nat:=(aK l).length
theorem mf(t:Tg)(r:List Tg):hdN (t::r)=bE t+hdN r:=by
 unfold hdN;rw[show t::r=[t]++r from rfl,dy,IB,mZ]
theorem yx(c:Sc):∀(a b:List Tg)(h:Nat),cG c h (a++b)=cG c h a++cG c (h+hdN a) b
 |[],b,h=>rfl
 |t::a,b,h=>by
  show thW c h t++cG c (h+bE t) (a++b)=(thW c h t++cG c (h+bE t) a)++_;rw[yx c a b,mf,IT,Km]
theorem pB(c:Sc)(ws:List Wk):∀(l:List Tg)(h:Nat),cG c h (a9 ws l)=cG c h l++ws/\aK (a9 ws l)=aK l
 |[],h=>⟨by simp[a9,cG,thW],rfl⟩
 |[t],h=>by cases t<;>simp[a9,cG,thW,aK]
 |t::u::r,h=>by
  have e:a9 ws (t::u::r)=t::a9 ws (u::r):=by cases t<;>rfl
  obtain⟨h1,h2⟩:=pB c ws (u::r) (h+bE t);rw[e];refine⟨?_,?_⟩
  .show thW c h t++cG c (h+bE t) (a9 ws (u::r))=(thW c h t++cG c (h+bE t) (u::r))++ws;rw[h1,IT]
  .rw[show t::a9 ws (u::r)=[t]++a9 ws (u::r)from rfl,dy,h2,<-dy];rfl
def rwT(c:Sc)(h:Nat):Rw->List Wk
 |.par ws=>ws
 |.head n ws=>thW c h (.head n ws)
 |.lst=>thW c h .lst
 |_=>[]
def rwH:Rw->List (Nat×List Wk)
 |.head n ws=>[(n,ws)]
 |_=>[]
theorem zO(c:Sc)(s:Rs)(w:Rw):cG c 0 (bD s w).things=cG c 0 s.things++rwT c (hdN s.things) w/\aK (bD s w).things=aK s.things++rwH w:=by
 have snoc:∀t:Tg,cG c 0 (s.things++[t])=cG c 0 s.things++thW c (hdN s.things) t:=λt=>by
  rw[yx,JT];show _++(thW c _ t++[])=_;rw[IY]
 cases w with
 |empty=>exact⟨by simp[bD,rwT],by simp[bD,rwH]⟩
 |foot n ws=>exact⟨by simp[bD,rwT],by simp[bD,rwH]⟩
 |page=>exact⟨snoc .page,by show aK (s.things++[.page])=_;rw[dy];rfl⟩
 |odd=>exact⟨snoc .odd,by show aK (s.things++[.odd])=_;rw[dy];rfl⟩
 |lst=>exact⟨snoc .lst,by show aK (s.things++[.lst])=_;rw[dy];rfl⟩
 |head n ws=>exact⟨snoc (.head n ws),by show aK (s.things++[.head n ws])=_;rw[dy];rfl⟩
 |par ws =>
  unfold bD;by_cases g:s.g=true
  .simp only[g,if_true];exact⟨(pB c ws _ _).1,by rw[(pB c ws _ 0).2];exact(IY _).symm⟩
  .rw[J6]at g;simp only[g,LA,if_false];exact⟨snoc (.par ws),by rw[dy];rfl⟩
def i_(c:Sc):Nat->List Rw->List Wk
 |_,[]=>[]
 |h,w::l=>rwT c h w++i_ c (h+(rwH w).length) l
theorem zP(c:Sc):∀(l:List Rw)(s:Rs),cG c 0 (aS s l).things=cG c 0 s.things++i_ c (hdN s.things) l/\aK (aS s l).things=aK s.things++l.flatMap rwH
 |[],s=>⟨by simp[aS,i_],by simp[aS]⟩
 |w::l,s=>by
  obtain⟨a1,a2⟩:=zO c s w;obtain⟨b1,b2⟩:=zP c l (bD s w);refine⟨?_,?_⟩
  .show cG c 0 (aS (bD s w) l).things=_;have e:hdN (bD s w).things=hdN s.things+(rwH w).length:=by unfold hdN;rw[a2,IB]
   rw[b1,a1,e,IT];rfl
  .show aK (aS (bD s w) l).things=_;rw[b2,a2,Ky,IT]

structure ScT(c:Sc)(tt:List Ttl):Prop where
 nums:c.nums=tt.map λt=>tx t.1
 titles:c.titles=tt.map λt=>wkS t.2
theorem ScT.at_{c:Sc}{tt:List Ttl}(h:ScT c tt){k:Nat}{t:Ttl}{r:List Ttl}(e:tt.drop k=t::r):tt.getD k ([],[])=t/\c.nums.getD k JV=tx t.1/\c.titles.getD k []=wkS t.2/\tt.drop (k+1)=r:=by
 have hk:k<tt.length:=by
  by_cases z:k<tt.length
  .exact z
  .rw[K5 (by omega)]at e;cases e
 rw[Js hk]at e;injection e with e1 e2;have g:tt[k]?=some t:=by rw[II hk,e1]
 refine⟨by rw[Jb,g];rfl,by rw[h.nums,Jb,Jc,g];rfl,by rw[h.titles,Jb,Jc,g];rfl,e2⟩
theorem DK(tt:List Ttl)(t:Ttl):iq (wkS t.2)=(ttW t).map (bK tt):=by
 unfold iq wkS ttW;rw[List.filter_map,Ki];rfl
theorem vX{c:Sc}{tt:List Ttl}(h:ScT c tt):∀{l:List Ttl}{k:Nat},tt.drop k=l->i9 c k (l.map λt=>tx t.1)=((List.range' k l.length).flatMap (mW tt)).map (bK tt)
 |[],k,_=>rfl
 |t::l,k,e=>by
  obtain⟨a1,a2,a3,a4⟩:=h.at_ e;show cj c k (tx t.1)++i9 c (k+1) (l.map λt=>tx t.1)=_;rw[vX h a4,ID,List.range'_succ,Ky,IJ];congr 1;unfold cj mW;rw[a3,DK tt,a1,IQ,IJ];show _=((.plain,.str (tx (tt.getD k ([],[])).1))::_:List Wk);rw[a1];rfl
theorem uK{w:Wy}(h:w.hd=true):∃n,1<=n/\n<=3/\cS w=n/\∀(m:List Nat)(ws:List NWd),aX (w,m,ws)=.head n (wkS ws):=by
 cases w<;>first|exact absurd h (by decide)|exact⟨1,by decide,by decide,rfl,λ_ _=>rfl⟩|exact⟨2,by decide,by decide,rfl,λ_ _=>rfl⟩|exact⟨3,by decide,by decide,rfl,λ_ _=>rfl⟩
theorem A1{r:bu}(h:r.1.hd=false):rwH (aX r)=[]:=by
 obtain⟨w,m,ws⟩:=r;cases w<;>first|rfl|exact absurd h (show ¬ (true=false) by decide)
def uL:Nat×Nat×Nat->List Int->List (List Nat)
 |_,[]=>[]
 |c,l::r=>eX (bw c l) l::uL (bw c l) r
theorem Cs:∀(ls:List Int)(c:Nat×Nat×Nat),((Kj ls.length).map λk=>eX ((ls.take (k+1)).foldl bw c) (ls.getD k 0))=uL c ls
 |[],_=>rfl
 |l::r,c=>by
  rw[ID,List.range_succ_eq_map,IQ,Ki];show _::_=eX (bw c l) l::uL (bw c l) r;rw[<-Cs r (bw c l)];rfl
theorem pC:∀(rows:List bu)(q:Nat×Nat×Nat),(a7 q rows).map (·.1)=uL q (eY ((rows.map aX).flatMap rwH))/\(a7 q rows).map (λt=>wkS t.2)=((rows.map aX).flatMap rwH).map (·.2)
 |[],_=>⟨rfl,rfl⟩
 |r::rows,q=>by
  rw[IQ,Ky];cases hh:r.1.hd with
  |true =>
   obtain⟨n,_,_,e1,e2⟩:=uK hh;have e:a7 q (r::rows)=(eX (bw q (cS r.1:Int)) (cS r.1:Int),r.2.2)::a7 (bw q (cS r.1:Int)) rows:=by show(if r.1.hd=true then _ else _)=_;rw[if_pos hh]
   have er:aX r=.head n (wkS r.2.2):=e2 r.2.1 r.2.2;obtain⟨i1,i2⟩:=pC rows (bw q (cS r.1:Int));rw[e,er,IQ,IQ,i1,i2,e1];exact⟨rfl,rfl⟩
  |false =>
   have e:a7 q (r::rows)=a7 q rows:=by show(if r.1.hd=true then _ else _)=_;rw[if_neg (by rw[hh];decide)]
   rw[e,A1 hh];exact pC rows q
theorem GB{rows:List bu}{feet:List (Str×List Wk)}:ScT (gW ((rows.map aX).flatMap rwH) feet) (a7 (0,0,0) rows):=by
 obtain⟨h1,h2⟩:=pC rows (0,0,0);refine⟨?_,h2.symm⟩;show(gp (eY _) (eY _).length).map tx=_;have:gp (eY ((rows.map aX).flatMap rwH)) (eY ((rows.map aX).flatMap rwH)).length=uL (0,0,0) (eY ((rows.map aX).flatMap rwH)):=Cs _ _;rw[this,<-h1,Ki];rfl
theorem yy(c:Sc):∀(a b:List Tg)(h n:Nat),dU c h n (a++b)=dU c h n a++dU c (h+hdN a) (n+aO (cG c h a)) b
 |[],b,h,n=>rfl
 |t::a,b,h,n=>by
  show thH c h n t++dU c (h+bE t) (n+aO (thW c h t)) (a++b)=(thH c h n t++dU c (h+bE t) (n+aO (thW c h t)) a)++dU c _ (n+aO (thW c h t++cG c (h+bE t) a)) b;rw[yy c a b,mf,fF,IT,Km,Km]
theorem yz(c:Sc)(ws:List Wk):∀(l:List Tg)(h n:Nat),dU c h n (a9 ws l)=dU c h n l
 |[],h,n=>rfl
 |[t],h,n=>by cases t<;>rfl
 |t::u::r,h,n=>by
  have e:a9 ws (t::u::r)=t::a9 ws (u::r):=by cases t<;>rfl
  rw[e];show thH c h n t++dU c (h+bE t) (n+aO (thW c h t)) (a9 ws (u::r))=_;rw[yz c ws (u::r)];rfl
def rwP(c:Sc)(h n:Nat):Rw->List (Str×Nat)
 |.head _ _=>[(c.nums.getD h JV,n)]
 |_=>[]
def A2(c:Sc):Nat->Nat->List Rw->List (Str×Nat)
 |_,_,[]=>[]
 |h,n,w::l=>rwP c h n w++A2 c (h+(rwH w).length) (n+aO (rwT c h w)) l
theorem EZ(c:Sc)(s:Rs)(w:Rw):dU c 0 0 (bD s w).things=dU c 0 0 s.things++rwP c (hdN s.things) (aO (cG c 0 s.things)) w:=by
 have snoc:∀t:Tg,dU c 0 0 (s.things++[t])=dU c 0 0 s.things++thH c (hdN s.things) (aO (cG c 0 s.things)) t:=λt=>by
  rw[yy,JT,JT];show _++(thH c _ _ t++[])=_;rw[IY]
 cases w with
 |empty=>exact(IY _).symm
 |foot n ws=>exact(IY _).symm
 |page=>exact snoc .page
 |odd=>exact snoc .odd
 |lst=>exact snoc .lst
 |head n ws=>exact snoc (.head n ws)
 |par ws =>
  unfold bD;by_cases g:s.g=true
  .simp only[g,if_true];rw[yz];exact(IY _).symm
  .rw[J6]at g;simp only[g,LA,if_false];exact snoc (.par ws)
theorem Ct(tt:List Ttl):∀ss:List Sw,aO (ss.map (bK tt))=swN ss
 |[]=>rfl
 |s::ss=>by
  rw[IQ,fh,Ct tt ss];unfold swN;by_cases h:s.isM=true
  .rw[if_pos ((j7 tt s).mpr h)];simp[h]
  .rw[if_neg (λz=>h ((j7 tt s).mp z))];simp[h];omega
theorem kN(tt:List Ttl):∀(a b:List Sw)(n:Nat),cK tt (a++b) n=cK tt a n++cK tt b (n+swN a)
 |[],b,n=>rfl
 |s::a,b,n=>by
  have e:∀x:Nat,swN (s::a)=(if s.isM then 0 else 1)+swN a:=λ_=>by
   unfold swN;cases h:s.isM<;>simp[h];omega
  rw[K1,e 0];cases s with
  |head k =>
   show(_,n)::cK tt (a++b) (n+1)=(_,n)::cK tt a (n+1)++_;rw[kN tt a b,K1,Km];rfl
  |w x =>
   show cK tt (a++b) (n+(if(Sw.w x).isM then 0 else 1))=cK tt a (n+(if(Sw.w x).isM then 0 else 1))++_;rw[kN tt a b,Km]
  |entry k =>
   show cK tt (a++b) (n+(if(Sw.entry k).isM then 0 else 1))=cK tt a (n+(if(Sw.entry k).isM then 0 else 1))++_;rw[kN tt a b,Km]
  |goal k =>
   show cK tt (a++b) (n+(if(Sw.goal k).isM then 0 else 1))=cK tt a (n+(if(Sw.goal k).isM then 0 else 1))++_;rw[kN tt a b,Km]
theorem jQ(tt:List Ttl):∀(a:List Sw)(n:Nat),(∀k,.head k∉a)->cK tt a n=[]
 |[],_,_=>rfl
 |s::a,n,h=>by
  have h2:∀k,.head k∉a:=λk z=>h k (IH _ z);cases s with
  |head k=>exact absurd IL (h k)
  |w x=>exact jQ tt a _ h2
  |entry k=>exact jQ tt a _ h2
  |goal k=>exact jQ tt a _ h2
theorem sV(tt:List Ttl)(n k:Nat):.head k∉fW tt n:=λz=>by
 unfold fW at z;obtain⟨j,_,z⟩:=List.mem_flatMap.mp z;unfold mW ttW at z;simp at z
theorem yA{c:Sc}{tt:List Ttl}(hc:ScT c tt){r:bu}{rows:List bu}{q:Nat×Nat×Nat}{h:Nat}(e:tt.drop h=a7 q (r::rows)):rwT c h (aX r)=(fb tt h r).map (bK tt)/\(∃q',tt.drop (h+hB r.1.hd)=a7 q' rows)/\(rwH (aX r)).length=hB r.1.hd/\∀n,rwP c h n (aX r)=cK tt (fb tt h r) n:=by
 cases hh:r.1.hd with
 |true =>
  obtain⟨n,_,_,e1,e2⟩:=uK hh;have e:tt.drop h=(eX (bw q (cS r.1:Int)) (cS r.1:Int),r.2.2)::a7 (bw q (cS r.1:Int)) rows:=by rw[e];show(if r.1.hd=true then _ else _)=_;rw[if_pos hh]
  obtain⟨a1,a2,a3,a4⟩:=hc.at_ e;have er:aX r=.head n (wkS r.2.2):=e2 r.2.1 r.2.2;have hw:r.1≠.words:=λz=>by rw[z]at hh;cases hh
  have es:fb tt h r=.head h::r.2.2.map .w:=by unfold fb;rw[if_neg hw,if_pos hh]
  rw[er,es];refine⟨?_,⟨_,a4⟩,rfl,λn=>?_⟩
  .show((.plain,.str (c.nums.getD h JV))::c.titles.getD h [])=_;rw[a2,a3,IQ,Ki];show _=(((.plain,.str (tx (tt.getD h ([],[])).1))::wkS r.2.2:List Wk));rw[a1]
  .show[(c.nums.getD h JV,n)]=(tx (tt.getD h ([],[])).1,n)::cK tt (r.2.2.map .w) (n+1);rw[a2,a1,jQ];intro k z;obtain⟨_,_,z⟩:=List.mem_map.mp z;cases z
 |false =>
  have e:tt.drop h=a7 q rows:=by rw[e];show(if r.1.hd=true then _ else _)=_;rw[if_neg (by rw[hh];decide)]
  refine⟨?_,⟨q,e⟩,by rw[A1 hh];rfl,?_⟩
  .unfold fb;obtain⟨w,m,ws⟩:=r;cases w with
   |words=>rw[if_pos rfl,Ki];rfl
   |lst =>
    show i9 c 0 c.nums=(fW tt tt.length).map (bK tt);rw[hc.nums,vX hc (l:=tt) (k:=0) rfl];unfold fW;rw[List.range_eq_range']
   |empty=>rfl
   |page=>rfl
   |odd=>rfl
   |foot=>rfl
   |h1=>cases hh
   |h2=>cases hh
   |h3=>cases hh
  .intro n;have nh:∀k,.head k∉fb tt h r:=λk z=>by
    unfold fb at z;by_cases c1:r.1=.words
    .rw[if_pos c1]at z;obtain⟨_,_,z⟩:=List.mem_map.mp z;cases z
    .rw[if_neg c1,if_neg (by rw[hh];decide)]at z;by_cases c2:r.1=.lst
     .rw[if_pos c2]at z;exact sV tt _ k z
     .rw[if_neg c2]at z;cases z
   rw[jQ tt _ _ nh];obtain⟨w,m,ws⟩:=r;cases w<;>first|rfl|cases hh
theorem uM{c:Sc}{tt:List Ttl}(hc:ScT c tt):∀{rows:List bu}{q:Nat×Nat×Nat}{h:Nat},tt.drop h=a7 q rows->i_ c h (rows.map aX)=(cM tt h rows).map (bK tt)
 |[],_,_,_=>rfl
 |r::rows,q,h,e=>by
  obtain⟨a1,⟨q',a2⟩,a3,_⟩:=yA hc e;show rwT c h (aX r)++i_ c (h+(rwH (aX r)).length) (rows.map aX)=(fb tt h r++cM tt (h+hB r.1.hd) rows).map (bK tt);rw[IJ,a1,a3,uM hc a2]
theorem yB{c:Sc}{tt:List Ttl}(hc:ScT c tt):∀{rows:List bu}{q:Nat×Nat×Nat}{h n:Nat},tt.drop h=a7 q rows->A2 c h n (rows.map aX)=cK tt (cM tt h rows) n
 |[],_,_,_,_=>rfl
 |r::rows,q,h,n,e=>by
  obtain⟨a1,⟨q',a2⟩,a3,a4⟩:=yA hc e;show rwP c h n (aX r)++A2 c (h+(rwH (aX r)).length) (n+aO (rwT c h (aX r))) (rows.map aX)=cK tt (fb tt h r++cM tt (h+hB r.1.hd) rows) n;rw[a4,a3,a1,Ct,kN,yB hc a2]
theorem yC(c:Sc):∀(ts:List Tg)(h n:Nat),(dU c h n ts).length=hdN ts
 |[],_,_=>rfl
 |t::ts,h,n=>by
  show(thH c h n t++dU c _ _ ts).length=_;rw[IB,zM,yC c ts,mf]
theorem vo(c:Sc):∀(ts:List Tg)(h n k:Nat),k<hdN ts->∃m,(dU c h n ts)[k]?=some (c.nums.getD (h+k) JV,m)
 |[],_,_,k,hk=>absurd hk (Me _)
 |t::ts,h,n,k,hk=>by
  rw[mf]at hk;show ∃m,(thH c h n t++dU c (h+bE t) (n+aO (thW c h t)) ts)[k]?=_;cases e:bE t with
  |zero =>
   rw[e]at hk;have:thH c h n t=[]:=by unfold thH;rw[e];rfl
   rw[this,M0];exact vo c ts h _ k (by omega)
  |succ i =>
   have i0:bE t=1:=by cases t<;>first|rfl|cases e
   have hi:i=0:=by omega
   subst hi;have:thH c h n t=[(c.nums.getD h JV,n)]:=by unfold thH;rw[if_pos i0]
   rw[this];cases k with
   |zero=>exact⟨n,rfl⟩
   |succ k =>
    obtain⟨m,z⟩:=vo c ts (h+1) (n+aO (thW c h t)) k (by omega);exact⟨m,by rw[show h+(k+1)=h+1+k by omega];exact z⟩
theorem oF:∀{rows:List bu}{q:Nat×Nat×Nat}{t:Ttl},t∈a7 q rows->∃r∈rows,r.1.hd=true/\t.2=r.2.2
 |[],_,_,h=>by cases h
 |r::rows,q,t,h=>by
  by_cases hh:r.1.hd=true
  .have e:a7 q (r::rows)=(eX (bw q (cS r.1:Int)) (cS r.1:Int),r.2.2)::a7 (bw q (cS r.1:Int)) rows:=by show(if r.1.hd=true then _ else _)=_;rw[if_pos hh]
   rw[e]at h;rcases List.mem_cons.mp h with rfl|h
   .exact⟨r,IL,hh,rfl⟩
   .obtain⟨r',a,b⟩:=oF h;exact⟨r',IH _ a,b⟩
  .have e:a7 q (r::rows)=a7 q rows:=by show(if r.1.hd=true then _ else _)=_;rw[if_neg hh]
   rw[e]at h;obtain⟨r',a,b⟩:=oF h;exact⟨r',IH _ a,b⟩
def DL(tt:List Ttl)(rows:List bu):Sw->Prop
 |.w x=>(∃r∈rows,x∈r.2.2)\/(x.1≠.mark/\∃t∈tt,x∈t.2)
 |.head _=>True
 |.entry k=>k<tt.length
 |.goal k=>k<tt.length
theorem D6{tt:List Ttl}:∀{rows:List bu}{h:Nat},∀s∈cM tt h rows,DL tt rows s
 |[],_,s,hs=>by cases hs
 |r::rows,h,s,hs=>by
  have hs:s∈fb tt h r++cM tt (h+hB r.1.hd) rows:=hs;rcases List.mem_append.mp hs with hs|hs
  .have wd:s∈r.2.2.map Sw.w->DL tt (r::rows) s:=λz=>by
    obtain⟨x,hx,rfl⟩:=List.mem_map.mp z;exact .inl ⟨r,IL,hx⟩
   unfold fb at hs;by_cases c1:r.1=.words
   .rw[if_pos c1]at hs;exact wd hs
   .rw[if_neg c1]at hs;by_cases c2:r.1.hd=true
    .rw[if_pos c2]at hs;rcases List.mem_cons.mp hs with rfl|hs
     .exact trivial
     .exact wd hs
    .rw[if_neg c2]at hs;by_cases c3:r.1=.lst
     .rw[if_pos c3]at hs;unfold fW at hs;obtain⟨k,hk,hs⟩:=List.mem_flatMap.mp hs;have hk:=List.mem_range.mp hk;unfold mW at hs;rcases List.mem_cons.mp hs with rfl|hs
      .exact hk
      .rcases List.mem_append.mp hs with hs|hs
       .unfold ttW at hs;obtain⟨x,hx,rfl⟩:=List.mem_map.mp hs;obtain⟨h1,h2⟩:=List.mem_filter.mp hx;refine .inr ⟨by simpa using h2,tt.getD k ([],[]),?_,h1⟩;rw[Jb,II hk];exact List.getElem_mem hk
       .rw[List.mem_singleton.mp hs];exact hk
     .rw[if_neg c3]at hs;cases hs
  .have:=D6 s hs;cases s with
   |w x =>
    rcases this with⟨r',a,b⟩|z
    .exact .inl ⟨r',IH _ a,b⟩
    .exact .inr z
   |head k=>exact trivial
   |entry k=>exact this
   |goal k=>exact this
theorem vp:∀(ws:List Wk)(n:Nat),(bv ws n).map (·.1)=(ws.filter λw=>decide (w.1=.mark)).map λ(w:Wk)=>(Tl.rest w.2)
 |[],_=>rfl
 |w::r,n=>by
  by_cases h:w.1=.mark
  .have e1:bv (w::r) n=(rest w.2,n)::bv r n:=by show(if w.1=.mark then _ else _)=_;rw[if_pos h]
   rw[e1,IQ,vp r n];simp[h]
  .have e1:bv (w::r) n=bv r (n+1):=by show(if w.1=.mark then _ else _)=_;rw[if_neg h]
   rw[e1,vp r (n+1)];simp[h]

theorem zQ(c:Sc):∀(l:List Rw)(s:Rs),dU c 0 0 (aS s l).things=dU c 0 0 s.things++A2 c (hdN s.things) (aO (cG c 0 s.things)) l
 |[],s=>(IY _).symm
 |w::l,s=>by
  obtain⟨a1,a2⟩:=zO c s w;have i:=zQ c l (bD s w);show dU c 0 0 (aS (bD s w) l).things=_;have e:hdN (bD s w).things=hdN s.things+(rwH w).length:=by unfold hdN;rw[a2,IB]
  rw[i,EZ,e,a1,fF,IT];rfl
def TgR:Tg->Prop
 |.head n ws=>1<=n/\n<=3/\ws.length<=130/\∀w∈ws,RdW w
 |.par ws=>∀w∈ws,RdW w
 |_=>True
def RwG:Rw->Prop
 |.head n ws=>1<=n/\n<=3/\ws.length<=130/\∀w∈ws,RdW w
 |.par ws=>∀w∈ws,RdW w
 |_=>True
theorem uN{ws:List Wk}(hw:∀w∈ws,RdW w):∀{l:List Tg},(∀t∈l,TgR t)->∀t∈a9 ws l,TgR t
 |[],_,t,ht=>by
  rw[show a9 ws []=[.par ws]from rfl,Mw]at ht;subst ht;exact hw
 |[u],h,t,ht=>by
  have hu:=h u IL;cases u<;>simp[a9]at ht<;>first|(subst ht;exact λw hw'=>(List.mem_append.mp hw').elim (hu w) (hw w))|(rcases ht with rfl|rfl<;>first|exact hu|exact hw)
 |t::u::r,h,x,hx=>by
  have e:a9 ws (t::u::r)=t::a9 ws (u::r):=by cases t<;>rfl
  rw[e]at hx;rcases List.mem_cons.mp hx with rfl|hx
  .exact h _ IL
  .exact uN hw (λy hy=>h y (IH _ hy)) x hx
theorem zR:∀{l:List Rw}{s:Rs},(∀w∈l,RwG w)->(∀t∈s.things,TgR t)->∀t∈(aS s l).things,TgR t
 |[],_,_,h=>h
 |w::l,s,hl,h=>by
  refine zR (l:=l) (s:=bD s w) (λx hx=>hl x (IH _ hx)) ?_;have g:=hl w IL;have snoc:∀u:Tg,TgR u->∀t∈s.things++[u],TgR t:=λu hu t ht=>by
   rcases List.mem_append.mp ht with ht|ht
   .exact h t ht
   .rw[List.mem_singleton.mp ht];exact hu
  cases w with
  |empty=>exact h
  |foot n ws=>exact h
  |page=>exact snoc _ trivial
  |odd=>exact snoc _ trivial
  |lst=>exact snoc _ trivial
  |head n ws=>exact snoc (.head n ws) g
  |par ws =>
   unfold bD;by_cases e:s.g=true
   .simp only[e,if_true];exact uN g h
   .rw[J6]at e;simp only[e,LA,if_false];exact snoc (.par ws) g
theorem Cu{t:Tg}:∀{l:List Tg},t∈l->tgN t<=tgS l
 |[],h=>by cases h
 |u::l,h=>by
  have e:tgS (u::l)=tgN u+tgS l:=by unfold tgS;simp
  rcases List.mem_cons.mp h with rfl|h
  .omega
  .have:=Cu h;omega

def mkF(ws:List Wk):List Wk:=ws.filter λw=>decide (w.1=.mark)
theorem vq(a b:List Wk):mkF (a++b)=mkF a++mkF b:=JK _ _
theorem Cv{c:Sc}:∀(ns:List Str)(k:Nat),mkF (i9 c k ns)=[]
 |[],_=>rfl
 |n::r,k=>by
  show mkF (cj c k n++i9 c (k+1) r)=[];rw[vq,Cv r,IY];unfold mkF cj iq;rw[List.filter_eq_nil_iff];intro w hw;rcases List.mem_cons.mp hw with rfl|hw
  .show ¬ (decide (Kw.plain=Kw.mark)=true);decide
  .rcases List.mem_append.mp hw with hw|hw
   .simpa using(List.mem_filter.mp hw).2
   .rw[List.mem_singleton.mp hw];show ¬ (decide (Kw.entry=Kw.mark)=true);decide
theorem pE{c:Sc}{tt:List Ttl}(hc:ScT c tt):∀{rows:List bu}{q:Nat×Nat×Nat}{h:Nat},tt.drop h=a7 q rows->(∀r∈rows,r.1≠.words->r.1.hd=false->∀d∈r.2.2,d.1≠.mark)->mkF (i_ c h (rows.map aX))=mkF (wkS (nW rows))
 |[],_,_,_,_=>rfl
 |r::rows,q,h,e,hr=>by
  have e2:wkS (nW (r::rows))=wkS r.2.2++wkS (nW rows):=by unfold nW wkS;simp
  have hr2:=λx hx=>hr x (IH _ hx);have no:r.1≠.words->r.1.hd=false->mkF (wkS r.2.2)=[]:=λh1 h2=>by
   unfold mkF;rw[List.filter_eq_nil_iff];intro w hw;obtain⟨d,hd,rfl⟩:=List.mem_map.mp hw;have:=hr r IL h1 h2 d hd;show ¬ (decide (d.1=.mark)=true);simpa using this
  show mkF (rwT c h (aX r)++i_ c (h+(rwH (aX r)).length) (rows.map aX))=_;rw[e2,vq,vq];cases hh:r.1.hd with
  |true =>
   obtain⟨n,_,_,e1,e3⟩:=uK hh;have e:tt.drop h=(eX (bw q (cS r.1:Int)) (cS r.1:Int),r.2.2)::a7 (bw q (cS r.1:Int)) rows:=by rw[e];show(if r.1.hd=true then _ else _)=_;rw[if_pos hh]
   obtain⟨a1,a2,a3,a4⟩:=hc.at_ e;have er:aX r=.head n (wkS r.2.2):=e3 r.2.1 r.2.2;rw[er,show(rwH (.head n (wkS r.2.2))).length=1 from rfl,pE hc a4 hr2];congr 1;show mkF ((.plain,.str (c.nums.getD h JV))::c.titles.getD h [])=_;rw[a3];rfl
  |false =>
   have e:tt.drop h=a7 q rows:=by rw[e];show(if r.1.hd=true then _ else _)=_;rw[if_neg (by rw[hh];decide)]
   rw[A1 hh,show h+([]:List (Nat×List Wk)).length=h from rfl,pE hc e hr2];congr 1;obtain⟨wy,m,ws⟩:=r;cases wy with
   |words=>rfl
   |lst=>rw[no (show Wy.lst≠Wy.words by decide) rfl];exact Cv _ _
   |h1=>cases hh
   |h2=>cases hh
   |h3=>cases hh
   |empty=>rw[no (show Wy.empty≠Wy.words by decide) rfl];rfl
   |page=>rw[no (show Wy.page≠Wy.words by decide) rfl];rfl
   |odd=>rw[no (show Wy.odd≠Wy.words by decide) rfl];rfl
   |foot=>rw[no (show Wy.foot≠Wy.words by decide) rfl];rfl
theorem yD(c:Sc):∀(a b:List Rw)(h:Nat),∃h',i_ c h (a++b)=i_ c h a++i_ c h' b
 |[],b,h=>⟨h,rfl⟩
 |r::a,b,h=>by
  obtain⟨h',e⟩:=yD c a b (h+(rwH r).length);exact⟨h',by show rwT c h r++i_ c _ (a++b)=(rwT c h r++i_ c _ a)++_;rw[e,IT]⟩

theorem DM(w:Int)(h:Bool):∀l:List Lk,(cB w h l).length=l.length
 |[]=>rfl
 |_::_=>rfl
theorem yE(n:Nat)(byh:Bool):cB 0 byh (cN n 0 byh)=IN n (0,byh):=by
 cases n with
 |zero=>rfl
 |succ n=>rw[cZ];simp[cB,JD]
theorem E1:∀l:List Lk,cB 0 false l=l
 |[]=>rfl
 |_::_=>by simp[cB]
theorem yF{w:Int}{h:Bool}:∀{a b:List Lk},a≠[]->cB w h (a++b)=cB w h a++b
 |[],_,n=>absurd rfl n
 |_::_,_,_=>rfl
abbrev Ps:=Int×Bool
def nxP(s:Ps)(n:Nat)(byh:Bool):Ps:=if n=0 then s else(0,byh)
def OkP(s:Ps):Prop:=s.1=0\/3<=s.1
structure GC(σ σ':Ss)(b:List Lk)(s:Ps):Prop where
 ws:σ'.ws.map lk=σ.ws.map lk++cB σ.lp σ.bh b
 st:(σ'.lp,σ'.bh)=s
 hs:σ'.hs=σ.hs
theorem D7{σ σ':Ss}{ld:Int}{w:Wk}{f:List Wk}(hd:ld<=2)(ok:OkP (σ.lp,σ.bh))(h:ge σ ld w f=.ok σ'):σ'.ws.map lk=σ.ws.map lk++cB σ.lp σ.bh [(ld,false)]/\σ'.lp=0/\σ'.hs=σ.hs:=by
 unfold ge at h;by_cases e:σ.ws.length=400
 .rw[if_pos e]at h;cases h
 rw[if_neg e]at h;cases h;rcases ok with z|z
 .have z:σ.lp=0:=z;refine⟨?_,?_,rfl⟩
  .rw[IJ];simp[lk,cB,z,hd]
  .simp[z]
 .have z:3<=σ.lp:=z;have p:0<σ.lp:=by omega
  refine⟨?_,?_,rfl⟩
  .rw[IJ];simp[lk,cB,p];intro _;omega
  .simp[p]
theorem GD{c:Sc}{σ σ':Ss}{ld:Int}{w:Wk}(hd:ld<=2)(ok:OkP (σ.lp,σ.bh))(h:cr c σ ld w=.ok σ'):σ'.ws.map lk=σ.ws.map lk++cB σ.lp σ.bh [(ld,false)]/\σ'.lp=0/\σ'.hs=σ.hs:=by
 unfold cr at h;by_cases e:w.1=.foot
 .rw[if_pos e]at h;unfold gk at h;cases hf:lkS (rest w.2) c.feet with
  |none=>rw[hf]at h;cases h
  |some f =>
   rw[hf]at h;exact D7 (σ:={ σ with fs:=σ.fs+1 }) hd ok h
 .rw[if_neg e]at h;exact D7 hd ok h
theorem uO{c:Sc}{byh:Bool}:∀{ws:List Wk}{σ σ':Ss}{ld:Int},ld<=2->OkP (σ.lp,σ.bh)->ca c σ ld byh ws=.ok σ'->GC σ σ' (cN (aO ws) ld byh) (nxP (σ.lp,σ.bh) (aO ws) byh)
 |[],σ,σ',ld,_,_,h=>by
  cases h;exact⟨(IY _).symm,rfl,rfl⟩
 |w::r,σ,σ',ld,hd,ok,h=>by
  rw[lE]at h;rw[fh];by_cases k:w.1=.mark
  .rw[if_pos k]at h⊢;rw[JT];unfold eC at h;by_cases n:(lkS (rest w.2) σ.ms).isSome=true
   .rw[if_pos n]at h;cases h
   .rw[if_neg n]at h;obtain⟨a,b,d⟩:=uO (σ:={ σ with ms:=σ.ms++[(rest w.2,σ.ws.length)] }) hd ok h;exact⟨a,b,d⟩
  .rw[if_neg k]at h⊢;cases e:cr c σ ld w with
   |error x=>rw[e]at h;cases h
   |ok σ1 =>
    rw[e]at h;obtain⟨a1,a2,a3⟩:=GD hd ok e;obtain⟨b1,b2,b3⟩:=uO (σ:={ σ1 with bh:=byh }) (ld:=0) (by decide) (.inl a2) h;rw[Mm,cZ];refine⟨?_,?_,b3.trans a3⟩
    .rw[b1,show({ σ1 with bh:=byh }:Ss).lp=0 from a2];show σ1.ws.map lk++cB 0 byh (cN (aO r) 0 byh)=_;rw[a1,yE,IT];rfl
    .rw[b2,show({ σ1 with bh:=byh }:Ss).lp=0 from a2];unfold nxP;rw[if_neg (show ¬ (aO r+1=0) by omega)];by_cases z:aO r=0
     .rw[if_pos z]
     .rw[if_neg z]
theorem OkP.nx{s:Ps}(h:OkP s)(n:Nat)(byh:Bool):OkP (nxP s n byh):=by
 unfold nxP;by_cases e:n=0
 .rw[if_pos e];exact h
 .rw[if_neg e];exact .inl rfl
def lsB(c:Sc)(ld:Int):Nat->List Str->List Lk
 |_,[]=>[]
 |k,n::r=>cN (aO (cj c k n)) ld false++lsB c 1 (k+1) r
theorem vY(c:Sc)(k:Nat)(n:Str):aO (cj c k n)=aO (c.titles.getD k [])+2:=by
 unfold cj;rw[fh,fF,if_neg (show ¬ (Kw.plain=Kw.mark) by decide)];have e:∀l:List Wk,aO (iq l)=aO l:=λl=>by unfold aO iq;rw[List.filter_filter];simp
 rw[e];show 1+(_+1)=_;omega
theorem Cw{c:Sc}:∀{ns:List Str}{k:Nat}{σ σ':Ss}{ld:Int},ld<=2->OkP (σ.lp,σ.bh)->fV c σ ld k ns=.ok σ'->GC σ σ' (lsB c ld k ns) (nxP (σ.lp,σ.bh) ns.length false)
 |[],k,σ,σ',ld,_,_,h=>by
  cases h;exact⟨(IY _).symm,rfl,rfl⟩
 |n::r,k,σ,σ',ld,hd,ok,h=>by
  unfold fV at h;cases e:ca c σ ld false (cj c k n)with
  |error x=>rw[e]at h;cases h
  |ok σ1 =>
   rw[e]at h;obtain⟨a1,a2,a3⟩:=uO hd ok e;have en:=vY c k n;unfold nxP at a2;rw[if_neg (by omega)]at a2;injection a2 with a4 a5;obtain⟨b1,b2,b3⟩:=Cw (k:=k+1) (ld:=1) (by decide) (.inl a4) h;refine⟨?_,?_,b3.trans a3⟩
   .rw[b1,a1,a4,a5,E1,IT];exact congrArg _ (yF (b:=lsB c 1 (k+1) r) (by rw[en,cZ];simp)).symm
   .rw[b2,a4,a5];unfold nxP;rw[if_neg (show ¬ ((n::r).length=0) by simp)];by_cases z:r.length=0
    .rw[if_pos z]
    .rw[if_neg z]
def thB(c:Sc)(h:Nat)(bh:Bool):Tg->List Lk
 |.head _ _=>cN (1+aO (c.titles.getD h [])) 2 true
 |.lst=>lsB c 2 0 c.nums
 |.par ws=>cN (aO ws) (if bh then 1 else 2) false
 |_=>[]
def thN(c:Sc)(s:Ps):Tg->Ps
 |.page=>(if s.1<3 then 3 else s.1,s.2)
 |.odd=>(if s.1<4 then 4 else s.1,s.2)
 |.head _ _=>(0,true)
 |.lst=>nxP s c.nums.length false
 |.par ws=>nxP s (aO ws) false
theorem OkP.th{c:Sc}{s:Ps}(h:OkP s)(t:Tg):OkP (thN c s t):=by
 cases t with
 |page=>rcases h with z|z<;>(refine .inr ?_;show 3<=(if s.1<3 then 3 else s.1);split<;>omega)
 |odd=>rcases h with z|z<;>(refine .inr ?_;show 3<=(if s.1<4 then 4 else s.1);split<;>omega)
 |head n ws=>exact .inl rfl
 |lst=>exact h.nx _ _
 |par ws=>exact h.nx _ _
theorem E3{c:Sc}{σ σ':Ss}{t:Tg}(ok:OkP (σ.lp,σ.bh))(h:gR c σ t=.ok σ'):σ'.ws.map lk=σ.ws.map lk++cB σ.lp σ.bh (thB c σ.hs.length σ.bh t)/\(σ'.lp,σ'.bh)=thN c (σ.lp,σ.bh) t/\σ'.hs.length=σ.hs.length+bE t:=by
 cases t with
 |page=>cases h;exact⟨(IY _).symm,rfl,rfl⟩
 |odd=>cases h;exact⟨(IY _).symm,rfl,rfl⟩
 |lst =>
  obtain⟨a,b,d⟩:=Cw (by decide) ok h;exact⟨a,b,by rw[d];rfl⟩
 |par ws =>
  obtain⟨a,b,d⟩:=uO (by split<;>decide) ok h
  exact⟨a,b,by rw[d];rfl⟩
 |head n ws =>
  obtain⟨a,b,d⟩:=uO (σ:={ σ with hs:=σ.hs++[(c.nums.getD σ.hs.length JV,σ.ws.length)] }) (by decide) ok h;rw[fh,if_neg (show ¬ (Kw.plain=Kw.mark) by decide)]at a b;refine⟨a,?_,by rw[d];simp[bE]⟩;rw[b];unfold nxP;rw[if_neg (by omega)];rfl
def dI(c:Sc):Nat->Ps->List Tg->List Lk
 |_,_,[]=>[]
 |h,s,t::r=>cB s.1 s.2 (thB c h s.2 t)++dI c (h+bE t) (thN c s t) r
def fL(c:Sc):Ps->List Tg->Ps
 |s,[]=>s
 |s,t::r=>fL c (thN c s t) r
theorem D8{c:Sc}:∀{ts:List Tg}{σ σ':Ss},OkP (σ.lp,σ.bh)->iY c σ ts=.ok σ'->σ'.ws.map lk=σ.ws.map lk++dI c σ.hs.length (σ.lp,σ.bh) ts
 |[],σ,σ',_,h=>by cases h;exact(IY _).symm
 |t::r,σ,σ',ok,h=>by
  unfold iY at h;cases e:gR c σ t with
  |error x=>rw[e]at h;cases h
  |ok σ1 =>
   rw[e]at h;obtain⟨a,b,d⟩:=E3 ok e;rw[D8 (by rw[b];exact ok.th t) h,a,b,d,IT];rfl
theorem zS(c:Sc):∀(ns:List Str)(k:Nat)(ld:Int),(lsB c ld k ns).length=aO (i9 c k ns)
 |[],_,_=>rfl
 |n::r,k,ld=>by
  show(cN _ ld false++lsB c 1 (k+1) r).length=aO (cj c k n++i9 c (k+1) r);rw[IB,j_,zS c r,fF]
theorem yG(c:Sc):∀(ts:List Tg)(h:Nat)(s:Ps),(dI c h s ts).length=aO (cG c h ts)
 |[],_,_=>rfl
 |t::r,h,s=>by
  show(cB s.1 s.2 (thB c h s.2 t)++dI c (h+bE t) (thN c s t) r).length=aO (thW c h t++cG c (h+bE t) r);rw[IB,DM,yG c r,fF];congr 1;cases t with
  |page=>rfl
  |odd=>rfl
  |lst=>exact zS c _ _ _
  |par ws=>exact j_ _ _ _
  |head n ws=>show(cN _ _ _).length=aO (_::_);rw[j_,fh,if_neg (show ¬ (Kw.plain=Kw.mark) by decide)]
theorem yH(c:Sc):∀(a b:List Tg)(h:Nat)(s:Ps),dI c h s (a++b)=dI c h s a++dI c (h+hdN a) (fL c s a) b/\fL c s (a++b)=fL c (fL c s a) b
 |[],b,h,s=>⟨rfl,rfl⟩
 |t::a,b,h,s=>by
  obtain⟨i1,i2⟩:=yH c a b (h+bE t) (thN c s t);refine⟨?_,i2⟩;show cB s.1 s.2 (thB c h s.2 t)++dI c (h+bE t) (thN c s t) (a++b)=(cB s.1 s.2 (thB c h s.2 t)++dI c (h+bE t) (thN c s t) a)++_;rw[i1,mf,IT,Km];rfl
def dW:List Tg->Bool
 |[]=>false
 |[.par vs]=>decide (0<aO vs)
 |[_]=>false
 |_::r=>dW r
theorem vZ(t:Tg):∀l:List Tg,dW (l++[t])=dW [t]
 |[]=>rfl
 |[u]=>by cases u<;>rfl
 |u::v::r=>by
  have:=vZ t (v::r);cases u<;>exact this
theorem DN(a b:Nat)(ld:Int):cN (a+1+b) ld false=cN (a+1) ld false++IN b (0,false):=by
 rw[show a+1+b=a+b+1 by omega,cZ,cZ,K1,List.replicate_append_replicate]
theorem yI(c:Sc)(ws:List Wk):∀(l:List Tg)(h:Nat)(s:Ps),dI c h s (a9 ws l)=dI c h s l++cB (fL c s l).1 (fL c s l).2 (cN (aO ws) (if dW l then 0 else if(fL c s l).2 then 1 else 2) false)/\fL c s (a9 ws l)=nxP (fL c s l) (aO ws) false/\dW (a9 ws l)=(dW l||decide (0<aO ws))
 |[],h,s=>by refine⟨?_,rfl,by simp[a9,dW]⟩;simp[a9,dI,thB,fL,dW];rfl
 |[t],h,s=>by
  cases t with
  |par vs =>
   have e:aO (vs++ws)=aO vs+aO ws:=fF _ _;cases hv:aO vs with
   |zero =>
    refine⟨?_,?_,?_⟩
    .simp[a9,dI,thB,fL,dW,e,hv,thN,nxP,cN,cB]
    .simp[a9,fL,thN,e,hv,nxP]
    .simp[a9,dW,e,hv]
   |succ a =>
    refine⟨?_,?_,?_⟩
    .have n1:fL c s [.par vs]=(0,false):=by simp[fL,thN,hv,nxP]
     have g1:dW [.par vs]=true:=by simp[dW,hv]
     rw[n1,g1];show cB s.1 s.2 (cN (aO (vs++ws)) (if s.2 then 1 else 2) false)++[]=(cB s.1 s.2 (cN (aO vs) (if s.2 then 1 else 2) false)++[])++cB 0 false (cN (aO ws) 0 false);rw[e,hv,DN,yE,yF (by rw[cZ];simp),IY,IY]
    .simp[a9,fL,thN,e,hv,nxP]
    .simp[a9,dW,e,hv];omega
  |page=>exact⟨by simp[a9,dI,thB,fL,dW,thN];rfl,rfl,by simp[a9,dW]⟩
  |odd=>exact⟨by simp[a9,dI,thB,fL,dW,thN];rfl,rfl,by simp[a9,dW]⟩
  |lst=>exact⟨by simp[a9,dI,thB,fL,dW,thN];rfl,rfl,by simp[a9,dW]⟩
  |head n us=>exact⟨by simp[a9,dI,thB,fL,dW,thN],rfl,by simp[a9,dW]⟩
 |t::u::r,h,s=>by
  have e:a9 ws (t::u::r)=t::a9 ws (u::r):=by cases t<;>rfl
  have eg:∀v w:Tg,∀l:List Tg,dW (v::w::l)=dW (w::l):=λv w l=>by cases v<;>rfl
  obtain⟨i1,i2,i3⟩:=yI c ws (u::r) (h+bE t) (thN c s t);rw[e,eg];refine⟨?_,i2,?_⟩
  .show cB s.1 s.2 (thB c h s.2 t)++dI c (h+bE t) (thN c s t) (a9 ws (u::r))=_;rw[i1,<-IT];rfl
  .rw[<-i3];cases hh:a9 ws (u::r)with
   |nil=>exfalso;revert hh;cases u<;>cases r<;>simp[a9]
   |cons v l=>exact eg _ _ _

theorem Cy{c:Sc}{tt:List Ttl}(h:ScT c tt):∀{l:List Ttl}{k:Nat}{ld:Int},tt.drop k=l->lsB c ld k (l.map λt=>tx t.1)=lsT ld l
 |[],k,ld,_=>rfl
 |t::l,k,ld,e=>by
  obtain⟨a1,a2,a3,a4⟩:=h.at_ e;show cN (aO (cj c k (tx t.1))) ld false++lsB c 1 (k+1) (l.map λt=>tx t.1)=_;rw[vY,a3,Cy h a4];rfl
structure InL(c:Sc)(s:Rs)(L:Lds):Prop where
 st:fL c (0,false) s.things=(L.wait,L.hd)
 go:L.go=(s.g&&dW s.things)
 ok:OkP (L.wait,L.hd)
theorem Cz{c:Sc}{tt:List Ttl}(hc:ScT c tt):∀{rows:List bu}{s:Rs}{L:Lds}{q:Nat×Nat×Nat},InL c s L->tt.drop (hdN s.things)=a7 q rows->dI c 0 (0,false) (aS s (rows.map aX)).things=dI c 0 (0,false) s.things++fJ tt L rows
 |[],s,L,q,_,_=>(IY _).symm
 |r::rows,s,L,q,I,e=>by
  have fin:∀(b:List Lk)(L':Lds)(s':Rs),s'=bD s (aX r)->dI c 0 (0,false) s'.things=dI c 0 (0,false) s.things++b->InL c s' L'->(∃q',tt.drop (hdN s'.things)=a7 q' rows)->dI c 0 (0,false) (aS s ((r::rows).map aX)).things=dI c 0 (0,false) s.things++(b++fJ tt L' rows):=λb L' s' es eb I' ⟨q',eq⟩=>by
   rw[IQ];show dI c 0 (0,false) (aS (bD s (aX r)) (rows.map aX)).things=_;rw[<-es,Cz hc I' eq,eb,IT]
  have snoc:∀t:Tg,dI c 0 (0,false) (s.things++[t])=dI c 0 (0,false) s.things++cB L.wait L.hd (thB c (hdN s.things) L.hd t)/\fL c (0,false) (s.things++[t])=thN c (L.wait,L.hd) t/\hdN (s.things++[t])=hdN s.things+bE t:=λt=>by
   obtain⟨h1,h2⟩:=yH c s.things [t] 0 (0,false);rw[h1,h2,I.st,JT];refine⟨?_,rfl,?_⟩
   .show _++(cB L.wait L.hd (thB c (hdN s.things) L.hd t)++[])=_;rw[IY]
   .unfold hdN;rw[dy,IB,mZ]
  have noh:r.1.hd=false->tt.drop (hdN s.things)=a7 q rows:=λhh=>by rw[e];show(if r.1.hd=true then _ else _)=_;rw[if_neg (by rw[hh];decide)]
  obtain⟨w,m,ws⟩:=r;have eqL:∀L':Lds,ldN tt L (w,m,ws)=L'->cB (ldW L.wait (w,m,ws)) L.hd (ldB tt L (w,m,ws))++fJ tt L' rows=fJ tt L ((w,m,ws)::rows):=λL' z=>by rw[<-z];rfl
  have hdr:w.hd=true->ldB tt L (w,m,ws)=cN (1+sz ws) 2 true/\ldW L.wait (w,m,ws)=L.wait/\w≠.foot/\w≠.words:=λhh=>by cases w<;>first|exact⟨rfl,rfl,by decide,by decide⟩|exact absurd hh (by decide)
  cases hw:w.hd with
  |true =>
   obtain⟨n,_,_,e1,e2⟩:=uK hw;obtain⟨d1,d2,d3,d4⟩:=hdr hw;have er:aX (w,m,ws)=.head n (wkS ws):=e2 m ws;have e':tt.drop (hdN s.things)=(eX (bw q (cS w:Int)) (cS w:Int),ws)::a7 (bw q (cS w:Int)) rows:=by rw[e];show(if w.hd=true then _ else _)=_;rw[if_pos hw]
   obtain⟨a1,a2,a3,a4⟩:=hc.at_ e';obtain⟨b1,b2,b3⟩:=snoc (.head n (wkS ws));have nL:ldN tt L (w,m,ws)=⟨0,true,false⟩:=by
    unfold ldN;rw[d1,o5,decide_eq_false (by omega)];simp[hw,d3,d4]
   rw[<-eqL _ nL];refine fin _ _ { s with things:=s.things++[.head n (wkS ws)],g:=false } (by rw[er];rfl) ?_ ⟨b2,rfl,.inl rfl⟩ ⟨_,by rw[b3];exact a4⟩;rw[b1,d1,d2];show _++cB _ _ (cN (1+aO (c.titles.getD (hdN s.things) [])) 2 true)=_;rw[a3];rfl
  |false =>
   have e0:=noh hw;cases w with
   |h1=>cases hw
   |h2=>cases hw
   |h3=>cases hw
   |empty=>exact fin [] (ldN tt L (.empty,m,ws)) { s with g:=false } rfl (IY _).symm ⟨I.st,rfl,I.ok⟩ ⟨_,e0⟩
   |foot=>exact fin [] (ldN tt L (.foot,m,ws)) { s with feet:=s.feet++[(tx m,wkS ws)] } rfl (IY _).symm ⟨I.st,I.go,I.ok⟩ ⟨_,e0⟩
   |page =>
    obtain⟨b1,b2,b3⟩:=snoc .page;exact fin [] (ldN tt L (.page,m,ws)) { s with things:=s.things++[.page],g:=false } rfl b1 ⟨b2,rfl,by have:=I.ok.th (c:=c) .page;exact this⟩ ⟨q,by rw[b3];exact e0⟩
   |odd =>
    obtain⟨b1,b2,b3⟩:=snoc .odd;exact fin [] (ldN tt L (.odd,m,ws)) { s with things:=s.things++[.odd],g:=false } rfl b1 ⟨b2,rfl,by have:=I.ok.th (c:=c) .odd;exact this⟩ ⟨q,by rw[b3];exact e0⟩
   |lst =>
    obtain⟨b1,b2,b3⟩:=snoc .lst;have el:thB c (hdN s.things) L.hd .lst=lsT 2 tt:=by
     show lsB c 2 0 c.nums=_;rw[hc.nums];exact Cy hc rfl
    have em:(lsT 2 tt).isEmpty=decide (c.nums.length=0):=by
     rw[hc.nums,Iz];cases tt with
     |nil=>rfl
     |cons t r=>show(cN (sz t.2+2) 2 false++lsT 1 r).isEmpty=_;rw[cZ];rfl
    have ed:ldB tt L (.lst,m,ws)=lsT 2 tt:=rfl;refine fin _ (ldN tt L (.lst,m,ws)) { s with things:=s.things++[.lst],g:=false } rfl (by rw[b1,el];rfl) ⟨?_,rfl,?_⟩ ⟨q,by rw[b3];exact e0⟩
    .rw[b2];unfold ldN;rw[ed,em];unfold thN nxP;by_cases z:c.nums.length=0
     .simp[z];rfl
     .simp[z];rfl
    .unfold ldN;rw[ed];cases (lsT 2 tt).isEmpty with
     |true=>exact I.ok
     |false=>exact .inl rfl
   |words =>
    have ec:aO (wkS ws)=sz ws:=rfl;have ed:ldB tt L (.words,m,ws)=cN (sz ws) (if L.go then 0 else if L.hd then 1 else 2) false:=rfl;have okN:OkP ((ldN tt L (.words,m,ws)).wait,(ldN tt L (.words,m,ws)).hd):=by
     unfold ldN;cases (ldB tt L (.words,m,ws)).isEmpty with
     |true=>exact I.ok
     |false=>exact .inl rfl
    have stN:nxP (L.wait,L.hd) (sz ws) false=((ldN tt L (.words,m,ws)).wait,(ldN tt L (.words,m,ws)).hd):=by
     unfold ldN nxP;rw[ed,o5];by_cases z:sz ws=0
     .simp[z];rfl
     .simp[z];rfl
    have goN:(ldN tt L (.words,m,ws)).go=(L.go||decide (0<sz ws)):=by
     unfold ldN;rw[ed,o5];by_cases z:sz ws=0<;>simp[z]
     omega
    by_cases g:s.g=true
    .have gl:L.go=dW s.things:=by rw[I.go,g];rfl
     obtain⟨b1,b2,b3⟩:=yI c (wkS ws) s.things 0 (0,false);have eh:=(pB c (wkS ws) s.things 0).2;rw[I.st]at b1 b2;refine fin _ (ldN tt L (.words,m,ws)) { s with things:=a9 (wkS ws) s.things } ?_ ?_ ⟨?_,?_,okN⟩ ⟨q,?_⟩
     .show _=bD s (.par (wkS ws));unfold bD;simp only[g,if_true]
     .rw[b1,ed,gl];rfl
     .rw[b2,ec,stN]
     .show _=(s.g&&dW (a9 (wkS ws) s.things));rw[b3,g,goN,gl,ec];rfl
     .show tt.drop (hdN (a9 (wkS ws) s.things))=_;unfold hdN;rw[eh];exact e0
    .rw[J6]at g;have gl:L.go=false:=by rw[I.go,g];rfl
     obtain⟨b1,b2,b3⟩:=snoc (.par (wkS ws));refine fin _ (ldN tt L (.words,m,ws)) { s with things:=s.things++[.par (wkS ws)],g:=true } ?_ ?_ ⟨?_,?_,okN⟩ ⟨q,by rw[b3];exact e0⟩
     .show _=bD s (.par (wkS ws));unfold bD;simp only[g,LA,if_false]
     .rw[b1,ed,gl];rfl
     .rw[b2];show nxP (L.wait,L.hd) (aO (wkS ws)) false=_;rw[ec,stN]
     .show _=(true&&dW (s.things++[.par (wkS ws)]));rw[goN,vZ,gl];rfl
theorem HH(c:Sc):InL c rs0 ld0:=⟨rfl,rfl,.inl rfl⟩

def rwF:Rw->List (Str×List Wk)
 |.foot n ws=>[(n,ws)]
 |_=>[]
theorem zT(s:Rs)(w:Rw):(bD s w).feet=s.feet++rwF w:=by
 cases w with
 |foot n ws=>rfl
 |par ws=>unfold bD;cases s.g<;>exact(IY _).symm
 |_=>exact(IY _).symm
theorem zU:∀(l:List Rw)(s:Rs),(aS s l).feet=s.feet++l.flatMap rwF
 |[],s=>(IY _).symm
 |w::l,s=>by
  show(aS (bD s w) l).feet=_;rw[zU l,zT,Ky,IT]
theorem CA:∀(l:List Rw)(s:Rs),((s.feet++l.flatMap rwF).map (·.1)).Nodup->mT s l
 |[],_,_=>trivial
 |w::l,s,nd=>by
  rw[Ky,<-IT]at nd;refine⟨?_,CA l _ (by rw[zT];exact nd)⟩;cases w with
  |foot n ws =>
   refine md λz=>?_;rw[IJ,Kh]at nd;have:=nd.1;rw[IJ,Kh]at this;exact this.2.2 _ z _ (by simp[rwF]) rfl
  |_=>trivial
def cg(ns:List bu):List (Str×List Wk):=ns.flatMap λr=>if r.1=.foot then[(tx r.2.1,wkS r.2.2)]else[]
theorem pF(a b:List bu):cg (a++b)=cg a++cg b:=by unfold cg;rw[Ln]
theorem tT{l:List bu}{p:Str×List Wk}(h:p∈cg l):∃r∈l,r.1=.foot/\p=(tx r.2.1,wkS r.2.2):=by
 obtain⟨r,hr,hd⟩:=List.mem_flatMap.mp h;by_cases c:r.1=.foot
 .rw[if_pos c,Mw]at hd;exact⟨r,hr,c,hd⟩
 .rw[if_neg c]at hd;cases hd
theorem vt:∀l:List bu,(l.map aX).flatMap rwF=cg l
 |[]=>rfl
 |(w,m,ws)::l=>by
  rw[IQ,Ky,vt l];have e:cg ((w,m,ws)::l)=(if w=.foot then[(tx m,wkS ws)]else[])++cg l:=by unfold cg;simp
  rw[e];cases w<;>rfl
theorem e_.feet{nm:Nat->List Nat}{M F:Nat}:∀{rs:List c7}{ns:List bu}{at_ hung:Nat},e_ nm M F at_ hung rs ns->(cg ns).map (·.1)=(nms nm hung (ftN rs)).map tx
 |[],[],_,_,_=>rfl
 |r::rs,n::ns,at_,hung,h=>by
  have e1:ftN (r::rs)=b1 (decide (r.1=.foot))+ftN rs:=by
   unfold ftN;cases e:decide (r.1=.foot)<;>simp[LZ,e,b1]<;>omega
  have e2:cg (n::ns)=(if n.1=.foot then[(tx n.2.1,wkS n.2.2)]else[])++cg ns:=by unfold cg;simp
  rw[e1,vk,e2,IJ,IJ,e_.feet h.2];congr 1;obtain⟨g1,g2,_⟩:=h.1;by_cases c:r.1=.foot
  .have c2:n.1=.foot:=by rw[g1,if_neg (λz=>by rw[c]at z;cases z.1)];exact c
   rw[if_pos c]at g2;rw[if_pos c2,decide_eq_true c,g2];rfl
  .have c2:n.1≠.foot:=by
    rw[g1]
    split
    .decide
    .exact c
   rw[if_neg c2,decide_eq_false c];rfl
theorem yJ:∀l:List bu,((l.map aX).map rwN).sum<=(l.map (·.2.2.length)).sum
 |[]=>IM _
 |r::l=>by
  have h2:=yJ l;have h1:rwN (aX r)<=r.2.2.length:=by
   obtain⟨wy,n,ws⟩:=r;have e:(wkS ws).length=ws.length:=Iz _;cases wy<;>first|exact Jw _|(show(wkS ws).length<=ws.length;omega)
  simp only[IQ,J9];omega
theorem E4(l:List c7):cp l<=(l.map (·.2.length)).sum:=by
 induction l with
 |nil=>exact IM _
 |cons r l ih =>
  have:mkN r.2<=r.2.length:=JU _ _;have e:cp (r::l)=mkN r.2+cp l:=by unfold cp;simp
  rw[e,IQ,J9];omega

def sD:List Kw:=[.plain,.plain,.plain,.mark,.mark,.number,.page,.row,.foot]
abbrev stW(all:List bu):List Wk:=(cM (a7 (0,0,0) all) 0 all).map (bK (a7 (0,0,0) all))
structure A3(all:List bu)(σ:Ss):Prop where
 ms:σ.ms=bv (stW all) 0
 ws:σ.ws.map wf=cT (cg all) 0 (stW all)
 lk:σ.ws.map lk=fJ (a7 (0,0,0) all) ld0 all
 hs:σ.hs=cK (a7 (0,0,0) all) (cM (a7 (0,0,0) all) 0 all) 0
 tel:uB σ
 fts:∀p∈cg all,∀w∈p.2,jI σ w/\w.1≠.entry
 hl:σ.hs.length<=63
 hn:∀k,k<(a7 (0,0,0) all).length->∃n,σ.hs[k]?=some (tx ((a7 (0,0,0) all).getD k ([],[])).1,n)
structure D9(all:List bu):Prop where
 nr:∀r∈all,jL r
 len:all.length<=64
 tw:mT rs0 (all.map aX)
 sum:((all.map aX).map rwN).sum<=500
 txg:TxG (aS rs0 (all.map aX)).things (aS rs0 (all.map aX)).feet
 wo:∀s∈cM (a7 (0,0,0) all) 0 all,DL (a7 (0,0,0) all) all s
 nd:((bv (stW all) 0).map (·.1)).Nodup
 fnd:((cg all).map (·.1)).Nodup
 fin:∀w∈stW all,w.1=.foot->∃f,lkS (rest w.2) (cg all)=some f
 tl:(a7 (0,0,0) all).length<=63
 cnt:(fJ (a7 (0,0,0) all) ld0 all).length=aO (stW all)
 set:((fJ (a7 (0,0,0) all) ld0 all).length<=400/\∃σ,ir (gW (aK (aS rs0 (all.map aX)).things) (aS rs0 (all.map aX)).feet) (aS rs0 (all.map aX)).things=.ok σ/\A3 all σ)\/(400<(fJ (a7 (0,0,0) all) ld0 all).length/\ir (gW (aK (aS rs0 (all.map aX)).things) (aS rs0 (all.map aX)).feet) (aS rs0 (all.map aX)).things=.error .toolong)
theorem HI{nm:Nat->List Nat}(hn:NmF nm){wys:List WyD}{rows:List c7}{ns:List bu}(ok:l0 wys sD 62 rows)(rr:e_ nm (cp rows) (ftN rows) 0 0 rows ns):D9 (ns++eD):=by
 have ke:∀k∈sD,k≠.entry:=by decide
 obtain⟨l1,l2⟩:=rr.len;have osum:=ok.sum;have olen:=ok.len;have endM:∀r∈eD,r=(.empty,[],[])\/r=(.words,[],[(.plain,[101,110,100])]):=λr hr=>by simpa[eD]using hr
 have nr:∀r∈ns++eD,jL r:=λr hr=>by
  rcases List.mem_append.mp hr with hr|hr
  .obtain⟨x,hx,a,h,g⟩:=rr.mem r hr;exact g.ok hn ke (ok.ok x hx).1
  .exact EY r hr
 have fe:cg (ns++eD)=cg ns:=by rw[pF];exact IY _
 have dk:∀r∈ns++eD,∀d∈r.2.2,d.1=.plain\/d.1=.mark\/(gE d.1=true/\∃j,j<cp rows/\d.2=nm j)\/(d.1=.foot/\tx d.2∈(cg (ns++eD)).map (·.1)):=λr hr d hd=>by
  rcases List.mem_append.mp hr with hr|hr
  .obtain⟨x,hx,a,h,_,_,g⟩:=rr.mem r hr;obtain⟨k,hk,a',z⟩:=g.mem d hd;have kk:k.1≠.entry:=by
    rcases(ok.ok x hx).1.kds k hk with y|y
    .exact ke _ y
    .rw[y];decide
   rcases z with⟨_,rfl⟩|⟨_,z,_⟩|⟨z1,z2,z3,j,hj,e⟩
   .exact .inr (.inl rfl)
   .exact .inl z
   .by_cases kf:k.1=.foot
    .refine .inr (.inr (.inr ⟨z3.trans kf,?_⟩));unfold gO at hj;rw[if_pos kf]at hj;rw[fe,rr.feet,e];refine KB ?_;unfold nms;exact List.mem_map.mpr ⟨j,List.mem_range.mpr hj,by rw[JT]⟩
    .refine .inr (.inr (.inl ⟨?_,j,?_,e⟩))
     .rw[z3];revert z1 z2 kk kf;cases k.1<;>simp[gE]
     .unfold gO at hj;rw[if_neg kf]at hj;exact hj
  .rcases endM r hr with rfl|rfl
   .cases hd
   .have:d=(.plain,[101,110,100]):=by simpa using hd
    rw[this];exact .inl rfl
 have tot:((ns++eD).map (·.2.2.length)).sum<=63:=by
  rw[IJ,Lu,l2];have e:(eD.map (·.2.2.length)).sum=1:=rfl;omega
 have sum:(((ns++eD).map aX).map rwN).sum<=500:=JC (yJ _) (by omega);have len:(ns++eD).length<=64:=by
  rw[IB,l1];show _+2<=64;omega
 have mle:cp rows<=62:=JC (E4 rows) (by omega);have fle:ftN rows<=62:=JC (JU _ _) (by omega);have inj:∀n,n<=1296->((nms nm 0 n).map tx).Nodup:=λn hle=>by
  unfold nms;rw[Ki];refine vW (λa ha b hb e=>?_) List.nodup_range;rw[List.mem_range]at ha hb;have:=hn.inj (0+a) (0+b) (by omega) (by omega) (jm e);omega
 have fnd:((cg (ns++eD)).map (·.1)).Nodup:=by
  rw[fe,rr.feet];exact inj _ (by omega)
 have nm':kU (nW (ns++eD))=nms nm 0 (cp rows):=by
  have:nW (ns++eD)=nW ns++nW eD:=by unfold nW;rw[Ln]
  rw[this,tP,rr.marks];exact IY _
 have hdle:((ns++eD).filter λr=>r.1.hd).length<=63:=by
  rw[JK,IB];have h2:(ns.filter λr=>r.1.hd).length<=ns.length:=JU _ _;have h3:(eD.filter λr=>r.1.hd).length=0:=rfl;omega
 have endS:∃a,ns++eD=a++eD:=⟨ns,rfl⟩;generalize ns++eD=all at *;have nomk:∀r∈all,r.1≠.words->r.1.hd=false->∀d∈r.2.2,d.1≠.mark:=λr hr h1 h2 d hd=>by
  have o:=nr r hr;by_cases f:r.1=.foot
  .exact((o.foot f).2.2.2.2 d hd).1
  .rw[o.bare (by obtain⟨wy,n,ws⟩:=r;cases wy<;>first|rfl|exact absurd rfl h1|exact absurd rfl f|exact absurd h2 (show ¬ (true=false) by decide))]at hd
   cases hd
 have rg:∀w∈all.map aX,RwG w:=λw hw=>by
  obtain⟨r,hr,rfl⟩:=List.mem_map.mp hw;have o:=nr r hr;have rd:∀w∈wkS r.2.2,RdW w:=λw hw=>by
   obtain⟨d,hd,rfl⟩:=List.mem_map.mp hw;exact(o.ok d hd).rd
  have ll:(wkS r.2.2).length<=130:=by unfold wkS;rw[Iz];have:=o.len;omega
  obtain⟨wy,n,ws⟩:=r;cases wy<;>first|trivial|exact rd|exact⟨by decide,by decide,ll,rd⟩
 obtain⟨t1,t2⟩:=zP (gW (aK (aS rs0 (all.map aX)).things) (aS rs0 (all.map aX)).feet) (all.map aX) rs0;have t4:=zQ (gW (aK (aS rs0 (all.map aX)).things) (aS rs0 (all.map aX)).feet) (all.map aX) rs0;have t3:(aS rs0 (all.map aX)).feet=cg all:=(zU _ _).trans (vt _);have t2:aK (aS rs0 (all.map aX)).things=(all.map aX).flatMap rwH:=t2;have hc:ScT (gW (aK (aS rs0 (all.map aX)).things) (aS rs0 (all.map aX)).feet) (a7 (0,0,0) all):=by rw[t2];exact GB
 have tn:=uZ (all.map aX) rs0;rw[Iz]at tn;have r0:tgS rs0.things=0/\rs0.things.length=0/\rs0.feet.length=0:=⟨rfl,rfl,rfl⟩;have hN:hdN (aS rs0 (all.map aX)).things=(a7 (0,0,0) all).length:=by
  unfold hdN;have:=congrArg LF (pC all (0,0,0)).2;rw[Iz,Iz]at this;rw[t2,<-this]
 have hl63:(a7 (0,0,0) all).length<=63:=by
  have:∀(l:List bu)(q:Nat×Nat×Nat),(a7 q l).length<=(l.filter λr=>r.1.hd).length:=λl=>by
   induction l with
   |nil=>intro _;exact IM _
   |cons r l ih =>
    intro q;by_cases hh:r.1.hd=true
    .have e:a7 q (r::l)=(eX (bw q (cS r.1:Int)) (cS r.1:Int),r.2.2)::a7 (bw q (cS r.1:Int)) l:=by show(if r.1.hd=true then _ else _)=_;rw[if_pos hh]
     have:=ih (bw q (cS r.1:Int));rw[e,ID,K0,if_pos hh,ID];omega
    .have e:a7 q (r::l)=a7 q l:=by show(if r.1.hd=true then _ else _)=_;rw[if_neg hh]
     rw[e,K0,if_neg hh];exact ih q
  exact JC (this all (0,0,0)) hdle
 have ftw:∀p∈cg all,p.2.length<=39/\∀w∈p.2,∃d,w=tL d/\oY d/\(d.1=.plain\/(gE d.1=true/\∃j,j<cp rows/\d.2=nm j)):=λp hp=>by
  obtain⟨r,hr,hf,rfl⟩:=tT hp;obtain⟨_,_,_,g4,g5⟩:=(nr r hr).foot hf;refine⟨by show(wkS r.2.2).length<=39;unfold wkS;rw[Iz];exact g4,λw hw=>?_⟩;obtain⟨d,hd,rfl⟩:=List.mem_map.mp hw;refine⟨d,rfl,(nr r hr).ok d hd,?_⟩;rcases dk r hr d hd with z|z|z|⟨z,_⟩
  .exact .inl z
  .exact absurd z (g5 d hd).1
  .exact .inr z
  .exact absurd z (g5 d hd).2
 have txg:TxG (aS rs0 (all.map aX)).things (aS rs0 (all.map aX)).feet:=by
  refine⟨λt ht=>?_,?_,by show hdN _<=63;rw[hN];exact hl63,by omega⟩
  .have g:=zR rg (λt ht=>by cases ht) t ht;have ln:=Cu ht;cases t with
   |par ws=>exact⟨by show ws.length<=600;have:tgN (.par ws)=ws.length:=rfl;omega,g⟩
   |head n ws=>exact g
   |page=>trivial
   |odd=>trivial
   |lst=>trivial
  .refine⟨by omega,λp hp=>?_⟩;rw[t3]at hp;obtain⟨r,hr,hf,rfl⟩:=tT hp;obtain⟨_,_,_,g4,g5⟩:=(nr r hr).foot hf;refine⟨by show(wkS r.2.2).length<=39;unfold wkS;rw[Iz];exact g4,λw hw=>?_⟩;obtain⟨d,hd,rfl⟩:=List.mem_map.mp hw;exact⟨((nr r hr).ok d hd).rd,g5 d hd⟩
 have wo:=@D6 (a7 (0,0,0) all) all 0;have dw:∀x,(∃r∈all,x∈r.2.2)\/(x.1≠.mark/\∃t∈a7 (0,0,0) all,x∈t.2)->∃r∈all,x∈r.2.2:=λx h=>by
  rcases h with h|⟨_,t,ht,hx⟩
  .exact h
  .obtain⟨r,hr,_,e⟩:=oF ht;exact⟨r,hr,by rw[<-e];exact hx⟩
 have rk:=Cz hc (rows:=all) (s:=rs0) (L:=ld0) (q:=(0,0,0)) (HH _) rfl;have rk:dI (gW (aK (aS rs0 (all.map aX)).things) (aS rs0 (all.map aX)).feet) 0 (0,false) (aS rs0 (all.map aX)).things=fJ (a7 (0,0,0) all) ld0 all:=rk;have cf:(gW (aK (aS rs0 (all.map aX)).things) (aS rs0 (all.map aX)).feet).feet=cg all:=t3;generalize hcE:gW (aK (aS rs0 (all.map aX)).things) (aS rs0 (all.map aX)).feet=c at *;have rw1:i_ c 0 (all.map aX)=stW all:=uM hc (q:=(0,0,0)) (h:=0) rfl;have w1:cG c 0 (aS rs0 (all.map aX)).things=stW all:=t1.trans rw1;have p1:dU c 0 0 (aS rs0 (all.map aX)).things=cK (a7 (0,0,0) all) (cM (a7 (0,0,0) all) 0 all) 0:=t4.trans (yB hc (q:=(0,0,0)) (h:=0) (n:=0) rfl);have names:(bv (stW all) 0).map (·.1)=(nms nm 0 (cp rows)).map tx:=by
  have e:=pE hc (q:=(0,0,0)) (h:=0) (rows:=all) rfl nomk;rw[rw1]at e;rw[vp];show(mkF _).map _=_;rw[e,<-nm'];unfold mkF kU wkS;rw[List.filter_map,Ki,Ki];rfl
 have nd:((bv (stW all) 0).map (·.1)).Nodup:=by rw[names];exact inj _ (by omega)
 have fin:∀w∈stW all,w.1=.foot->∃f,lkS (rest w.2) (cg all)=some f:=λw hw hk=>by
  obtain⟨s,hs,rfl⟩:=List.mem_map.mp hw;have g:=wo s hs;cases s with
  |w x =>
   obtain⟨r,hr,hx⟩:=dw x g;rcases dk r hr x hx with z|z|⟨z,_⟩|⟨_,z⟩
   .rw[show x.1=.foot from hk]at z;cases z
   .rw[show x.1=.foot from hk]at z;cases z
   .rw[show x.1=.foot from hk]at z;cases z
   .exact tQ z
  |head k=>cases hk
  |entry k=>cases hk
  |goal k=>cases hk
 have ll:=yG c (aS rs0 (all.map aX)).things 0 (0,false);rw[rk,w1]at ll;have pl:=yC c (aS rs0 (all.map aX)).things 0 0;have pn:=vo c (aS rs0 (all.map aX)).things 0 0;rw[p1,hN]at pl pn;refine⟨nr,len,CA _ _ (by rw[vt];exact fnd),sum,txg,wo,nd,fnd,fin,hl63,ll,?_⟩;have two:=zN (c:=c) (ts:=(aS rs0 (all.map aX)).things) (σ:=ss0) (by show jP c (cG c 0 _);rw[w1];unfold jP;rw[cf];exact fin) (by show((([]:List (Str×Nat))++bv (cG c 0 _) 0).map (·.1)).Nodup;rw[w1];exact nd) (by decide);have two:Two c (iY c ss0 (aS rs0 (all.map aX)).things) ss0 (cG c 0 (aS rs0 (all.map aX)).things) (dU c 0 0 (aS rs0 (all.map aX)).things):=two;rw[w1,p1]at two;have z0:ss0.ws.length=0:=rfl;rcases two with⟨h1,σ,e,R⟩|⟨h1,e⟩
 .have ak:=D8 (c:=c) (σ:=ss0) (.inl rfl) e;have ak:σ.ws.map lk=dI c 0 (0,false) (aS rs0 (all.map aX)).things:=ak;rw[rk]at ak;have rms:σ.ms=bv (stW all) 0:=R.ms;have rws:σ.ws.map wf=cT (cg all) 0 (stW all):=by have:=R.ws;rw[cf]at this;exact this
  have rhs:σ.hs=cK (a7 (0,0,0) all) (cM (a7 (0,0,0) all) 0 all) 0:=R.hs;have rlen:=R.len;rw[z0,JT]at rlen;have lkm:∀j,j<cp rows->∃k,lkS (tx (nm j)) σ.ms=some k:=λj hj=>by
   refine tQ ?_;rw[rms,names];refine KB ?_;unfold nms;exact List.mem_map.mpr ⟨j,List.mem_range.mpr hj,by rw[JT]⟩
  have say:∀d:NWd,(d.1=.plain\/(gE d.1=true/\∃j,j<cp rows/\d.2=nm j))->jI σ (tL d):=λd hd=>by
   rcases hd with z|⟨z,j,hj,ej⟩
   .exact .inl ⟨z,d.2,rfl⟩
   .obtain⟨k,ek⟩:=lkm j hj;exact .inr (.inr ⟨z,d.2,k,rfl,by rw[ej];exact ek⟩)
  have sayF:∀m,jI σ (fG m):=λm=>.inl ⟨rfl,(ip m).cps.toList,by unfold fG;rw[<-wT]⟩;have fts:∀p∈cg all,∀w∈p.2,jI σ w/\w.1≠.entry:=λp hp w hw=>by
   obtain⟨d,rfl,no,z⟩:=(ftw p hp).2 w hw;exact⟨say d z,no.1⟩
  have tel:uB σ:=λt ht=>by
   have hm:wf t∈cT (cg all) 0 (stW all):=by rw[<-rws];exact KB ht
   rcases m_ _ _ _ _ hm with⟨m,f,e,z⟩|⟨z1,z2,z3,z4⟩
   .have e1:t.w=fG m:=congrArg Prod.fst e;have e2:t.foot=fG m::f:=congrArg Prod.snd e;rw[e1,e2];rcases z with rfl|⟨q,hq,rfl⟩
    .exact⟨sayF m,by simp,λw hw=>by rw[List.mem_singleton.mp hw];exact sayF m⟩
    .refine⟨sayF m,by rw[ID];have:=(ftw q hq).1;omega,λw hw=>?_⟩;rcases List.mem_cons.mp hw with rfl|hw
     .exact sayF m
     .exact(fts q hq w hw).1
   .have z4:t.foot=[]:=z4;rw[z4];refine⟨?_,by simp,λw hw=>by cases hw⟩;obtain⟨s,hs,ed⟩:=List.mem_map.mp (show t.w∈stW all from z1);have k1:(bK (a7 (0,0,0) all) s).1≠.mark:=λy=>z2 (by show t.w.1=_;rw[<-ed];exact y);have k2:(bK (a7 (0,0,0) all) s).1≠.foot:=λy=>z3 (by show t.w.1=_;rw[<-ed];exact y);rw[<-ed];have g:=wo s hs;cases s with
    |w x =>
     obtain⟨r,hr,hx⟩:=dw x g;rcases dk r hr x hx with y|y|y|⟨y,_⟩
     .exact say x (.inl y)
     .exact absurd y k1
     .exact say x (.inr y)
     .exact absurd y k2
    |head k=>exact .inl ⟨rfl,_,rfl⟩
    |entry k=>exact .inl ⟨rfl,_,rfl⟩
    |goal k=>exact .inr (.inl ⟨rfl,k,rfl,by rw[rhs,pl];exact g⟩)
  have nbad:∀w,jI σ w->jr σ w=false:=λw s=>by
   rcases s with⟨z,_⟩|⟨z,_⟩|⟨z,n,k,e1,e2⟩
   .unfold jr;rw[z];rfl
   .unfold jr;rw[z];rfl
   .unfold jr;rw[e1];show(gE w.1&&(lkS (tx n) σ.ms).isNone)=false;rw[e2];simp
  have ck:fA c σ=none:=by
   unfold fA;rw[if_neg,if_neg]
   .rw[cf,J6,KN];intro w hw;rw[nbad w ?_]
    .decide
    rcases List.mem_append.mp hw with hw|hw
    .obtain⟨t,ht,rfl⟩:=List.mem_map.mp hw;exact(tel t ht).1
    .obtain⟨p,hp,hw⟩:=List.mem_flatMap.mp hw;exact(fts p hp w hw).1
   .rw[J6,KN];intro m hm;obtain⟨a,rfl⟩:=endS;obtain⟨h',sp⟩:=yD c (a.map aX) (eD.map aX) 0;have e3:i_ c h' (eD.map aX)=[(.plain,.str (tx [101,110,100]))]:=rfl;rw[<-rw1,IJ,sp,e3]at rms rlen;rw[rms,iu]at hm;have hm:m∈bv (i_ c 0 (a.map aX)) 0:=by
     rcases List.mem_append.mp hm with hm|hm
     .exact hm
     .have:bv [(.plain,.str (tx [101,110,100]))] (0+aO (i_ c 0 (a.map aX)))=[]:=rfl;rw[this]at hm;cases hm
    have h2:=vm _ _ m hm;have h3:aO ([(.plain,.str (tx [101,110,100]))]:List Wk)=1:=rfl;rw[fF,h3]at rlen;simp only[decide_eq_true_eq];omega
  refine .inl ⟨by omega,σ,?_,rms,rws,ak,rhs,tel,fts,by rw[rhs,pl];exact hl63,λk hk=>?_⟩
  .rw[hcE];unfold ir;rw[e];show(match fA c σ with|some e=>_|none=>_)=_
   rw[ck]
  .obtain⟨m,z⟩:=pn k hk;rw[JT]at z;rw[rhs];refine⟨m,z.trans ?_⟩;rw[hc.nums,Jb,Jc,Jb,II hk];rfl
 .refine .inr ⟨by omega,?_⟩;rw[hcE];unfold ir;rw[e]
theorem yK{c:Sc}{tt:List Ttl}(hc:ScT c tt):∀{rows:List bu}{q:Nat×Nat×Nat}{h:Nat},tt.drop h=a7 q rows->∀k,.head k∈cM tt h rows->k<tt.length
 |[],_,_,_,k,z=>by cases z
 |r::rows,q,h,e,k,z=>by
  obtain⟨_,⟨q',a2⟩,_,_⟩:=yA hc e;have z:.head k∈fb tt h r++cM tt (h+hB r.1.hd) rows:=z;rcases List.mem_append.mp z with z|z
  .unfold fb at z;by_cases c1:r.1=.words
   .rw[if_pos c1]at z;obtain⟨_,_,z⟩:=List.mem_map.mp z;cases z
   .rw[if_neg c1]at z;by_cases c2:r.1.hd=true
    .rw[if_pos c2]at z;have e:tt.drop h=(eX (bw q (cS r.1:Int)) (cS r.1:Int),r.2.2)::a7 (bw q (cS r.1:Int)) rows:=by rw[e];show(if r.1.hd=true then _ else _)=_;rw[if_pos c2]
     rcases List.mem_cons.mp z with z|z
     .cases z;by_cases y:h<tt.length
      .exact y
      .rw[K5 (by omega)]at e;cases e
     .obtain⟨_,_,z⟩:=List.mem_map.mp z;cases z
    .rw[if_neg c2]at z;by_cases c3:r.1=.lst
     .rw[if_pos c3]at z;exact absurd z (sV tt _ k)
     .rw[if_neg c3]at z;cases z
  .exact yK hc a2 k z
theorem CB{tt:List Ttl}(ht:∀t∈tt,t.2.length<=129)(k:Nat):(mW tt k).length<=131:=by
 have:(ttW (tt.getD k ([],[]))).length<=129:=by
  unfold ttW;rw[Iz];refine JC (JU _ _) ?_;rw[Jb];cases e:tt[k]? with
  |none=>exact Jw _
  |some t=>exact ht t (IK e)
 unfold mW;rw[ID,IB];simp only[ID,Ja];omega
theorem yL{α:Type}{f:Nat->List α}{m:Nat}(h:∀k,(f k).length<=m):∀l:List Nat,(l.flatMap f).length<=m*l.length
 |[]=>IM _
 |a::l=>by
  have h1:=h a;have h2:=yL h l;rw[Ky,IB,ID,Nat.mul_succ];omega
theorem CC{tt:List Ttl}(ht:∀t∈tt,t.2.length<=129)(hl:tt.length<=63):∀{rows:List bu}{h:Nat},(∀r∈rows,r.2.2.length<=129)->(cM tt h rows).length<=8300*rows.length
 |[],_,_=>IM _
 |r::rows,h,hr=>by
  have h1:=hr r IL;have h2:=CC ht hl (rows:=rows) (h:=h+hB r.1.hd) λx hx=>hr x (IH _ hx);show(fb tt h r++cM tt (h+hB r.1.hd) rows).length<=_;rw[IB,ID,Nat.mul_succ];have:(fb tt h r).length<=8300:=by
   unfold fb
   split
   .rw[Iz];omega
   .split
    .rw[ID,Iz];omega
    .split
     .have:=yL (CB ht) (Kj tt.length);rw[JJ]at this;unfold fW;omega
     .exact Jw _
  omega
theorem DO(l:List bu):(cg l).length<=l.length:=by
 induction l with
 |nil=>exact IM _
 |cons r l ih =>
  have e2:cg (r::l)=(if r.1=.foot then[(tx r.2.1,wkS r.2.2)]else[])++cg l:=by unfold cg;simp
  rw[e2,IB,ID]
  split<;>simp<;>omega

def iB:List WyD:=[.way .words,.way .empty,.eq,.way .page,.way .odd,.way .lst,.way .foot,.word,.word,.word,.word,.word,.word]
def DP:List WyD:=(iB.filter λw=>!decide (w.t=ky))++[.word,.word,.word,.eq]
theorem cW8:[V.str (Iy "words"),V.str (Iy ""),V.str (Iy "="),V.str (Iy ".page"),V.str (Iy ".odd"),V.str (Iy ".list"),V.str (Iy ".foot"),V.str (Iy "word"),V.str (Iy "word"),V.str (Iy "word"),V.str (Iy "word"),V.str (Iy "word"),V.str (Iy "word")]=(iB.map λw=>tx w.t).map V.str:=by decide +kernel
theorem cWB:[V.str (Iy "word"),V.str (Iy "word"),V.str (Iy "word"),V.str (Iy "=")]=(([.word,.word,.word,.eq]:List WyD).map λw=>tx w.t).map V.str:=by decide +kernel
theorem cK8:[V.str (Iy "plain"),V.str (Iy "plain"),V.str (Iy "plain"),V.str (Iy "mark"),V.str (Iy "mark"),V.str (Iy "number"),V.str (Iy "page"),V.str (Iy "row"),V.str (Iy "foot")]=sD.map λk=>V.str k.s:=by decide +kernel
theorem GE{wys:List WyD}(h:wys=iB\/wys=DP):0<wys.length/\wys.length<=900/\(∀w,.way w∈wys->w.hd=false):=by
 have a:∀w,.way w∈iB->w.hd=false:=λw hw=>by
  have:w=.words\/w=.empty\/w=.page\/w=.odd\/w=.lst\/w=.foot:=by simpa[iB]using hw
  rcases this with rfl|rfl|rfl|rfl|rfl|rfl<;>rfl
 rcases h with rfl|rfl
 .exact⟨by decide,by decide,a⟩
 .refine⟨by decide,by decide,λw hw=>?_⟩;rcases List.mem_append.mp hw with hw|hw
  .exact a w (List.mem_filter.mp hw).1
  .simp at hw
theorem zV{K:IC}{F:Hp}:∀{hs:List (Str×Nat)}{vs:List V},aI (HdA F) vs hs->cc K F (hs.map λh=>DD.tup [.str h.1,.int (h.2:Int)]) vs
 |[],[],_=>by rw[K4];unfold cc;rfl
 |h::hs,v::vs,hh=>by
  obtain⟨⟨a,rfl,ha⟩,h2⟩:=hh;rw[IQ];unfold cc;refine⟨_,vs,rfl,?_,zV h2⟩;unfold Rep;refine⟨a,_,rfl,SqT.of ha,by show 2<=1000;decide,?_⟩;unfold cc;refine⟨_,_,rfl,by unfold Rep;rfl,?_⟩;unfold cc;refine⟨_,_,rfl,by unfold Rep;rfl,?_⟩;unfold cc;rfl
theorem CD{K:IC}{F:Hp}{p:Addr}{hs:List (Str×Nat)}{vs:List V}(hp:F p=some (.lst vs))(h:aI (HdA F) vs hs)(hl:hs.length<=1000):Rep K F (.lst (hs.map λh=>DD.tup [.str h.1,.int (h.2:Int)])) (.ref p):=by
 unfold Rep;exact⟨p,vs,rfl,SqL.of hp,by rw[Iz];exact hl,zV h⟩
theorem E5(hs:List (Str×Nat)):(DD.lst (hs.map λh=>DD.tup [.str h.1,.int (h.2:Int)])).deep<=2:=by
 have:∀l:List DD,(∀d∈l,d.deep<=1)->d9 l<=1:=λl=>by
  induction l with
  |nil=>intro _;unfold d9;exact Jw _
  |cons d l ih =>
   intro h;unfold d9;exact Nat.max_le.mpr ⟨h d IL,ih λx hx=>h x (IH _ hx)⟩
 unfold DD.deep;have:=this (hs.map λh=>DD.tup [.str h.1,.int (h.2:Int)]) λd hd=>by
  obtain⟨w,_,rfl⟩:=List.mem_map.mp hd;simp[DD.deep,d9]
 omega

structure GF where
 (sa fo pw p2 pn pt ps ph pl pf:Addr)(f:Int)
inductive GG(A:GF)(H:Hp)(all:List bu):Nat->St->Hp->Prop
 |mk{i:Nat}{G:Hp}(v11 v12 v13:Option V)(kv:List (Key×V))(m:aj H G)(g:G A.pf=some (.dK kv))(fal:FtA H kv (cg (all.take i))):GG A H all i [rF A.sa,some (.int A.f),rF A.fo,rF A.pw,rF A.p2,rF A.pn,rF A.pt,rF A.ps,rF A.ph,rF A.pl,rF A.pf,v11,v12,v13,none,none,none,none] G
structure GH where
 (σ:Ss)(fd qa tp ma ha:Addr)(us hvs:List V)(fs:List Addr)
structure Iw(all:List bu)(B G:Hp)(fo:Addr)(d:GH):Prop where
 o:A3 all d.σ
 e1:G d.fd=some (.tup [.ref d.qa,.ref d.ma,.ref d.ha])
 e2:G d.qa=some (.tup [.ref fo,.ref d.tp])
 t5:lD B G d.σ d.tp d.us d.fs
 e6:G d.ma=some (.dK (mkV d.σ.ms))
 e7:G d.ha=some (.lst d.hvs)
 e8:aI (HdA G) d.hvs d.σ.hs
inductive LMd(A:GF)(B:Hp)(all:List bu)(v11 v12 v13:Option V)(pq:Addr)(n:Nat):St->Hp->Prop
 |mk{G:Hp}(fv:V)(rf:Bool)(m:aj B G)(h:(rf=true/\400<n)\/(rf=false/\n<=400/\∃d:GH,fv=.ref d.fd/\Iw all B G A.fo d)):LMd A B all v11 v12 v13 pq n [rF A.sa,some (.int A.f),rF A.fo,rF A.pw,rF A.p2,rF A.pn,rF A.pt,rF A.ps,rF A.ph,rF A.pl,rF A.pf,v11,v12,v13,rF pq,some fv,some (.bl rf),none] G
theorem DQ{K:IC}{F:Hp}{a:Addr}{x y z u:Int}(h:F a=some (.tup [.int x,.int y,.int z,.int u])):Rep K F (.tup [.int x,.int y,.int z,.int u]) (.ref a):=by
 have n:∀t:Int,Rep K F (.int t) (.int t):=λt=>by unfold Rep;rfl
 unfold Rep;refine⟨a,_,rfl,SqT.of h,by show 4<=1000;decide,?_⟩;unfold cc;refine⟨_,_,rfl,n x,?_⟩;unfold cc;refine⟨_,_,rfl,n y,?_⟩;unfold cc;refine⟨_,_,rfl,n z,?_⟩;unfold cc;refine⟨_,_,rfl,n u,?_⟩;unfold cc;rfl
theorem CF(x y z u:Int):(DD.tup [.int x,.int y,.int z,.int u]).deep<=2:=by
 simp[DD.deep,d9]
theorem HJ{ws:List NWd}(h:∀d∈ws,oY d):∀w∈wkS ws,w.1≠.entry/\∃n,w.2=.str (tx n):=λw hw=>by
 obtain⟨d,hd,rfl⟩:=List.mem_map.mp hw;exact⟨(h d hd).1,d.2,rfl⟩

theorem GI{all:List bu}(nr:∀r∈all,jL r):∀p∈cg all,∀w∈p.2,w.1≠.entry/\∃n,w.2=.str (tx n):=λp hp=>by
 obtain⟨r,hr,_,rfl⟩:=tT hp;exact HJ (nr r hr).ok
theorem GJ{all:List bu}(nr:∀r∈all,jL r){σ:Ss}(O:A3 all σ)(L:D9 all)(hks:∀k,Sw.head k∈cM (a7 (0,0,0) all) 0 all->k<(a7 (0,0,0) all).length):∀s∈cM (a7 (0,0,0) all) 0 all,(∀x,s=.w x->x.1≠.entry)/\(∀k,s=.head k\/s=.entry k->∃n,σ.hs[k]?=some (tx ((a7 (0,0,0) all).getD k ([],[])).1,n))/\((bK (a7 (0,0,0) all) s).1=.foot->∃f,lkS (rest (bK (a7 (0,0,0) all) s).2) (cg all)=some f):=λs hs=>by
 have hw:=L.wo s hs;refine⟨λx e=>?_,λk e=>O.hn k ?_,L.fin _ (KB hs)⟩
 .subst e;rcases hw with⟨r,hr,hx⟩|⟨_,t,ht,hx⟩
  .exact((nr r hr).ok x hx).1
  .obtain⟨r,hr,_,e⟩:=oF ht;rw[e]at hx;exact((nr r hr).ok x hx).1
 .rcases e with rfl|rfl
  .exact hks k hs
  .exact hw

theorem c_:aN ["script","first","form","ways","kinds","named","titles","stream","heads","leads","feet","way","name","words","rows","found","refused","due"] ["script"] (aw (top 79)):=by walk_at "c"
theorem GK(T:Txt P w K mg a):bi P w K mg base CX0 9 a.A4 a.uP ["script"] (BJ K):=by
 exists T.wY.fn.ok,c_
 obtain⟨sa,zs,rfl,hS,h63,q⟩:=h
 exists (@ae _ _ _ _ _ (av (i:=1) c_.nd rfl (IP rfl) (aC T.nA (yd T) (hM hr) rfl (aa (pv 0) (aa ag ac))))
   (@ae _ _ _ _ _ (av (i:=2) c_.nd rfl (IP rfl) (aC T.tU (Ce T) (hM hr) rfl (aa (pv 1) ac)))
   (@ae _ _ _ _ _ (@DZ _ 3 _ _ _ _ _ _ c_.nd rfl (IP rfl) (CL.str (CL.str (CL.str (CL.str (CL.str (CL.str (CL.str (CL.str (CL.str (CL.str (CL.str (CL.str (CL.str CL.nil))))))))))))) (by first|exact .inl rfl|exact .inr rfl))
   (@ae _ _ _ _ _ (aG (ao iV (aC T.b8 (bV T) (hM hr) rfl (aa (pv 1) (aa ag (aa ag ac)))) ag (nomark _)) (af (av (i:=3) c_.nd rfl (IP rfl) (aH fU (gc rfl (eW (caps:=[]) (js:=[]) (cap:=trivial)) (bj (pv 3)) (λ_ _ _ _=>(iX (ao dZ (pv 0) am (nomark _)))) (λ_ _ _ _=>(pv 0))) (aQ (aa am (aa am (aa am (aa am ac)))))))) aE)
   (@ae _ _ _ _ _ (av (i:=4) c_.nd rfl (IP rfl) (aQ (ux (CL.str (CL.str (CL.str (CL.str (CL.str (CL.str (CL.str (CL.str (CL.str CL.nil))))))))))))
   (@ae _ _ _ _ _ (av (i:=5) c_.nd rfl (IP rfl) (aC T.rA (AE T) (hM hr) rfl (aa (aC T.tV (Ck T) (hM hr) rfl (aa (pv 0) (aa (pv 3) (aa (pv 4) ac)))) (aa (pv 1) ac))))
   (@ae _ _ _ _ _ (av (i:=6) c_.nd rfl (IP rfl) (aC T.pK (y7 T) (hM hr) rfl (aa (pv 5) ac)))
   (@ae _ _ _ _ _ (av (i:=7) c_.nd rfl (IP rfl) (aC T.pJ (y4 T) (hM hr) rfl (aa (pv 5) (aa (pv 6) ac))))
   (@ae _ _ _ _ _ (av (i:=8) c_.nd rfl (IP rfl) (aC T.rq (Ax T) (hM hr) rfl (aa (pv 7) (aa (pv 6) ac))))
   (@ae _ _ _ _ _ (av (i:=9) c_.nd rfl (IP rfl) (aC T.rz (AA T) (hM hr) rfl (aa (pv 5) (aa (pv 6) ac))))
   (@ae _ _ _ _ _ (av (i:=10) c_.nd rfl (IP rfl) tq)
   (@ae _ _ _ _ _ (bY Jq rfl (bj (pv 5)) (dD rfl (aU (aJ (i:=11) c_.nd rfl (IP rfl)) (aU (aJ (i:=12) c_.nd rfl (IP rfl)) (aU (aJ (i:=13) c_.nd rfl (IP rfl)) cQ)))) (af (aG (ao bn (pv 11) am (nomark _)) (af (uR (eR hr) (pv 10) (pv 12) (pv 13) rfl)) aE)))
   (@ae _ _ _ _ _ (av (i:=14) c_.nd rfl (IP rfl) (aC T.pI (yZ T) (hM hr) rfl (aa (F9 rfl (eW (caps:=[]) (js:=[]) (cap:=trivial)) (bj (pv 5)) (λ_ _ _ _=>dM) (λ_ _ _ _=>(aC T.tW (Cm T) (hM hr) rfl (aa (pv 0) (aa (pv 1) (aa (pv 2) ac)))))) (aa (pv 1) ac))))
   (@ae _ _ _ _ _ (av (i:=15) c_.nd rfl (IP rfl) Bh)
   (@ae _ _ _ _ _ (av (i:=16) c_.nd rfl (IP rfl) cC)
   (@ae _ _ _ _ _ (Ai (i:=15) c_.nd rfl (IP rfl) T.nG (yu T) (hM hr) rfl (λ_=>(aa (pv 14) (aa (pv 2) ac))) rfl T.r_ ⟨rfl,rfl⟩ (λ_=>(af (av (i:=16) c_.nd rfl (IP rfl) cC))))
   (@ae _ _ _ _ _ (aG (ao iV (aF bp rfl T.bG Jg (aa (pv 9) ac)) ag (nomark _)) (af (aM (pv 16))) aE)
   (@ae _ _ _ _ _ (aG (PW.pt (eP (cz (pv 16) (λ_=>rfl)) (eP (fC (cz (aC T.rB (AG T) (hM hr) rfl (aa (pv 15) (aa (pv 2) ac))) (λ_=>rfl))) (fS (fC (cz (aC T.pG (yX T) (hM hr) rfl (aa (pv 7) (aa (aB aZ (pv 15) ag (λ_ _=>rfl)) ac))) (λ_=>rfl))))))) (af (aM cC)) aE)
   (@ae _ _ _ _ _ (av (i:=17) c_.nd rfl (IP rfl) (aC T.rC (AI T) (hM hr) rfl (aa (pv 7) (aa (pv 9) (aa (pv 10) (aa (aB aZ (pv 15) ag (λ_ _=>rfl)) (aa (pv 8) ac)))))))
   (af (aM (jE (aC T.f8 (lJ T) (hM hr) rfl (aa (aB aZ (aB aZ (pv 15) ag (λ_ _=>rfl)) ag (λ_ _=>rfl)) (aa (pv 17) ac))) (jl (aC T.f8 (lJ T) (hM hr) rfl (aa (aB aZ (pv 15) ag (λ_ _=>rfl)) (aa (pv 8) ac))))))))))))))))))))))))))
 refine⟨_,rfl,sa,zs,0,rfl,hS,?_⟩;generalize zs.getD 0 0=f;refine⟨_,rfl,f,rfl,λfo H1 x y z u hfo s1 kfo=>?_⟩;refine⟨aW (by simp),λp1 hp1=>?_⟩
 exists hp1,H2,s2,kZ
 have k2:H2 p1=some (.lst ((iB.map λw=>tx w.t).map V.str)):=by rw[kZ,cW8]
 have s12:=s1.trans s2;have kfo2:=s2 _ _ kfo;dsimp only[bA];refine cy (λσ' G=>∃(pw:Addr)(wys:List WyD),σ'=[rF sa,some (.int f),rF fo,rF pw,none,none,none,none,none,none,none,none,none,none,none,none,none,none]/\aj H2 G/\G pw=some (.lst ((wys.map λw=>tx w.t).map V.str))/\(wys=iB\/wys=DP)) ?_ (λkey=>?_)
 .rintro σ' G0 ⟨pw,wys,rfl,m0,kw,hwy⟩;obtain⟨w1,w2,w3⟩:=GE hwy;refine⟨aW (by simp),λp2 hp2=>?_⟩
  exists hp2,H3,s3,kZ
  have k3:H3 p2=some (.lst (sD.map λk=>V.str k.s)):=by rw[kZ,cK8]
  have s13:=s12.trans (m0.trans s3);refine⟨_,rfl,_,rfl,_,rfl,sa,pw,p2,zs,wys,sD,rfl,s13.seq hS,h63,SqL.of (s3 _ _ kw),SqL.of k3,w1,by decide,w2,by decide,w3,λpr H4 rows rv hpr s4 kr ral rok=>?_⟩;have rne:∀r∈rows,r.2.length<=6/\∀w∈r.2,w.1≠.entry:=λr hr=>⟨(rok.ok r hr).1.len,λw hw=>by
   rcases(rok.ok r hr).1.kds w hw with z|z
   .exact(show ∀k∈sD,k≠.entry by decide) _ z
   .rw[z];decide⟩
  refine⟨_,rfl,pr,f,rows,rv,rfl,kr,ral.imp λ_ _=>RrA.mono bJ,rok.len,rne,λpn H5 ns nv hpn s5 kn nal rr=>?_⟩;have L:=HI (HC f) rok rr;have kfo5:=s5 _ _ (s4 _ _ ((m0.trans s3) _ _ kfo2));have lnv:=nal.len;clear rne;generalize ns++eD=all at *;have nr:=L.nr;have nlen:=L.len;have rl:=λr hr=>(nr r hr).len;have tl63:=L.tl;have tw:∀t∈a7 (0,0,0) all,t.2.length<=129:=λt ht=>by
   obtain⟨r,hr,_,e⟩:=oF ht;rw[e];exact rl r hr
  have sl:=CC (h:=0) tw tl63 rl;have hks:=yK (GB (rows:=all) (feet:=[])) (rows:=all) (q:=(0,0,0)) (h:=0) rfl;dsimp only[bA];refine⟨_,rfl,pn,nv,all,rfl,kn,nal,by omega,λpt H6 tv hpt s6 kt tal=>?_⟩;dsimp only[bA];refine⟨_,rfl,_,rfl,pn,pt,nv,tv,all,a7 (0,0,0) all,rfl,s6 _ _ kn,nal.imp λ_ _=>NnA.mono s6,kt,tal,by omega,tl63,rl,tw,λps H7 sv hps s7 ks sal=>?_⟩;dsimp only[bA];have lsv:=sal.len;refine⟨_,rfl,_,rfl,ps,pt,sv,tv,cM (a7 (0,0,0) all) 0 all,a7 (0,0,0) all,rfl,ks,sal,s7 _ _ kt,tal.imp λ_ _=>TtA.mono s7,hks,by omega,λph H8 hv hph s8 kh hal=>?_⟩;dsimp only[bA];have s68:=s7.trans s8;have s58:=s6.trans s68;refine⟨_,rfl,_,rfl,pn,pt,nv,tv,all,a7 (0,0,0) all,rfl,s58 _ _ kn,nal.imp λ_ _=>NnA.mono s58,s68 _ _ kt,tal.imp λ_ _=>TtA.mono s68,by omega,tl63,rl,tw,λpl H9 dv hpl s9 kd dal=>?_⟩;dsimp only[bA];have s59:=s58.trans s9;have kn9:=s59 _ _ kn;have nal9:aI (NnA H9) nv all:=nal.imp λ_ _=>NnA.mono s59;intro pf hpf
  exists hpf,G2,n4,k4'
  refine⟨_,rfl,pn,rfl,⟨_,SqL.of (n4 _ _ kn9)⟩,bZ (K:=K) (a:=pn) (xs:=nv) (GG ⟨sa,fo,pw,p2,pn,pt,ps,ph,pl,pf,f⟩ H9 all) ⟨none,none,none,[],n4,k4',trivial⟩ (λi σ' G _ g=>by obtain⟨_,_,_,_,m,_⟩:=g;exact SqL.of (m _ _ kn9)) ?_ ?_⟩
  .rintro i y' σ' G hy ⟨v11,v12,v13,kv,m,g4,fal⟩;obtain⟨n,hn,b,l,rfl,hb,hl⟩:=nal9.getL hy;have hi:=(List.getElem?_eq_some_iff.mp hn).1;have ef1:cg (all.take (i+1))=cg (all.take i)++(if n.1=.foot then[(tx n.2.1,wkS n.2.2)]else[]):=by rw[aT hn,pF];unfold cg;simp
   refine⟨b,_,rfl,SqT.of (m _ _ hb),rfl,_,_,rfl,_,_,rfl,_,_,rfl,rfl,?_⟩
   exists 1
   rw[bP jJ];by_cases hm:n.1=.foot
   .refine iT (by rw[hm];rfl) ?_;rw[if_pos hm]at ef1;have nn:lkS (tx n.2.1) (cg (all.take i))=none:=md λz=>by
     have fnd:=L.fnd;rw[<-KJ (i+1) all,pF,ef1,IJ,IJ,Kh]at fnd;have:=fnd.1;rw[Kh]at this;exact this.2.2 _ z _ (by simp) rfl
    refine⟨_,rfl,_,rfl,_,rfl,_,_,rfl,tj.k (k:=.inr (tx n.2.1)) g4 (ay (by have:=fal.len;have:(cg (all.take i)).length<=66:=(by have h1:=congrArg LF (show cg all=cg (all.take i)++cg (all.drop i)from by rw[<-pF,KJ]);have h2:=DO all;rw[IB]at h1;omega);omega)),?_⟩;rw[tf _ ((FtA.val (n:=tx n.2.1) fal).1 nn)];refine⟨_,_,_,kv++[(.inr (tx n.2.1),.ref l)],aY m hpf,ah,?_⟩;rw[ef1];exact FtA.app ⟨rfl,l,rfl,hl⟩ fal
   .refine iF (λzz=>hm (Wy.inj (b:=.foot) zz)) ?_;refine⟨_,_,_,kv,m,g4,?_⟩;rw[ef1,if_neg hm,IY];exact fal
  rintro σ' G ⟨v11,v12,v13,kv,m,g4,fal⟩;rw[lnv,IZ]at fal;have nalG:aI (NnA G) nv all:=nal9.imp λ_ _=>NnA.mono m;have knG:=m _ _ kn9;refine⟨_,rfl,pn,rfl,⟨_,SqL.of knG⟩,Dq (K:=K) (a:=pn) (xs:=nv) (λi ys G'=>aj G G'/\ys=(((all.take i).map λr=>df [32] (gU true r)).map tx).map V.str) ⟨aj.refl _,rfl⟩ (λi ys G' _ z=>SqL.of (z.1 _ _ knG)) ?_ ?_ ?_⟩
  .rintro i ys G' hi ⟨_,rfl⟩;simp only[Iz,Jm];exact ay (by omega)
  .rintro i y' ys G' hy ⟨m',rfl⟩;obtain⟨n,hn,b,l,rfl,hb,hl⟩:=nalG.getL hy;refine⟨b,_,_,_,rfl,SqT.of (m' _ _ hb),fE ?_⟩;refine⟨_,rfl,_,rfl,_,rfl,n,l,rfl,hl.mono m',nr n (IK hn),λG2' m2=>⟨m'.trans m2,?_⟩⟩;rw[aT hn,IJ,IJ,IJ];rfl
  rintro ys G' ⟨m',rfl⟩ pj hpj;rw[lnv,IZ]
  exists hpj,G3,sZ,k8
  have m8:=m'.trans sZ;refine⟨_,rfl,pj,f,all.map λr=>df [32] (gU true r),rfl,SqL.of k8,by rw[Iz];omega,?_,λpq B ss hpq m9 kq spd ssl=>?_⟩
  .intro r hr;obtain⟨n,hn,rfl⟩:=List.mem_map.mp hr;exact qN true (nr n hn)
  rw[Iz]at ssl;dsimp only[bA];have mB:=m8.trans m9;have ar:=(spd.all nr).rows nr;have mB9:=m.trans mB;have mB8:=s9.trans mB9;have mB7:=s8.trans mB8;have kfoB:B fo=some (.tup [.int x,.int y,.int z,.int u]):=mB9 _ _ (s59 _ _ kfo5);have ksB:=mB7 _ _ ks;have salB:=sal.imp λ_ _=>SwA.mono mB7;have khB:=mB8 _ _ kh;have halB:=hal.imp λ_ _=>HdA.mono mB8;have kdB:=mB9 _ _ kd;have dalB:=dal.imp λ_ _=>LkA.mono mB9;have kfB:=mB _ _ g4;have falB:=fal.mono mB9;clear mB mB9 mB8 mB7 m8 m9 k8 knG nalG g4 fal dal kd hal kh sal ks s68 s58 s59 nal9 kn9 tal kt nal kn;have ld:=dalB.len;refine D2 (D2 ?_);refine cy (LMd ⟨sa,fo,pw,p2,pn,pt,ps,ph,pl,pf,f⟩ B all v11 v12 v13 pq (fJ (a7 (0,0,0) all) ld0 all).length) ?_ (λkey=>?_)
  .rintro σ' G ⟨fv,rf,mG,hcase⟩;refine⟨_,rfl,_,_,rfl,.inl (SqL.of (mG _ _ kdB)),_,_,rfl,rfl,_,rfl,?_⟩;rcases hcase with⟨rfl,hg⟩|⟨rfl,hle,⟨σ0,fd,qa,tp,ma,ha,us5,hvs,fs⟩,rfl,O,e1,e2,T5,e6,e7,e8⟩
   .refine eB (λ_=>?_) (λc=>absurd (decide_eq_true (by omega)) c);exact⟨_,rfl,q _⟩
   .refine eB (λc=>absurd (of_decide_eq_true c) (by omega)) (λ_=>?_);dsimp only[cY];dsimp only at e1 e2 e6 e7 e8 T5 O;have tal5:aI (TwA σ0 G) us5 (σ0.ws.zip fs):=T5.all.imp λ_ _=>TwA.mono bJ;have hl63:σ0.hs.length<=1000:=JC O.hl (by decide);have lws:σ0.ws.length<=1000:=by have:=congrArg LF O.lk;rw[Iz]at this;omega
    refine⟨_,rfl,_,rfl,?_⟩;right;refine⟨_,rfl,_,rfl,fd,fo,qa,tp,ma,ha,us5,hvs,fs,σ0,.tup [.int x,.int y,.int z,.int u],mkV σ0.ms,rfl,e1,e2,DQ (mG _ _ kfoB),CF x y z u,T5.at_,tal5,e6,e7,_,rfl,?_⟩;right;refine⟨_,rfl,_,rfl,_,_,_,_,rfl,rfl,SqT.of e1,rfl,ps,ma,sv,cM (a7 (0,0,0) all) 0 all,a7 (0,0,0) all,rfl,mG _ _ ksB,salB.imp λ_ _=>SwA.mono mG,by have:=O.ms;rw[<-show σ0.ms=bv ((cM (a7 (0,0,0) all) 0 all).map (bK (a7 (0,0,0) all))) 0 from O.ms];exact e6,L.nd,λG1 m1=>⟨_,rfl,?_⟩⟩;right;dsimp only[cY];have mF:=mG.trans m1;have f1:=m1 _ _ e1;have halF:=halB.imp λ_ _=>HdA.mono mF;rw[<-O.hs]at halF;refine⟨_,rfl,_,rfl,_,rfl,_,rfl,_,_,_,_,rfl,rfl,SqT.of f1,rfl,_,rfl,ps,pl,pf,ma,ph,sv,dv,hv,kv,cg all,σ0,a7 (0,0,0) all,cM (a7 (0,0,0) all) 0 all,fJ (a7 (0,0,0) all) ld0 all,rfl,mF _ _ ksB,salB.imp λ_ _=>SwA.mono mF,mF _ _ kdB,dalB.imp λ_ _=>LkA.mono mF,mF _ _ kfB,falB.mono mF,m1 _ _ e6,mF _ _ khB,halF,O.lk,O.ws,hle,GJ nr O L hks,GI nr,O.tel,λpd F m2 r2=>?_⟩;dsimp only[bA];have m12:=m1.trans m2;have g1:=m2 _ _ f1;have r1:Rep K F (.lst (σ0.ws.map (wtD σ0))) (.ref tp):=zJ (m12 _ _ T5.at_) (λt ht=>(O.tel t ht).2.1) ((D5 T5.len tal5).imp λ_ _=>DwA.mono m12) lws;have r3:Rep K F (.lst (σ0.hs.map λh=>DD.tup [.str h.1,.int (h.2:Int)])) (.ref ha):=CD (m12 _ _ e7) (e8.imp λ_ _=>HdA.mono m12) hl63;have r4:Rep K F (.lst (σ0.hs.map λh=>DD.tup [.str h.1,.int (h.2:Int)])) (.ref ph):=CD (m2 _ _ (mF _ _ khB)) (halF.imp λ_ _=>HdA.mono m2) hl63;refine⟨_,rfl,_,_,_,_,rfl,rfl,SqT.of g1,rfl,_,_,_,_,rfl,rfl,SqT.of (m12 _ _ e2),rfl,_,rfl,_,_,_,rfl,IU (DI σ0 _) (by decide),r1,r2,_,rfl,?_⟩;left;exact⟨_,rfl,_,_,_,_,rfl,rfl,SqT.of g1,rfl,_,rfl,_,_,_,rfl,IU (E5 _) (by decide),r3,r4,q _⟩
  .refine⟨_,rfl,_,rfl,pq,.ref fo,ss,all.map aX,rfl,SqL.of kq,ar,by omega,L.tw,L.sum,L.txg,λe he H' s'=>?_,λσ0 fd G5 qa tp ma ha us5 fs hvs q1 sm q2 e1 e2 T5 e6 n2 e7 q7 n3' n4' q9 e8=>?_⟩
   .rcases L.set with⟨_,σ1,es,_⟩|⟨hg,es⟩
    .rw[es]at he;cases he
    .rw[es]at he;cases he;refine⟨_,rfl,T.dN,?_⟩;exact key _ _ ⟨.non,true,s',.inl ⟨rfl,hg⟩⟩
   .rcases L.set with⟨hle,σ1,es,O⟩|⟨_,es⟩
    .rw[es]at q1;injection q1 with q1;subst q1;exact key _ _ ⟨_,false,sm,.inr ⟨rfl,hle,⟨σ1,fd,qa,tp,ma,ha,us5,hvs,fs⟩,rfl,O,e1,e2,T5,e6,e7,q7⟩⟩
    .rw[es]at q1;cases q1
 .refine⟨_,rfl,_,47,3,rfl,⟨by decide,by decide⟩,by decide,_,_,rfl,rfl,_,rfl,?_⟩;refine eB (λ_=>?_) (λ_=>?_)
  .refine⟨_,rfl,p1,rfl,⟨_,SqL.of k2⟩,dS (K:=K) (a:=p1) (xs:=(iB.map λw=>tx w.t).map V.str) (λi ys G=>H2=G/\ys=(((iB.take i).filter λw=>!decide (w.t=ky)).map λw=>tx w.t).map V.str) ⟨rfl,rfl⟩ (λi ys G _ z=>by rw[<-z.1];exact SqL.of k2) ?_ ?_ ?_⟩
   .rintro i ys G hi ⟨_,rfl⟩;simp only[Iz];have h1:=JU (λw:WyD=>!decide (w.t=ky)) (iB.take i);have h2:(iB.take i).length<=13:=by rw[Jm];exact Nat.min_le_right _ _
    exact ay (by omega)
   .rintro i y' ys G hy ⟨rfl,rfl⟩;obtain⟨w,hw,rfl⟩:∃w,iB[i]?=some w/\V.str (tx w.t)=y':=by
     rw[Jc,Jc]at hy;cases e:iB[i]? with
     |none=>rw[e]at hy;cases hy
     |some w=>rw[e]at hy;exact⟨w,rfl,Jy hy⟩
    exists 1
    rw[bP uD,aT hw,JK];by_cases hm:w.t=ky
    .rw[decide_eq_true hm];right;exact⟨rfl,by simp[hm]⟩
    .rw[decide_eq_false hm];left;exact⟨_,rfl,rfl,by simp[hm]⟩
   rintro ys G ⟨rfl,rfl⟩ p3 hp3;rw[show iB.take ((iB.map λw=>tx w.t).map V.str).length=iB from rfl]
   exists hp3,F3,c3,q3
   refine⟨le4,λp4 hp4=>?_⟩
   exists hp4,F4,c4,q4
   have q3:=c4 _ _ q3;refine⟨_,_,_,_,rfl,rfl,q3,q4,aW (by decide),λp5 hp5=>?_⟩;refine key _ _ ⟨p5,DP,rfl,c3.trans (c4.trans (ai hp5 _)),?_,.inr rfl⟩;rw[ah,cWB,<-IJ,<-IJ];rfl
  .exact key _ _ ⟨p1,iB,rfl,aj.refl _,k2,.inl rfl⟩
end
abbrev Zn(K:IC)(n:Str):Prop:=JP K Jt n=some none
theorem txt_mk{P:Jk}{w:Jo}{K:IC}{h:Heap}{mg:Str->Option IE}(X:K.In h)(G:h.Ns Jt mg)
  {ad:AdD}(D:TxD K mg ad)
  (sE:Zn K "all")
  (jn:Zn K "bool")
  (mM:Zn K "dict")
  (gb:Zn K "enumerate")
  (i5:Zn K "int")
  (bq:Zn K "isinstance")
  (bG:Zn K "len")
  (iU:Zn K "list")
  (lM:Zn K "max")
  (eU:Zn K "range")
  (ju:Zn K "str")
  (sF:Zn K "sum")
  (fR:Zn K "tuple")
  (sI:Zn K "zip")
  {di:Addr}(m_NoFoot:JP K Jt "NoFoot" = some (some (.ref di)))(e_NoFoot:La K di qF "ValueError.__new__" = true)
  {dj:Addr}(m_NoMark:JP K Jt "NoMark" = some (some (.ref dj)))(e_NoMark:La K dj qF "ValueError.__new__" = true)
  {ci:Addr}(m_TooLong:JP K Jt "TooLong" = some (some (.ref ci)))(e_TooLong:La K ci qF "ValueError.__new__" = true)
  {dX:Addr}(m_Twice:JP K Jt "Twice" = some (some (.ref dX)))(e_Twice:La K dX qF "ValueError.__new__" = true)
  (dN:uv K ci ci)
  {jC:Addr}(gS:JP K Jt "ALONE" = some (some (.ref jC))){od_ALONE:Option Addr}{sl_ALONE:Array (Option IE)}{n_ALONE:Nat}{k_ALONE0:Tok}{k_ALONE1:Tok}{k_ALONE2:Tok}(l_ALONE:K.lookup jC=some ⟨.type "tuple",od_ALONE,.seq #[.str (Iy ".page") k_ALONE0,.str (Iy ".odd") k_ALONE1,.str (Iy ".list") k_ALONE2] n_ALONE,sl_ALONE⟩)
  {t_FIGURES:Tok}(fj:JP K Jt "FIGURES" = some (some (.str (Iy "0123456789") t_FIGURES)))
  {jD:Addr}(gT:JP K Jt "HEADS" = some (some (.ref jD))){od_HEADS:Option Addr}{sl_HEADS:Array (Option IE)}{n_HEADS:Nat}{k_HEADS0:Tok}{k_HEADS1:Tok}{k_HEADS2:Tok}(l_HEADS:K.lookup jD=some ⟨.type "tuple",od_HEADS,.seq #[.str (Iy "=") k_HEADS0,.str (Iy "==") k_HEADS1,.str (Iy "===") k_HEADS2] n_HEADS,sl_HEADS⟩)
  {fQ:Addr}(gt:JP K Jt "KINDS" = some (some (.ref fQ))){oc_KINDS:IE}{od_KINDS:Option Addr}{es_KINDS:Array JG}{ep_KINDS:Nat}{sl_KINDS:Array (Option IE)}(l_KINDS:K.lookup fQ=some ⟨oc_KINDS,od_KINDS,.dict es_KINDS ep_KINDS,sl_KINDS⟩)
  (b_KINDS:(fQ==Kn)=false)(c_KINDS:(⟨oc_KINDS,od_KINDS,.dict es_KINDS ep_KINDS,sl_KINDS⟩:Obj).ExactDict)(e_KINDS:xW w es_KINDS lG)
  {dz:Addr}(gu:JP K Jt "LEAPS" = some (some (.ref dz))){oc_LEAPS:IE}{od_LEAPS:Option Addr}{es_LEAPS:Array JG}{ep_LEAPS:Nat}{sl_LEAPS:Array (Option IE)}(l_LEAPS:K.lookup dz=some ⟨oc_LEAPS,od_LEAPS,.dict es_LEAPS ep_LEAPS,sl_LEAPS⟩)
  (b_LEAPS:(dz==Kn)=false)(c_LEAPS:(⟨oc_LEAPS,od_LEAPS,.dict es_LEAPS ep_LEAPS,sl_LEAPS⟩:Obj).ExactDict)(e_LEAPS:xW w es_LEAPS ik)
  {t_LETTERS:Tok}(eK:JP K Jt "LETTERS" = some (some (.str (Iy "abcdefghijklmnopqrstuvwxyz") t_LETTERS)))
  {t_LONGEST_NAME:Tok}(cE:JP K Jt "LONGEST_NAME" = some (some (.int 12 t_LONGEST_NAME)))
  {t_LONGEST_TEXT:Tok}(cF:JP K Jt "LONGEST_TEXT" = some (some (.int 60 t_LONGEST_TEXT)))
  {t_MOST_CALLS:Tok}(db:JP K Jt "MOST_CALLS" = some (some (.int 400 t_MOST_CALLS)))
  {t_MOST_FOOT_WORDS:Tok}(b9:JP K Jt "MOST_FOOT_WORDS" = some (some (.int 39 t_MOST_FOOT_WORDS)))
  {t_MOST_WORDS_books:Tok}(bL:JP K Jt "MOST_WORDS_books" = some (some (.int 400 t_MOST_WORDS_books)))
  {t_MOST_WORDS_shorts:Tok}(bM:JP K Jt "MOST_WORDS_shorts" = some (some (.int 400 t_MOST_WORDS_shorts)))
  {fZ:Addr}(d_:JP K Jt "POINTING" = some (some (.ref fZ))){od_POINTING:Option Addr}{sl_POINTING:Array (Option IE)}{n_POINTING:Nat}{k_POINTING0:Tok}{k_POINTING1:Tok}{k_POINTING2:Tok}(l_POINTING:K.lookup fZ=some ⟨.type "tuple",od_POINTING,.seq #[.str (Iy "number") k_POINTING0,.str (Iy "page") k_POINTING1,.str (Iy "row") k_POINTING2] n_POINTING,sl_POINTING⟩) :
  ∃a:Adr,Txt P w K mg a:=by
 refine⟨{ toAdD:=ad,jC:=jC,jD:=jD,fQ:=fQ,dz:=dz,fZ:=fZ,di:=di,dj:=dj,ci:=ci,dX:=dX },{
  toTxD:=D,
  sE:=JL X G sE,
  jn:=JL X G jn,
  mM:=JL X G mM,
  gb:=JL X G gb,
  i5:=JL X G i5,
  bq:=JL X G bq,
  bG:=JL X G bG,
  iU:=JL X G iU,
  lM:=JL X G lM,
  eU:=JL X G eU,
  ju:=JL X G ju,
  sF:=JL X G sF,
  fR:=JL X G fR,
  sI:=JL X G sI,
  yM:=⟨JN X G m_NoFoot,e_NoFoot⟩,
  ud:=⟨JN X G m_NoMark,e_NoMark⟩,
  r_:=⟨JN X G m_TooLong,e_TooLong⟩,
  zW:=⟨JN X G m_Twice,e_Twice⟩,
  dN:=dN,
  gS:=⟨JN X G gS,λH=>.inr ⟨_,_,_,l_ALONE,rfl,rfl,by show 3<=I0;decide,.cons ⟨_,rfl⟩ (.cons ⟨_,rfl⟩ (.cons ⟨_,rfl⟩ (.nil)))⟩⟩,
  fj:=⟨t_FIGURES,JN X G fj⟩,
  gT:=⟨JN X G gT,λH=>.inr ⟨_,_,_,l_HEADS,rfl,rfl,by show 3<=I0;decide,.cons ⟨_,rfl⟩ (.cons ⟨_,rfl⟩ (.cons ⟨_,rfl⟩ (.nil)))⟩⟩,
  gt:=⟨JN X G gt,zx b_KINDS l_KINDS c_KINDS e_KINDS⟩,
  gu:=⟨JN X G gu,zx b_LEAPS l_LEAPS c_LEAPS e_LEAPS⟩,
  eK:=⟨t_LETTERS,JN X G eK⟩,
  cE:=⟨t_LONGEST_NAME,JN X G cE⟩,
  cF:=⟨t_LONGEST_TEXT,JN X G cF⟩,
  db:=⟨t_MOST_CALLS,JN X G db⟩,
  b9:=⟨t_MOST_FOOT_WORDS,JN X G b9⟩,
  bL:=⟨t_MOST_WORDS_books,JN X G bL⟩,
  bM:=⟨t_MOST_WORDS_shorts,JN X G bM⟩,
  d_:=⟨JN X G d_,λH=>.inr ⟨_,_,_,l_POINTING,rfl,rfl,by show 3<=I0;decide,.cons ⟨_,rfl⟩ (.cons ⟨_,rfl⟩ (.cons ⟨_,rfl⟩ (.nil)))⟩⟩ }⟩
theorem walk{l:PySem.W.OpenLaw}{q:Jk}{loose:List Str}{XP:(Str->Option IE)->Heap->Prop}{YP:Jo->Heap->Prop}{d:DefRec}{K:JA->IC}(hn:l.most=some 63)(hdf:d.params.defaults=[])(hnm:d.name = "law")
  (hY:∀(w:Jo)(h:Heap),YP w h->(K w.params).In h)
  (F:∀(w:Jo)(mg:Str->Option IE)(h:Heap),(K w.params).In h->h.Ns Jt mg->∃a:Adr,Txt l.prog w (K w.params) mg a) :
  PySem.W.WalkO q loose XP YP l.row.toRowW d [] (λf vs=>NI f vs):=
 L2.walk_of (n:=63) (k:=9) (x := "script") (CX:=λ_=>CX0) (sp:=λw=>BJ (K w.params)) hn (by decide) hdf ⟨rfl,by decide,by decide⟩ hY (λw mg fa h KX G hmg=>by
  obtain⟨a,T⟩:=F w mg h KX G;have e0:=hmg.symm.trans (hnm▸T.wY.mg);cases e0;refine⟨a.uP,λs u=>.of_eq (T.wY.ba [u] rfl),λbase _ _=>GK T⟩) (λ_ _ a ns hl _ hS=>⟨a,ns,rfl,hS,hl,λ_=>rfl⟩) λ_ _ _ _ _ z=>z
end K62
namespace K62
open PySem PySem.W L2 Tl PyProof.Rows
theorem us1{us:List IE}(h:us.length=1):∃a0,us=[a0]:=by
 match us,h with
 |[a0],_=>exact⟨a0,rfl⟩
theorem us2{us:List IE}(h:us.length=2):∃a0 a1,us=[a0,a1]:=by
 match us,h with
 |[a0,a1],_=>exact⟨a0,a1,rfl⟩
theorem us3{us:List IE}(h:us.length=3):∃a0 a1 a2,us=[a0,a1,a2]:=by
 match us,h with
 |[a0,a1,a2],_=>exact⟨a0,a1,a2,rfl⟩
theorem us4{us:List IE}(h:us.length=4):∃a0 a1 a2 a3,us=[a0,a1,a2,a3]:=by
 match us,h with
 |[a0,a1,a2,a3],_=>exact⟨a0,a1,a2,a3,rfl⟩
theorem us5{us:List IE}(h:us.length=5):∃a0 a1 a2 a3 a4,us=[a0,a1,a2,a3,a4]:=by
 match us,h with
 |[a0,a1,a2,a3,a4],_=>exact⟨a0,a1,a2,a3,a4,rfl⟩
theorem us6{us:List IE}(h:us.length=6):∃a0 a1 a2 a3 a4 a5,us=[a0,a1,a2,a3,a4,a5]:=by
 match us,h with
 |[a0,a1,a2,a3,a4,a5],_=>exact⟨a0,a1,a2,a3,a4,a5,rfl⟩
noncomputable abbrev fdO(n q:Str)(s:Stmt)(d:IE)(m:String)(k:Nat)(r:Addr):IW:=fnOf n q (cO s) (cx s) (aw s) d .none .none (.str (Iy m) k) none (.ref r) .none
noncomputable abbrev fb0(n q:Str)(s:Stmt)(d:IE)(r:Addr):IW:=fdO n q s d "law_trueleaf_k62_whole_text_set" 818 r
noncomputable abbrev fa0(n:Str)(s:Stmt)(r:Addr):IW:=fb0 n n s .none r
noncomputable abbrev fb1(n q:Str)(s:Stmt)(d:IE)(r:Addr):IW:=fdO n q s d "trueleaf.signs" 355 r
noncomputable abbrev fa1(n:Str)(s:Stmt)(r:Addr):IW:=fb1 n n s .none r
noncomputable abbrev fb2(n q:Str)(s:Stmt)(d:IE)(r:Addr):IW:=fdO n q s d "trueleaf.heads" 407 r
noncomputable abbrev fa2(n:Str)(s:Stmt)(r:Addr):IW:=fb2 n n s .none r
noncomputable abbrev fb3(n q:Str)(s:Stmt)(d:IE)(r:Addr):IW:=fdO n q s d "trueleaf.setting" 670 r
noncomputable abbrev fa3(n:Str)(s:Stmt)(r:Addr):IW:=fb3 n n s .none r
noncomputable abbrev fb4(n q:Str)(s:Stmt)(d:IE)(r:Addr):IW:=fdO n q s d "trueleaf.reading" 554 r
noncomputable abbrev fa4(n:Str)(s:Stmt)(r:Addr):IW:=fb4 n n s .none r
noncomputable abbrev fb5(n q:Str)(s:Stmt)(d:IE)(r:Addr):IW:=fdO n q s d "trueleaf.shorts" 469 r
noncomputable abbrev fa5(n:Str)(s:Stmt)(r:Addr):IW:=fb5 n n s .none r
noncomputable abbrev fb6(n q:Str)(s:Stmt)(d:IE)(r:Addr):IW:=fdO n q s d "trueleaf.trees" 415 r
noncomputable abbrev fa6(n:Str)(s:Stmt)(r:Addr):IW:=fb6 n n s .none r
noncomputable def A0:AdD:={ ng:=457,lL:=fa0 "_law_alike" (top 59) 456,nI:=443,mD:=fa0 "_law_cell_at" (top 57) 442,tY:=450,rT:=fa0 "_law_draw" (top 58) 449,tZ:=478,rV:=fa0 "_law_form" (top 62) 477,rL:=536,pU:=fa0 "_law_heads" (top 72) 535,rM:=541,pV:=fa0 "_law_leads" (top 73) 540,pM:=555,nQ:=fa0 "_law_marked" (top 75) 554,t0:=483,rW:=fa0 "_law_name" (top 63) 482,nK:=464,mH:=fa0 "_law_sign_by" (top 60) 463,mw:=488,li:=fa0 "_law_plain_by" (top 64) 487,uc:=502,r9:=fa0 "_law_word" (top 66) 501,rN:=514,pW:=fa0 "_law_named" (top 68) 513,t_:=509,rX:=fa0 "_law_rows" (top 67) 508,rO:=562,pX:=fa0 "_law_shape" (top 76) 561,pN:=574,nR:=fa0 "_law_spaced" (top 78) 573,pO:=529,nS:=fa0 "_law_stream" (top 71) 528,nJ:=471,mE:=fa0 "_law_is_name" (top 61) 470,nM:=495,mI:=fa0 "_law_written" (top 65) 494,ub:=519,rZ:=fa0 "_law_text" (top 69) 518,pP:=524,nU:=fa0 "_law_titles" (top 70) 523,ua:=548,rY:=fa0 "_law_said" (top 74) 547,rP:=567,pY:=fa0 "_law_words" (top 77) 566,mv:=153,lg:=fa1 "figures_of" (top 20) 152,mx:=165,lm:=fa2 "numbers_of" (top 23) 164,k_:=358,kj:=fb3 "__init__" "Setter.__init__" (aP 55 0) .none 357,gI:=410,gr:=fb3 "check_marks" "Setter.check_marks" (aP 55 8) .none 409,ji:=391,iR:=fb3 "set_mark" "Setter.set_mark" (aP 55 5) .none 390,iK:=405,ib:=fb3 "next_foot" "Setter.next_foot" (aP 55 7) .none 404,jj:=398,iS:=fb3 "set_word" "Setter.set_word" (aP 55 6) .none 397,jz:=384,jk:=fb3 "set_run" "Setter.set_run" (aP 55 4) .none 383,jg:=372,iP:=fb3 "set_head" "Setter.set_head" (aP 55 2) .none 371,jh:=377,iQ:=fb3 "set_list" "Setter.set_list" (aP 55 3) .none 376,iN:=365,ig:=fb3 "set_thing" "Setter.set_thing" (aP 55 1) .none 364,iL:=429,ic:=fb3 "number_at" "Setter.number_at" (aP 55 11) .none 428,iM:=422,ie:=fb3 "saying_of" "Setter.saying_of" (aP 55 10) .none 421,hX:=415,gL:=fb3 "words_told" "Setter.words_told" (aP 55 9) .none 414,kY:=280,ki:=fb4 "__init__" "Reader.__init__" (aP 49 0) .none 279,iH:=320,hZ:=fb4 "add_thing" "Reader.add_thing" (aP 49 6) .none 319,hU:=306,gJ:=fb4 "read_alone" "Reader.read_alone" (aP 49 4) .none 305,rJ:=146,pS:=fa1 "is_name" (top 19) 145,rK:=160,pT:=fa1 "kind_of" (top 21) 159,rH:=233,pR:=fa5 "by_name" (top 39) 232,mC:=247,lx:=fa5 "size_among" (top 41) 246,nP:=257,mL:=fa5 "words_out" (top 43) 256,rR:=228,p_:=fa5 "put_out" (top 38) 227,rQ:=199,pZ:=fa6 "node_of" (top 30) 198,my:=185,lq:=fa6 "opens_call" (top 28) 184,rS:=173,qb:=fb6 "tree_of" "tree_of" (top 26) (.ref 166) 172,iJ:=325,ia:=fb4 "words_out" "Reader.words_out" (aP 49 7) .none 324,iI:=299,h_:=fb4 "read_foot" "Reader.read_foot" (aP 49 3) .none 298,hV:=313,gK:=fb4 "read_words" "Reader.read_words" (aP 49 5) .none 312,jf:=287,iO:=fb4 "read_row" "Reader.read_row" (aP 49 1) .none 286,pQ:=141,nX:=fa1 "words_in" (top 18) 140,nN:=266,mJ:=fa4 "read_rows" (top 48) 265,nO:=346,mK:=fa3 "set_words" (top 54) 345,A4:=579,uP:=fa0 "law" (top 79) 578,bN:=328,aL:=432 }
local macro_rules | `(tactic| walk_at "b")=>`(tactic| (intro _ _ _ _ _ _ us hl; first | (obtain ⟨_,hx⟩:=us1 hl; subst hx; rfl) | (obtain ⟨_,⟨_,hx⟩⟩:=us2 hl; subst hx; rfl) | (obtain ⟨_,⟨_,⟨_,hx⟩⟩⟩:=us3 hl; subst hx; rfl) | (obtain ⟨_,⟨_,⟨_,⟨_,hx⟩⟩⟩⟩:=us4 hl; subst hx; rfl) | (obtain ⟨_,⟨_,⟨_,⟨_,⟨_,hx⟩⟩⟩⟩⟩:=us5 hl; subst hx; rfl) | (obtain ⟨_,⟨_,⟨_,⟨_,⟨_,⟨_,hx⟩⟩⟩⟩⟩⟩:=us6 hl; subst hx; rfl)))
local macro_rules | `(tactic| walk_at "d")=>`(tactic| exact C6 (oc:=.type "function") (od:=none) (sl:=#[]) (by assumption) (by assumption) (by kernel_rfl) (by kernel_rfl) (by kernel_rfl) (by kernel_rfl) (by walk_at "b"))
local macro_rules | `(tactic| walk_at "m")=>`(tactic| exact Dd (oc:=.type "function") (od:=none) (sl:=#[]) (by kernel_rfl) (by kernel_rfl) (by kernel_rfl) (by kernel_rfl) (by kernel_rfl) (by walk_at "b"))
local macro_rules | `(tactic| walk_at "n")=>`(tactic| (show Ka _ _ _=some none; kernel_rfl))
set_option maxHeartbeats 0 in
theorem txd{w:Jo}{mg:Str->Option IE}{h:Heap}(X:(kk w.params).In h)(G:h.Ns Jt mg):TxD (kk w.params) mg A0 where
 bI:=⟨mg_of X G (by kernel_rfl),⟨by kernel_rfl,by kernel_rfl,by kernel_rfl,by kernel_rfl⟩,by kernel_rfl,by kernel_rfl⟩
 jA:=by walk_at "n"
 gv:=by walk_at "n"
 fH:=by walk_at "n"
 dA:=by walk_at "n"
 aD:=⟨mg_of X G (by kernel_rfl),⟨by kernel_rfl,by kernel_rfl,by kernel_rfl,by kernel_rfl⟩,by kernel_rfl,by kernel_rfl⟩
 gg:=by walk_at "n"
 gM:=by walk_at "n"
 gx:=by walk_at "n"
 eO:=by walk_at "n"
 cJ:=by walk_at "n"
 cI:=by walk_at "n"
 dJ:=by walk_at "n"
 cW:=by walk_at "n"
 dB:=by walk_at "n"
 f8:=by walk_at "d"
 nA:=by walk_at "d"
 b8:=by walk_at "d"
 tU:=by walk_at "d"
 rq:=by walk_at "d"
 rz:=by walk_at "d"
 pG:=by walk_at "d"
 mh:=by walk_at "d"
 kz:=by walk_at "d"
 mi:=by walk_at "d"
 tX:=by walk_at "d"
 rA:=by walk_at "d"
 tV:=by walk_at "d"
 rB:=by walk_at "d"
 pI:=by walk_at "d"
 pJ:=by walk_at "d"
 nC:=by walk_at "d"
 nD:=by walk_at "d"
 tW:=by walk_at "d"
 pK:=by walk_at "d"
 pH:=by walk_at "d"
 rC:=by walk_at "d"
 jR:=by walk_at "d"
 mq:=by walk_at "d"
 kX:=by walk_at "m"
 gH:=by walk_at "m"
 jd:=by walk_at "m"
 iD:=by walk_at "m"
 je:=by walk_at "m"
 dY:=by walk_at "m"
 jb:=by walk_at "m"
 jc:=by walk_at "m"
 iG:=by walk_at "m"
 iE:=by walk_at "m"
 f7:=by walk_at "m"
 hR:=by walk_at "m"
 kW:=by walk_at "m"
 eI:=by walk_at "m"
 g_:=by walk_at "m"
 kO:=by walk_at "d"
 rm:=by walk_at "d"
 rj:=by walk_at "d"
 mt:=by walk_at "d"
 nH:=by walk_at "d"
 rE:=by walk_at "d"
 rD:=by walk_at "d"
 mr:=by walk_at "d"
 rG:=BO (oc:=.type "function") (od:=none) (sl:=#[]) (oc2:=.type "tuple") (od2:=none) (sl2:=#[]) (n2:=0) X G (by kernel_rfl) (by kernel_rfl) (by kernel_rfl) (by kernel_rfl) (by kernel_rfl) (λ_ _ _ _ _ _ us hl=>by obtain⟨_,⟨_,rfl⟩⟩:=us2 hl;exact⟨_,rfl,rfl⟩) (λ_ _ _ _ _ _ us hl=>by obtain⟨_,rfl⟩:=us1 (Nat.succ.inj hl);exact⟨_,rfl,rfl⟩)
 eJ:=by walk_at "m"
 iC:=by walk_at "m"
 hJ:=by walk_at "m"
 ja:=by walk_at "m"
 pL:=by walk_at "d"
 nE:=by walk_at "d"
 nG:=by walk_at "d"
 wY:=by walk_at "d"
end K62
local macro_rules | `(tactic| walk_at "z")=>`(tactic| (first | k_is | (delta K62.Zn; k_is)))
open PySem PySem.W PyProof.Rows
set_option maxRecDepth 100000 in
set_option maxHeartbeats 0 in
theorem PySem.Challenge.cw_trueleaf_k62_whole_text_set_holds : PySem.Challenge.rw_trueleaf_k62_whole_text_set.Holds := by
 w_on
 refine ⟨K62.wsL,?_⟩;have said:PySem.Challenge.rw_trueleaf_k62_whole_text_set.row.wellSaid=true:=K62.wsR;refine holds_open (q:=K62.vw) (loose:=K62.ls) (Xt:=K62.xt) (XP:=XL K62.vw []) (Yf:=Hook.obs K62.hk) (Ya:=Hook.val K62.hk) (YP:=InK K62.kk) K62.left
  (Hook.of K62.hk) (Hook.keeps K62.hk) (fun s e=>xl_of s (Bool.and_eq_true_iff.mp e).1) XL.keeps (by rfl) (by rfl) (by rfl)
  (fun s e=>recFacts_of (Bool.and_eq_true_iff.mp e).2) (by rfl) (by assumption) (by decide +kernel) ⟨rfl,rfl,rfl,rfl,rfl,by decide +kernel⟩ ?hw ?hc
 (case hw=>w_witness2)
 k_fill
 refine K62.walk (l:=PySem.Challenge.rw_trueleaf_k62_whole_text_set) rfl rfl rfl (fun w h Y=>Y) ?F
 case F =>
  intro w mg h KX G;refine' K62.txt_mk (D:=K62.txd KX G) KX G ?sE ?jn ?mM ?gb ?i5 ?bq ?bG ?iU ?lM ?eU ?ju ?sF ?fR ?sI ?m_NoFoot ?e_NoFoot ?m_NoMark ?e_NoMark ?m_TooLong ?e_TooLong ?m_Twice ?e_Twice ?dN ?gS ?l_ALONE ?fj ?gT ?l_HEADS ?gt ?l_KINDS ?b_KINDS ?c_KINDS ?e_KINDS ?gu ?l_LEAPS ?b_LEAPS ?c_LEAPS ?e_LEAPS ?eK ?cE ?cF ?db ?b9 ?bL ?bM ?d_ ?l_POINTING
  (case sE | jn | mM | gb | i5 | bq | bG | iU | lM | eU | ju | sF | fR | sI | m_NoFoot=>walk_at "z")
  (case e_NoFoot=>k_exc)
  (case m_NoMark=>walk_at "z")
  (case e_NoMark=>k_exc)
  (case m_TooLong=>walk_at "z")
  (case e_TooLong=>k_exc)
  (case m_Twice=>walk_at "z")
  (case e_Twice=>k_exc)
  (case dN=>((show PySem.W.exmOne _ _ _=some true); kts_exm))
  (case gS | l_ALONE | fj | gT | l_HEADS | gt | l_KINDS=>walk_at "z")
  (case b_KINDS=>rfl)
  (case c_KINDS=>exact ⟨rfl,rfl,rfl⟩)
  (case e_KINDS=>(refine ⟨?_,by decide +kernel⟩; exact .cons rfl rfl ⟨_,rfl⟩ (.cons rfl rfl ⟨_,rfl⟩ (.cons rfl rfl ⟨_,rfl⟩ (.cons rfl rfl ⟨_,rfl⟩ (.cons rfl rfl ⟨_,rfl⟩ .nil))))))
  (case gu | l_LEAPS=>walk_at "z")
  (case b_LEAPS=>rfl)
  (case c_LEAPS=>exact ⟨rfl,rfl,rfl⟩)
  (case e_LEAPS=>(refine ⟨?_,by decide +kernel⟩; exact .cons rfl rfl ⟨_,rfl⟩ (.cons rfl rfl ⟨_,rfl⟩ .nil)))
  (case eK | cE | cF | db | b9 | bL | bM | d_ | l_POINTING=>walk_at "z")
