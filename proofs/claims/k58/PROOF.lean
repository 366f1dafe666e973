import PyProof.Rows.All
import Wide.All
import OpenK.AllK
import Wide.FinOn
import Lean
import PyProof.EqAt
import PyProof.EqKinds
import PyProof.TupleCall
import PyProof.NeKinds
import KE.LcSums
import PyProof.ExcBaseAll.ValueError
import KE.KTryMore
import KE.RegKTryMore
import PyProof.StrLawsRepr
import PyProof.ReprStr
import PyProof.EnumMake
import PyProof.EnumFor
import KE.KEqDict
import PyProof.Rows.Range3
import PyProof.SumWalkG
import PyProof.ZipIter
import KE.KDictOf
import PyProof.IsiH_list
import PyProof.RaisesAny
import PyProof.SumWalkG
import KE.KIsAll
import PyProof.ExcArgsOwn
import PyProof.ExcAttrAll.ValueError
import PyProof.RulesAs
import PyProof.NsDelKeeps
import PyProof.Rows.TupAdd
import KE.KDictList
import PyProof.Rows.SortStr
import PyProof.Rows.SortWalk
import PyProof.DictIter
import PyProof.DictItemsLoops
import PyProof.DictValues
import PyProof.DictWalks
import PySem.Challenge.RW_trueleaf_k58_heads_and_lists
set_option Elab.async false
set_option linter.all false
set_option maxRecDepth 100000
set_option maxHeartbeats 4000000
open List renaming length_map→F6,length_append→F7,length_cons→F8,getElem?_eq_getElem→Ga,mem_cons_of_mem→Gc,mem_cons_self→Gd,mem_of_getElem?→Ge,map_append→Gg,map_cons→Gi,length_nil→Gj,replicate→Gp,append_assoc→Gs,getD_eq_getElem?_getD→Gu,take_length→Gv,size_toArray→Gx,getElem?_map→GA,length_take→GD,append_nil→GL,mem_append_right→GN,toArray→GO,lookup→GP,drop_eq_getElem_cons→GT,filter_append→GY,not_mem_nil→GZ,length_replicate→Ha,mem_cons→Hd,take_of_length_le→Hh,length_range→Hj,sum_cons→Ho,replicate_succ→Hr,length_filter_le→Hs,map_map→Hw,take_add_one→HA,mem_append_left→HC,drop_length→HG,filterMap_cons→HJ,range→HQ,getElem?_append_right→HU,any_eq_false→HW,mem_map_of_mem→Ib,filter_cons→Ie,drop_eq_nil_of_le→Ih,find?_cons→Ik,any_cons→Il,length_singleton→Im,flatten_cons→Ip,nodup_append→Iq,length_drop→Iw,map_nil→Iy,getElem?_append_left→IC,all_cons→IG,sum_append→IJ,flatMap_cons→I_,getElem?_eq_none→Ja,cons_append→Jf,filter→Jo,range_succ→Jv,map_congr_left→Jw,flatMap_append→Jx,take_zero→JH,map_singleton→JI,foldl_append→JP,of_mem_zip→J3,foldl_cons→J5,nil_append→J6,filter_map→J7,length→Ka,foldl→KP,map→KS
open PySem renaming Value→F9,Shared→Gb,FuncData→Gn,sizeLine→Gr,wpAny_bind→GB,Program→GE,World→GF,starEach→GG,wpAny→GI,mainGlobals→GJ,model→GK,Params→GQ,Around→G_,DictEntry→Hb,wpAny_pure→Hc,wpAny_mono→He,OsState→Hu,compareOp→Hv,foldedSetIterable→Hy,sysModules→HD,wpAny_truthy_bool→HH,backTo→HR,wpAny_Call_Name_kw→HS,relabel→Ia,wpAny_execs_nil→Ij,bootBuiltins→Iu,binaryOp→IE,attributeBase→IF,wpAny_passesOwn→II,call_meets→IN,tupleKind_room_in1→IP,swapsWith→IR,sliceBounds→IT,wpAny_pyIter_list→IU,wpAny_execs_cons→Jd,wpAny_holding→Jh,behindInMarks→Ji,codeAny→Jj,keywordEach→Jl,importedModules→Jq,letOwnedTupleGo→Jr,holding→Jy,codeAny_mono→Jz,assignEach→JC,typeIs_str→JF,wpAny_Assign_Name→JK,wpAny_newObj_type→JM,Result→JQ,getMethod→JS,bindArgs→JT,valueAt→JX,sliceRange→JY,cLine→J2,wpAny_loadPart'→J4,sizeLine_eq→J8,backToKw→J9,NameKind→J_,subscripted→Kb,tupleKind→Ke,callerA→Kf,wpAny_standAt→Kg,builtinsNs→Kk,assign→Kl,typeLookup→Km,GenState→Kp,standAt→Kq,getItem→Ku,seqIndex_neg→Kv,Builtin→Kx,seqIndex_of→KA,atKey→KB,Keyword→KC,wpAny_Name→KF,pyIter→KH,wpAny_call→KI,callWith→KJ,bindL→KL,bindC→KM,typeIs_int→KO,stored→KQ
open Option renaming some→F_,isSome_map→JL
open Nat renaming le_refl→Gh,lt_of_le_of_lt→Go,ne_of_lt→Gw,lt_of_lt_of_le→GC,le_trans→GM,le_of_lt→GR,zero_le→GV,lt_irrefl→Hm,zero_add→HB,ne_of_gt→HK,lt_trans→HM,le_succ→HN,add_assoc→H_,lt_succ_self→Ic,le_of_not_lt→Iz,le_add_right→IB,not_lt_zero→IK,lt_of_succ_lt→I0,add_le_add_right→Jp,min_eq_left→Ju,toDigits→J0,mod_lt→J1,le_of_eq→Kr
open PySem.Heap renaming get?_push_of_some→Gk,lt_size→Gq,get?_push_size→GH,SameBut→Iv,size_push→IV,get?_update_other→IY,FlyingW→JZ
open Or renaming inl→Gm,inr→Kn
open Bool renaming false_ne_true→Gy,not_eq_true→Hq,and_eq_true→HF,true_and→Jk,or_eq_false_iff→Jn,eq_iff_iff→Js,false_and→JD,false_eq_true→JJ,and_false→Kc,false_or→Ki,and_true→Kj
open PyProof.Rows renaming boot_isinstance→Gz,envOfC→HE,boot_tuple→HI,callWith_type1→HL,boot_list→Ii,boot_str→Io,boot_bool→IZ,boot_int→Jb,boot_max→Jc,kindOf→Je,AllBare→Jg,subscriptTail→Kh,IntsAre→KD,isTrue_and→KG,Subscript_→KN
open PySem.PassesOwn renaming never→GS,leaving→HX
open Option.some renaming inj→GU
open PySem.Value renaming ref→GW,str→HP,type→Ir,none→IL,int→IQ,bool→JV,float→Kz
open Ne renaming symm→GX
open Array renaming mk→Hg,length_toList→ID,append_assoc→JB
open PySem.Str renaming empty→Hk,ofString→Ko,join→KR
open PySem.Builtin.Str renaming occurrences→Hl
open False renaming elim→Hx
open Int renaming toNat→HV,toNat_natCast→IW,zero_add→JA
open True renaming intro→HY
open PySem.Builtin.List renaming listTooLong→HZ
open PySem.Calls renaming callWith_builtin→Ig,Constant_str→IM,evalArgs_plain→Jm,spliced_cons→JE
open Sum renaming inr→IH,inl→Kd
open PySem.Data renaming fields→IS
open ForInStep renaming yield→Jt
open PySem.F renaming args_str_split_2→JG,entry_str_split→JO,slot_str_split→JU
open PyProof.Rows.LCg renaming lst→JN
open PySem.NameKind renaming free→JR
open PySem.Obj renaming mapSeq→JW
open PySem.Around renaming under→Ks
open PySem.Code renaming isFrame→Kt
open LawfulBEq renaming eq_of_beq→Ky
namespace L2
open PySem
def cI(s:Stmt):Arguments:=match s with
 |.FunctionDef _ a _ _ _ _ _ _ _ _=>a
 |_=>{ posonlyargs:=[],args:=[],vararg:=none,kwonlyargs:=[],kw_defaults:=[],kwarg:=none,defaults:=[] }
def cm(s:Stmt):List Stmt:=match s with
 |.FunctionDef _ _ b _ _ _ _ _ _ _=>b
 |_=>[]
def au(s:Stmt):Scope:=match s with
 |.FunctionDef _ _ _ _ _ _ sc _ _ _=>sc
 |_=>{ kind:=.function,names:=[],isGenerator:=false,isCoroutine:=false }

end L2
namespace K58
open PySem PySem.W L2 PyProof.Rows
noncomputable def top(i:Nat):Stmt:=PySem.Challenge.pw_trueleaf_k58_heads_and_lists.main.body.getD i (.Pass ⟨0,0,0,0⟩)
noncomputable def bz(i j:Nat):Stmt:=match top i with|.ClassDef _ _ _ b ..=>b.getD j (.Pass ⟨0,0,0,0⟩)|_=>.Pass ⟨0,0,0,0⟩
set_option maxHeartbeats 0 in
theorem wsL:PySem.Challenge.rw_trueleaf_k58_heads_and_lists.wellSaid=true:=by kernel_rfl
set_option maxHeartbeats 0 in
theorem wsR:PySem.Challenge.rw_trueleaf_k58_heads_and_lists.row.wellSaid=true:=by kernel_rfl
noncomputable abbrev os(s:String):Str:=Ko s
noncomputable abbrev kh(P:GQ)(s:Str):Int:=PyData.keyHash P s
noncomputable abbrev fO(n:String)(i:Nat)(d:F9)(m:String)(k:Nat)(r:Addr):Obj:=⟨.type "function",none,.func (fnOf (os n) (os n) (cI (top i)) (cm (top i)) (au (top i)) d .none .none (.str (os m) k) none (.ref r) .none),#[]⟩
noncomputable abbrev sv(s:String)(k:Nat):F9:=.str (os s) k
noncomputable abbrev dE(P:GQ)(s:String)(k:Nat)(v:F9):Hb:=⟨kh P (os s),.str (os s) k,v⟩
noncomputable abbrev cV(n q:String)(a b c:Nat)(l1 l2 l5:Int)(r0:Addr)(m:Int)(r1:Addr)(v0 v1 v2 v3:F9)(x y:Int)(d:Nat):Obj:=⟨.type "code",none,.fields #[.str (os n) a,.str (os q) b,.str (os "/claim/cut.py") c,.int l1 0,.int l2 0,.int 0 0,.int 0 0,.int l5 0,.ref r0,.bool true,.int m 0,.ref r1,v0,v1,v2,v3,.int x 0,.int y 0,.str (os "/claim/cut.py") d],#[]⟩
noncomputable abbrev fM(n q:String)(s:Stmt)(d:F9)(m:String)(k:Nat)(r:Addr):Obj:=⟨.type "function",none,.func (fnOf (os n) (os q) (cI s) (cm s) (au s) d .none .none (.str (os m) k) none (.ref r) .none),#[]⟩
noncomputable abbrev gA(n q:String)(s:Stmt):Obj:=⟨.none,none,.func (FuncData.mk (os n) (os q) (cI s) (FuncBody.stmts (cm s)) (au s) 0 [] .none .none .none .none none .none .none 0),#[]⟩
noncomputable def kk:GQ->Frag:=λP=>(nat_lit 2,⟨(.none),none,.dict ([]).toArray 0,#[]⟩)::
 (nat_lit 3,⟨(.type "dict"),none,.dict (GO (dE P "__name__" 165 (sv "law_trueleaf_k58_heads_and_lists" 818)::dE P "__doc__" 166 (.none)::dE P "__package__" 167 (.none)::dE P "__loader__" 168 (.builtin "__main__.__loader__#opaque")::dE P "__spec__" 169 (.none)::dE P "__annotations__" 170 (.ref 6)::dE P "__builtins__" 171 (.ref 4)::dE P "__file__" 173 (sv "/claim/cut.py" 172)::dE P "__cached__" 174 (.none)::dE P "TrueleafError" 206 (.ref 24)::dE P "BadRow" 222 (.ref 37)::dE P "TooLong" 238 (.ref 49)::dE P "BadCall" 254 (.ref 61)::dE P "Deep" 270 (.ref 73)::dE P "NoShort" 286 (.ref 85)::dE P "BadWord" 302 (.ref 97)::dE P "Twice" 318 (.ref 109)::dE P "NoFoot" 334 (.ref 121)::dE P "NoMark" 350 (.ref 133)::dE P "MOST_WORDS_books" 352 (.int 400 351)::dE P "LONGEST_TEXT" 354 (.int 60 353)::dE P "LETTERS" 358 (sv "abcdefghijklmnopqrstuvwxyz" 357)::dE P "FIGURES" 360 (sv "0123456789" 359)::dE P "LONGEST_NAME" 362 (.int 12 361)::dE P "KINDS" 378 (.ref 136)::dE P "words_in" 384 (.ref 141)::dE P "is_name" 390 (.ref 146)::dE P "figures_of" 397 (.ref 153)::dE P "kind_of" 406 (.ref 160)::dE P "numbers_of" 414 (.ref 165)::dE P "MOST_DEEP" 418 (.int 20 417)::dE P "tree_of" 429 (.ref 173)::dE P "copied" 435 (.ref 178)::dE P "opens_call" 442 (.ref 185)::dE P "with_closed" 452 (.ref 192)::dE P "node_of" 461 (.ref 199)::dE P "looks_like_place" 468 (.ref 206)::dE P "MOST_WORDS_shorts" 472 (.int 400 471)::dE P "MOST_CALLS" 474 (.int 400 473)::dE P "MOST_CALLS_OF_SHORT" 476 (.int 60 475)::dE P "size_of" 486 (.ref 214)::dE P "new_short" 499 (.ref 221)::dE P "put_out" 509 (.ref 228)::dE P "by_name" 515 (.ref 233)::dE P "short_called" 525 (.ref 240)::dE P "size_among" 541 (.ref 247)::dE P "sum_of_rows" 547 (.ref 252)::dE P "words_out" 553 (.ref 257)::dE P "ALONE" 559 (.ref 258)::dE P "HEADS" 563 (.ref 259)::dE P "MOST_FOOT_WORDS" 565 (.int 39 564)::dE P "read_rows" 574 (.ref 266)::dE P "Reader" 662 (.ref 328)::dE P "is_figure" 669 (.ref 339)::dE P "LEAPS" 678 (.ref 340)::dE P "POINTING" 682 (.ref 341)::dE P "set_words" 688 (.ref 346)::dE P "Setter" 817 (.ref 432)::dE P "_law_cell_at" 827 (.ref 443)::dE P "_law_draw" 837 (.ref 450)::dE P "_law_alike" 846 (.ref 457)::dE P "_law_sign_by" 855 (.ref 464)::dE P "_law_is_name" 863 (.ref 471)::dE P "_law_form" 871 (.ref 478)::dE P "_law_name" 877 (.ref 483)::dE P "_law_plain_by" 883 (.ref 488)::dE P "_law_written" 891 (.ref 495)::dE P "_law_word" 905 (.ref 502)::dE P "_law_rows" 918 (.ref 509)::dE P "_law_named" 924 (.ref 514)::dE P "_law_text" 930 (.ref 519)::dE P "_law_titles" 936 (.ref 524)::dE P "_law_stream" 942 (.ref 529)::dE P "_law_heads" 954 (.ref 536)::dE P "_law_said" 966 (.ref 543)::dE P "_law_marked" 978 (.ref 550)::dE P "_law_shape" 987 (.ref 557)::dE P "_law_spaced" 1000 (.ref 564)::dE P "law" 1006 (.ref 569)::[])) 79,#[]⟩) ::
 (nat_lit 15,⟨(.type "tuple"),none,(.seq #[.type "ValueError"]),#[]⟩) ::
 (nat_lit 22,⟨(.type "tuple"),none,(.seq #[]),#[]⟩) ::
 (nat_lit 23,⟨(.type "dict"),none,.dict (GO (dE P "__module__" 196 (sv "trueleaf.errors" 187)::dE P "__firstlineno__" 200 (.int 2 199)::dE P "__static_attributes__" 201 (.ref 22)::dE P "__weakref__" 203 (.ref 25)::dE P "__doc__" 204 (.none)::[])) 3,#[]⟩) ::
 (nat_lit 24,⟨(.type "type"),none,(.cls (PySem.ClassData.mk (os "TrueleafError") [.type "ValueError"] [.ref 24,.type "ValueError",.type "Exception",.type "BaseException",.type "object"] 23 (os "TrueleafError") true [] [.ref 37,.ref 49,.ref 61,.ref 73,.ref 85,.ref 97,.ref 109,.ref 121,.ref 133] false none false)),#[F_ (.ref 15),none,F_ (sv "TrueleafError" 189),F_ (sv "TrueleafError" 197),F_ (.builtin "ValueError.__new__"),F_ (.bool true)]⟩) ::
 (nat_lit 25,⟨(.type "getset_descriptor"),none,(.fields #[sv "__weakref__" 202,.ref 24,.builtin "ExceptionGroup.__weakref__",.none]),#[]⟩) ::
 (nat_lit 28,⟨(.type "tuple"),none,(.seq #[.ref 24]),#[]⟩) ::
 (nat_lit 35,⟨(.type "tuple"),none,(.seq #[]),#[]⟩) ::
 (nat_lit 36,⟨(.type "dict"),none,.dict (GO (dE P "__module__" 214 (sv "trueleaf.errors" 187)::dE P "__firstlineno__" 218 (.int 4 217)::dE P "__static_attributes__" 219 (.ref 35)::dE P "__doc__" 220 (.none)::[])) 2,#[]⟩) ::
 (nat_lit 37,⟨(.type "type"),none,(.cls (PySem.ClassData.mk (os "BadRow") [.ref 24] [.ref 37,.ref 24,.type "ValueError",.type "Exception",.type "BaseException",.type "object"] 36 (os "BadRow") true [] [] false none false)),#[F_ (.ref 28),none,F_ (sv "BadRow" 207),F_ (sv "BadRow" 215),F_ (.builtin "ValueError.__new__"),F_ (.bool true)]⟩) ::
 (nat_lit 40,⟨(.type "tuple"),none,(.seq #[.ref 24]),#[]⟩) ::
 (nat_lit 47,⟨(.type "tuple"),none,(.seq #[]),#[]⟩) ::
 (nat_lit 48,⟨(.type "dict"),none,.dict (GO (dE P "__module__" 230 (sv "trueleaf.errors" 187)::dE P "__firstlineno__" 234 (.int 6 233)::dE P "__static_attributes__" 235 (.ref 47)::dE P "__doc__" 236 (.none)::[])) 2,#[]⟩) ::
 (nat_lit 49,⟨(.type "type"),none,(.cls (PySem.ClassData.mk (os "TooLong") [.ref 24] [.ref 49,.ref 24,.type "ValueError",.type "Exception",.type "BaseException",.type "object"] 48 (os "TooLong") true [] [] false none false)),#[F_ (.ref 40),none,F_ (sv "TooLong" 223),F_ (sv "TooLong" 231),F_ (.builtin "ValueError.__new__"),F_ (.bool true)]⟩) ::
 (nat_lit 52,⟨(.type "tuple"),none,(.seq #[.ref 24]),#[]⟩) ::
 (nat_lit 59,⟨(.type "tuple"),none,(.seq #[]),#[]⟩) ::
 (nat_lit 60,⟨(.type "dict"),none,.dict (GO (dE P "__module__" 246 (sv "trueleaf.errors" 187)::dE P "__firstlineno__" 250 (.int 8 249)::dE P "__static_attributes__" 251 (.ref 59)::dE P "__doc__" 252 (.none)::[])) 2,#[]⟩) ::
 (nat_lit 61,⟨(.type "type"),none,(.cls (PySem.ClassData.mk (os "BadCall") [.ref 24] [.ref 61,.ref 24,.type "ValueError",.type "Exception",.type "BaseException",.type "object"] 60 (os "BadCall") true [] [] false none false)),#[F_ (.ref 52),none,F_ (sv "BadCall" 239),F_ (sv "BadCall" 247),F_ (.builtin "ValueError.__new__"),F_ (.bool true)]⟩) ::
 (nat_lit 64,⟨(.type "tuple"),none,(.seq #[.ref 24]),#[]⟩) ::
 (nat_lit 71,⟨(.type "tuple"),none,(.seq #[]),#[]⟩) ::
 (nat_lit 72,⟨(.type "dict"),none,.dict (GO (dE P "__module__" 262 (sv "trueleaf.errors" 187)::dE P "__firstlineno__" 266 (.int 10 265)::dE P "__static_attributes__" 267 (.ref 71)::dE P "__doc__" 268 (.none)::[])) 2,#[]⟩) ::
 (nat_lit 73,⟨(.type "type"),none,(.cls (PySem.ClassData.mk (os "Deep") [.ref 24] [.ref 73,.ref 24,.type "ValueError",.type "Exception",.type "BaseException",.type "object"] 72 (os "Deep") true [] [] false none false)),#[F_ (.ref 64),none,F_ (sv "Deep" 255),F_ (sv "Deep" 263),F_ (.builtin "ValueError.__new__"),F_ (.bool true)]⟩) ::
 (nat_lit 76,⟨(.type "tuple"),none,(.seq #[.ref 24]),#[]⟩) ::
 (nat_lit 83,⟨(.type "tuple"),none,(.seq #[]),#[]⟩) ::
 (nat_lit 84,⟨(.type "dict"),none,.dict (GO (dE P "__module__" 278 (sv "trueleaf.errors" 187)::dE P "__firstlineno__" 282 (.int 12 281)::dE P "__static_attributes__" 283 (.ref 83)::dE P "__doc__" 284 (.none)::[])) 2,#[]⟩) ::
 (nat_lit 85,⟨(.type "type"),none,(.cls (PySem.ClassData.mk (os "NoShort") [.ref 24] [.ref 85,.ref 24,.type "ValueError",.type "Exception",.type "BaseException",.type "object"] 84 (os "NoShort") true [] [] false none false)),#[F_ (.ref 76),none,F_ (sv "NoShort" 271),F_ (sv "NoShort" 279),F_ (.builtin "ValueError.__new__"),F_ (.bool true)]⟩) ::
 (nat_lit 88,⟨(.type "tuple"),none,(.seq #[.ref 24]),#[]⟩) ::
 (nat_lit 95,⟨(.type "tuple"),none,(.seq #[]),#[]⟩) ::
 (nat_lit 96,⟨(.type "dict"),none,.dict (GO (dE P "__module__" 294 (sv "trueleaf.errors" 187)::dE P "__firstlineno__" 298 (.int 14 297)::dE P "__static_attributes__" 299 (.ref 95)::dE P "__doc__" 300 (.none)::[])) 2,#[]⟩) ::
 (nat_lit 97,⟨(.type "type"),none,(.cls (PySem.ClassData.mk (os "BadWord") [.ref 24] [.ref 97,.ref 24,.type "ValueError",.type "Exception",.type "BaseException",.type "object"] 96 (os "BadWord") true [] [] false none false)),#[F_ (.ref 88),none,F_ (sv "BadWord" 287),F_ (sv "BadWord" 295),F_ (.builtin "ValueError.__new__"),F_ (.bool true)]⟩) ::
 (nat_lit 100,⟨(.type "tuple"),none,(.seq #[.ref 24]),#[]⟩) ::
 (nat_lit 107,⟨(.type "tuple"),none,(.seq #[]),#[]⟩) ::
 (nat_lit 108,⟨(.type "dict"),none,.dict (GO (dE P "__module__" 310 (sv "trueleaf.errors" 187)::dE P "__firstlineno__" 314 (.int 16 313)::dE P "__static_attributes__" 315 (.ref 107)::dE P "__doc__" 316 (.none)::[])) 2,#[]⟩) ::
 (nat_lit 109,⟨(.type "type"),none,(.cls (PySem.ClassData.mk (os "Twice") [.ref 24] [.ref 109,.ref 24,.type "ValueError",.type "Exception",.type "BaseException",.type "object"] 108 (os "Twice") true [] [] false none false)),#[F_ (.ref 100),none,F_ (sv "Twice" 303),F_ (sv "Twice" 311),F_ (.builtin "ValueError.__new__"),F_ (.bool true)]⟩) ::
 (nat_lit 112,⟨(.type "tuple"),none,(.seq #[.ref 24]),#[]⟩) ::
 (nat_lit 119,⟨(.type "tuple"),none,(.seq #[]),#[]⟩) ::
 (nat_lit 120,⟨(.type "dict"),none,.dict (GO (dE P "__module__" 326 (sv "trueleaf.errors" 187)::dE P "__firstlineno__" 330 (.int 18 329)::dE P "__static_attributes__" 331 (.ref 119)::dE P "__doc__" 332 (.none)::[])) 2,#[]⟩) ::
 (nat_lit 121,⟨(.type "type"),none,(.cls (PySem.ClassData.mk (os "NoFoot") [.ref 24] [.ref 121,.ref 24,.type "ValueError",.type "Exception",.type "BaseException",.type "object"] 120 (os "NoFoot") true [] [] false none false)),#[F_ (.ref 112),none,F_ (sv "NoFoot" 319),F_ (sv "NoFoot" 327),F_ (.builtin "ValueError.__new__"),F_ (.bool true)]⟩) ::
 (nat_lit 124,⟨(.type "tuple"),none,(.seq #[.ref 24]),#[]⟩) ::
 (nat_lit 131,⟨(.type "tuple"),none,(.seq #[]),#[]⟩) ::
 (nat_lit 132,⟨(.type "dict"),none,.dict (GO (dE P "__module__" 342 (sv "trueleaf.errors" 187)::dE P "__firstlineno__" 346 (.int 20 345)::dE P "__static_attributes__" 347 (.ref 131)::dE P "__doc__" 348 (.none)::[])) 2,#[]⟩) ::
 (nat_lit 133,⟨(.type "type"),none,(.cls (PySem.ClassData.mk (os "NoMark") [.ref 24] [.ref 133,.ref 24,.type "ValueError",.type "Exception",.type "BaseException",.type "object"] 132 (os "NoMark") true [] [] false none false)),#[F_ (.ref 124),none,F_ (sv "NoMark" 335),F_ (sv "NoMark" 343),F_ (.builtin "ValueError.__new__"),F_ (.bool true)]⟩) ::
 (nat_lit 136,⟨(.type "dict"),none,.dict (GO (dE P "#" 363 (sv "mark" 364)::dE P "@" 365 (sv "number" 366)::dE P "&" 367 (sv "page" 368)::dE P "^" 369 (sv "row" 370)::dE P "~" 371 (sv "foot" 372)::[])) 5,#[]⟩) ::
 (nat_lit 140,cV "words_in" "words_in" 379 380 381 29 1 3 137 181 138 .none .none .none (.ref 139) 382 29 383) ::
 (nat_lit 141,fO "words_in" 18 (.none) "trueleaf.signs" 355 140) ::
 (nat_lit 145,cV "is_name" "is_name" 385 386 387 31 1 3 142 181 143 .none .none .none (.ref 144) 388 31 389) ::
 (nat_lit 146,fO "is_name" 19 (.none) "trueleaf.signs" 355 145) ::
 (nat_lit 152,cV "figures_of" "figures_of" 391 392 393 35 1 3 147 181 148 .none (.ref 149) (.ref 150) (.ref 151) 395 35 396) ::
 (nat_lit 153,fO "figures_of" 20 (.none) "trueleaf.signs" 355 152) ::
 (nat_lit 159,cV "kind_of" "kind_of" 398 399 400 37 1 3 154 181 155 .none (.ref 156) (.ref 157) (.ref 158) 404 37 405) ::
 (nat_lit 160,fO "kind_of" 21 (.none) "trueleaf.signs" 355 159) ::
 (nat_lit 164,cV "numbers_of" "numbers_of" 409 410 411 46 1 3 161 181 162 .none .none .none (.ref 163) 412 46 413) ::
 (nat_lit 165,fO "numbers_of" 23 (.none) "trueleaf.heads" 407 164) ::
 (nat_lit 166,⟨(.type "tuple"),none,(.seq #[.none]),#[]⟩) ::
 (nat_lit 172,cV "tree_of" "tree_of" 419 420 421 55 2 3 167 181 168 .none (.ref 169) (.ref 170) (.ref 171) 427 55 428) ::
 (nat_lit 173,fO "tree_of" 26 (.ref 166) "trueleaf.trees" 415 172) ::
 (nat_lit 177,cV "copied" "copied" 430 431 432 74 1 3 174 181 175 .none .none .none (.ref 176) 433 74 434) ::
 (nat_lit 178,fO "copied" 27 (.none) "trueleaf.trees" 415 177) ::
 (nat_lit 184,cV "opens_call" "opens_call" 436 437 438 82 1 3 179 181 180 .none (.ref 181) (.ref 182) (.ref 183) 440 82 441) ::
 (nat_lit 185,fO "opens_call" 28 (.none) "trueleaf.trees" 415 184) ::
 (nat_lit 191,cV "with_closed" "with_closed" 443 444 445 84 2 3 186 181 187 .none (.ref 188) (.ref 189) (.ref 190) 450 84 451) ::
 (nat_lit 192,fO "with_closed" 29 (.none) "trueleaf.trees" 415 191) ::
 (nat_lit 198,cV "node_of" "node_of" 453 454 455 91 2 3 193 181 194 .none (.ref 195) (.ref 196) (.ref 197) 459 91 460) ::
 (nat_lit 199,fO "node_of" 30 (.none) "trueleaf.trees" 415 198) ::
 (nat_lit 205,cV "looks_like_place" "looks_like_place" 462 463 464 98 1 3 200 181 201 .none (.ref 202) (.ref 203) (.ref 204) 466 98 467) ::
 (nat_lit 206,fO "looks_like_place" 31 (.none) "trueleaf.trees" 415 205) ::
 (nat_lit 207,⟨(.type "tuple"),none,(.seq #[.int 0 477]),#[]⟩) ::
 (nat_lit 213,cV "size_of" "size_of" 478 479 480 104 3 3 208 181 209 .none (.ref 210) (.ref 211) (.ref 212) 484 104 485) ::
 (nat_lit 214,fO "size_of" 36 (.ref 207) "trueleaf.shorts" 469 213) ::
 (nat_lit 220,cV "new_short" "new_short" 487 488 489 106 4 3 215 181 216 .none (.ref 217) (.ref 218) (.ref 219) 497 106 498) ::
 (nat_lit 221,fO "new_short" 37 (.none) "trueleaf.shorts" 469 220) ::
 (nat_lit 227,cV "put_out" "put_out" 500 501 502 115 2 3 222 181 223 .none (.ref 224) (.ref 225) (.ref 226) 507 115 508) ::
 (nat_lit 228,fO "put_out" 38 (.none) "trueleaf.shorts" 469 227) ::
 (nat_lit 232,cV "by_name" "by_name" 510 511 512 121 1 3 229 181 230 .none .none .none (.ref 231) 513 121 514) ::
 (nat_lit 233,fO "by_name" 39 (.none) "trueleaf.shorts" 469 232) ::
 (nat_lit 239,cV "short_called" "short_called" 516 517 518 123 2 3 234 181 235 .none (.ref 236) (.ref 237) (.ref 238) 523 123 524) ::
 (nat_lit 240,fO "short_called" 40 (.none) "trueleaf.shorts" 469 239) ::
 (nat_lit 246,cV "size_among" "size_among" 526 527 528 131 3 3 241 181 242 .none (.ref 243) (.ref 244) (.ref 245) 539 131 540) ::
 (nat_lit 247,fO "size_among" 41 (.none) "trueleaf.shorts" 469 246) ::
 (nat_lit 251,cV "sum_of_rows" "sum_of_rows" 542 543 544 148 3 3 248 181 249 .none .none .none (.ref 250) 545 148 546) ::
 (nat_lit 252,fO "sum_of_rows" 42 (.none) "trueleaf.shorts" 469 251) ::
 (nat_lit 256,cV "words_out" "words_out" 548 549 550 150 3 3 253 181 254 .none .none .none (.ref 255) 551 150 552) ::
 (nat_lit 257,fO "words_out" 43 (.none) "trueleaf.shorts" 469 256) ::
 (nat_lit 258,⟨(.type "tuple"),none,(.seq #[sv ".page" 556,sv ".odd" 557,sv ".list" 558]),#[]⟩) ::
 (nat_lit 259,⟨(.type "tuple"),none,(.seq #[sv "=" 560,sv "==" 561,sv "===" 562]),#[]⟩) ::
 (nat_lit 265,cV "read_rows" "read_rows" 566 567 568 165 1 3 260 181 261 .none (.ref 262) (.ref 263) (.ref 264) 572 165 573) ::
 (nat_lit 266,fO "read_rows" 48 (.none) "trueleaf.reading" 554 265) ::
 (nat_lit 279,cV "__init__" "Reader.__init__" 587 588 589 172 1 3 274 181 275 .none (.ref 276) (.ref 277) (.ref 278) 591 172 592) ::
 (nat_lit 280,fM "__init__" "Reader.__init__" (bz 49 0) (.none) "trueleaf.reading" 554 279) ::
 (nat_lit 286,cV "read_row" "Reader.read_row" 594 595 596 178 2 3 281 181 282 .none (.ref 283) (.ref 284) (.ref 285) 600 178 601) ::
 (nat_lit 287,fM "read_row" "Reader.read_row" (bz 49 1) (.none) "trueleaf.reading" 554 286) ::
 (nat_lit 291,cV "read_let" "Reader.read_let" 603 604 605 196 2 3 288 181 289 .none .none .none (.ref 290) 606 196 607) ::
 (nat_lit 292,fM "read_let" "Reader.read_let" (bz 49 2) (.none) "trueleaf.reading" 554 291) ::
 (nat_lit 298,cV "read_foot" "Reader.read_foot" 609 610 611 205 2 3 293 181 294 .none (.ref 295) (.ref 296) (.ref 297) 616 205 617) ::
 (nat_lit 299,fM "read_foot" "Reader.read_foot" (bz 49 3) (.none) "trueleaf.reading" 554 298) ::
 (nat_lit 305,cV "read_alone" "Reader.read_alone" 619 620 621 216 2 3 300 181 301 .none (.ref 302) (.ref 303) (.ref 304) 625 216 626) ::
 (nat_lit 306,fM "read_alone" "Reader.read_alone" (bz 49 4) (.none) "trueleaf.reading" 554 305) ::
 (nat_lit 312,cV "read_words" "Reader.read_words" 628 629 630 222 2 3 307 181 308 .none (.ref 309) (.ref 310) (.ref 311) 634 222 635) ::
 (nat_lit 313,fM "read_words" "Reader.read_words" (bz 49 5) (.none) "trueleaf.reading" 554 312) ::
 (nat_lit 319,cV "add_thing" "Reader.add_thing" 637 638 639 230 2 3 314 181 315 .none (.ref 316) (.ref 317) (.ref 318) 642 230 643) ::
 (nat_lit 320,fM "add_thing" "Reader.add_thing" (bz 49 6) (.none) "trueleaf.reading" 554 319) ::
 (nat_lit 324,cV "words_out" "Reader.words_out" 645 646 647 234 3 3 321 181 322 .none .none .none (.ref 323) 648 234 649) ::
 (nat_lit 325,fM "words_out" "Reader.words_out" (bz 49 7) (.none) "trueleaf.reading" 554 324) ::
 (nat_lit 326,⟨(.type "tuple"),none,(.seq #[sv "feet" 651,sv "going_on" 652,sv "shorts" 653,sv "things" 654]),#[]⟩) ::
 (nat_lit 327,⟨(.type "dict"),none,.dict (GO (dE P "__module__" 582 (sv "trueleaf.reading" 554)::dE P "__firstlineno__" 586 (.int 170 585)::dE P "__init__" 593 (.ref 280)::dE P "read_row" 602 (.ref 287)::dE P "read_let" 608 (.ref 292)::dE P "read_foot" 618 (.ref 299)::dE P "read_alone" 627 (.ref 306)::dE P "read_words" 636 (.ref 313)::dE P "add_thing" 644 (.ref 320)::dE P "words_out" 650 (.ref 325)::dE P "__static_attributes__" 655 (.ref 326)::dE P "__dict__" 657 (.ref 329)::dE P "__weakref__" 659 (.ref 330)::dE P "__doc__" 660 (.none)::[])) 4,#[]⟩) ::
 (nat_lit 328,⟨(.type "type"),none,(.cls (PySem.ClassData.mk (os "Reader") [.type "object"] [.ref 328,.type "object"] 327 (os "Reader") true [] [] false none false)),#[none,none,F_ (sv "Reader" 575),F_ (sv "Reader" 583),F_ (.builtin "object.__new__"),F_ (.bool true)]⟩) ::
 (nat_lit 329,⟨(.type "getset_descriptor"),none,(.fields #[sv "__dict__" 656,.ref 328,.builtin "function.__dict__",.builtin "function.__dict__#set"]),#[]⟩) ::
 (nat_lit 330,⟨(.type "getset_descriptor"),none,(.fields #[sv "__weakref__" 658,.ref 328,.builtin "ExceptionGroup.__weakref__",.none]),#[]⟩) ::
 (nat_lit 338,cV "is_figure" "is_figure" 663 664 665 242 1 3 333 181 334 .none (.ref 335) (.ref 336) (.ref 337) 667 242 668) ::
 (nat_lit 339,fO "is_figure" 50 (.none) "trueleaf.reading" 554 338) ::
 (nat_lit 340,⟨(.type "dict"),none,.dict (GO (dE P "page" 672 (.int 3 673)::dE P "odd" 674 (.int 4 675)::[])) 2,#[]⟩) ::
 (nat_lit 341,⟨(.type "tuple"),none,(.seq #[sv "number" 679,sv "page" 680,sv "row" 681]),#[]⟩) ::
 (nat_lit 345,cV "set_words" "set_words" 683 684 685 247 2 3 342 181 343 .none .none .none (.ref 344) 686 247 687) ::
 (nat_lit 346,fO "set_words" 54 (.none) "trueleaf.setting" 670 345) ::
 (nat_lit 357,cV "__init__" "Setter.__init__" 701 702 703 257 3 3 354 181 355 .none .none .none (.ref 356) 704 257 705) ::
 (nat_lit 358,fM "__init__" "Setter.__init__" (bz 55 0) (.none) "trueleaf.setting" 670 357) ::
 (nat_lit 364,cV "set_thing" "Setter.set_thing" 707 708 709 268 2 3 359 181 360 .none (.ref 361) (.ref 362) (.ref 363) 713 268 714) ::
 (nat_lit 365,fM "set_thing" "Setter.set_thing" (bz 55 1) (.none) "trueleaf.setting" 670 364) ::
 (nat_lit 371,cV "set_head" "Setter.set_head" 716 717 718 281 2 3 366 181 367 .none (.ref 368) (.ref 369) (.ref 370) 722 281 723) ::
 (nat_lit 372,fM "set_head" "Setter.set_head" (bz 55 2) (.none) "trueleaf.setting" 670 371) ::
 (nat_lit 376,cV "set_list" "Setter.set_list" 725 726 727 286 1 3 373 181 374 .none .none .none (.ref 375) 728 286 729) ::
 (nat_lit 377,fM "set_list" "Setter.set_list" (bz 55 3) (.none) "trueleaf.setting" 670 376) ::
 (nat_lit 383,cV "set_run" "Setter.set_run" 731 732 733 293 4 3 378 181 379 .none (.ref 380) (.ref 381) (.ref 382) 739 293 740) ::
 (nat_lit 384,fM "set_run" "Setter.set_run" (bz 55 4) (.none) "trueleaf.setting" 670 383) ::
 (nat_lit 390,cV "set_mark" "Setter.set_mark" 742 743 744 302 2 3 385 181 386 .none (.ref 387) (.ref 388) (.ref 389) 747 302 748) ::
 (nat_lit 391,fM "set_mark" "Setter.set_mark" (bz 55 5) (.none) "trueleaf.setting" 670 390) ::
 (nat_lit 397,cV "set_word" "Setter.set_word" 750 751 752 307 3 3 392 181 393 .none (.ref 394) (.ref 395) (.ref 396) 757 307 758) ::
 (nat_lit 398,fM "set_word" "Setter.set_word" (bz 55 6) (.none) "trueleaf.setting" 670 397) ::
 (nat_lit 404,cV "next_foot" "Setter.next_foot" 760 761 762 319 2 3 399 181 400 .none (.ref 401) (.ref 402) (.ref 403) 765 319 766) ::
 (nat_lit 405,fM "next_foot" "Setter.next_foot" (bz 55 7) (.none) "trueleaf.setting" 670 404) ::
 (nat_lit 409,cV "check_marks" "Setter.check_marks" 768 769 770 325 1 3 406 181 407 .none .none .none (.ref 408) 771 325 772) ::
 (nat_lit 410,fM "check_marks" "Setter.check_marks" (bz 55 8) (.none) "trueleaf.setting" 670 409) ::
 (nat_lit 414,cV "words_told" "Setter.words_told" 774 775 776 336 1 3 411 181 412 .none .none .none (.ref 413) 777 336 778) ::
 (nat_lit 415,fM "words_told" "Setter.words_told" (bz 55 9) (.none) "trueleaf.setting" 670 414) ::
 (nat_lit 421,cV "saying_of" "Setter.saying_of" 780 781 782 342 2 3 416 181 417 .none (.ref 418) (.ref 419) (.ref 420) 787 342 788) ::
 (nat_lit 422,fM "saying_of" "Setter.saying_of" (bz 55 10) (.none) "trueleaf.setting" 670 421) ::
 (nat_lit 428,cV "number_at" "Setter.number_at" 790 791 792 353 2 3 423 181 424 .none (.ref 425) (.ref 426) (.ref 427) 798 353 799) ::
 (nat_lit 429,fM "number_at" "Setter.number_at" (bz 55 11) (.none) "trueleaf.setting" 670 428) ::
 (nat_lit 430,⟨(.type "tuple"),none,(.seq #[sv "behind_head" 801,sv "feet" 802,sv "feet_set" 803,sv "heads" 804,sv "leap" 805,sv "marks" 806,sv "numbers" 807,sv "titles" 808,sv "words" 809]),#[]⟩) ::
 (nat_lit 431,⟨(.type "dict"),none,.dict (GO (dE P "__module__" 696 (sv "trueleaf.setting" 670)::dE P "__firstlineno__" 700 (.int 255 699)::dE P "__init__" 706 (.ref 358)::dE P "set_thing" 715 (.ref 365)::dE P "set_head" 724 (.ref 372)::dE P "set_list" 730 (.ref 377)::dE P "set_run" 741 (.ref 384)::dE P "set_mark" 749 (.ref 391)::dE P "set_word" 759 (.ref 398)::dE P "next_foot" 767 (.ref 405)::dE P "check_marks" 773 (.ref 410)::dE P "words_told" 779 (.ref 415)::dE P "saying_of" 789 (.ref 422)::dE P "number_at" 800 (.ref 429)::dE P "__static_attributes__" 810 (.ref 430)::dE P "__dict__" 812 (.ref 433)::dE P "__weakref__" 814 (.ref 434)::dE P "__doc__" 815 (.none)::[])) 4,#[]⟩) ::
 (nat_lit 432,⟨(.type "type"),none,(.cls (PySem.ClassData.mk (os "Setter") [.type "object"] [.ref 432,.type "object"] 431 (os "Setter") true [] [] false none false)),#[none,none,F_ (sv "Setter" 689),F_ (sv "Setter" 697),F_ (.builtin "object.__new__"),F_ (.bool true)]⟩) ::
 (nat_lit 433,⟨(.type "getset_descriptor"),none,(.fields #[sv "__dict__" 811,.ref 432,.builtin "function.__dict__",.builtin "function.__dict__#set"]),#[]⟩) ::
 (nat_lit 434,⟨(.type "getset_descriptor"),none,(.fields #[sv "__weakref__" 813,.ref 432,.builtin "ExceptionGroup.__weakref__",.none]),#[]⟩) ::
 (nat_lit 442,cV "_law_cell_at" "_law_cell_at" 820 821 822 360 2 3 437 181 438 .none (.ref 439) (.ref 440) (.ref 441) 825 360 826) ::
 (nat_lit 443,fO "_law_cell_at" 57 (.none) "law_trueleaf_k58_heads_and_lists" 818 442) ::
 (nat_lit 449,cV "_law_draw" "_law_draw" 828 829 830 364 3 3 444 181 445 .none (.ref 446) (.ref 447) (.ref 448) 835 364 836) ::
 (nat_lit 450,fO "_law_draw" 58 (.none) "law_trueleaf_k58_heads_and_lists" 818 449) ::
 (nat_lit 456,cV "_law_alike" "_law_alike" 838 839 840 367 2 3 451 181 452 .none (.ref 453) (.ref 454) (.ref 455) 844 367 845) ::
 (nat_lit 457,fO "_law_alike" 59 (.none) "law_trueleaf_k58_heads_and_lists" 818 456) ::
 (nat_lit 463,cV "_law_sign_by" "_law_sign_by" 847 848 849 385 2 3 458 181 459 .none (.ref 460) (.ref 461) (.ref 462) 853 385 854) ::
 (nat_lit 464,fO "_law_sign_by" 60 (.none) "law_trueleaf_k58_heads_and_lists" 818 463) ::
 (nat_lit 470,cV "_law_is_name" "_law_is_name" 856 857 858 388 1 3 465 181 466 .none (.ref 467) (.ref 468) (.ref 469) 861 388 862) ::
 (nat_lit 471,fO "_law_is_name" 61 (.none) "law_trueleaf_k58_heads_and_lists" 818 470) ::
 (nat_lit 477,cV "_law_form" "_law_form" 864 865 866 395 1 3 472 181 473 .none (.ref 474) (.ref 475) (.ref 476) 869 395 870) ::
 (nat_lit 478,fO "_law_form" 62 (.none) "law_trueleaf_k58_heads_and_lists" 818 477) ::
 (nat_lit 482,cV "_law_name" "_law_name" 872 873 874 398 2 3 479 181 480 .none .none .none (.ref 481) 875 398 876) ::
 (nat_lit 483,fO "_law_name" 63 (.none) "law_trueleaf_k58_heads_and_lists" 818 482) ::
 (nat_lit 487,cV "_law_plain_by" "_law_plain_by" 878 879 880 404 1 3 484 181 485 .none .none .none (.ref 486) 881 404 882) ::
 (nat_lit 488,fO "_law_plain_by" 64 (.none) "law_trueleaf_k58_heads_and_lists" 818 487) ::
 (nat_lit 494,cV "_law_written" "_law_written" 884 885 886 412 2 3 489 181 490 .none (.ref 491) (.ref 492) (.ref 493) 889 412 890) ::
 (nat_lit 495,fO "_law_written" 65 (.none) "law_trueleaf_k58_heads_and_lists" 818 494) ::
 (nat_lit 501,cV "_law_word" "_law_word" 892 893 894 418 6 3 496 181 497 .none (.ref 498) (.ref 499) (.ref 500) 903 418 904) ::
 (nat_lit 502,fO "_law_word" 66 (.none) "law_trueleaf_k58_heads_and_lists" 818 501) ::
 (nat_lit 508,cV "_law_rows" "_law_rows" 906 907 908 430 3 3 503 181 504 .none (.ref 505) (.ref 506) (.ref 507) 916 430 917) ::
 (nat_lit 509,fO "_law_rows" 67 (.none) "law_trueleaf_k58_heads_and_lists" 818 508) ::
 (nat_lit 513,cV "_law_named" "_law_named" 919 920 921 446 2 3 510 181 511 .none .none .none (.ref 512) 922 446 923) ::
 (nat_lit 514,fO "_law_named" 68 (.none) "law_trueleaf_k58_heads_and_lists" 818 513) ::
 (nat_lit 518,cV "_law_text" "_law_text" 925 926 927 465 3 3 515 181 516 .none .none .none (.ref 517) 928 465 929) ::
 (nat_lit 519,fO "_law_text" 69 (.none) "law_trueleaf_k58_heads_and_lists" 818 518) ::
 (nat_lit 523,cV "_law_titles" "_law_titles" 931 932 933 472 1 3 520 181 521 .none .none .none (.ref 522) 934 472 935) ::
 (nat_lit 524,fO "_law_titles" 70 (.none) "law_trueleaf_k58_heads_and_lists" 818 523) ::
 (nat_lit 528,cV "_law_stream" "_law_stream" 937 938 939 483 2 3 525 181 526 .none .none .none (.ref 527) 940 483 941) ::
 (nat_lit 529,fO "_law_stream" 71 (.none) "law_trueleaf_k58_heads_and_lists" 818 528) ::
 (nat_lit 535,cV "_law_heads" "_law_heads" 943 944 945 499 2 3 530 181 531 .none (.ref 532) (.ref 533) (.ref 534) 952 499 953) ::
 (nat_lit 536,fO "_law_heads" 72 (.none) "law_trueleaf_k58_heads_and_lists" 818 535) ::
 (nat_lit 542,cV "_law_said" "_law_said" 955 956 957 508 4 3 537 181 538 .none (.ref 539) (.ref 540) (.ref 541) 964 508 965) ::
 (nat_lit 543,fO "_law_said" 73 (.none) "law_trueleaf_k58_heads_and_lists" 818 542) ::
 (nat_lit 549,cV "_law_marked" "_law_marked" 967 968 969 522 2 3 544 181 545 .none (.ref 546) (.ref 547) (.ref 548) 976 522 977) ::
 (nat_lit 550,fO "_law_marked" 74 (.none) "law_trueleaf_k58_heads_and_lists" 818 549) ::
 (nat_lit 556,cV "_law_shape" "_law_shape" 979 980 981 533 2 3 551 181 552 .none (.ref 553) (.ref 554) (.ref 555) 985 533 986) ::
 (nat_lit 557,fO "_law_shape" 75 (.none) "law_trueleaf_k58_heads_and_lists" 818 556) ::
 (nat_lit 563,cV "_law_spaced" "_law_spaced" 988 989 990 542 2 3 558 181 559 .none (.ref 560) (.ref 561) (.ref 562) 998 542 999) ::
 (nat_lit 564,fO "_law_spaced" 76 (.none) "law_trueleaf_k58_heads_and_lists" 818 563) ::
 (nat_lit 568,cV "law" "law" 1001 1002 1003 551 1 3 565 181 566 .none .none .none (.ref 567) 1004 551 1005) ::
 (nat_lit 569,fO "law" 77 (.none) "law_trueleaf_k58_heads_and_lists" 818 568)::[]
noncomputable def vw:GE:={ PySem.Challenge.pw_trueleaf_k58_heads_and_lists with main:={ PySem.Challenge.pw_trueleaf_k58_heads_and_lists.main with body:=top 1::top 2::top 3::top 4::top 5::top 6::top 7::top 8::top 9::top 10::top 11::top 12::top 14::top 15::top 16::top 17::top 18::top 19::top 20::top 21::top 23::top 25::top 27::top 28::top 29::top 30::top 31::top 33::top 34::top 35::top 37::top 38::top 39::top 40::top 41::top 42::top 43::top 45::top 46::top 47::top 48::top 49::top 50::top 52::top 53::top 54::top 55::top 57::top 58::top 59::top 60::top 61::top 62::top 63::top 64::top 65::top 66::top 67::top 68::top 69::top 70::top 71::top 72::top 73::top 74::top 75::top 76::top 77::[] } }
noncomputable abbrev ls:List Str:=[os "KINDS",os "tree_of",os "size_of",os "LEAPS"]
noncomputable abbrev hk:Hook:=kHook kk (nat_lit 2::nat_lit 3::nat_lit 15::nat_lit 22::nat_lit 23::nat_lit 24::nat_lit 25::nat_lit 28::nat_lit 35::nat_lit 36::nat_lit 37::nat_lit 40::nat_lit 47::nat_lit 48::nat_lit 49::nat_lit 52::nat_lit 59::nat_lit 60::nat_lit 61::nat_lit 64::nat_lit 71::nat_lit 72::nat_lit 73::nat_lit 76::nat_lit 83::nat_lit 84::nat_lit 85::nat_lit 88::nat_lit 95::nat_lit 96::nat_lit 97::nat_lit 100::nat_lit 107::nat_lit 108::nat_lit 109::nat_lit 112::nat_lit 119::nat_lit 120::nat_lit 121::nat_lit 124::nat_lit 131::nat_lit 132::nat_lit 133::nat_lit 136::nat_lit 140::nat_lit 141::nat_lit 145::nat_lit 146::nat_lit 152::nat_lit 153::nat_lit 159::nat_lit 160::nat_lit 164::nat_lit 165::nat_lit 166::nat_lit 172::nat_lit 173::nat_lit 177::nat_lit 178::nat_lit 184::nat_lit 185::nat_lit 191::nat_lit 192::nat_lit 198::nat_lit 199::nat_lit 205::nat_lit 206::nat_lit 207::nat_lit 213::nat_lit 214::nat_lit 220::nat_lit 221::nat_lit 227::nat_lit 228::nat_lit 232::nat_lit 233::nat_lit 239::nat_lit 240::nat_lit 246::nat_lit 247::nat_lit 251::nat_lit 252::nat_lit 256::nat_lit 257::nat_lit 258::nat_lit 259::nat_lit 265::nat_lit 266::nat_lit 279::nat_lit 280::nat_lit 286::nat_lit 287::nat_lit 291::nat_lit 292::nat_lit 298::nat_lit 299::nat_lit 305::nat_lit 306::nat_lit 312::nat_lit 313::nat_lit 319::nat_lit 320::nat_lit 324::nat_lit 325::nat_lit 326::nat_lit 327::nat_lit 328::nat_lit 329::nat_lit 330::nat_lit 338::nat_lit 339::nat_lit 340::nat_lit 341::nat_lit 345::nat_lit 346::nat_lit 357::nat_lit 358::nat_lit 364::nat_lit 365::nat_lit 371::nat_lit 372::nat_lit 376::nat_lit 377::nat_lit 383::nat_lit 384::nat_lit 390::nat_lit 391::nat_lit 397::nat_lit 398::nat_lit 404::nat_lit 405::nat_lit 409::nat_lit 410::nat_lit 414::nat_lit 415::nat_lit 421::nat_lit 422::nat_lit 428::nat_lit 429::nat_lit 430::nat_lit 431::nat_lit 432::nat_lit 433::nat_lit 434::nat_lit 442::nat_lit 443::nat_lit 449::nat_lit 450::nat_lit 456::nat_lit 457::nat_lit 463::nat_lit 464::nat_lit 470::nat_lit 471::nat_lit 477::nat_lit 478::nat_lit 482::nat_lit 483::nat_lit 487::nat_lit 488::nat_lit 494::nat_lit 495::nat_lit 501::nat_lit 502::nat_lit 508::nat_lit 509::nat_lit 513::nat_lit 514::nat_lit 518::nat_lit 519::nat_lit 523::nat_lit 524::nat_lit 528::nat_lit 529::nat_lit 535::nat_lit 536::nat_lit 542::nat_lit 543::nat_lit 549::nat_lit 550::nat_lit 556::nat_lit 557::nat_lit 563::nat_lit 564::nat_lit 568::nat_lit 569::[]) (λ_=>by kernel_rfl)
noncomputable abbrev rr:RowW:=OpenRow.toRowW (OpenLaw.row PySem.Challenge.rw_trueleaf_k58_heads_and_lists)
noncomputable abbrev xt:Gb->Bool:=λs=>xlAt vw [] s&&recOk (RowW.records rr) s
noncomputable def DR:List (Addr×Obj)->Nat->Obj
 |[],_=>⟨.none,none,.fields #[],#[]⟩
 |x::_,0=>x.2
 |_::t,n+1=>DR t n
noncomputable abbrev am(P:GQ)(i:Nat):Obj:=DR (kk P) i
noncomputable def EO(P:GQ)(t:List Hb):List Hb:=dE P "__name__" 165 (sv "trueleaf.errors" 187)::dE P "__doc__" 166 (.none)::dE P "__package__" 167 (.none)::dE P "__loader__" 168 (.builtin "__main__.__loader__#opaque")::dE P "__spec__" 169 (.none)::dE P "__annotations__" 170 (.ref 6)::dE P "__builtins__" 171 (.ref 4)::dE P "__file__" 173 (sv "/claim/cut.py" 172)::t
noncomputable def EQ(P:GQ)(t:List Hb):List Hb:=dE P "__cached__" 174 (.none)::dE P "TrueleafError" 206 (.ref 24)::dE P "BadRow" 222 (.ref 37)::dE P "TooLong" 238 (.ref 49)::dE P "BadCall" 254 (.ref 61)::dE P "Deep" 270 (.ref 73)::dE P "NoShort" 286 (.ref 85)::t
noncomputable def DS(P:GQ):Obj:=⟨(.type "dict"),none,.dict (GO (EO P (EQ P []))) 15,#[]⟩
noncomputable def ER(P:GQ)(t:List Hb):List Hb:=dE P "__name__" 165 (sv "trueleaf.trees" 415)::dE P "__doc__" 166 (.none)::dE P "__package__" 167 (.none)::dE P "__loader__" 168 (.builtin "__main__.__loader__#opaque")::dE P "__spec__" 169 (.none)::dE P "__annotations__" 170 (.ref 6)::dE P "__builtins__" 171 (.ref 4)::dE P "__file__" 173 (sv "/claim/cut.py" 172)::t
noncomputable def CF(P:GQ)(t:List Hb):List Hb:=dE P "__cached__" 174 (.none)::dE P "TrueleafError" 206 (.ref 24)::dE P "BadRow" 222 (.ref 37)::dE P "TooLong" 238 (.ref 49)::dE P "BadCall" 254 (.ref 61)::dE P "Deep" 270 (.ref 73)::dE P "NoShort" 286 (.ref 85)::dE P "BadWord" 302 (.ref 97)::t
noncomputable def CG(P:GQ)(t:List Hb):List Hb:=dE P "Twice" 318 (.ref 109)::dE P "NoFoot" 334 (.ref 121)::dE P "NoMark" 350 (.ref 133)::dE P "MOST_WORDS_books" 352 (.int 400 351)::dE P "LONGEST_TEXT" 354 (.int 60 353)::dE P "LETTERS" 358 (sv "abcdefghijklmnopqrstuvwxyz" 357)::dE P "FIGURES" 360 (sv "0123456789" 359)::dE P "LONGEST_NAME" 362 (.int 12 361)::t
noncomputable def CI(P:GQ)(t:List Hb):List Hb:=dE P "KINDS" 378 (.ref 136)::dE P "words_in" 384 (.ref 141)::dE P "is_name" 390 (.ref 146)::dE P "figures_of" 397 (.ref 153)::dE P "kind_of" 406 (.ref 160)::dE P "numbers_of" 414 (.ref 165)::dE P "MOST_DEEP" 418 (.int 20 417)::dE P "tree_of" 429 (.ref 173)::t
noncomputable def DT(P:GQ):Obj:=⟨(.type "dict"),none,.dict (GO (ER P (CF P (CG P (CI P []))))) 32,#[]⟩
noncomputable def ES(P:GQ)(t:List Hb):List Hb:=dE P "__name__" 165 (sv "trueleaf.setting" 670)::dE P "__doc__" 166 (.none)::dE P "__package__" 167 (.none)::dE P "__loader__" 168 (.builtin "__main__.__loader__#opaque")::dE P "__spec__" 169 (.none)::dE P "__annotations__" 170 (.ref 6)::dE P "__builtins__" 171 (.ref 4)::dE P "__file__" 173 (sv "/claim/cut.py" 172)::t
noncomputable def ET(P:GQ)(t:List Hb):List Hb:=dE P "copied" 435 (.ref 178)::dE P "opens_call" 442 (.ref 185)::dE P "with_closed" 452 (.ref 192)::dE P "node_of" 461 (.ref 199)::dE P "looks_like_place" 468 (.ref 206)::dE P "MOST_WORDS_shorts" 472 (.int 400 471)::dE P "MOST_CALLS" 474 (.int 400 473)::dE P "MOST_CALLS_OF_SHORT" 476 (.int 60 475)::t
noncomputable def EU(P:GQ)(t:List Hb):List Hb:=dE P "size_of" 486 (.ref 214)::dE P "new_short" 499 (.ref 221)::dE P "put_out" 509 (.ref 228)::dE P "by_name" 515 (.ref 233)::dE P "short_called" 525 (.ref 240)::dE P "size_among" 541 (.ref 247)::dE P "sum_of_rows" 547 (.ref 252)::dE P "words_out" 553 (.ref 257)::t
noncomputable def EV(P:GQ)(t:List Hb):List Hb:=dE P "ALONE" 559 (.ref 258)::dE P "HEADS" 563 (.ref 259)::dE P "MOST_FOOT_WORDS" 565 (.int 39 564)::dE P "read_rows" 574 (.ref 266)::dE P "Reader" 662 (.ref 328)::dE P "is_figure" 669 (.ref 339)::dE P "LEAPS" 678 (.ref 340)::dE P "POINTING" 682 (.ref 341)::t
noncomputable def DU(P:GQ)(t:List Hb):List Hb:=dE P "set_words" 688 (.ref 346)::dE P "Setter" 817 (.ref 432)::t
noncomputable def DV(P:GQ):Obj:=⟨(.type "dict"),none,.dict (GO (ES P (CF P (CG P (CI P (ET P (EU P (EV P (DU P []))))))))) 58,#[]⟩
noncomputable def yy(P:GQ):Obj:=⟨(.none),none,(.fields #[]),#[]⟩
noncomputable def C1(P:GQ):Obj:=⟨(.none),none,(.fields #[.int 2 0,.int 0 0,.ref 20,.int 4 0,.int 0 0,.ref 33,.int 6 0,.int 0 0,.ref 45,.int 8 0,.int 0 0,.ref 57,.int 10 0,.int 0 0,.ref 69,.int 12 0,.int 0 0,.ref 81]),#[]⟩
noncomputable def C2(P:GQ):Obj:=⟨(.none),none,(.fields #[.int 2 0,.int 0 0,.ref 20,.int 4 0,.int 0 0,.ref 33,.int 6 0,.int 0 0,.ref 45,.int 8 0,.int 0 0,.ref 57,.int 10 0,.int 0 0,.ref 69,.int 12 0,.int 0 0,.ref 81,.int 14 0,.int 0 0,.ref 93,.int 16 0,.int 0 0,.ref 105,.int 18 0,.int 0 0,.ref 117,.int 20 0,.int 0 0,.ref 129,.int 29 0,.int 0 0,.ref 140,.int 31 0,.int 0 0,.ref 145,.int 35 0,.int 0 0,.ref 152,.int 37 0,.int 0 0,.ref 159,.int 46 0,.int 0 0,.ref 164,.int 55 0,.int 0 0,.ref 172]),#[]⟩
noncomputable def C3(P:GQ):Obj:=⟨(.none),none,(.fields #[.int 2 0,.int 0 0,.ref 20,.int 4 0,.int 0 0,.ref 33,.int 6 0,.int 0 0,.ref 45,.int 8 0,.int 0 0,.ref 57,.int 10 0,.int 0 0,.ref 69,.int 12 0,.int 0 0,.ref 81,.int 14 0,.int 0 0,.ref 93,.int 16 0,.int 0 0,.ref 105,.int 18 0,.int 0 0,.ref 117,.int 20 0,.int 0 0,.ref 129,.int 29 0,.int 0 0,.ref 140,.int 31 0,.int 0 0,.ref 145,.int 35 0,.int 0 0,.ref 152,.int 37 0,.int 0 0,.ref 159,.int 46 0,.int 0 0,.ref 164,.int 55 0,.int 0 0,.ref 172,.int 74 0,.int 0 0,.ref 177,.int 82 0,.int 0 0,.ref 184,.int 84 0,.int 0 0,.ref 191,.int 91 0,.int 0 0,.ref 198,.int 98 0,.int 0 0,.ref 205,.int 104 0,.int 0 0,.ref 213,.int 106 0,.int 0 0,.ref 220,.int 115 0,.int 0 0,.ref 227,.int 121 0,.int 0 0,.ref 232,.int 123 0,.int 0 0,.ref 239,.int 131 0,.int 0 0,.ref 246,.int 148 0,.int 0 0,.ref 251,.int 150 0,.int 0 0,.ref 256,.int 165 0,.int 0 0,.ref 265,.int 170 0,.int 0 0,.ref 272,.int 242 0,.int 0 0,.ref 338,.int 247 0,.int 0 0,.ref 345,.int 255 0,.int 0 0,.ref 352]),#[]⟩
noncomputable def yz(P:GQ):Obj:=⟨(.none),none,(.fields #[.int 2 0,.int 0 0,.ref 20,.int 4 0,.int 0 0,.ref 33,.int 6 0,.int 0 0,.ref 45,.int 8 0,.int 0 0,.ref 57,.int 10 0,.int 0 0,.ref 69,.int 12 0,.int 0 0,.ref 81,.int 14 0,.int 0 0,.ref 93,.int 16 0,.int 0 0,.ref 105,.int 18 0,.int 0 0,.ref 117,.int 20 0,.int 0 0,.ref 129,.int 29 0,.int 0 0,.ref 140,.int 31 0,.int 0 0,.ref 145,.int 35 0,.int 0 0,.ref 152,.int 37 0,.int 0 0,.ref 159,.int 46 0,.int 0 0,.ref 164,.int 55 0,.int 0 0,.ref 172,.int 74 0,.int 0 0,.ref 177,.int 82 0,.int 0 0,.ref 184,.int 84 0,.int 0 0,.ref 191,.int 91 0,.int 0 0,.ref 198,.int 98 0,.int 0 0,.ref 205,.int 104 0,.int 0 0,.ref 213,.int 106 0,.int 0 0,.ref 220,.int 115 0,.int 0 0,.ref 227,.int 121 0,.int 0 0,.ref 232,.int 123 0,.int 0 0,.ref 239,.int 131 0,.int 0 0,.ref 246,.int 148 0,.int 0 0,.ref 251,.int 150 0,.int 0 0,.ref 256,.int 165 0,.int 0 0,.ref 265,.int 170 0,.int 0 0,.ref 272,.int 242 0,.int 0 0,.ref 338,.int 247 0,.int 0 0,.ref 345,.int 255 0,.int 0 0,.ref 352,.int 360 0,.int 0 0,.ref 442,.int 364 0,.int 0 0,.ref 449,.int 367 0,.int 0 0,.ref 456,.int 385 0,.int 0 0,.ref 463,.int 388 0,.int 0 0,.ref 470,.int 395 0,.int 0 0,.ref 477,.int 398 0,.int 0 0,.ref 482,.int 404 0,.int 0 0,.ref 487,.int 412 0,.int 0 0,.ref 494,.int 418 0,.int 0 0,.ref 501,.int 430 0,.int 0 0,.ref 508,.int 446 0,.int 0 0,.ref 513,.int 465 0,.int 0 0,.ref 518,.int 472 0,.int 0 0,.ref 523,.int 483 0,.int 0 0,.ref 528,.int 499 0,.int 0 0,.ref 535,.int 508 0,.int 0 0,.ref 542,.int 522 0,.int 0 0,.ref 549,.int 533 0,.int 0 0,.ref 556,.int 542 0,.int 0 0,.ref 563,.int 551 0,.int 0 0,.ref 568]),#[]⟩
noncomputable def C4(P:GQ):Obj:=⟨(.type "type"),none,(.cls (PySem.ClassData.mk (os "TrueleafError") [.type "ValueError"] [.ref 24,.type "ValueError",.type "Exception",.type "BaseException",.type "object"] 23 (os "TrueleafError") true [] [.ref 37,.ref 49,.ref 61,.ref 73,.ref 85] false none false)),#[F_ (.ref 15),none,F_ (sv "TrueleafError" 189),F_ (sv "TrueleafError" 197),F_ (.builtin "ValueError.__new__"),F_ (.bool true)]⟩
noncomputable abbrev aw:Obj:=⟨(.type "tuple"),none,(.seq #[]),#[]⟩
noncomputable abbrev i9:Obj:=⟨(.type "builtin_function_or_method"),none,(.fields #[.builtin "type.__prepare__",.type "type"]),#[]⟩
noncomputable abbrev aO:Obj:=⟨(.none),none,(.fields #[]),#[]⟩
noncomputable def og(P:GQ)(x3:Obj)(x12:Obj)(t:List Obj):List Obj:=boot_o_0 P::boot_o_1 P::boot_o_2 P::x3::boot_o_4 P::boot_o_5 P::boot_o_6 P::boot_o_7 P::boot_o_8 P::boot_o_9 P::boot_o_10 P::aw::x12::⟨(.type "code"),none,(.fields #[sv "<module>" 182,sv "<module>" 183,sv "/claim/cut.py" 184,.int 1 0,.int 0 0,.int 0 0,.int 0 0,.int 0 0,.ref 11,.bool false,.int 181 0,.ref 12,.none,.none,.none,.none,.int 185 0,.int 1 0,sv "/claim/cut.py" 186]),#[]⟩::⟨(.type "frame"),none,(.plain),#[F_ (.ref 13),F_ (.ref 3),F_ (.ref 3),none,F_ (sv "__main__" 164),none,F_ (.ref 0)]⟩::t
noncomputable def tR(P:GQ)(x24:Obj)(t:List Obj):List Obj:=am P 2::i9::⟨(.type "dict"),none,.dict (GO (dE P "__module__" 196 (sv "trueleaf.errors" 187)::dE P "__qualname__" 198 (sv "TrueleafError" 197)::dE P "__firstlineno__" 200 (.int 2 199)::dE P "__static_attributes__" 201 (.ref 22)::[])) 4,#[]⟩::aw::aO::⟨(.type "code"),none,(.fields #[sv "TrueleafError" 191,sv "TrueleafError" 192,sv "/claim/cut.py" 193,.int 2 0,.int 0 0,.int 0 0,.int 0 0,.int 0 0,.ref 18,.bool false,.int 181 0,.ref 19,.none,.none,.none,.none,.int 194 0,.int 2 0,sv "/claim/cut.py" 195]),#[]⟩::⟨(.type "frame"),none,(.plain),#[F_ (.ref 20),F_ (.ref 3),F_ (.ref 17),none,F_ (sv "trueleaf.errors" 187),none,F_ (.ref 0)]⟩::am P 3::am P 4::x24::am P 6::⟨(.type "super"),none,(.fields #[.ref 24,.ref 24,.ref 24]),#[]⟩::⟨(.type "builtin_function_or_method"),none,(.fields #[.builtin "object.__init_subclass__",.ref 24]),#[]⟩::am P 7::i9::⟨(.type "dict"),none,.dict (GO (dE P "__module__" 214 (sv "trueleaf.errors" 187)::dE P "__qualname__" 216 (sv "BadRow" 215)::dE P "__firstlineno__" 218 (.int 4 217)::dE P "__static_attributes__" 219 (.ref 35)::[])) 4,#[]⟩::t
noncomputable def tS(P:GQ)(t:List Obj):List Obj:=aw::aO::⟨(.type "code"),none,(.fields #[sv "BadRow" 209,sv "BadRow" 210,sv "/claim/cut.py" 211,.int 4 0,.int 0 0,.int 0 0,.int 0 0,.int 0 0,.ref 31,.bool false,.int 181 0,.ref 32,.none,.none,.none,.none,.int 212 0,.int 4 0,sv "/claim/cut.py" 213]),#[]⟩::⟨(.type "frame"),none,(.plain),#[F_ (.ref 33),F_ (.ref 3),F_ (.ref 30),none,F_ (sv "trueleaf.errors" 187),none,F_ (.ref 0)]⟩::am P 8::am P 9::am P 10::⟨(.type "super"),none,(.fields #[.ref 37,.ref 37,.ref 37]),#[]⟩::⟨(.type "builtin_function_or_method"),none,(.fields #[.builtin "object.__init_subclass__",.ref 37]),#[]⟩::am P 11::i9::⟨(.type "dict"),none,.dict (GO (dE P "__module__" 230 (sv "trueleaf.errors" 187)::dE P "__qualname__" 232 (sv "TooLong" 231)::dE P "__firstlineno__" 234 (.int 6 233)::dE P "__static_attributes__" 235 (.ref 47)::[])) 4,#[]⟩::aw::aO::⟨(.type "code"),none,(.fields #[sv "TooLong" 225,sv "TooLong" 226,sv "/claim/cut.py" 227,.int 6 0,.int 0 0,.int 0 0,.int 0 0,.int 0 0,.ref 43,.bool false,.int 181 0,.ref 44,.none,.none,.none,.none,.int 228 0,.int 6 0,sv "/claim/cut.py" 229]),#[]⟩::⟨(.type "frame"),none,(.plain),#[F_ (.ref 45),F_ (.ref 3),F_ (.ref 42),none,F_ (sv "trueleaf.errors" 187),none,F_ (.ref 0)]⟩::t
noncomputable def tT(P:GQ)(t:List Obj):List Obj:=am P 12::am P 13::am P 14::⟨(.type "super"),none,(.fields #[.ref 49,.ref 49,.ref 49]),#[]⟩::⟨(.type "builtin_function_or_method"),none,(.fields #[.builtin "object.__init_subclass__",.ref 49]),#[]⟩::am P 15::i9::⟨(.type "dict"),none,.dict (GO (dE P "__module__" 246 (sv "trueleaf.errors" 187)::dE P "__qualname__" 248 (sv "BadCall" 247)::dE P "__firstlineno__" 250 (.int 8 249)::dE P "__static_attributes__" 251 (.ref 59)::[])) 4,#[]⟩::aw::aO::⟨(.type "code"),none,(.fields #[sv "BadCall" 241,sv "BadCall" 242,sv "/claim/cut.py" 243,.int 8 0,.int 0 0,.int 0 0,.int 0 0,.int 0 0,.ref 55,.bool false,.int 181 0,.ref 56,.none,.none,.none,.none,.int 244 0,.int 8 0,sv "/claim/cut.py" 245]),#[]⟩::⟨(.type "frame"),none,(.plain),#[F_ (.ref 57),F_ (.ref 3),F_ (.ref 54),none,F_ (sv "trueleaf.errors" 187),none,F_ (.ref 0)]⟩::am P 16::am P 17::am P 18::⟨(.type "super"),none,(.fields #[.ref 61,.ref 61,.ref 61]),#[]⟩::t
noncomputable def tU(P:GQ)(t:List Obj):List Obj:=⟨(.type "builtin_function_or_method"),none,(.fields #[.builtin "object.__init_subclass__",.ref 61]),#[]⟩::am P 19::i9::⟨(.type "dict"),none,.dict (GO (dE P "__module__" 262 (sv "trueleaf.errors" 187)::dE P "__qualname__" 264 (sv "Deep" 263)::dE P "__firstlineno__" 266 (.int 10 265)::dE P "__static_attributes__" 267 (.ref 71)::[])) 4,#[]⟩::aw::aO::⟨(.type "code"),none,(.fields #[sv "Deep" 257,sv "Deep" 258,sv "/claim/cut.py" 259,.int 10 0,.int 0 0,.int 0 0,.int 0 0,.int 0 0,.ref 67,.bool false,.int 181 0,.ref 68,.none,.none,.none,.none,.int 260 0,.int 10 0,sv "/claim/cut.py" 261]),#[]⟩::⟨(.type "frame"),none,(.plain),#[F_ (.ref 69),F_ (.ref 3),F_ (.ref 66),none,F_ (sv "trueleaf.errors" 187),none,F_ (.ref 0)]⟩::am P 20::am P 21::am P 22::⟨(.type "super"),none,(.fields #[.ref 73,.ref 73,.ref 73]),#[]⟩::⟨(.type "builtin_function_or_method"),none,(.fields #[.builtin "object.__init_subclass__",.ref 73]),#[]⟩::am P 23::i9::⟨(.type "dict"),none,.dict (GO (dE P "__module__" 278 (sv "trueleaf.errors" 187)::dE P "__qualname__" 280 (sv "NoShort" 279)::dE P "__firstlineno__" 282 (.int 12 281)::dE P "__static_attributes__" 283 (.ref 83)::[])) 4,#[]⟩::t
noncomputable def tV(P:GQ)(t:List Obj):List Obj:=aw::aO::⟨(.type "code"),none,(.fields #[sv "NoShort" 273,sv "NoShort" 274,sv "/claim/cut.py" 275,.int 12 0,.int 0 0,.int 0 0,.int 0 0,.int 0 0,.ref 79,.bool false,.int 181 0,.ref 80,.none,.none,.none,.none,.int 276 0,.int 12 0,sv "/claim/cut.py" 277]),#[]⟩::⟨(.type "frame"),none,(.plain),#[F_ (.ref 81),F_ (.ref 3),F_ (.ref 78),none,F_ (sv "trueleaf.errors" 187),none,F_ (.ref 0)]⟩::am P 24::am P 25::am P 26::⟨(.type "super"),none,(.fields #[.ref 85,.ref 85,.ref 85]),#[]⟩::⟨(.type "builtin_function_or_method"),none,(.fields #[.builtin "object.__init_subclass__",.ref 85]),#[]⟩::t
noncomputable def vQ(P:GQ)(t:List Obj):List Obj:=am P 27::i9::⟨(.type "dict"),none,.dict (GO (dE P "__module__" 294 (sv "trueleaf.errors" 187)::dE P "__qualname__" 296 (sv "BadWord" 295)::dE P "__firstlineno__" 298 (.int 14 297)::dE P "__static_attributes__" 299 (.ref 95)::[])) 4,#[]⟩::aw::aO::⟨(.type "code"),none,(.fields #[sv "BadWord" 289,sv "BadWord" 290,sv "/claim/cut.py" 291,.int 14 0,.int 0 0,.int 0 0,.int 0 0,.int 0 0,.ref 91,.bool false,.int 181 0,.ref 92,.none,.none,.none,.none,.int 292 0,.int 14 0,sv "/claim/cut.py" 293]),#[]⟩::⟨(.type "frame"),none,(.plain),#[F_ (.ref 93),F_ (.ref 3),F_ (.ref 90),none,F_ (sv "trueleaf.errors" 187),none,F_ (.ref 0)]⟩::am P 28::am P 29::am P 30::⟨(.type "super"),none,(.fields #[.ref 97,.ref 97,.ref 97]),#[]⟩::⟨(.type "builtin_function_or_method"),none,(.fields #[.builtin "object.__init_subclass__",.ref 97]),#[]⟩::am P 31::i9::⟨(.type "dict"),none,.dict (GO (dE P "__module__" 310 (sv "trueleaf.errors" 187)::dE P "__qualname__" 312 (sv "Twice" 311)::dE P "__firstlineno__" 314 (.int 16 313)::dE P "__static_attributes__" 315 (.ref 107)::[])) 4,#[]⟩::aw::t
noncomputable def vR(P:GQ)(t:List Obj):List Obj:=aO::⟨(.type "code"),none,(.fields #[sv "Twice" 305,sv "Twice" 306,sv "/claim/cut.py" 307,.int 16 0,.int 0 0,.int 0 0,.int 0 0,.int 0 0,.ref 103,.bool false,.int 181 0,.ref 104,.none,.none,.none,.none,.int 308 0,.int 16 0,sv "/claim/cut.py" 309]),#[]⟩::⟨(.type "frame"),none,(.plain),#[F_ (.ref 105),F_ (.ref 3),F_ (.ref 102),none,F_ (sv "trueleaf.errors" 187),none,F_ (.ref 0)]⟩::am P 32::am P 33::am P 34::⟨(.type "super"),none,(.fields #[.ref 109,.ref 109,.ref 109]),#[]⟩::⟨(.type "builtin_function_or_method"),none,(.fields #[.builtin "object.__init_subclass__",.ref 109]),#[]⟩::am P 35::i9::⟨(.type "dict"),none,.dict (GO (dE P "__module__" 326 (sv "trueleaf.errors" 187)::dE P "__qualname__" 328 (sv "NoFoot" 327)::dE P "__firstlineno__" 330 (.int 18 329)::dE P "__static_attributes__" 331 (.ref 119)::[])) 4,#[]⟩::aw::aO::⟨(.type "code"),none,(.fields #[sv "NoFoot" 321,sv "NoFoot" 322,sv "/claim/cut.py" 323,.int 18 0,.int 0 0,.int 0 0,.int 0 0,.int 0 0,.ref 115,.bool false,.int 181 0,.ref 116,.none,.none,.none,.none,.int 324 0,.int 18 0,sv "/claim/cut.py" 325]),#[]⟩::⟨(.type "frame"),none,(.plain),#[F_ (.ref 117),F_ (.ref 3),F_ (.ref 114),none,F_ (sv "trueleaf.errors" 187),none,F_ (.ref 0)]⟩::am P 36::t
noncomputable def vS(P:GQ)(t:List Obj):List Obj:=am P 37::am P 38::⟨(.type "super"),none,(.fields #[.ref 121,.ref 121,.ref 121]),#[]⟩::⟨(.type "builtin_function_or_method"),none,(.fields #[.builtin "object.__init_subclass__",.ref 121]),#[]⟩::am P 39::i9::⟨(.type "dict"),none,.dict (GO (dE P "__module__" 342 (sv "trueleaf.errors" 187)::dE P "__qualname__" 344 (sv "NoMark" 343)::dE P "__firstlineno__" 346 (.int 20 345)::dE P "__static_attributes__" 347 (.ref 131)::[])) 4,#[]⟩::aw::aO::⟨(.type "code"),none,(.fields #[sv "NoMark" 337,sv "NoMark" 338,sv "/claim/cut.py" 339,.int 20 0,.int 0 0,.int 0 0,.int 0 0,.int 0 0,.ref 127,.bool false,.int 181 0,.ref 128,.none,.none,.none,.none,.int 340 0,.int 20 0,sv "/claim/cut.py" 341]),#[]⟩::⟨(.type "frame"),none,(.plain),#[F_ (.ref 129),F_ (.ref 3),F_ (.ref 126),none,F_ (sv "trueleaf.errors" 187),none,F_ (.ref 0)]⟩::am P 40::am P 41::am P 42::⟨(.type "super"),none,(.fields #[.ref 133,.ref 133,.ref 133]),#[]⟩::⟨(.type "builtin_function_or_method"),none,(.fields #[.builtin "object.__init_subclass__",.ref 133]),#[]⟩::t
noncomputable def vT(P:GQ)(t:List Obj):List Obj:=am P 43::aw::aO::gA "words_in" "words_in" (top 18)::am P 44::am P 45::aw::aO::gA "is_name" "is_name" (top 19)::am P 46::am P 47::aw::aO::⟨(.type "tuple"),none,(.seq #[sv "number" 394]),#[]⟩::aw::gA "figures_of" "figures_of" (top 20)::t
noncomputable def tW(P:GQ)(t:List Obj):List Obj:=am P 48::am P 49::aw::aO::⟨(.type "tuple"),none,(.seq #[sv "word" 401,sv "first" 402,sv "rest" 403]),#[]⟩::aw::gA "kind_of" "kind_of" (top 21)::am P 50::am P 51::aw::aO::gA "numbers_of" "numbers_of" (top 23)::am P 52::am P 53::am P 54::aw::t
noncomputable def tX(P:GQ)(t:List Obj):List Obj:=aO::⟨(.type "tuple"),none,(.seq #[sv "words" 422,sv "count" 423,sv "nodes" 424,sv "pending" 425,sv "word" 426]),#[]⟩::aw::gA "tree_of" "tree_of" (top 26)::am P 55::am P 56::t
noncomputable def wt(P:GQ)(t:List Obj):List Obj:=aw::aO::gA "copied" "copied" (top 27)::am P 57::am P 58::aw::aO::⟨(.type "tuple"),none,(.seq #[sv "word" 439]),#[]⟩::aw::gA "opens_call" "opens_call" (top 28)::am P 59::am P 60::aw::aO::⟨(.type "tuple"),none,(.seq #[sv "call" 446,sv "last" 447,sv "arguments" 448,sv "nodes" 449]),#[]⟩::aw::t
noncomputable def wu(P:GQ)(t:List Obj):List Obj:=gA "with_closed" "with_closed" (top 29)::am P 61::am P 62::aw::aO::⟨(.type "tuple"),none,(.seq #[sv "word" 456,sv "count" 457,sv "k" 458]),#[]⟩::aw::gA "node_of" "node_of" (top 30)::am P 63::am P 64::aw::aO::⟨(.type "tuple"),none,(.seq #[sv "word" 465]),#[]⟩::aw::gA "looks_like_place" "looks_like_place" (top 31)::am P 65::t
noncomputable def ww(P:GQ)(t:List Obj):List Obj:=am P 66::am P 67::aw::aO::⟨(.type "tuple"),none,(.seq #[sv "shorts" 481,sv "nodes" 482,sv "count" 483]),#[]⟩::aw::gA "size_of" "size_of" (top 36)::am P 68::am P 69::aw::aO::⟨(.type "tuple"),none,(.seq #[sv "shorts" 490,sv "name" 491,sv "count" 492,sv "nodes" 493,sv "size" 494,sv "row" 495,sv "calls" 496]),#[]⟩::aw::gA "new_short" "new_short" (top 37)::am P 70::am P 71::t
noncomputable def wx(P:GQ)(t:List Obj):List Obj:=aw::aO::⟨(.type "tuple"),none,(.seq #[sv "shorts" 503,sv "nodes" 504,sv "named" 505,sv "size" 506]),#[]⟩::aw::gA "put_out" "put_out" (top 38)::am P 72::am P 73::aw::aO::gA "by_name" "by_name" (top 39)::am P 74::am P 75::aw::aO::⟨(.type "tuple"),none,(.seq #[sv "named" 519,sv "call" 520,sv "name" 521,sv "short" 522]),#[]⟩::aw::t
noncomputable def wz(P:GQ)(t:List Obj):List Obj:=gA "short_called" "short_called" (top 40)::am P 76::am P 77::aw::aO::⟨(.type "tuple"),none,(.seq #[sv "named" 529,sv "nodes" 530,sv "count" 531,sv "row" 532,sv "calls" 533,sv "node" 534,sv "short" 535,sv "k" 536,sv "argument" 537,sv "size" 538]),#[]⟩::aw::gA "size_among" "size_among" (top 41)::am P 78::am P 79::aw::aO::gA "sum_of_rows" "sum_of_rows" (top 42)::am P 80::am P 81::aw::t
noncomputable def wA(P:GQ)(t:List Obj):List Obj:=aO::gA "words_out" "words_out" (top 43)::am P 82::am P 83::am P 84::am P 85::aw::aO::⟨(.type "tuple"),none,(.seq #[sv "rows" 569,sv "reader" 570,sv "row" 571]),#[]⟩::aw::gA "read_rows" "read_rows" (top 48)::am P 86::am P 87::aw::i9::⟨(.type "dict"),none,.dict (GO (dE P "__module__" 582 (sv "trueleaf.reading" 554)::dE P "__qualname__" 584 (sv "Reader" 583)::dE P "__firstlineno__" 586 (.int 170 585)::dE P "__init__" 593 (.ref 280)::dE P "read_row" 602 (.ref 287)::dE P "read_let" 608 (.ref 292)::dE P "read_foot" 618 (.ref 299)::dE P "read_alone" 627 (.ref 306)::dE P "read_words" 636 (.ref 313)::dE P "add_thing" 644 (.ref 320)::dE P "words_out" 650 (.ref 325)::dE P "__static_attributes__" 655 (.ref 326)::[])) 12,#[]⟩::t
noncomputable def wB(P:GQ)(t:List Obj):List Obj:=aw::⟨(.none),none,(.fields #[.int 172 0,.int 4 0,.ref 279,.int 178 0,.int 4 0,.ref 286,.int 196 0,.int 4 0,.ref 291,.int 205 0,.int 4 0,.ref 298,.int 216 0,.int 4 0,.ref 305,.int 222 0,.int 4 0,.ref 312,.int 230 0,.int 4 0,.ref 319,.int 234 0,.int 4 0,.ref 324]),#[]⟩::⟨(.type "code"),none,(.fields #[sv "Reader" 577,sv "Reader" 578,sv "/claim/cut.py" 579,.int 170 0,.int 0 0,.int 0 0,.int 0 0,.int 0 0,.ref 270,.bool false,.int 181 0,.ref 271,.none,.none,.none,.none,.int 580 0,.int 170 0,sv "/claim/cut.py" 581]),#[]⟩::⟨(.type "frame"),none,(.plain),#[F_ (.ref 272),F_ (.ref 3),F_ (.ref 269),none,F_ (sv "trueleaf.reading" 554),none,F_ (.ref 0)]⟩::aw::aO::⟨(.type "tuple"),none,(.seq #[sv "self" 590]),#[]⟩::aw::gA "__init__" "Reader.__init__" (bz 49 0)::am P 88::am P 89::aw::aO::⟨(.type "tuple"),none,(.seq #[sv "self" 597,sv "words" 598,sv "first" 599]),#[]⟩::aw::gA "read_row" "Reader.read_row" (bz 49 1)::t
noncomputable def wC(P:GQ)(t:List Obj):List Obj:=am P 90::am P 91::aw::aO::gA "read_let" "Reader.read_let" (bz 49 2)::am P 92::am P 93::aw::aO::⟨(.type "tuple"),none,(.seq #[sv "self" 612,sv "words" 613,sv "name" 614,sv "text" 615]),#[]⟩::aw::gA "read_foot" "Reader.read_foot" (bz 49 3)::am P 94::am P 95::aw::aO::t
noncomputable def wD(P:GQ)(t:List Obj):List Obj:=⟨(.type "tuple"),none,(.seq #[sv "self" 622,sv "words" 623,sv "first" 624]),#[]⟩::aw::gA "read_alone" "Reader.read_alone" (bz 49 4)::am P 96::am P 97::aw::aO::⟨(.type "tuple"),none,(.seq #[sv "self" 631,sv "words" 632,sv "read" 633]),#[]⟩::aw::gA "read_words" "Reader.read_words" (bz 49 5)::am P 98::am P 99::aw::aO::⟨(.type "tuple"),none,(.seq #[sv "self" 640,sv "thing" 641]),#[]⟩::aw::t
noncomputable def wE(P:GQ)(t:List Obj):List Obj:=gA "add_thing" "Reader.add_thing" (bz 49 6)::am P 100::am P 101::aw::aO::gA "words_out" "Reader.words_out" (bz 49 7)::am P 102::am P 103::am P 104::am P 105::am P 106::am P 107::am P 108::⟨(.type "super"),none,(.fields #[.ref 328,.ref 328,.ref 328]),#[]⟩::⟨(.type "builtin_function_or_method"),none,(.fields #[.builtin "object.__init_subclass__",.ref 328]),#[]⟩::aw::t
noncomputable def wF(P:GQ)(t:List Obj):List Obj:=aO::⟨(.type "tuple"),none,(.seq #[sv "word" 666]),#[]⟩::aw::gA "is_figure" "is_figure" (top 50)::am P 109::am P 110::am P 111::am P 112::aw::aO::gA "set_words" "set_words" (top 54)::am P 113::am P 114::aw::i9::⟨(.type "dict"),none,.dict (GO (dE P "__module__" 696 (sv "trueleaf.setting" 670)::dE P "__qualname__" 698 (sv "Setter" 697)::dE P "__firstlineno__" 700 (.int 255 699)::dE P "__init__" 706 (.ref 358)::dE P "set_thing" 715 (.ref 365)::dE P "set_head" 724 (.ref 372)::dE P "set_list" 730 (.ref 377)::dE P "set_run" 741 (.ref 384)::dE P "set_mark" 749 (.ref 391)::dE P "set_word" 759 (.ref 398)::dE P "next_foot" 767 (.ref 405)::dE P "check_marks" 773 (.ref 410)::dE P "words_told" 779 (.ref 415)::dE P "saying_of" 789 (.ref 422)::dE P "number_at" 800 (.ref 429)::dE P "__static_attributes__" 810 (.ref 430)::[])) 16,#[]⟩::t
noncomputable def wG(P:GQ)(t:List Obj):List Obj:=aw::⟨(.none),none,(.fields #[.int 257 0,.int 4 0,.ref 357,.int 268 0,.int 4 0,.ref 364,.int 281 0,.int 4 0,.ref 371,.int 286 0,.int 4 0,.ref 376,.int 293 0,.int 4 0,.ref 383,.int 302 0,.int 4 0,.ref 390,.int 307 0,.int 4 0,.ref 397,.int 319 0,.int 4 0,.ref 404,.int 325 0,.int 4 0,.ref 409,.int 336 0,.int 4 0,.ref 414,.int 342 0,.int 4 0,.ref 421,.int 353 0,.int 4 0,.ref 428]),#[]⟩::⟨(.type "code"),none,(.fields #[sv "Setter" 691,sv "Setter" 692,sv "/claim/cut.py" 693,.int 255 0,.int 0 0,.int 0 0,.int 0 0,.int 0 0,.ref 350,.bool false,.int 181 0,.ref 351,.none,.none,.none,.none,.int 694 0,.int 255 0,sv "/claim/cut.py" 695]),#[]⟩::⟨(.type "frame"),none,(.plain),#[F_ (.ref 352),F_ (.ref 3),F_ (.ref 349),none,F_ (sv "trueleaf.setting" 670),none,F_ (.ref 0)]⟩::aw::aO::gA "__init__" "Setter.__init__" (bz 55 0)::am P 115::am P 116::aw::aO::⟨(.type "tuple"),none,(.seq #[sv "self" 710,sv "thing" 711,sv "kind" 712]),#[]⟩::aw::gA "set_thing" "Setter.set_thing" (bz 55 1)::am P 117::am P 118::t
noncomputable def wH(P:GQ)(t:List Obj):List Obj:=aw::aO::⟨(.type "tuple"),none,(.seq #[sv "self" 719,sv "k" 720,sv "number" 721]),#[]⟩::aw::gA "set_head" "Setter.set_head" (bz 55 2)::am P 119::am P 120::aw::aO::gA "set_list" "Setter.set_list" (bz 55 3)::am P 121::am P 122::aw::aO::⟨(.type "tuple"),none,(.seq #[sv "self" 734,sv "lead" 735,sv "words" 736,sv "by_head" 737,sv "word" 738]),#[]⟩::aw::t
noncomputable def wI(P:GQ)(t:List Obj):List Obj:=gA "set_run" "Setter.set_run" (bz 55 4)::am P 123::am P 124::aw::aO::⟨(.type "tuple"),none,(.seq #[sv "self" 745,sv "name" 746]),#[]⟩::aw::gA "set_mark" "Setter.set_mark" (bz 55 5)::am P 125::am P 126::aw::aO::⟨(.type "tuple"),none,(.seq #[sv "self" 753,sv "lead" 754,sv "word" 755,sv "foot" 756]),#[]⟩::aw::gA "set_word" "Setter.set_word" (bz 55 6)::am P 127::t
noncomputable def wJ(P:GQ)(t:List Obj):List Obj:=am P 128::aw::aO::⟨(.type "tuple"),none,(.seq #[sv "self" 763,sv "name" 764]),#[]⟩::aw::gA "next_foot" "Setter.next_foot" (bz 55 7)::am P 129::am P 130::aw::aO::gA "check_marks" "Setter.check_marks" (bz 55 8)::am P 131::am P 132::aw::aO::gA "words_told" "Setter.words_told" (bz 55 9)::t
noncomputable def wK(P:GQ)(t:List Obj):List Obj:=am P 133::am P 134::aw::aO::⟨(.type "tuple"),none,(.seq #[sv "self" 783,sv "word" 784,sv "kind" 785,sv "rest" 786]),#[]⟩::aw::gA "saying_of" "Setter.saying_of" (bz 55 10)::am P 135::am P 136::aw::aO::⟨(.type "tuple"),none,(.seq #[sv "self" 793,sv "k" 794,sv "number" 795,sv "text" 796,sv "at" 797]),#[]⟩::aw::gA "number_at" "Setter.number_at" (bz 55 11)::am P 137::am P 138::t
noncomputable def wL(P:GQ)(t:List Obj):List Obj:=am P 139::am P 140::am P 141::am P 142::am P 143::⟨(.type "super"),none,(.fields #[.ref 432,.ref 432,.ref 432]),#[]⟩::⟨(.type "builtin_function_or_method"),none,(.fields #[.builtin "object.__init_subclass__",.ref 432]),#[]⟩::t
noncomputable def z_(P:GQ)(t:List Obj):List Obj:=aw::aO::⟨(.type "tuple"),none,(.seq #[sv "script" 823,sv "k" 824]),#[]⟩::aw::gA "_law_cell_at" "_law_cell_at" (top 57)::am P 144::am P 145::aw::aO::⟨(.type "tuple"),none,(.seq #[sv "cell" 831,sv "k" 832,sv "many" 833,sv "number" 834]),#[]⟩::aw::gA "_law_draw" "_law_draw" (top 58)::am P 146::am P 147::aw::aO::t
noncomputable def Aa(P:GQ)(t:List Obj):List Obj:=⟨(.type "tuple"),none,(.seq #[sv "found" 841,sv "due" 842,sv "k" 843]),#[]⟩::aw::gA "_law_alike" "_law_alike" (top 59)::am P 148::am P 149::aw::aO::⟨(.type "tuple"),none,(.seq #[sv "cell" 850,sv "k" 851,sv "some" 852]),#[]⟩::aw::gA "_law_sign_by" "_law_sign_by" (top 60)::am P 150::am P 151::aw::aO::⟨(.type "tuple"),none,(.seq #[sv "word" 859,sv "sign" 860]),#[]⟩::aw::t
noncomputable def Ab(P:GQ)(t:List Obj):List Obj:=gA "_law_is_name" "_law_is_name" (top 61)::am P 152::am P 153::aw::aO::⟨(.type "tuple"),none,(.seq #[sv "cell" 867,sv "wide" 868]),#[]⟩::aw::gA "_law_form" "_law_form" (top 62)::am P 154::am P 155::aw::aO::gA "_law_name" "_law_name" (top 63)::am P 156::am P 157::aw::t
noncomputable def Ac(P:GQ)(t:List Obj):List Obj:=aO::gA "_law_plain_by" "_law_plain_by" (top 64)::am P 158::am P 159::aw::aO::⟨(.type "tuple"),none,(.seq #[sv "kind" 887,sv "rest" 888]),#[]⟩::aw::gA "_law_written" "_law_written" (top 65)::am P 160::am P 161::aw::aO::⟨(.type "tuple"),none,(.seq #[sv "first" 895,sv "kind" 896,sv "cell" 897,sv "at" 898,sv "marks" 899,sv "feet" 900,sv "many" 901,sv "rest" 902]),#[]⟩::aw::gA "_law_word" "_law_word" (top 66)::t
noncomputable def Ad(P:GQ)(t:List Obj):List Obj:=am P 162::am P 163::aw::aO::⟨(.type "tuple"),none,(.seq #[sv "script" 909,sv "ways" 910,sv "kinds" 911,sv "rows" 912,sv "cell" 913,sv "way" 914,sv "kind" 915]),#[]⟩::aw::gA "_law_rows" "_law_rows" (top 67)::am P 164::am P 165::aw::aO::gA "_law_named" "_law_named" (top 68)::am P 166::am P 167::aw::aO::t
noncomputable def Ae(P:GQ)(t:List Obj):List Obj:=gA "_law_text" "_law_text" (top 69)::am P 168::am P 169::aw::aO::gA "_law_titles" "_law_titles" (top 70)::am P 170::am P 171::aw::aO::gA "_law_stream" "_law_stream" (top 71)::am P 172::am P 173::aw::aO::⟨(.type "tuple"),none,(.seq #[sv "stream" 946,sv "titles" 947,sv "heads" 948,sv "at" 949,sv "kind" 950,sv "rest" 951]),#[]⟩::t
noncomputable def Af(P:GQ)(t:List Obj):List Obj:=aw::gA "_law_heads" "_law_heads" (top 72)::am P 174::am P 175::aw::aO::⟨(.type "tuple"),none,(.seq #[sv "kind" 958,sv "rest" 959,sv "marks" 960,sv "heads" 961,sv "number" 962,sv "one" 963]),#[]⟩::aw::gA "_law_said" "_law_said" (top 73)::am P 176::am P 177::aw::aO::⟨(.type "tuple"),none,(.seq #[sv "stream" 970,sv "marks" 971,sv "at" 972,sv "many" 973,sv "kind" 974,sv "rest" 975]),#[]⟩::aw::gA "_law_marked" "_law_marked" (top 74)::t
noncomputable def Ag(P:GQ)(t:List Obj):List Obj:=am P 178::am P 179::aw::aO::⟨(.type "tuple"),none,(.seq #[sv "found" 982,sv "form" 983,sv "word" 984]),#[]⟩::aw::gA "_law_shape" "_law_shape" (top 75)::am P 180::am P 181::aw::aO::⟨(.type "tuple"),none,(.seq #[sv "rows" 991,sv "first" 992,sv "spaced" 993,sv "k" 994,sv "row" 995,sv "ahead" 996,sv "end" 997]),#[]⟩::aw::gA "_law_spaced" "_law_spaced" (top 76)::am P 182::am P 183::t
noncomputable def Ah(P:GQ)(t:List Obj):List Obj:=aw::aO::gA "law" "law" (top 77)::am P 184::am P 185::t
noncomputable def zzhA(P:GQ):Heap:=⟨⟨(og P (boot_o_3 P) (yy P) [])⟩,{}⟩
noncomputable def zzhB(P:GQ):Heap:=⟨⟨(og P (boot_o_3 P) (yy P) [])⟩,{}⟩
noncomputable def zzh1(P:GQ):Heap:=⟨⟨(og P (DS P) (C1 P) (tR P (C4 P) (tS P (tT P (tU P (tV P []))))))⟩,{}⟩
noncomputable def zzh2(P:GQ):Heap:=⟨⟨(og P (DT P) (C2 P) (tR P (am P 5) (tS P (tT P (tU P (tV P (vQ P (vR P (vS P (vT P (tW P (tX P []))))))))))))⟩,{}⟩
noncomputable def zzh3(P:GQ):Heap:=⟨⟨(og P (DV P) (C3 P) (tR P (am P 5) (tS P (tT P (tU P (tV P (vQ P (vR P (vS P (vT P (tW P (tX P (wt P (wu P (ww P (wx P (wz P (wA P (wB P (wC P (wD P (wE P (wF P (wG P (wH P (wI P (wJ P (wK P (wL P [])))))))))))))))))))))))))))))⟩,{}⟩
noncomputable def zzh4(P:GQ):Heap:=⟨⟨(og P (am P 1) (yz P) (tR P (am P 5) (tS P (tT P (tU P (tV P (vQ P (vR P (vS P (vT P (tW P (tX P (wt P (wu P (ww P (wx P (wz P (wA P (wB P (wC P (wD P (wE P (wF P (wG P (wH P (wI P (wJ P (wK P (wL P (z_ P (Aa P (Ab P (Ac P (Ad P (Ae P (Af P (Ag P (Ah P []))))))))))))))))))))))))))))))))))))))⟩,{}⟩
noncomputable def zzhF(P:GQ):Heap:=⟨⟨(og P (am P 1) (yz P) (tR P (am P 5) (tS P (tT P (tU P (tV P (vQ P (vR P (vS P (vT P (tW P (tX P (wt P (wu P (ww P (wx P (wz P (wA P (wB P (wC P (wD P (wE P (wF P (wG P (wH P (wI P (wJ P (wK P (wL P (z_ P (Aa P (Ab P (Ac P (Ad P (Ae P (Af P (Ag P (Ah P []))))))))))))))))))))))))))))))))))))))⟩,{}⟩
noncomputable abbrev zzbE:List Stmt:=behindTheImports PySem.Challenge.pw_trueleaf_k58_heads_and_lists
noncomputable abbrev zzev:Env:={ scope:=PySem.Challenge.pw_trueleaf_k58_heads_and_lists.main.scope,locals:=mainNs,globals:=mainNs,cells:=[],code:=.ref 13,frame:=some 14 }
noncomputable abbrev zzcE:Code:=.body zzbE zzev
noncomputable abbrev zzbF:List Frame:=[topFrame (PySem.Pos.mk 0 0 0 0)]
set_option maxHeartbeats 0 in
theorem zzpreL(w:GF)(os:Hu):topGo PySem.treeTable PySem.Challenge.pw_trueleaf_k58_heads_and_lists w 11 (some (.ref 6)) 12 ⟨boot_heap w.params,Hg [],boot_drawn,boot_toks,os⟩ (topStub PySem.Challenge.pw_trueleaf_k58_heads_and_lists)=some (⟨zzhA w.params,Hg [],⟨0,0,0,0⟩,187,os⟩,⟨denote PySem.treeTable zzcE,zzcE,PySem.Pos.mk 0 0 0 0,zzbF⟩):=by kernel_rfl
set_option maxHeartbeats 0 in
theorem zzblkL(w:GF)(os:Hu):segRun PySem.treeTable PySem.Challenge.pw_trueleaf_k58_heads_and_lists w 11 (some (.ref 6)) 1 1 ⟨zzhA w.params,Hg [],⟨0,0,0,0⟩,187,os⟩ (blockOf zzbE zzev zzcE (PySem.Pos.mk 0 0 0 0) zzbF)=some (.next,⟨zzhB w.params,Hg [],⟨0,0,0,0⟩,187,os⟩,zzcE,PySem.Pos.mk 0 0 0 0):=by kernel_rfl
set_option maxHeartbeats 0 in
theorem zzseg0(w:GF)(os:Hu):segRun PySem.treeTable PySem.Challenge.pw_trueleaf_k58_heads_and_lists w 11 (some (.ref 6)) 1 1261 ⟨zzhB w.params,Hg [],⟨0,0,0,0⟩,187,os⟩ (piecesOf ((zzbE.drop 0).take 7) zzev zzcE (PySem.Pos.mk 0 0 0 0) zzbF)=some (.next,⟨zzh1 w.params,Hg [],⟨0,0,0,0⟩,287,os⟩,zzcE,PySem.Pos.mk 12 0 13 8):=by kernel_rfl
def zzsegP1(w:GF):Prop:=∀os:Hu,segRun PySem.treeTable PySem.Challenge.pw_trueleaf_k58_heads_and_lists w 11 (some (.ref 6)) 1 1191 ⟨zzh1 w.params,Hg [],⟨0,0,0,0⟩,287,os⟩ (piecesOf ((zzbE.drop 7).take 20) zzev zzcE (PySem.Pos.mk 12 0 13 8) zzbF)=some (.next,⟨zzh2 w.params,Hg [],⟨0,0,0,0⟩,430,os⟩,zzcE,PySem.Pos.mk 55 0 73 16)
set_option maxHeartbeats 0 in
theorem zzsegF1(w:GF):zzsegP1 (w.withFollow "special-get-raises" false):=λos=>by kernel_rfl
set_option maxHeartbeats 0 in
theorem zzsegT1(w:GF):zzsegP1 (w.withFollow "special-get-raises" true):=λos=>by kernel_rfl
theorem zzseg1(w:GF)(os:Hu):segRun PySem.treeTable PySem.Challenge.pw_trueleaf_k58_heads_and_lists w 11 (some (.ref 6)) 1 1191 ⟨zzh1 w.params,Hg [],⟨0,0,0,0⟩,287,os⟩ (piecesOf ((zzbE.drop 7).take 20) zzev zzcE (PySem.Pos.mk 12 0 13 8) zzbF)=some (.next,⟨zzh2 w.params,Hg [],⟨0,0,0,0⟩,430,os⟩,zzcE,PySem.Pos.mk 55 0 73 16):=byRow2 "special-get-raises" (P:=zzsegP1) zzsegF1 zzsegT1 w os
def zzsegP2(w:GF):Prop:=∀os:Hu,segRun PySem.treeTable PySem.Challenge.pw_trueleaf_k58_heads_and_lists w 11 (some (.ref 6)) 1 1647 ⟨zzh2 w.params,Hg [],⟨0,0,0,0⟩,430,os⟩ (piecesOf ((zzbE.drop 27).take 29) zzev zzcE (PySem.Pos.mk 55 0 73 16) zzbF)=some (.next,⟨zzh3 w.params,Hg [],⟨0,0,0,0⟩,818,os⟩,zzcE,PySem.Pos.mk 255 0 358 21)
set_option maxHeartbeats 0 in
theorem zzsegF2(w:GF):zzsegP2 (w.withFollow "special-get-raises" false):=λos=>by kernel_rfl
set_option maxHeartbeats 0 in
theorem zzsegT2(w:GF):zzsegP2 (w.withFollow "special-get-raises" true):=λos=>by kernel_rfl
theorem zzseg2(w:GF)(os:Hu):segRun PySem.treeTable PySem.Challenge.pw_trueleaf_k58_heads_and_lists w 11 (some (.ref 6)) 1 1647 ⟨zzh2 w.params,Hg [],⟨0,0,0,0⟩,430,os⟩ (piecesOf ((zzbE.drop 27).take 29) zzev zzcE (PySem.Pos.mk 55 0 73 16) zzbF)=some (.next,⟨zzh3 w.params,Hg [],⟨0,0,0,0⟩,818,os⟩,zzcE,PySem.Pos.mk 255 0 358 21):=byRow2 "special-get-raises" (P:=zzsegP2) zzsegF2 zzsegT2 w os
set_option maxHeartbeats 0 in
theorem zzseg3(w:GF)(os:Hu):segRun PySem.treeTable PySem.Challenge.pw_trueleaf_k58_heads_and_lists w 11 (some (.ref 6)) 1 645 ⟨zzh3 w.params,Hg [],⟨0,0,0,0⟩,818,os⟩ (piecesOf ((zzbE.drop 56).take 22) zzev zzcE (PySem.Pos.mk 255 0 358 21) zzbF)=some (.next,⟨zzh4 w.params,Hg [],⟨0,0,0,0⟩,1007,os⟩,zzcE,PySem.Pos.mk 551 0 574 93):=by kernel_rfl
set_option maxHeartbeats 0 in
theorem zzfinL(w:GF)(os:Hu):topRun PySem.treeTable PySem.Challenge.pw_trueleaf_k58_heads_and_lists w 11 (some (.ref 6)) 2 ⟨zzh4 w.params,Hg [],⟨0,0,0,0⟩,1007,os⟩ ⟨doneF .next,zzcE,PySem.Pos.mk 551 0 574 93,zzbF⟩=some ⟨zzhF w.params,Hg [],⟨0,0,0,0⟩,1007,os⟩:=by kernel_rfl
set_option maxHeartbeats 0 in
theorem zzbodyE:zzbE=(((zzbE.drop 0).take 7)++(((zzbE.drop 7).take 20)++(((zzbE.drop 27).take 29)++(((zzbE.drop 56).take 22)++[])))):=by kernel_rfl
theorem zzrunL(w:GF)(os:Hu):topRun PySem.treeTable PySem.Challenge.pw_trueleaf_k58_heads_and_lists w 11 (some (.ref 6)) (12+(1+(1261+(1191+(1647+(645+2)))))) ⟨boot_heap w.params,Hg [],boot_drawn,boot_toks,os⟩ (topStub PySem.Challenge.pw_trueleaf_k58_heads_and_lists)=some ⟨zzhF w.params,Hg [],⟨0,0,0,0⟩,1007,os⟩:=by
 have k0:topRun PySem.treeTable PySem.Challenge.pw_trueleaf_k58_heads_and_lists w 11 (some (.ref 6)) (1261+(1191+(1647+(645+2)))) ⟨zzhB w.params,Hg [],⟨0,0,0,0⟩,187,os⟩ (restOf (((zzbE.drop 0).take 7)++(((zzbE.drop 7).take 20)++(((zzbE.drop 27).take 29)++(((zzbE.drop 56).take 22)++[])))) zzev zzcE (PySem.Pos.mk 0 0 0 0) zzbF)=some ⟨zzhF w.params,Hg [],⟨0,0,0,0⟩,1007,os⟩:=piece_app (zzseg0 w os) (piece_app (zzseg1 w os) (piece_app (zzseg2 w os) (piece_app (zzseg3 w os) (piece_nil (env:=zzev) (q:=PySem.Pos.mk 0 0 0 0) (zzfinL w os)))));have k1:topRun PySem.treeTable PySem.Challenge.pw_trueleaf_k58_heads_and_lists w 11 (some (.ref 6)) (1261+(1191+(1647+(645+2)))) ⟨zzhB w.params,Hg [],⟨0,0,0,0⟩,187,os⟩ (restOf zzbE zzev zzcE (PySem.Pos.mk 0 0 0 0) zzbF)=some ⟨zzhF w.params,Hg [],⟨0,0,0,0⟩,1007,os⟩:=(congrArg (λb=>topRun PySem.treeTable PySem.Challenge.pw_trueleaf_k58_heads_and_lists w 11 (some (.ref 6)) (1261+(1191+(1647+(645+2)))) ⟨zzhB w.params,Hg [],⟨0,0,0,0⟩,187,os⟩ (restOf b zzev zzcE (PySem.Pos.mk 0 0 0 0) zzbF)) zzbodyE).trans k0;exact go_top (zzpreL w os) (piece_block (zzblkL w os) k1)
set_option maxHeartbeats 0 in
theorem zzopE:opening PySem.Challenge.pw_trueleaf_k58_heads_and_lists=plainProg PySem.Challenge.pw_trueleaf_k58_heads_and_lists.main.scope.names:=by kernel_rfl
set_option maxHeartbeats 0 in
theorem EW(w:GF):((boot_heap w.params).isNs GJ&&(Hg []:Array Kp).size==0,(boot_heap w.params).objs.size,(boot_heap w.params).nsMap GJ "__annotations__")=(true,11,some (.ref 6)):=by kernel_rfl
set_option maxHeartbeats 0 in
theorem zzlkA(w:GF)(os:Hu):staticsOk (Jq PySem.Challenge.pw_trueleaf_k58_heads_and_lists.main.body) (boot_heap w.params) (zzhF w.params)=true:=by kernel_rfl
set_option maxHeartbeats 0 in
theorem zzlkB(w:GF)(os:Hu):namesBound PySem.Challenge.pw_trueleaf_k58_heads_and_lists (zzhF w.params)=true:=by kernel_rfl
set_option maxHeartbeats 0 in
theorem zzlkC(w:GF)(os:Hu):gensDone (⟨zzhF w.params,Hg [],⟨0,0,0,0⟩,1007,os⟩)=true:=by kernel_rfl
set_option maxHeartbeats 0 in
theorem zzlkD(w:GF)(os:Hu):laidKept (boot_heap w.params) (zzhF w.params)=true:=by kernel_rfl
noncomputable abbrev zzzF(w:GF)(os:Hu):Gb:=⟨zzhF w.params,Hg [],⟨0,0,0,0⟩,1007,os⟩
set_option maxHeartbeats 0 in
theorem zzlc0(w:GF)(os:Hu):seen ((recsOf vw).map (·.name)) (ownsOf vw) [] { zzzF w os with gens:=#[] }=expectedOf vw:=by kernel_rfl
set_option maxHeartbeats 0 in
theorem zzlc1(w:GF)(os:Hu):(zzzF w os).heap.bltView=bltViewBooted:=by kernel_rfl
set_option maxHeartbeats 0 in
theorem zzlc2(w:GF)(os:Hu):((zzzF w os).heap.keysOk (looseW vw ls) ((recsOf vw).map (·.name)) ((litsOf vw).map (·.1)) ((clssOf vw (looseW vw ls)).map (·.name))&&(zzzF w os).heap.accountedOkI (Jq PySem.Challenge.pw_trueleaf_k58_heads_and_lists.main.body)&&(zzzF w os).heap.isNs GJ&&(zzzF w os).heap.isNs Kk&&tablesOk vw (zzzF w os).heap&&xt (zzzF w os)&&(if true=true then(zzzF w os).gens.size==0 else !leftWithCleanup (zzzF w os).gens))=true:=by kernel_rfl
set_option maxHeartbeats 0 in
theorem zzlc3(w:GF)(os:Hu):tabsOk vw (zzzF w os)=true:=by kernel_rfl
set_option maxHeartbeats 0 in
theorem zzlc4(w:GF)(os:Hu):pinSeenD vw (drecsOf vw) (zzzF w os)=pinGoodD (drecsOf vw):=by kernel_rfl
set_option maxHeartbeats 0 in
theorem zzlc5(w:GF)(os:Hu):plainSeenE vw (looseW vw ls) (zzzF w os)=plainGoodE vw (looseW vw ls):=by kernel_rfl
set_option maxHeartbeats 0 in
theorem zzlc6(w:GF)(os:Hu):plainSeenD vw ls (zzzF w os)=plainGoodD vw ls:=by kernel_rfl
set_option maxHeartbeats 0 in
theorem zzlc7(w:GF)(os:Hu):wideSeen vw (zzzF w os)=wideGood vw:=by kernel_rfl
set_option maxHeartbeats 0 in
theorem zzlc8(w:GF)(os:Hu):clsSeenW vw ls (zzzF w os)=clsGoodW vw ls:=by kernel_rfl
theorem zzmk9{A B C D E F G H I:Type}{a a':A}{b b':B}{c c':C}{d d':D}{e e':E}{f f':F}{g g':G}{h h':H}{i i':I}(zzh0:a=a')(zzh1:b=b')(zzh2:c=c')(zzh3:d=d')(zzh4:e=e')(zzh5:f=f')(zzh6:g=g')(zzh7:h=h')(zzh8:i=i'):(a,b,c,d,e,f,g,h,i)=(a',b',c',d',e',f',g',h',i'):=by
 subst zzh0 zzh1 zzh2 zzh3 zzh4 zzh5 zzh6 zzh7 zzh8;rfl
theorem zzlkO(w:GF)(os:Hu):openSeen vw ls (Jq PySem.Challenge.pw_trueleaf_k58_heads_and_lists.main.body) xt true (zzzF w os)=openGood vw ls:=zzmk9 (zzlc0 w os) (zzlc1 w os) (zzlc2 w os) (zzlc3 w os) (zzlc4 w os) (zzlc5 w os) (zzlc6 w os) (zzlc7 w os) (zzlc8 w os)
set_option maxHeartbeats 0 in
theorem EX(w:GF)(os:Hu):Hook.obs hk (⟨zzhF w.params,Hg [],⟨0,0,0,0⟩,1007,os⟩)=Hook.val hk w:=by kernel_rfl
theorem zzlkP(w:GF)(os:Hu):(staticsOk (Jq PySem.Challenge.pw_trueleaf_k58_heads_and_lists.main.body) (boot_heap w.params) (zzhF w.params)&&namesBound PySem.Challenge.pw_trueleaf_k58_heads_and_lists (zzhF w.params)&&gensDone (⟨zzhF w.params,Hg [],⟨0,0,0,0⟩,1007,os⟩)&&laidKept (boot_heap w.params) (zzhF w.params))=true:=by rw[zzlkA w os,zzlkB w os,zzlkC w os,zzlkD w os];rfl
theorem left:LeftO PySem.Challenge.pw_trueleaf_k58_heads_and_lists vw ls xt (Hook.obs hk) (Hook.val hk) 9606:=
 LeftO.of_pieces (boot_open zzopE (by decide) (λs=>rfl)) EW zzrunL (by decide) λw=>funext λos=>Prod.ext (zzlkP w os) (Prod.ext (zzlkO w os) (EX w os))

end K58
set_option maxHeartbeats 4000000
namespace L2
open PySem PySem.Spec PyProof.Rows

abbrev Key:=Sum Int Str
def mh:Key->F9->Bool
 |.inl k,v=>Value.isInt k v
 |.inr x,v=>Value.isStrOf x v
def DW(w:GF):Key->Int
 |.inl k=>hashInt k
 |.inr x=>hashStr w x
theorem di:∀{k:Key} {v:F9},mh k v=true->(∃i t,k=Kd i/\v=IQ i t)\/(∃x t,k=IH x/\v=HP x t)
 |.inl i,v,h=>by
  obtain⟨t,e⟩:=Value.isInt_shape (k:=i) (v:=v) h;exact .inl ⟨i,t,rfl,e⟩
 |.inr x,v,h=>by
  obtain⟨t,e⟩:=Value.isStrOf_shape (x:=x) (v:=v) h;exact .inr ⟨x,t,rfl,e⟩
theorem Ai(i:Int)(t:Tok):mh (.inl i) (.int i t)=true:=by simp[mh,Value.isInt]
theorem Aj(x:Str)(t:Tok):mh (.inr x) (.str x t)=true:=by simp[mh,Value.isStrOf]
theorem DX(a b:Int):decide ((Kd a:Key)=Kd b)=(a==b):=by
 by_cases e:a=b
 .subst e;simp
 .have h:¬ (Kd a:Key)=Kd b:=λq=>e (Sum.inl.inj q);rw[decide_eq_false h];exact(beq_eq_false_iff_ne.mpr e).symm
theorem DY(a b:Str):decide ((IH a:Key)=IH b)=decide (a=b):=by
 by_cases e:a=b
 .subst e;simp
 .have h:¬ (IH a:Key)=IH b:=λq=>e (Sum.inr.inj q);rw[decide_eq_false h,decide_eq_false e]
theorem DZ(a:Int)(b:Str):decide ((Kd a:Key)=IH b)=false:=decide_eq_false (λq=>nomatch q)
theorem D0(a:Str)(b:Int):decide ((IH a:Key)=Kd b)=false:=decide_eq_false (λq=>nomatch q)

def bB(prog:GE)(w:GF):PySem.KeyKind prog w Key where
 is:=mh
 hash:=DW w
 inj:=λv a b ha hb=>by
  rcases di ha with⟨i,t,rfl,rfl⟩|⟨x,t,rfl,rfl⟩
  .rcases di hb with⟨j,u,rfl,e⟩|⟨y,u,rfl,e⟩
   .injection e with e1 _;rw[e1]
   .exact nomatch e
  .rcases di hb with⟨j,u,rfl,e⟩|⟨y,u,rfl,e⟩
   .exact nomatch e
   .injection e with e1 _;rw[e1]
 byValue:=λk v h=>by
  rcases di h with⟨i,t,rfl,rfl⟩|⟨x,t,rfl,rfl⟩<;>rfl
 pyHash:=λhv h=>by
  rcases di hv with⟨i,t,rfl,rfl⟩|⟨x,t,rfl,rfl⟩
  .exact wpAny_pyHash_int h
  .exact wpAny_pyHash_str h
 eqBool:=λhu hv h=>by
  rcases di hu with⟨i,t,rfl,rfl⟩|⟨x,t,rfl,rfl⟩
  .rcases di hv with⟨j,u,rfl,rfl⟩|⟨y,u,rfl,rfl⟩
   .rw[DX]at h;exact wpAny_eqBool_int h
   .rw[DZ]at h;exact SeqAt.EqAt.int_str i t y u _ _ _ _ h
  .rcases di hv with⟨j,u,rfl,rfl⟩|⟨y,u,rfl,rfl⟩
   .rw[D0]at h;exact SeqAt.EqAt.str_int x t j u _ _ _ _ h
   .rw[DY]at h;exact wpAny_eqBool_str h
 «strs»:=λk x t v h=>by
  rcases di h with⟨i,u,rfl,e⟩|⟨y,u,rfl,e⟩
  .exact nomatch e
  .injection e with e1 _;subst e1;cases v<;>rfl

theorem yf(prog:GE)(w:GF)(i:Int)(t:Tok):(bB prog w).is (.inl i) (.int i t)=true:=Ai i t
theorem yg(prog:GE)(w:GF)(x:Str)(t:Tok):(bB prog w).is (.inr x) (.str x t)=true:=Aj x t

inductive V where
 |non|bl (b:Bool)|int (i:Int)|str (x:Str)|byt (b:Array UInt8)|flt (b:UInt64)|ref (a:Addr)|ty (n:String)
 deriving DecidableEq

def bq:V->F9->Prop
 |.non,u=>u=IL
 |.bl b,u=>u=JV b
 |.int i,u=>∃t,u=IQ i t
 |.str x,u=>∃t,u=HP x t
 |.byt b,u=>∃t,u=Value.bytes b t
 |.flt b,u=>∃t,u=Kz b t
 |.ref a,u=>u=GW a
 |.ty n,u=>u=Ir n

abbrev a_:List V->List F9->Prop:=Paired bq
theorem a_.length{xs:List V}{us:List F9}(r:a_ xs us):xs.length=us.length:=Paired.length r
theorem a_.get:∀{xs:List V} {us:List F9} {i:Nat} {x:V},a_ xs us->xs[i]?=some x->∃u,us[i]?=some u/\bq x u
 |_,_,_,_,.nil,e=>by simp at e
 |_,_,0,_,.cons r _,e=>by simp at e;subst e;exact⟨_,rfl,r⟩
 |_,_,i+1,x,.cons _ t,e=>by
  obtain⟨u,h1,h2⟩:=a_.get (i:=i) (x:=x) t (by simpa using e);exact⟨u,by simpa using h1,h2⟩
theorem a_.set{x:V}{u:F9}(r:bq x u):∀{xs:List V} {us:List F9} (i:Nat),a_ xs us->a_ (xs.set i x) (us.set i u)
 |_,_,_,.nil=>.nil
 |_,_,0,.cons _ t=>.cons r t
 |_,_,i+1,.cons q t=>.cons q (a_.set r i t)
theorem a_.append:∀{xs ys:List V} {us ws:List F9},a_ xs us->a_ ys ws->a_ (xs++ys) (us++ws)
 |_,_,_,_,.nil,s=>s
 |_,_,_,_,.cons r t,s=>.cons r (a_.append t s)
theorem a_.take:∀{xs:List V} {us:List F9} (n:Nat),a_ xs us->a_ (xs.take n) (us.take n)
 |_,_,0,_=>.nil
 |_,_,_+1,.nil=>.nil
 |_,_,n+1,.cons r t=>.cons r (a_.take n t)
theorem a_.drop:∀{xs:List V} {us:List F9} (n:Nat),a_ xs us->a_ (xs.drop n) (us.drop n)
 |_,_,0,r=>r
 |_,_,_+1,.nil=>.nil
 |_,_,n+1,.cons _ t=>a_.drop n t
def gU:Option V->Option F9->Prop
 |some v,some u=>bq v u
 |none,none=>True
 |_,_=>False
def KV{κ:Type}:List (κ×V)->List (κ×F9)->Prop:=Paired λ(p:κ×V) (q:κ×F9)=>p.1=q.1/\bq p.2 q.2

def kV:Key->V
 |.inl i=>.int i
 |.inr x=>.str x

inductive HO where
  |lst (xs:List V)
  |tup (xs:List V)
  |dK (kvs:List (Key×V))|dT (kvs:List (List Key×V))
  |set (S:Int->Bool) (n:Nat)
  |ins (C dx:Addr) (fs:List (Str×V))
  |own (x:Addr)
  |xd (fs:List (Str×V))
  |met (f x:Addr)
  |rng (lo hi:Int)
  |frz (o:Obj) (u:HO)
  |tbl (ps:Array F9)
  |ext (φ:Heap->Prop)

abbrev Hp:=Addr->Option HO
def upd(H:Hp)(a:Addr)(o:HO):Hp:=λb=>if b=a then some o else H b
theorem ae{H:Hp}{a:Addr}{o:HO}:upd H a o a=some o:=by unfold upd;rw[if_pos rfl]
theorem ak{H:Hp}{a b:Addr}{o:HO}(h:b≠a):upd H a o b=H b:=by unfold upd;rw[if_neg h]
theorem EY{H:Hp}{a b:Addr}{o u:HO}(h:H a=some o)(h':H b=some u)(d:o≠u):a≠b:=by
 intro e;subst e;rw[h]at h';exact d (GU h')
theorem cy{H:Hp}{a b:Addr}{o:HO}(h:H a=some o)(h':H b=none):a≠b:=by
 intro e;subst e;rw[h]at h';cases h'

section
variable (P:GE)(w:GF)
def cj(H:Hp)(h:Heap)(a:Addr):HO->Prop
 |.lst xs=>xs.length<=Gr/\∃(its:List F9) (n:Nat),a_ xs its/\h.get? a=some { cls:=.type "list",data:=.seq its.toArray n }
 |.tup xs=>xs.length<=Gr/\∃its:List F9,a_ xs its/\IsTup h a its.toArray
 |.dK kvs=>kvs.length<=Gr/\(a==HD)=false/\∃vs,KV kvs vs/\h.DictOf (bB P w) a vs
 |.dT kvs=>kvs.length<=Gr/\(a==HD)=false/\∃xs:List (List Key×Addr×F9),
   Paired (λ(p:List Key×V) (q:List Key×Addr×F9)=>p.1=q.1/\H q.2.1=some (.tup (p.1.map kV))/\bq p.2 q.2.2) kvs xs/\
   ∃o es ep,h.get? a=some o/\o.ExactDict/\o.data=.dict es ep/\es.toList=xs.map (entryOfKey (Ke (bB P w)))/\(xs.map (·.1)).Nodup
 |.set S n=>h.SetOf (intKind P w) a S n
 |.ins C dx fs=>H dx=some (.own a)/\fs.length<=1000/\dx≠a/\h.get? a=some (PySem.W.instObj C dx)/\
   ∃mA,h.Ns1 dx mA/\(∀f,gU (fs.lookup f) (mA f))/\PySem.Within mA (fs.map (·.1))
 |.own _=>∃o,h.get? a=some o
 |.xd fs=>∃mA,h.Ns1 a mA/\∀f,gU (fs.lookup f) (mA f)
 |.rng lo hi=>∃t u v,h.get? a=some { cls:=.type "range",data:=.fields #[.int lo t,.int hi u,.int 1 v] }
 |.frz o u=>h.get? a=some o/\cj H h a u
 |.tbl ps=>h.get? a=some { cls:=.none,data:=.fields ps }
 |.met f x=>h.get? a=some (PySem.W.methodObj (.ref f) (.ref x))
 |.ext φ=>φ h/\(∃o,h.get? a=some o)/\∀h1 h2:Heap,φ h1->(∀o,h1.get? a=some o->h2.get? a=some o)->φ h2
def HOk(H:Hp)(h:Heap):Prop:=∀a o,H a=some o->cj P w H h a o
end

section
variable {P:GE}{w:GF}{H H':Hp}{h h':Heap}{a:Addr}{o:HO}
theorem cj.lt(x:cj P w H h a o):a<h.objs.size:=by
 cases o with
 |lst xs=>obtain⟨_,_,_,_,e⟩:=x;exact Gq e
 |tup xs=>obtain⟨_,_,_,p⟩:=x;exact p.lt
 |dK kvs=>obtain⟨_,_,_,_,o,_,_,e,_⟩:=x;exact Gq e
 |dT kvs=>obtain⟨_,_,_,_,o,_,_,e,_⟩:=x;exact Gq e
 |set S n=>obtain⟨o,_,_,_,e,_⟩:=x;exact Gq e
 |ins C dx fs=>obtain⟨_,_,_,e,_⟩:=x;exact Gq e
 |own y=>obtain⟨_,e⟩:=x;exact Gq e
 |xd fs=>obtain⟨_,⟨_,_,_,e,_⟩,_⟩:=x;exact Gq e
 |rng lo hi=>obtain⟨_,_,_,e⟩:=x;exact Gq e
 |frz ob u=>obtain⟨e,_⟩:=x;exact Gq e
 |tbl ps=>exact Gq (show h.get? a=some _ from x)
 |met f y=>exact Gq (show h.get? a=some _ from x)
 |ext φ=>obtain⟨_,⟨_,e⟩,_⟩:=x;exact Gq e
theorem Paired.mapP{α β:Type}{F G:α->β->Prop}:∀{l₁:List α} {l₂:List β},Paired F l₁ l₂->(∀a b,F a b->G a b)->Paired G l₁ l₂
 |_,_,.nil,_=>.nil
 |_,_,.cons r t,f=>.cons (f _ _ r) (Paired.mapP t f)
theorem cj.stay(x:cj P w H h a o)(k:∀b u,(b=a\/H b=some (.own a))->h.get? b=some u->h'.get? b=some u)
  (ho:∀b,H b=some (.own a)->H' b=some (.own a))(ht:∀b xs,H b=some (.tup xs)->H' b=some (.tup xs)):cj P w H' h' a o:=by
 induction o with
 |lst xs=>obtain⟨z,its,n,r,e⟩:=x;exact⟨z,its,n,r,k _ _ (.inl rfl) e⟩
 |tup xs=>obtain⟨z,its,r,ob,e,c⟩:=x;exact⟨z,its,r,ob,k _ _ (.inl rfl) e,c⟩
 |dK kvs=>obtain⟨z,y,vs,r,ob,es,ep,e,c⟩:=x;exact⟨z,y,vs,r,ob,es,ep,k _ _ (.inl rfl) e,c⟩
 |dT kvs =>
  obtain⟨z,y,xs,r,ob,es,ep,e,c⟩:=x;exact⟨z,y,xs,Paired.mapP r λp q z=>⟨z.1,ht _ _ z.2.1,z.2.2⟩,ob,es,ep,k _ _ (.inl rfl) e,c⟩
 |set S n=>obtain⟨ob,es,ep,t,e,c⟩:=x;exact⟨ob,es,ep,t,k _ _ (.inl rfl) e,c⟩
 |ins C dx fs =>
  obtain⟨d,z,ne,e,mA,⟨od,es,ep,e2,c⟩,r⟩:=x;exact⟨ho _ d,z,ne,k _ _ (.inl rfl) e,mA,⟨od,es,ep,k _ _ (.inr d) e2,c⟩,r⟩
 |own y=>obtain⟨ob,e⟩:=x;exact⟨ob,k _ _ (.inl rfl) e⟩
 |xd fs=>obtain⟨mA,⟨od,es,ep,e,c⟩,r⟩:=x;exact⟨mA,⟨od,es,ep,k _ _ (.inl rfl) e,c⟩,r⟩
 |rng lo hi=>obtain⟨t,u,v,e⟩:=x;exact⟨t,u,v,k _ _ (.inl rfl) e⟩
 |frz ob u ih=>obtain⟨e,q⟩:=x;exact⟨k _ _ (.inl rfl) e,ih q⟩
 |tbl ps =>
  have e:h.get? a=some { cls:=.none,data:=.fields ps }:=x;show h'.get? a=some { cls:=.none,data:=.fields ps };exact k a _ (.inl rfl) e
 |met f y =>
  have e:h.get? a=some (PySem.W.methodObj (.ref f) (.ref y)):=x;show h'.get? a=some (PySem.W.methodObj (.ref f) (.ref y));exact k a _ (.inl rfl) e
 |ext φ=>obtain⟨p,⟨o,e⟩,st⟩:=x;exact⟨st _ _ p λo q=>k _ _ (.inl rfl) q,⟨o,k _ _ (.inl rfl) e⟩,st⟩
theorem HOk.lt(x:HOk P w H h)(e:H a=some o):a<h.objs.size:=(x a o e).lt
theorem HOk.fresh(x:HOk P w H h)(e:h.objs.size<=a):H a=none:=by
 cases q:H a with
 |none=>rfl
 |some u=>exact absurd (GC (x.lt q) e) (Hm _)
theorem HOk.kept(x:HOk P w H h)(k:∀b u,h.get? b=some u->h'.get? b=some u):HOk P w H h':=λa o e =>
 (x a o e).stay (λb u _ q=>k b u q) (λ_ q=>q) λ_ _ q=>q
theorem HOk.laid(x:HOk P w H h)(k:∀b u,h.get? b=some u->h'.get? b=some u)(hp:h.objs.size<=a)(new:cj P w (upd H a o) h' a o):HOk P w (upd H a o) h':=λb u e=>by
 have hn:=x.fresh hp;by_cases hb:b=a
 .subst hb;rw[ae]at e;cases e;exact new
 .rw[ak hb]at e;exact(x b u e).stay (λc v _ q=>k c v q) (λc q=>by rw[ak (cy q hn)];exact q) λc xs q=>by rw[ak (cy q hn)];exact q
end

def Rd(H:Hp)(a:Addr)(u:HO):Prop:=H a=some u\/∃o,H a=some (.frz o u)
theorem Rd.ok{P:GE}{w:GF}{H:Hp}{h:Heap}{a:Addr}{u:HO}(r:Rd H a u)(x:HOk P w H h):cj P w H h a u:=by
 rcases r with r|⟨o,r⟩
 .exact x a u r
 .obtain⟨_,q⟩:=x a _ r;exact q
def Mut:Option HO->Prop
 |some (.lst _)=>True
 |some (.dK _)=>True
 |some (.dT _)=>True
 |some (.set _ _)=>True
 |some (.ins _ _ _)=>True
 |some (.ext _)=>True
 |_=>False
section
variable {P:GE}{w:GF}{H:Hp}{h h':Heap}{x e:Addr}{o':HO}
theorem HOk.write(ok:HOk P w H h)(mu:Mut (H x))(he:e=x\/H e=some (.own x))(k:∀b u,b≠e->h.get? b=some u->h'.get? b=some u)(heo:∃u,h'.get? e=some u)
  (new:cj P w (upd H x o') h' x o'):HOk P w (upd H x o') h':=λb u q=>by
 have nown:∀c y,H c=some (.own y)->c≠x:=λc y r z=>by subst z;rw[r]at mu;exact mu
 have ntup:∀c xs,H c=some (.tup xs)->c≠x:=λc xs r z=>by subst z;rw[r]at mu;exact mu
 by_cases hb:b=x
 .subst hb;rw[ae]at q;cases q;exact new
 .rw[ak hb]at q;by_cases hbe:b=e
  .have q':H b=some (.own x):=by
    rcases he with z|z
    .exact absurd (hbe.trans z) hb
    .rw[hbe];exact z
   rw[q]at q';cases q';obtain⟨v,hv⟩:=heo;exact⟨v,by rw[hbe];exact hv⟩
  .refine(ok b u q).stay (λc v hc r=>k c v ?_ r) (λc r=>by rw[ak (nown c b r)];exact r) λc xs r=>by rw[ak (ntup c xs r)];exact r
   rcases hc with rfl|hc
   .exact hbe
   .rintro rfl;rcases he with z|z
    .exact nown c b hc z
    .rw[hc]at z;cases z;exact hb rfl
end

structure Un(fs ex:List Addr)(H H':Hp)(h h':Heap):Prop where
 keep:∀b o,h.get? b=some o->H b=none->b∉fs->b∉ex->h'.get? b=some o
 slot:∀b o,h.get? b=some o->H b=none->b∈fs->b∉ex->∃sl,h'.get? b=some { o with slots:=sl }
 free:∀b o,h.get? b=some o->H b=none->b∉ex->H' b=none
 there:∀b o,h.get? b=some o->b∉ex->∃o',h'.get? b=some o'
 tups:∀b xs,H b=some (.tup xs)->H' b=some (.tup xs)
 frzs:∀b o u,H b=some (.frz o u)->H' b=some (.frz o u)
 tbls:∀b ps,H b=some (.tbl ps)->∃more,H' b=some (.tbl (ps++more))
section
variable {fs fs' ex ex':List Addr}{H H1 H2:Hp}{h h1 h2 h':Heap}{a x e:Addr}{o:HO}
theorem Un.any(u:Un fs ex H H1 h h1){b:Addr}{ob:Obj}(q:h.get? b=some ob)(n:H b=none)(hx:b∉ex):∃sl,h1.get? b=some { ob with slots:=sl }:=by
 by_cases hb:b∈fs
 .exact u.slot b ob q n hb hx
 .exact⟨ob.slots,u.keep b ob q n hb hx⟩
theorem Un.trans(a:Un fs ex H H1 h h1)(b:Un fs ex H1 H2 h1 h2):Un fs ex H H2 h h2 where
 keep:=λc ob q n hc hx=>b.keep c ob (a.keep c ob q n hc hx) (a.free c ob q n hx) hc hx
 slot:=λc ob q n hc hx=>by
  obtain⟨sl,e1⟩:=a.slot c ob q n hc hx;obtain⟨sl',e2⟩:=b.slot c _ e1 (a.free c ob q n hx) hc hx;exact⟨sl',e2⟩
 free:=λc ob q n hx=>by
  obtain⟨o',e1⟩:=a.there c ob q hx;exact b.free c o' e1 (a.free c ob q n hx) hx
 there:=λc ob q hx=>by
  obtain⟨o',e1⟩:=a.there c ob q hx;exact b.there c o' e1 hx
 tups:=λc xs q=>b.tups c xs (a.tups c xs q)
 frzs:=λc ob xs q=>b.frzs c ob xs (a.frzs c ob xs q)
 tbls:=λc ps q=>by
  obtain⟨m1,e1⟩:=a.tbls c ps q;obtain⟨m2,e2⟩:=b.tbls c _ e1;exact⟨m1++m2,by rw[e2,JB]⟩
theorem Un.kept(k:∀b u,h.get? b=some u->h'.get? b=some u):Un fs ex H H h h':=
 ⟨λb ob q _ _ _=>k b ob q,λb ob q _ _ _=>⟨ob.slots,k b ob q⟩,λ_ _ _ n _=>n,λb ob q _=>⟨ob,k b ob q⟩,λ_ _ q=>q,λ_ _ _ q=>q,λ_ ps q=>⟨#[],by rw[q];simp⟩⟩
theorem Un.refl:Un fs ex H H h h:=Un.kept λ_ _ q=>q
theorem Un.laid(k:∀b u,h.get? b=some u->h'.get? b=some u)(hp:h.objs.size<=a)(hn:H a=none):Un fs ex H (upd H a o) h h' where
 keep:=λb u q _ _ _=>k b u q
 slot:=λb u q _ _ _=>⟨u.slots,k b u q⟩
 free:=λb u q n _=>by rw[ak (Gw (GC (Gq q) hp))];exact n
 there:=λb u q _=>⟨u,k b u q⟩
 tups:=λb xs q=>by rw[ak (cy q hn)];exact q
 frzs:=λb u xs q=>by rw[ak (cy q hn)];exact q
 tbls:=λb ps q=>⟨#[],by rw[ak (cy q hn),q];simp⟩
theorem Un.write(mu:Mut (H x))(he:e=x\/H e=some (.own x))(k:∀b u,b≠e->h.get? b=some u->h'.get? b=some u)(heo:∃u,h'.get? e=some u):Un fs ex H (upd H x o) h h':=by
 have hx:∀b,H b=none->b≠x:=λb n z=>by subst z;rw[n]at mu;exact mu
 have hb:∀b,H b=none->b≠e:=λb n z=>by
  subst z;rcases he with r|r
  .exact hx b n r
  .rw[n]at r;cases r
 have hm:∀b u,H b=some u->¬ Mut (some u)->b≠x:=λb u q nm z=>by subst z;rw[q]at mu;exact nm mu
 refine⟨λb u q n _ _=>k b u (hb b n) q,λb u q n _ _=>⟨u.slots,k b u (hb b n) q⟩,λb u q n _=>by rw[ak (hx b n)];exact n,λb u q _=>?_,
  λb xs q=>by rw[ak (hm b _ q λz=>z)];exact q,λb u xs q=>by rw[ak (hm b _ q λz=>z)];exact q,λb ps q=>⟨#[],by rw[ak (hm b _ q λz=>z),q];simp⟩⟩
 by_cases hbe:b=e
 .subst hbe;exact heo
 .exact⟨u,k b u hbe q⟩
end

def trk(h:Heap)(H:Hp):List Addr:=(HQ h.objs.size).filter λa=>(H a).isSome
def oh(h:Heap)(H:Hp):Heap:=PySem.W.hideAll h (trk h H)
theorem Ak(h:Heap)(H:Hp):(oh h H).objs.size=h.objs.size:=PySem.W.hideAll_size _ _
theorem BE{h:Heap}{H:Hp}{b:Addr}{o:Obj}(e:h.get? b=some o)(n:H b=none):(oh h H).get? b=some o:=
 PySem.W.hideAll_get _ e λhm=>by
  have q:(H b).isSome=true:=(List.mem_filter.mp hm).2;rw[n]at q;simp at q
theorem C5{h:Heap}{H:Hp}{b:Addr}{o:Obj}(e:(oh h H).get? b=some o):h.get? b=some o/\H b=none:=by
 have e':h.get? b=some o:=PySem.W.of_hideAll (trk h H) e;refine⟨e',?_⟩;cases q:H b with
 |none=>rfl
 |some x =>
  have hm:b∈trk h H:=List.mem_filter.mpr ⟨List.mem_range.mpr (Gq e'),by simp[q]⟩;have z:(oh h H).get? b=none:=PySem.W.hideAll_none (trk h H) hm;rw[z]at e;cases e


structure Mod(K:PySem.W.Frag)(mg:Str->Option F9)(base:Heap):Prop where
 kin:K.In base
 glob:base.Ns GJ mg
 blt:∃mb,base.Ns Kk mb/\∀x:Str,x≠"__name__"->mb x=Iu x
 nolimit:base.NoLimit

structure Cx where
 prog:GE
 w:GF
 K:PySem.W.Frag
 mg:Str->Option F9
 base:Heap
 A:G_
 N:List Str
 s₀:Gb
 H₀:Hp
 env:Env
 outer:List Env
 stack:List Env
 ex:List Addr
 fn:Str->Bool
 calm:Bool
 pn:List (Addr×Obj)
 xe:F9->Gb->Prop
def frs(l:List Env):List Addr:=l.filterMap (·.frame)
abbrev Cx.fs(X:Cx):List Addr:=frs X.outer

def Vis(sc:Scope)(x:Str):Prop:=sc.names.lookup x=some .local\/sc.names.lookup x=some .cell\/sc.names.lookup x=some .free
def Loc(sc:Scope)(x:Str):Prop:=sc.names.lookup x=some .local\/sc.names.lookup x=some .cell
def Fv(env:Env)(h:Heap)(m:Str->Option F9)(x:Str)(u:F9):Prop:=
 (env.kindOf x=some .local/\m x=some u)\/((env.kindOf x=some .cell\/env.kindOf x=some .free)/\∃c,env.cells.lookup x=some c/\h.IsCell c (some u))

structure Cx.Ok(X:Cx):Prop where
 mod:Mod X.K X.mg X.base
 kind:X.env.scope.kind=.function
 glob:X.env.globals=GJ
 blt:X.env.builtins=Kk
 above:X.s₀.heap.objs.size<=X.env.locals
 inj:∀x y c,X.env.cells.lookup x=some c->X.env.cells.lookup y=some c->x=y
 has:∀x,(X.env.kindOf x=some .cell\/X.env.kindOf x=some .free)->∃c,X.env.cells.lookup x=some c
 cab:∀x c,X.fn x=true->X.env.cells.lookup x=some c->X.s₀.heap.objs.size<=c
 hd:X.calm=true->X.A.handled=none
 frames:X.A.frames=some X.stack
 stk:X.stack=X.outer\/(X.stack=X.env::X.outer/\X.env.frame=some X.env.locals)
 exf:∀b∈X.ex,b≠X.env.locals/\∀x c,X.env.cells.lookup x=some c->c≠b
 bs:∀b o,X.base.get? b=some o->X.s₀.heap.get? b=some o/\X.H₀ b=none
 bsz:X.base.objs.size<=X.s₀.heap.objs.size
 noex:∀b o,X.base.get? b=some o->b∉X.ex
 exfs:∀b∈X.ex,b∉X.fs
 funs:X.s₀.heap.FunFrames X.base X.outer
 frf:∀b∈X.fs,X.H₀ b=none

structure Inv(X:Cx)(pins:List (Addr×Obj))(σ:List (Option V))(H:Hp)(s:Gb):Prop where
 ok:X.Ok
 os:s.os=X.s₀.os
 bare:Jg s.gens
 base:Un X.fs X.ex X.H₀ H X.s₀.heap s.heap
 loc:∃m,s.heap.Ns X.env.locals m/\∀(i:Nat) (x:Str) (v:V),X.N[i]?=some x->σ[i]?=some (some v)->Vis X.env.scope x->∃u,bq v u/\Fv X.env s.heap m x u
 cell:∀x c,X.env.cells.lookup x=some c->∃v,s.heap.IsCell c v
 free:H X.env.locals=none
 freeC:∀x c,X.env.cells.lookup x=some c->H c=none
 pin:∀p∈X.pn++pins,s.heap.get? p.1=some p.2/\H p.1=none/\p.1≠X.env.locals/\p.1∉X.fs/\∀v,p.2.data≠.cell v
 hok:HOk X.prog X.w H s.heap
 len:σ.length=X.N.length

section
variable {X:Cx}{pins:List (Addr×Obj)}{σ:List (Option V)}{H H':Hp}{s:Gb}{h':Heap}

theorem Cx.Ok.nofr(ok:X.Ok){b:Addr}{o:Obj}(e:X.base.get? b=some o):b∉X.fs:=λhb=>by
 have:=(ok.funs.mem hb).1;rw[e]at this;cases this
theorem Inv.bs(I:Inv X pins σ H s):∀b o,X.base.get? b=some o->s.heap.get? b=some o/\H b=none:=λb o e =>
 ⟨I.base.keep b o (I.ok.bs b o e).1 (I.ok.bs b o e).2 (I.ok.nofr e) (I.ok.noex b o e),I.base.free b o (I.ok.bs b o e).1 (I.ok.bs b o e).2 (I.ok.noex b o e)⟩
theorem Inv.bk(I:Inv X pins σ H s):∀b o,X.base.get? b=some o->s.heap.get? b=some o:=λb o e=>(I.bs b o e).1
theorem Inv.mod(I:Inv X pins σ H s):Mod X.K X.mg X.base:=I.ok.mod
theorem Inv.kIn(I:Inv X pins σ H s):X.K.In s.heap:=I.ok.mod.kin.keeps I.bk
theorem Inv.lt(I:Inv X pins σ H s):X.env.locals<s.heap.objs.size:=let⟨_,hn,_⟩:=I.loc;hn.lt
theorem Inv.sz(I:Inv X pins σ H s):X.s₀.heap.objs.size<=s.heap.objs.size:=GM I.ok.above (GR I.lt)
theorem Inv.nofs(I:Inv X pins σ H s){a:Addr}(h:s.heap.objs.size<=a):a∉X.fs:=λhb=>by
 obtain⟨_,o,ho,_⟩:=I.ok.funs.mem hb;exact absurd (GC (Gq ho) (GM I.sz h)) (Hm _)
theorem Inv.cne(I:Inv X pins σ H s):∀x c,X.env.cells.lookup x=some c->c≠X.env.locals:=λx c e z=>by
 obtain⟨v,o,ho,hd⟩:=I.cell x c e;obtain⟨m,⟨o',es,ep,ho',hd',_⟩,_⟩:=I.loc;rw[z,ho']at ho;cases ho;rw[hd']at hd;cases hd
theorem Inv.funs(I:Inv X pins σ H s):s.heap.FunFrames X.base X.outer:=by
 have all:∀(l:List Env),(∀b∈frs l,b∈X.fs)->X.s₀.heap.FunFrames X.base l->s.heap.FunFrames X.base l:=by
  intro l;induction l with
  |nil=>intro _ _;trivial
  |cons env r ih =>
   intro hs hl;obtain⟨hk,⟨L,o,hf,hn,ho,hd⟩,hr⟩:=hl;have hL:L∈X.fs:=hs L (by unfold frs;rw[HJ,hf];exact Gd);obtain⟨sl,e⟩:=I.base.slot L o ho (I.ok.frf L hL) hL λz=>I.ok.exfs L z hL;exact⟨hk,⟨L,_,hf,hn,e,hd⟩,ih (λb hb=>hs b (by unfold frs;rw[HJ,hf];exact Gc _ hb)) hr⟩
 exact all X.outer (λ_ hb=>hb) I.ok.funs

theorem Inv.stack(I:Inv X pins σ H s):s.heap.FunFrames X.base X.stack:=by
 rcases I.ok.stk with e|⟨e,hf⟩
 .rw[e];exact I.funs
 .rw[e];obtain⟨m,hn,_⟩:=I.loc;refine .cons (by rw[I.ok.kind];decide) hf hn ?_ I.funs;exact Heap.get?_none_of_le (GM I.ok.bsz I.ok.above)
theorem Inv.stkSub(I:Inv X pins σ H s):∀b∈frs X.stack,b∈X.env.locals::X.fs:=λb hb=>by
 rcases I.ok.stk with e|⟨e,hf⟩
 .rw[e]at hb;exact Gc _ hb
 .rw[e]at hb;unfold frs at hb;rw[HJ,hf]at hb;exact hb
theorem Inv.stkFree(I:Inv X pins σ H s):∀b∈frs X.stack,H b=none:=λb hb=>by
 rcases List.mem_cons.mp (I.stkSub b hb)with e|hb
 .rw[e];exact I.free
 .obtain⟨_,o,ho,_⟩:=I.ok.funs.mem hb;exact I.base.free b o ho (I.ok.frf b hb) λz=>I.ok.exfs b z hb

theorem Inv.step{g':Array Kp}{t':Nat}{d':Drawn}{ch:List Addr}(I:Inv X pins σ H s)
  (hch:∀b∈ch,(b∈X.ex\/X.s₀.heap.objs.size<=b)/\b≠X.env.locals/\(∀x c,X.env.cells.lookup x=some c->c≠b)/\∀p∈X.pn++pins,p.1≠b)
  (keep:∀b o,b≠X.env.locals->b∉X.fs->b∉ch->s.heap.get? b=some o->H b=none->h'.get? b=some o)
  (slot:∀b o,b≠X.env.locals->b∈X.fs->b∉ch->s.heap.get? b=some o->H b=none->∃sl,h'.get? b=some { o with slots:=sl })(free:∀b o,b∉ch->s.heap.get? b=some o->H b=none->H' b=none)
  (there:∀b o,b∉ch->s.heap.get? b=some o->∃o',h'.get? b=some o')
  (tups:∀b xs,H b=some (.tup xs)->H' b=some (.tup xs))(frzs:∀b o u,H b=some (.frz o u)->H' b=some (.frz o u))(tbls:∀b ps,H b=some (.tbl ps)->∃more,H' b=some (.tbl (ps++more)))
  (ns:∀m,s.heap.Ns X.env.locals m->h'.Ns X.env.locals m)(hok:HOk X.prog X.w H' h')(hg:Jg g') :
  Inv X pins σ H' { s with heap:=h',gens:=g',drawn:=d',toks:=t' }:=by
 have neL:∀b o,X.s₀.heap.get? b=some o->b≠X.env.locals:=λb o e=>Gw (GC (Gq e) I.ok.above);have neC:∀b o,X.s₀.heap.get? b=some o->b∉X.ex->b∉ch:=λb o e hx hb=>by
  rcases(hch b hb).1 with z|z
  .exact hx z
  .exact absurd (GC (Gq e) z) (Hm _)
 have cellK:∀x c,X.env.cells.lookup x=some c->∀v,s.heap.IsCell c v->h'.IsCell c v:=λx c e v ⟨o,ho,hd⟩=>by
  have nch:c∉ch:=λz=>(hch c z).2.2.1 x c e rfl;by_cases hc:c∈X.fs
  .obtain⟨sl,q⟩:=slot c o (I.cne x c e) hc nch ho (I.freeC x c e);exact⟨_,q,hd⟩
  .exact⟨o,keep c o (I.cne x c e) hc nch ho (I.freeC x c e),hd⟩
 refine⟨I.ok,I.os,hg,⟨λb o e n hb hx=>?_,λb o e n hb hx=>?_,λb o e n hx=>?_,λb o e hx=>?_,λb xs e=>tups b xs (I.base.tups b xs e),λb o xs e=>frzs b o xs (I.base.frzs b o xs e),λb ps e=>?_⟩,?_,λx c e=>?_,?_,λx c e=>?_,λp hp=>?_,hok,I.len⟩
 .exact keep b o (neL b o e) hb (neC b o e hx) (I.base.keep b o e n hb hx) (I.base.free b o e n hx)
 .obtain⟨sl,e1⟩:=I.base.slot b o e n hb hx;obtain⟨sl',e2⟩:=slot b _ (neL b o e) hb (neC b o e hx) e1 (I.base.free b o e n hx);exact⟨sl',e2⟩
 .obtain⟨o',e1⟩:=I.base.there b o e hx;exact free b o' (neC b o e hx) e1 (I.base.free b o e n hx)
 .obtain⟨o',e1⟩:=I.base.there b o e hx;exact there b o' (neC b o e hx) e1
 .obtain⟨m1,e1⟩:=I.base.tbls b ps e;obtain⟨m2,e2⟩:=tbls b _ e1;exact⟨m1++m2,by rw[e2,JB]⟩
 .obtain⟨m,hn,hl⟩:=I.loc;refine⟨m,ns m hn,λi x v e1 e2 e3=>?_⟩;obtain⟨u,r,l⟩:=hl i x v e1 e2 e3;refine⟨u,r,?_⟩;rcases l with l|⟨k,c,e,z⟩
  .exact .inl l
  .exact .inr ⟨k,c,e,cellK x c e _ z⟩
 .obtain⟨v,z⟩:=I.cell x c e;exact⟨v,cellK x c e v z⟩
 .obtain⟨m,⟨o,_,_,ho,_⟩,_⟩:=I.loc;exact free _ o (λz=>(hch _ z).2.1 rfl) ho I.free
 .obtain⟨v,o,ho,hd⟩:=I.cell x c e;exact free c o (λz=>(hch c z).2.2.1 x c e rfl) ho (I.freeC x c e)
 .obtain⟨e,n,ne,nf,d⟩:=I.pin p hp;have nch:p.1∉ch:=λz=>(hch p.1 z).2.2.2 p hp rfl;exact⟨keep p.1 p.2 ne nf nch e n,free p.1 p.2 nch e n,ne,nf,d⟩
theorem Inv.un{t':Nat}(I:Inv X pins σ H s)(u:Un X.fs [] H H' s.heap h')(hok:HOk X.prog X.w H' h'):Inv X pins σ H' { s with heap:=h',toks:=t' }:=by
 obtain⟨m,⟨o,es,ep,ho,r⟩,_⟩:=id I.loc;obtain⟨sl,hL⟩:=u.any ho I.free (by simp);exact I.step (g':=s.gens) (d':=s.drawn) (ch:=[]) (λ_ z=>nomatch z) (λb o _ hb _ e n=>u.keep b o e n hb (by simp)) (λb o _ hb _ e n=>u.slot b o e n hb (by simp)) (λb o _ e n=>u.free b o e n (by simp)) (λb o _ e=>u.there b o e (by simp)) u.tups u.frzs u.tbls (λm' hm=>by
  obtain⟨o',es',ep',ho',r'⟩:=hm;rw[ho]at ho';cases ho';exact⟨_,es',ep',hL,r'⟩) hok I.bare
theorem Inv.call{g':Array Kp}{t':Nat}{d':Drawn}{ch:List Addr}(I:Inv X pins σ H s)(u:Un (frs X.stack) ch H H' s.heap h')(hok:HOk X.prog X.w H' h')(hg:Jg g')
  (hch:∀b∈ch,(b∈X.ex\/X.s₀.heap.objs.size<=b)/\b≠X.env.locals/\(∀x c,X.env.cells.lookup x=some c->c≠b)/\∀p∈X.pn++pins,p.1≠b) :
  Inv X pins σ H' { s with heap:=h',gens:=g',drawn:=d',toks:=t' }:=by
 obtain⟨m,⟨o,es,ep,ho,r⟩,_⟩:=id I.loc;obtain⟨sl,hL⟩:=u.any ho I.free λz=>(hch _ z).2.1 rfl;exact I.step (ch:=ch) hch (λb o hL hb hc e n=>u.keep b o e n (λz=>(List.mem_cons.mp (I.stkSub b z)).elim hL hb) hc) (λb o _ _ hc e n=>u.any e n hc) (λb o hc e n=>u.free b o e n hc) (λb o hc e=>u.there b o e hc) u.tups u.frzs u.tbls (λm' hm=>by
  obtain⟨o',es',ep',ho',r'⟩:=hm;rw[ho]at ho';cases ho';exact⟨_,es',ep',hL,r'⟩) hok hg
theorem Inv.turned{t':Nat}{it:Addr}(I:Inv X pins σ H s)(k:∀b o,b≠it->s.heap.get? b=some o->h'.get? b=some o)(hn:H it=none)(hL:it≠X.env.locals)
  (h1:it∈X.ex\/X.s₀.heap.objs.size<=it)(h2:∀x c,X.env.cells.lookup x=some c->c≠it)(h3:∀p∈X.pn++pins,p.1≠it):Inv X pins σ H { s with heap:=h',toks:=t' }:=by
 have nit:∀b u,H b=some u->b≠it:=λb u e z=>by rw[z,hn]at e;cases e
 refine I.step (g':=s.gens) (d':=s.drawn) (ch:=[it]) (λb hb=>?_) (λb o _ _ hc e _=>k b o (λz=>hc (by simp[z])) e) (λb o _ _ hc e _=>⟨o.slots,k b o (λz=>hc (by simp[z])) e⟩) (λ_ _ _ _ n=>n)
  (λb o hc e=>⟨o,k b o (λz=>hc (by simp[z])) e⟩) (λ_ _ e=>e) (λ_ _ _ e=>e) (λb ps e=>⟨#[],by rw[e];simp⟩) (λm hm=>?_) (λb u e=>?_) I.bare
 .have e:b=it:=by simpa using hb
  subst e;exact⟨h1,hL,h2,h3⟩
 .obtain⟨o,es,ep,ho,r⟩:=hm;exact⟨o,es,ep,k _ o (GX hL) ho,r⟩
 .refine(I.hok b u e).stay (λc v hc q=>k c v ?_ q) (λ_ q=>q) λ_ _ q=>q;rcases hc with z|z
  .rw[z];exact nit b u e
  .exact nit c _ z
theorem Inv.tok(I:Inv X pins σ H s)(t:Nat):Inv X pins σ H { s with toks:=t }:=I.un (h':=s.heap) (t':=t) Un.refl I.hok
theorem Inv.kept{t':Nat}(I:Inv X pins σ H s)(k:∀b u,s.heap.get? b=some u->h'.get? b=some u):Inv X pins σ H { s with heap:=h',toks:=t' }:=I.un (Un.kept k) (I.hok.kept k)
theorem Inv.laid{a:Addr}{o:HO}{t':Nat}(I:Inv X pins σ H s)(k:∀b u,s.heap.get? b=some u->h'.get? b=some u)(hp:s.heap.objs.size<=a)(new:cj X.prog X.w (upd H a o) h' a o) :
  Inv X pins σ (upd H a o) { s with heap:=h',toks:=t' }:=I.un (Un.laid k hp (I.hok.fresh hp)) (I.hok.laid k hp new)
theorem Inv.write{x e:Addr}{o:HO}{t':Nat}(I:Inv X pins σ H s)(mu:Mut (H x))(he:e=x\/H e=some (.own x))(k:∀b u,b≠e->s.heap.get? b=some u->h'.get? b=some u)(heo:∃u,h'.get? e=some u)
  (new:cj X.prog X.w (upd H x o) h' x o):Inv X pins σ (upd H x o) { s with heap:=h',toks:=t' }:=I.un (Un.write mu he k heo) (I.hok.write mu he k heo new)
theorem Inv.pins_of{pins':List (Addr×Obj)}(I:Inv X pins σ H s)(h:∀p∈pins',s.heap.get? p.1=some p.2/\H p.1=none/\p.1≠X.env.locals/\p.1∉X.fs/\∀v,p.2.data≠.cell v):Inv X pins' σ H s:=
 ⟨I.ok,I.os,I.bare,I.base,I.loc,I.cell,I.free,I.freeC,λp hp=>(List.mem_append.mp hp).elim (λz=>I.pin p (HC _ z)) (h p),I.hok,I.len⟩

theorem wM{N:List Str}(hN:N.Nodup){i j:Nat}{x:Str}(a:N[i]?=some x)(b:N[j]?=some x):i=j:=by
 obtain⟨h1,e1⟩:=List.getElem?_eq_some_iff.mp a;obtain⟨h2,e2⟩:=List.getElem?_eq_some_iff.mp b;exact(List.getElem_inj hN).mp (e1.trans e2.symm)

theorem uZ{M:Model}{A:G_}{E:F9->Gb->Prop}{i:Nat}{x:Str}{v:V}{u:F9}{Q:Unit->Gb->Prop}(I:Inv X pins σ H s)(hN:X.N.Nodup)(hi:X.N[i]?=some x)(hx:Loc X.env.scope x)(r:bq v u)
  (h:∀s',Inv X pins (σ.set i (some v)) H s'->(∃a,Iv a s.heap s'.heap/\(a=X.env.locals\/X.env.cells.lookup x=some a))->Q () s')(hf:X.fn x=true\/X.env.scope.names.lookup x=some .local:=by first|exact .inl rfl|exact .inr rfl|assumption):GI M A (storeName X.env x u) Q E s:=by
 obtain⟨m,hn,hl⟩:=id I.loc;have hcls:(X.env.scope.kind==.class||(X.env.scope.kind==.module&&X.env.locals != X.env.globals))=false:=by rw[I.ok.kind];rfl
 have hiσ:i<σ.length:=by rw[I.len];exact(List.getElem?_eq_some_iff.mp hi).1
 have cne:=I.cne;have tracked:∀{a:Addr} {h':Heap},(∃o,s.heap.get? a=some o/\H a=none)->Iv a s.heap h'->HOk X.prog X.w H h':=λ{a h'} ha hs b ob e=>by
  obtain⟨_,_,hfree⟩:=ha;refine(I.hok b ob e).stay (λc w' hc q=>(hs.2 c ?_).trans q) (λ_ q=>q) λ_ _ q=>q;rintro rfl;rcases hc with rfl|hc
  .rw[hfree]at e;cases e
  .rw[hfree]at hc;cases hc
 rcases hx with hk|hk
 .refine wpAny_storeName_local hk hn (λh' hn' hs=>?_) hcls;obtain⟨oL,_,_,hoL,_⟩:=id hn;refine h _ ⟨I.ok,I.os,I.bare,⟨λb o e n hb hx=>?_,λb o e n hb hx=>?_,I.base.free,λb o e hx=>?_,I.base.tups,I.base.frzs,I.base.tbls⟩,⟨_,hn',λj y v' e1 e2 e3=>?_⟩,λy c e=>?_,I.free,I.freeC,λp hp=>?_,tracked ⟨oL,hoL,I.free⟩ hs,by simpa using I.len⟩ ⟨_,hs,.inl rfl⟩
  .exact(hs.2 b (Gw (GC (Gq e) I.ok.above))).trans (I.base.keep b o e n hb hx)
  .obtain⟨sl,e1⟩:=I.base.slot b o e n hb hx;exact⟨sl,(hs.2 b (Gw (GC (Gq e) I.ok.above))).trans e1⟩
  .obtain⟨o',e1⟩:=I.base.there b o e hx;exact⟨o',(hs.2 b (Gw (GC (Gq e) I.ok.above))).trans e1⟩
  .by_cases hj:j=i
   .subst hj;rw[hi]at e1;cases e1;rw[List.getElem?_set_self hiσ]at e2;cases e2;exact⟨u,r,.inl ⟨hk,by simp⟩⟩
   .rw[List.getElem?_set_ne (GX hj)]at e2;obtain⟨u',r',q⟩:=hl j y v' e1 e2 e3;refine⟨u',r',?_⟩;rcases q with⟨k,e⟩|⟨k,c,e,z⟩
    .refine .inl ⟨k,?_⟩;have:y≠x:=λe=>hj (wM hN e1 (e▸hi));simp[this,e]
    .exact .inr ⟨k,c,e,z.sameBut hs (cne y c e)⟩
  .obtain⟨w',z⟩:=I.cell y c e;exact⟨w',z.sameBut hs (cne y c e)⟩
  .obtain⟨e,n,ne,nf,d⟩:=I.pin p hp;exact⟨(hs.2 p.1 ne).trans e,n,ne,nf,d⟩
 .have hfn:X.fn x=true:=by
   rcases hf with z|z
   .exact z
   .rw[z]at hk;cases hk
  obtain⟨c,hc⟩:=I.ok.has x (.inl hk);obtain⟨w',z⟩:=I.cell x c hc;refine wpAny_storeName_cell I.ok.kind hk hc z (λh' hc' hs=>?_);obtain⟨oc,hoc,hocd⟩:=id z;refine h { s with heap:=h' } ⟨I.ok,I.os,I.bare,⟨λb o e n hb hx=>?_,λb o e n hb hx=>?_,I.base.free,λb o e hx=>?_,I.base.tups,I.base.frzs,I.base.tbls⟩,⟨m,hn.sameBut hs (GX (cne x c hc)),λj y v' e1 e2 e3=>?_⟩,λy c' e=>?_,I.free,I.freeC,λp hp=>?_,tracked ⟨oc,hoc,I.freeC x c hc⟩ hs,by simpa using I.len⟩ ⟨c,hs,.inr hc⟩
  .exact(hs.2 b (Gw (GC (Gq e) (I.ok.cab x c hfn hc)))).trans (I.base.keep b o e n hb hx)
  .obtain⟨sl,e1⟩:=I.base.slot b o e n hb hx;exact⟨sl,(hs.2 b (Gw (GC (Gq e) (I.ok.cab x c hfn hc)))).trans e1⟩
  .obtain⟨o',e1⟩:=I.base.there b o e hx;exact⟨o',(hs.2 b (Gw (GC (Gq e) (I.ok.cab x c hfn hc)))).trans e1⟩
  .by_cases hj:j=i
   .subst hj;rw[hi]at e1;cases e1;rw[List.getElem?_set_self hiσ]at e2;cases e2;exact⟨u,r,.inr ⟨.inl hk,c,hc,hc'⟩⟩
   .rw[List.getElem?_set_ne (GX hj)]at e2;obtain⟨u',r',q⟩:=hl j y v' e1 e2 e3;refine⟨u',r',?_⟩;rcases q with q|⟨k,c',e,z'⟩
    .exact .inl q
    .refine .inr ⟨k,c',e,z'.sameBut hs ?_⟩;rintro rfl;exact hj (wM hN e1 (I.ok.inj _ _ _ e hc▸hi))
  .by_cases hcc:c'=c
   .subst hcc;exact⟨_,hc'⟩
   .obtain⟨w2,z2⟩:=I.cell y c' e;exact⟨w2,z2.sameBut hs hcc⟩
  .obtain⟨e,n,ne,nf,d⟩:=I.pin p hp;refine⟨(hs.2 p.1 ?_).trans e,n,ne,nf,d⟩;intro q;rw[q,hoc]at e;have q':oc=p.2:=GU e;exact d w' (by rw[<-q'];exact hocd)
theorem oj{M:Model}{A:G_}{E:F9->Gb->Prop}{i:Nat}{x:Str}{v:V}{u:F9}{Q:Unit->Gb->Prop}(I:Inv X pins σ H s)(hN:X.N.Nodup)(hi:X.N[i]?=some x)(hx:Loc X.env.scope x)(r:bq v u)
  (h:∀s',Inv X pins (σ.set i (some v)) H s'->Q () s')(hf:X.fn x=true\/X.env.scope.names.lookup x=some .local:=by first|exact .inl rfl|exact .inr rfl|assumption):GI M A (storeName X.env x u) Q E s:=
 uZ I hN hi hx r (λs' I' _=>h s' I') hf
theorem Inv.call'{s':Gb}{ch:List Addr}(I:Inv X pins σ H s)(ho:s'.os=s.os)(u:Un (frs X.stack) ch H H' s.heap s'.heap)(hok:HOk X.prog X.w H' s'.heap)(hg:Jg s'.gens)
  (hch:∀b∈ch,(b∈X.ex\/X.s₀.heap.objs.size<=b)/\b≠X.env.locals/\(∀x c,X.env.cells.lookup x=some c->c≠b)/\∀p∈X.pn++pins,p.1≠b):Inv X pins σ H' s':=by
 obtain⟨h',g',d',t',o'⟩:=s';have e:o'=s.os:=ho;subst e;exact I.call (g':=g') (t':=t') (d':=d') u hok hg hch
end

abbrev XK:=F9->Option Addr->Hp->Prop
abbrev St:=List (Option V)
abbrev VK:=V->Hp->Prop
abbrev TE:=St->Hp->VK->Prop
abbrev TT:=St->Hp->(Bool->Hp->Prop)->Prop
abbrev TA:=St->Hp->(List V->Hp->Prop)->Prop
structure eV where
 nx:St->Hp->Prop
 rt:VK
 bk:St->Hp->Prop:=λ_ _=>False
 ct:St->Hp->Prop:=λ_ _=>False
abbrev TS:=eV->St->Hp->Prop

def EP(X:Cx)(pins:List (Addr×Obj))(σ:St)(Q:VK)(u:F9)(s':Gb):Prop:=∃v H',Inv X pins σ H' s'/\bq v u/\Q v H'
def TP(X:Cx)(pins:List (Addr×Obj))(σ:St)(Q:Bool->Hp->Prop)(b:Bool)(s':Gb):Prop:=∃H',Inv X pins σ H' s'/\Q b H'
def AP(X:Cx)(pins:List (Addr×Obj))(σ:St)(Q:List V->Hp->Prop)(us:List F9)(s':Gb):Prop:=∃vs H',Inv X pins σ H' s'/\a_ vs us/\Q vs H'
def SP(X:Cx)(pins:List (Addr×Obj))(D:eV)(f:Flow)(s':Gb):Prop:=
 match f with
 |.next=>∃σ' H',Inv X pins σ' H' s'/\D.nx σ' H'
 |.brk=>∃σ' H',Inv X pins σ' H' s'/\D.bk σ' H'
 |.cont=>∃σ' H',Inv X pins σ' H' s'/\D.ct σ' H'
 |.ret u=>∃v σ' H',Inv X pins σ' H' s'/\bq v u/\D.rt v H'

def PE(X:Cx)(e:Expr)(t:TE):Prop:=
 ∀(pins:List (Addr×Obj)) (s:Gb) (σ:St) (H:Hp) (Q:VK),Inv X pins σ H s->t σ H Q->GI (GK X.prog X.w) X.A (eval e X.env) (EP X pins σ Q) X.xe s
def PT(X:Cx)(e:Expr)(t:TT):Prop:=
 ∀(pins:List (Addr×Obj)) (s:Gb) (σ:St) (H:Hp) (Q:Bool->Hp->Prop),Inv X pins σ H s->t σ H Q->GI (GK X.prog X.w) X.A (isTrue e X.env (eval e X.env)) (TP X pins σ Q) X.xe s
def PW(X:Cx)(e:Expr)(t:TT):Prop:=
 ∀(whole:Sem F9) (pins:List (Addr×Obj)) (s:Gb) (σ:St) (H:Hp) (Q:Bool->Hp->Prop),Inv X pins σ H s->t σ H Q->GI (GK X.prog X.w) X.A (isTrue e X.env whole) (TP X pins σ Q) X.xe s
theorem PW.pt{X:Cx}{e:Expr}{t:TT}(h:PW X e t):PT X e t:=h _
def PA(X:Cx)(es:List Expr)(t:TA):Prop:=
 ∀(pos:Pos) (pins:List (Addr×Obj)) (s:Gb) (σ:St) (H:Hp) (Q:List V->Hp->Prop),Inv X pins σ H s->t σ H Q->GI (GK X.prog X.w) X.A (spliced (HR pos (GG es X.env))) (AP X pins σ Q) X.xe s
def PS(X:Cx)(st:Stmt)(t:TS):Prop:=
 ∀(pins:List (Addr×Obj)) (s:Gb) (σ:St) (H:Hp) (D:eV),Inv X pins σ H s->t D σ H->GI (GK X.prog X.w) X.A (exec st X.env) (SP X pins D) X.xe s
def PSs(X:Cx)(st:List Stmt)(t:TS):Prop:=
 ∀(pins:List (Addr×Obj)) (s:Gb) (σ:St) (H:Hp) (D:eV),Inv X pins σ H s->t D σ H->GI (GK X.prog X.w) X.A (execs st X.env) (SP X pins D) X.xe s
theorem thn{α:Type}{t:Sem α}{Q Q':α->Gb->Prop}{M:Model}{A:G_}{E:F9->Gb->Prop}{s:Gb}(h:GI M A t Q E s)(hQ:∀a s,Q a s->Q' a s):GI M A t Q' E s:=He h hQ λ_ _ x=>x
section
variable {X:Cx}

def BF(i:Nat):TE:=λσ H Q=>∃v,σ[i]?=some (some v)/\Q v H
def tC(v:V):TE:=λ_ H Q=>Q v H
theorem D1{i:Nat}{x:Str}{pos:Pos}(hN:X.N[i]?=some x)(hv:Vis X.env.scope x)(hd:(x==("__debug__" : Str))=false:=by decide)(hcd:(x==("__classdict__" : Str))=false:=by decide):PE X (.Name x pos) (BF i):=by
 intro pins s σ H Q I h;obtain⟨v,e,h⟩:=h;obtain⟨m,hn,hl⟩:=I.loc;obtain⟨u,r,l⟩:=hl i x v hN e hv;have fin:EP X pins σ Q u s:=⟨v,H,I,r,h⟩;rcases l with⟨hk,hm⟩|⟨hk,c,hc,hcell⟩
 .exact KF (wpAny_loadName_local I.ok.kind hk hn hm fin) hd
 .rcases hk with hk|hk
  .exact KF (wpAny_loadName_cell I.ok.kind hk hc hcell fin) hd
  .exact KF (wpAny_loadName_free I.ok.kind hk hc hcell fin hcd) hd
theorem ah{i j pos}:PE X (.Constant (.int i) j pos) (tC (.int i)):=λ_ _ _ H _ I h=>wpAny_Constant_int ⟨.int i,H,I.tok _,⟨_,rfl⟩,h⟩
theorem dh{b j pos}:PE X (.Constant (.bool b) j pos) (tC (.bl b)):=λ_ _ _ H _ I h=>Constant_bool ⟨.bl b,H,I,rfl,h⟩
theorem Al{j pos}:PE X (.Constant .none j pos) (tC .non):=λ_ _ _ H _ I h=>Constant_none ⟨.non,H,I,rfl,h⟩
theorem ao{x j pos}:PE X (.Constant (.str x) j pos) (tC (.str x)):=λ_ _ _ H _ I h=>IM ⟨.str x,H,I.tok _,⟨_,rfl⟩,h⟩

def Gl(X:Cx)(x:Str):Prop:=X.env.kindOf x=some .globalImplicit
theorem jF{E:F9->Gb->Prop}{pins:List (Addr×Obj)}{s:Gb}{σ:St}{H:Hp}{x:Str}{u:F9}{pos:Pos}{Q:F9->Gb->Prop}(I:Inv X pins σ H s)(hg:Gl X x)(hm:X.mg x=some u)(h:Q u s)
  (hd:(x==("__debug__" : Str))=false:=by decide):GI (GK X.prog X.w) X.A (eval (.Name x pos) X.env) Q E s:=
 Calls.Name_function_global I.ok.kind hg (Calls.loadGlobal_global (by rw[I.ok.glob];exact I.mod.glob.keeps I.bk) hm h) hd
theorem nG{E:F9->Gb->Prop}{pins:List (Addr×Obj)}{s:Gb}{σ:St}{H:Hp}{x:Str}{u:F9}{pos:Pos}{Q:F9->Gb->Prop}(I:Inv X pins σ H s)(hg:Gl X x)(hm:X.mg x=none)(hv:Iu x=some u)(h:Q u s)
  (hn:x≠"__name__":=by decide)(hd:(x==("__debug__" : Str))=false:=by decide):GI (GK X.prog X.w) X.A (eval (.Name x pos) X.env) Q E s:=by
 obtain⟨mb,h1,h2⟩:=I.mod.blt;exact Calls.Name_function_global I.ok.kind hg (Calls.loadGlobal_builtin (by rw[I.ok.glob];exact I.mod.glob.keeps I.bk) hm (by rw[I.ok.blt];exact h1.keeps I.bk) ((h2 x hn).trans hv) h) hd
theorem c6{x:Str}{v:V}{u:F9}{pos:Pos}(hg:Gl X x)(hm:X.mg x=some u)(r:bq v u)(hd:(x==("__debug__" : Str))=false:=by decide):PE X (.Name x pos) (tC v):=
 λ_ _ _ H _ I h=>jF I hg hm ⟨v,H,I,r,h⟩ hd
theorem c7{x:Str}{v:V}{u:F9}{pos:Pos}(hg:Gl X x)(hm:X.mg x=none)(hv:Iu x=some u)(r:bq v u)(hn:x≠"__name__":=by decide)(hd:(x==("__debug__" : Str))=false:=by decide):PE X (.Name x pos) (tC v):=
 λ_ _ _ H _ I h=>nG I hg hm hv ⟨v,H,I,r,h⟩ hn hd

variable {a b:Expr}{ta tb:TE}{pos:Pos}
def tB(t:TE):TT:=λσ H Q=>t σ H λx H1=>∃c,x=.bl c/\Q c H1
theorem cz{e:Expr}{t:TE}(h:PE X e t)(he:∀whole,isTrue e X.env whole=(do let v<-whole;Kq e.pos;Jy [v] (truthy v)):=by intro _;rfl):PT X e (tB t):=by
 intro pins s σ H Q I hw;refine isTrue_plain (thn (h pins s σ H _ I hw) λv s1 ⟨x,H1,I1,r1,q1⟩=>?_) (he _);obtain⟨d,rfl,q⟩:=q1;cases r1;exact HH ⟨H1,I1,q⟩

variable {tA tB':TT}{rest:List Expr}
def D2(t u:TT):TT:=λσ H Q=>t σ H λc H1=>if c=true then u σ H1 Q else Q false H1
def tOr(t u:TT):TT:=λσ H Q=>t σ H λc H1=>if c=true then Q true H1 else u σ H1 Q
def Fw(t:TT):TT:=λσ H Q=>t σ H λc H1=>Q (!c) H1
theorem eD(ha:PT X a tA):PW X (.BoolOp .And [a] pos) tA:=by
 intro wh pins s σ H Q I h;refine KG (thn (ha pins s σ H Q I h) λc s1 e=>?_);cases c with
 |true=>exact isTrue_and_nil e
 |false=>exact e
theorem fb(ha:PT X a tA):PW X (.BoolOp .Or [a] pos) tA:=by
 intro wh pins s σ H Q I h;refine isTrue_or (thn (ha pins s σ H Q I h) λc s1 e=>?_);cases c with
 |false=>exact isTrue_or_nil e
 |true=>exact e
theorem gh(ha:PT X a tA)(hb:PW X (.BoolOp .And (b::rest) pos) tB'):PW X (.BoolOp .And (a::b::rest) pos) (D2 tA tB'):=by
 intro wh pins s σ H Q I h;refine KG (thn (ha pins s σ H _ I h) λc s1 ⟨H1,I1,q1⟩=>?_);cases c with
 |true=>exact hb wh pins s1 σ H1 Q I1 q1
 |false=>exact⟨H1,I1,q1⟩
theorem dR(ha:PT X a tA)(hb:PW X (.BoolOp .Or (b::rest) pos) tB'):PW X (.BoolOp .Or (a::b::rest) pos) (tOr tA tB'):=by
 intro wh pins s σ H Q I h;refine isTrue_or (thn (ha pins s σ H _ I h) λc s1 ⟨H1,I1,q1⟩=>?_);cases c with
 |true=>exact⟨H1,I1,q1⟩
 |false=>exact hb wh pins s1 σ H1 Q I1 q1
theorem fc(ha:PT X a tA):PT X (.UnaryOp .Not a pos) (Fw tA):=by
 intro pins s σ H Q I h;exact isTrue_not (ha pins s σ H (λc H1=>Q (!c) H1) I h)
def EZ(ta tb:TE):TE:=λσ H Q=>ta σ H λx H1=>∃c,x=.bl c/\if c=true then tb σ H1 Q else Q (.bl false) H1
def Fx(ta tb:TE):TE:=λσ H Q=>ta σ H λx H1=>∃c,x=.bl c/\if c=true then Q (.bl true) H1 else tb σ H1 Q
def E1(ta:TE):TE:=λσ H Q=>ta σ H λx H1=>∃c,x=.bl c/\Q (.bl (!c)) H1
theorem jU{op}{t:TE}(h:PE X a t):PE X (.BoolOp op [a] pos) t:=λpins s σ H Q I hw=>BoolOp_one (h pins s σ H Q I hw)
theorem jV(ha:PE X a ta)(hb:PE X (.BoolOp .And (b::rest) pos) tb):PE X (.BoolOp .And (a::b::rest) pos) (EZ ta tb):=by
 intro pins s σ H Q I h;refine BoolOp_and (thn (ha pins s σ H _ I h) λv s1 ⟨x,H1,I1,r1,q1⟩=>?_);obtain⟨c,rfl,q1⟩:=q1;cases r1;refine HH ?_;cases c with
 |true=>exact hb pins s1 σ H1 Q I1 q1
 |false=>exact⟨.bl false,H1,I1,rfl,q1⟩
theorem E3(ha:PE X a ta)(hb:PE X (.BoolOp .Or (b::rest) pos) tb):PE X (.BoolOp .Or (a::b::rest) pos) (Fx ta tb):=by
 intro pins s σ H Q I h;refine BoolOp_or (thn (ha pins s σ H _ I h) λv s1 ⟨x,H1,I1,r1,q1⟩=>?_);obtain⟨c,rfl,q1⟩:=q1;cases r1;refine HH ?_;cases c with
 |false=>exact hb pins s1 σ H1 Q I1 q1
 |true=>exact⟨.bl true,H1,I1,rfl,q1⟩
theorem D3(ha:PE X a ta):PE X (.UnaryOp .Not a pos) (E1 ta):=by
 intro pins s σ H Q I h;refine UnaryOp_ (thn (ha pins s σ H _ I h) λv s1 ⟨x,H1,I1,r1,q1⟩=>?_);obtain⟨c,rfl,q1⟩:=q1;cases r1;exact not_of (HH ⟨.bl (!c),H1,I1,rfl,q1⟩)
end

def SqL(K:PySem.W.Frag)(H:Hp)(a:Addr)(xs:List V):Prop:=
 Rd H a (.lst xs)\/
  ∃(o:Obj) (its:Array F9) (n:Nat),K.lookup a=some o/\o.cls=.type "list"/\o.dict=none/\o.data=.seq its n/\its.size<=Gr/\a_ xs its.toList
def SqT(K:PySem.W.Frag)(H:Hp)(a:Addr)(xs:List V):Prop:=
 Rd H a (.tup xs)\/
  ∃(o:Obj) (its:Array F9) (n:Nat),K.lookup a=some o/\o.cls=.type "tuple"/\o.data=.seq its n/\its.size<=Gr/\a_ xs its.toList
def Fy:F9->Option V
 |.none=>some .non
 |.bool b=>some (.bl b)
 |.int i _=>some (.int i)
 |.str x _=>some (.str x)
 |.bytes b _=>some (.byt b)
 |.float b _=>some (.flt b)
 |.ref a=>some (.ref a)
 |.type n=>some (.ty n)
 |_=>none
theorem bq.abs{x:V}{u:F9}(r:bq x u):Fy u=some x:=by
 cases x with
 |non=>cases r;rfl
 |bl _=>cases r;rfl
 |int _=>obtain⟨t,rfl⟩:=r;rfl
 |str _=>obtain⟨t,rfl⟩:=r;rfl
 |byt _=>obtain⟨t,rfl⟩:=r;rfl
 |flt _=>obtain⟨t,rfl⟩:=r;rfl
 |ref _=>cases r;rfl
 |ty _=>cases r;rfl
theorem bq.inj{x y:V}{u:F9}(r:bq x u)(q:bq y u):x=y:=GU (r.abs.symm.trans q.abs)
theorem a_.inj:∀{xs ys:List V} {us:List F9},a_ xs us->a_ ys us->xs=ys
 |_,_,_,.nil,.nil=>rfl
 |_,_,_,.cons r t,.cons r' t'=>by rw[r.inj r',a_.inj t t']
section
variable {X:Cx}{pins:List (Addr×Obj)}{σ:St}{H:Hp}{s:Gb}{a:Addr}{xs ys:List V}
theorem SqL.of{K:PySem.W.Frag}(h:H a=some (.lst xs)):SqL K H a xs:=.inl (.inl h)
theorem SqT.of{K:PySem.W.Frag}(h:H a=some (.tup xs)):SqT K H a xs:=.inl (.inl h)
theorem Inv.list(I:Inv X pins σ H s)(h:SqL X.K H a xs):∃its:List F9,a_ xs its/\PlainL s.heap a its.toArray/\xs.length<=Gr:=by
 rcases h with h|⟨o,its,n,hk,hc,hd,hs,hz,r⟩
 .obtain⟨z,its,n,r,e⟩:=h.ok I.hok;exact⟨its,r,⟨_,n,e,rfl,rfl,rfl⟩,z⟩
 .refine⟨its.toList,r,⟨o,n,I.kIn a o hk,hc,hd,by simpa using hs⟩,?_⟩;have e:=r.length;simp only[ID]at e;omega
theorem Inv.tuple(I:Inv X pins σ H s)(h:SqT X.K H a xs):∃its:List F9,a_ xs its/\IsTup s.heap a its.toArray/\xs.length<=Gr:=by
 rcases h with h|⟨o,its,n,hk,hc,hs,hz,r⟩
 .obtain⟨z,its,r,p⟩:=h.ok I.hok;exact⟨its,r,p,z⟩
 .refine⟨its.toList,r,⟨o,I.kIn a o hk,hc,n,by simpa using hs⟩,?_⟩;have e:=r.length;simp only[ID]at e;omega
theorem Inv.list_inj(I:Inv X pins σ H s)(h:SqL X.K H a xs)(h':SqL X.K H a ys):xs=ys:=by
 obtain⟨its,r,⟨o,n,e,_,_,d⟩,_⟩:=I.list h;obtain⟨its',r',⟨o',n',e',_,_,d'⟩,_⟩:=I.list h';rw[e]at e';cases e';rw[d]at d';injection d' with d1 _;have:its=its':=by simpa using congrArg Array.toList d1
 subst this;exact r.inj r'
end

abbrev Cx.wish(X:Cx)(E:F9->Gb->Prop):Cx:={ X with xe:=E }
abbrev Cx.nox(X:Cx):Cx:=X.wish λ_ _=>False
theorem Cx.Ok.wish{X:Cx}(ok:X.Ok)(E:F9->Gb->Prop):(X.wish E).Ok:=
 ⟨ok.mod,ok.kind,ok.glob,ok.blt,ok.above,ok.inj,ok.has,ok.cab,ok.hd,ok.frames,ok.stk,ok.exf,ok.bs,ok.bsz,ok.noex,ok.exfs,ok.funs,ok.frf⟩
theorem Cx.Ok.unwish{X:Cx}{E:F9->Gb->Prop}(ok:(X.wish E).Ok):X.Ok:=
 ⟨ok.mod,ok.kind,ok.glob,ok.blt,ok.above,ok.inj,ok.has,ok.cab,ok.hd,ok.frames,ok.stk,ok.exf,ok.bs,ok.bsz,ok.noex,ok.exfs,ok.funs,ok.frf⟩
section
variable {X:Cx}{pins:List (Addr×Obj)}{σ:St}{H:Hp}{s:Gb}{E:F9->Gb->Prop}
theorem Inv.wish(I:Inv X pins σ H s)(E:F9->Gb->Prop):Inv (X.wish E) pins σ H s:=⟨I.ok.wish E,I.os,I.bare,I.base,I.loc,I.cell,I.free,I.freeC,I.pin,I.hok,I.len⟩
theorem Inv.unwish(I:Inv (X.wish E) pins σ H s):Inv X pins σ H s:=⟨I.ok.unwish,I.os,I.bare,I.base,I.loc,I.cell,I.free,I.freeC,I.pin,I.hok,I.len⟩
theorem SP.unwish{D:eV}{f:Flow}{s':Gb}(h:SP (X.wish E) pins D f s'):SP X pins D f s':=by
 cases f with
 |next=>obtain⟨σ',H',I,q⟩:=h;exact⟨σ',H',I.unwish,q⟩
 |brk=>obtain⟨σ',H',I,q⟩:=h;exact⟨σ',H',I.unwish,q⟩
 |cont=>obtain⟨σ',H',I,q⟩:=h;exact⟨σ',H',I.unwish,q⟩
 |ret u=>obtain⟨v,σ',H',I,r,q⟩:=h;exact⟨v,σ',H',I.unwish,r,q⟩
theorem PSs.nox{st:List Stmt}{t:TS}(h:PSs X.nox st t):PSs X st t:=λpins s σ H D I hw =>
 He (h pins s σ H D (I.wish _) hw) (λ_ _ q=>q.unwish) λ_ _ z=>Hx z
end

section
variable {X:Cx}{st:Stmt}{rest:List Stmt}{t u:TS}{e:Expr}{te:TE}{pos:Pos}
def cT:TS:=λD σ H=>D.nx σ H
def BG(t u:TS):TS:=λD σ H=>t { D with nx:=u D } σ H
theorem aE:PSs X [] cT:=λ_ _ σ H _ I h=>Ij ⟨σ,H,I,h⟩
theorem af(h1:PS X st t)(h2:PSs X rest u):PSs X (st::rest) (BG t u):=by
 intro pins s σ H D I h;refine Jd (thn (h1 pins s σ H { D with nx:=u D } I h) λf s1 q=>?_);cases f with
 |next =>
  obtain⟨σ',H',I',q⟩:=q;exact h2 pins s1 σ' H' D I' q
 |ret v=>exact q
 |brk=>exact q
 |cont=>exact q
theorem ai(h1:PS X st t):PSs X [st] t:=by
 intro pins s σ H D I h;refine Jd (thn (h1 pins s σ H D I h) λf s1 q=>?_);cases f with
 |next=>exact Ij q
 |ret v=>exact q
 |brk=>exact q
 |cont=>exact q
theorem Inv.quiet{pins:List (Addr×Obj)}{σ:St}{H:Hp}{s:Gb}(I:Inv X pins σ H s):interactive X.env=false:=by simp[interactive,I.ok.kind]
def E4(te:TE):TS:=λD σ H=>te σ H λ_ H1=>D.nx σ H1
theorem bf(he:PE X e te)(hs:IR e none pos.line X.env=pure false:=by rfl):PS X (.Expr e pos) (E4 te):=by
 intro pins s σ H D I h;exact wpAny_Expr_any (thn (he pins s σ H _ I h) λv s1 ⟨x,H1,I1,r1,q1⟩=>⟨σ,H1,I1,q1⟩) I.quiet hs
def Fz(te:TE):TS:=λD σ H=>te σ H D.rt
theorem aJ(he:PE X e te):PS X (.Return (some e) pos) (Fz te):=by
 intro pins s σ H D I h;exact wpAny_Return_some (thn (he pins s σ H _ I h) λv s1 ⟨x,H1,I1,r1,q1⟩=>⟨x,σ,H1,I1,r1,q1⟩)
def E5:TS:=λD _ H=>D.rt .non H
theorem C6:PS X (.Return none pos) E5:=λ_ _ σ H _ I h=>wpAny_Return_none ⟨.non,σ,H,I,rfl,h⟩
def D4(c:TT)(t u:TS):TS:=λD σ H=>c σ H λb H1=>if b=true then t D σ H1 else u D σ H1
theorem aI{c:Expr}{a b:List Stmt}{tc:TT}(hc:PT X c tc)(ha:PSs X a t)(hb:PSs X b u):PS X (.If c a b pos) (D4 tc t u):=by
 intro pins s σ H D I h;refine wpAny_If (thn (hc pins s σ H _ I h) λd s1 ⟨H1,I1,q1⟩=>?_);cases d with
 |true=>exact ha pins s1 σ H1 D I1 q1
 |false=>exact hb pins s1 σ H1 D I1 q1
def Am:TS:=λ_ _ _=>False
theorem fY:PS X st Am:=λ_ _ _ _ _ _ h=>h.elim
theorem gW{sts:List Stmt}:PSs X sts Am:=λ_ _ _ _ _ _ h=>h.elim
end

abbrev TG:=V->St->Hp->(St->Hp->Prop)->Prop
abbrev TGs:=List V->St->Hp->(St->Hp->Prop)->Prop
def PG(X:Cx)(target:Expr)(t:TG):Prop:=
 ∀(pins:List (Addr×Obj)) (s:Gb) (σ:St) (H:Hp) (v:V) (u:F9) (Q:St->Hp->Prop),Inv X pins σ H s->bq v u->t v σ H Q->
  GI (GK X.prog X.w) X.A (Kl target X.env u) (λ_ s'=>∃σ' H',Inv X pins σ' H' s'/\Q σ' H') X.xe s
def PGs(X:Cx)(ts:List Expr)(t:TGs):Prop:=
 ∀(pins:List (Addr×Obj)) (s:Gb) (σ:St) (H:Hp) (vs:List V) (us:List F9) (Q:St->Hp->Prop),Inv X pins σ H s->a_ vs us->t vs σ H Q->
  GI (GK X.prog X.w) X.A (assignInOrder ((JC ts X.env).map (·.2)) us) (λ_ s'=>∃σ' H',Inv X pins σ' H' s'/\Q σ' H') X.xe s
abbrev BH:=V->V->V->Hp->(Hp->Prop)->Prop
def D5(X:Cx)(t:BH):Prop:=
 ∀(pins:List (Addr×Obj)) (s:Gb) (σ:St) (H:Hp) (o i v:V) (ov iv u:F9) (Q:Hp->Prop),Inv X pins σ H s->bq o ov->bq i iv->bq v u->t o i v H Q->
  GI (GK X.prog X.w) X.A (setItem ov iv u) (λ_ s'=>∃H',Inv X pins σ H' s'/\Q H') X.xe s
section
variable {X:Cx}{pos:Pos}
def bE(i:Nat):TG:=λv σ H Q=>Q (σ.set i (some v)) H
theorem aM{i:Nat}{x:Str}(hN:X.N.Nodup)(hi:X.N[i]?=some x)(hx:Loc X.env.scope x)(hf:X.fn x=true\/X.env.scope.names.lookup x=some .local:=by first|exact .inl rfl|exact .inr rfl|assumption):PG X (.Name x pos) (bE i):=by
 intro pins s σ H v u Q I r h;exact wpAny_assign_Name (oj I hN hi hx r (λs' I'=>⟨_,H,I',h⟩) hf)
def BI:TGs:=λvs σ H Q=>vs=[]/\Q σ H
def rQ(t:TG)(u:TGs):TGs:=λvs σ H Q=>∃v r,vs=v::r/\t v σ H λσ' H'=>u r σ' H' Q
theorem dt:PGs X [] BI:=by
 intro pins s σ H vs us Q I r h;obtain⟨e,h⟩:=h;subst e;cases r;exact assignInOrder_nil ⟨σ,H,I,h⟩
theorem a7{e:Expr}{es:List Expr}{t:TG}{u:TGs}(h1:PG X e t)(h2:PGs X es u)
  (hs:(JC (e::es) X.env).map (·.2)=Kl e X.env::(JC es X.env).map (·.2):=by rfl):PGs X (e::es) (rQ t u):=by
 intro pins s σ H vs us Q I r h;obtain⟨v,vr,e1,h⟩:=h;subst e1;cases r with
 |cons r rr =>
  rw[hs];refine assignInOrder_cons (thn (h1 pins s σ H _ _ _ I r h) λ_ s1 ⟨σ1,H1,I1,q1⟩=>?_);exact h2 pins s1 σ1 H1 _ _ Q I1 rr q1
def BJ(K:PySem.W.Frag)(n:Nat)(t:TGs):TG:=λv σ H Q=>∃a xs,v=.ref a/\SqT K H a xs/\xs.length=n/\t xs σ H Q
theorem dZ{es:List Expr}{k:Nat}{t:TGs}{n:Nat}(hc:X.calm=true)(h:PGs X es t)
  (hn:(JC es X.env).length=n:=by rfl)(hst:(JC es X.env).findIdx? (·.1)=none:=by rfl):PG X (.Tuple es k pos) (BJ X.K n t):=by
 intro pins s σ H v u Q I r hw;obtain⟨a,xs,e1,hq,hl,hw⟩:=hw;subst e1;cases r;obtain⟨its,rv,ht,hz⟩:=I.tuple hq;refine assign_Tuple_tuple (I.ok.hd hc) ht (by simp[hn,<-hl,rv.length]) hst λh' hx=>?_;have I1:Inv X pins σ H { s with heap:=h' }:=I.kept (t':=s.toks) λb o e=>hx b o (Gw (Gq e)) e;exact h pins _ σ H xs _ Q I1 (by simpa using rv) hw
def FA(to ti:TE)(t:BH):TG:=λv σ H Q=>to σ H λo H1=>ti σ H1 λi H2=>t o i v H2 λH3=>Q σ H3
theorem wN{o i:Expr}{to ti:TE}{t:BH}(ho:PE X o to)(hi:PE X i ti)(hs:D5 X t)
  (ha:∀ v,Kl (.Subscript o i pos) X.env v=(do
   let ov<-Jy [v] (eval o X.env)
   let iv<-Jy [v,ov] (eval i X.env)
   Kq pos
   Jy [v,ov,iv] (setItem ov iv v)
   release [v,ov,iv] []):=by intro _;rfl):PG X (.Subscript o i pos) (FA to ti t):=by
 intro pins s σ H v u Q I r h;rw[ha];refine GB (Jh (thn (ho pins s σ H _ I h) λov s1 ⟨x,H1,I1,r1,q1⟩=>?_));refine GB (Jh (thn (hi pins s1 σ H1 _ I1 q1) λiv s2 ⟨y,H2,I2,r2,q2⟩=>?_));refine GB (Kg (GB (Jh (thn (hs pins s2 σ H2 x y v ov iv u _ I2 r1 r2 r q2) λ_ s3 ⟨H3,I3,q3⟩=>?_))));exact wpAny_release ⟨σ,H3,I3,q3⟩
def pZ(te:TE)(g:TG):TS:=λD σ H=>te σ H λx H1=>g x σ H1 D.nx
theorem wO{tg e:Expr}{te:TE}{g:TG}(he:PE X e te)(hg:PG X tg g)(hs:swapsWithSole [tg] e pos.line X.env=pure false:=by rfl)(hw:swappedStores [tg] e X.env=pure none:=by rfl)
  (h1:(JC [tg] X.env).map (·.2)=[Kl tg X.env]:=by rfl):PS X (.Assign [tg] e pos) (pZ te g):=by
 intro pins s σ H D I h;refine wpAny_Assign_stores (thn (he pins s σ H _ I h) λv s1 ⟨x,H1,I1,r1,q1⟩=>?_) hs hw;rw[h1];exact thn (hg pins s1 σ H1 x v _ I1 r1 q1) λ_ s2 q=>q
theorem ay{i:Nat}{x:Str}{e:Expr}{te:TE}{pos':Pos}(hN:X.N.Nodup)(hi:X.N[i]?=some x)(hx:Loc X.env.scope x)(he:PE X e te)(hs:IR e (some (.Name x pos')) pos.line X.env=pure false:=by rfl)(hf:X.fn x=true\/X.env.scope.names.lookup x=some .local:=by first|exact .inl rfl|exact .inr rfl|assumption) :
  PS X (.Assign [.Name x pos'] e pos) (pZ te (bE i)):=by
 intro pins s σ H D I h;refine JK (thn (he pins s σ H _ I h) λv s1 ⟨y,H1,I1,r1,q1⟩=>?_) hs;exact oj I1 hN hi hx r1 (λs2 I2=>⟨_,H1,I2,q1⟩) hf
end

section
variable {X:Cx}{pos:Pos}
end

structure It where
 go:Nat->Hp->Prop
 yld:Nat->Hp->V->Hp->Prop
 stop:Nat->Hp->Prop
def p_(X:Cx)(pins:List (Addr×Obj))(H:Hp)(b:Addr):Prop:=
 H b=none/\b≠X.env.locals/\b∉X.fs/\(b∈X.ex\/X.s₀.heap.objs.size<=b)/\(∀x c,X.env.cells.lookup x=some c->c≠b)/\∀p∈X.pn++pins,p.1≠b
theorem Inv.fpOk{X:Cx}{pins:List (Addr×Obj)}{σ:St}{H H':Hp}{s:Gb}{b:Addr}(I:Inv X pins σ H s)(hb:s.heap.objs.size<=b)(hn:H' b=none):p_ X pins H' b:=by
 refine⟨hn,HK (GC I.lt hb),I.nofs hb,.inr (GM I.sz hb),λx c e z=>?_,λp hp z=>?_⟩
 .obtain⟨v,q⟩:=I.cell x c e;exact absurd (GC q.lt (by rw[z];exact hb)) (Hm _)
 .exact absurd (GC (Gq (I.pin p hp).1) (by rw[z];exact hb)) (Hm _)
structure qb(P:GE)(w:GF)(K:PySem.W.Frag)(tg:Expr)(J:It)(fp:List Addr)(it:Addr)(tn:Nat->Heap->Prop):Prop where
 mem:it∈fp
 obj:∀i h,tn i h->∀b∈fp,∃o,h.get? b=some o/\∀v,o.data≠.cell v
 keep:∀i h h',tn i h->(∀b∈fp,∀o,h.get? b=some o->h'.get? b=some o)->tn i h'
 item:∀(X:Cx),X.prog=P->X.w=w->X.K=K->X.calm=true->∀(i:Nat) (pins:List (Addr×Obj)) (s:Gb) (σ:St) (H:Hp) (E:F9->Gb->Prop),Inv X pins σ H s->(∀b∈fp,p_ X pins H b)->tn i s.heap->J.go i H->
  GI (GK P w) X.A (pyNext (.ref it)) (λr s1=>∃u,r=some u/\
   GI (GK P w) X.A (Jr tg (.ref it) u) (λ_ s2=>∃x H',Inv X pins σ H' s2/\bq x u/\J.yld i H x H'/\tn (i+1) s2.heap/\∀b∈fp,H' b=none) E s1) E s
 done:∀(X:Cx),X.prog=P->X.w=w->X.K=K->X.calm=true->∀(i:Nat) (pins:List (Addr×Obj)) (s:Gb) (σ:St) (H:Hp) (E:F9->Gb->Prop),Inv X pins σ H s->(∀b∈fp,p_ X pins H b)->tn i s.heap->J.stop i H->
  GI (GK P w) X.A (pyNext (.ref it)) (λr s1=>r=none/\Inv X pins σ H s1) E s
 self:∀(A:G_) (i:Nat) (s:Gb) (Q:F9->Gb->Prop) (E:F9->Gb->Prop),tn i s.heap->Q (.ref it) s->GI (GK P w) A (KH (.ref it)) Q E s
abbrev TI:=St->Hp->(It->Hp->Prop)->Prop
def PIE(X:Cx)(pins:List (Addr×Obj))(σ:St)(tg:Expr)(R:It->Hp->Prop)(itv:F9)(s2:Gb):Prop:=
 ∃(it:Addr) (fp:List Addr) (tn:Nat->Heap->Prop) (J:It) (H':Hp),itv=.ref it/\Inv X pins σ H' s2/\qb X.prog X.w X.K tg J fp it tn/\tn 0 s2.heap/\(∀b∈fp,p_ X pins H' b)/\R J H'
def PI(X:Cx)(tg iter:Expr)(wi:TI):Prop:=
 ∀(pins:List (Addr×Obj)) (s:Gb) (σ:St) (H:Hp) (R:It->Hp->Prop),Inv X pins σ H s->wi σ H R->
  GI (GK X.prog X.w) X.A (eval iter X.env) (λv s1=>GI (GK X.prog X.w) X.A (KH v) (PIE X pins σ tg R) X.xe s1) X.xe s

theorem vU{M:Model}{A:G_}{E:F9->Gb->Prop}{s:Gb}{tg:Expr}{it:Addr}{u:F9}{o:Obj}{n:String}{vs:Array F9}{Q:Unit->Gb->Prop}(ho:s.heap.get? it=some o)(hc:o.cls=.type n)(hd:o.data=.fields vs)
  (hn:["enumerate","zip","dict_itemiterator","dict_reverseitemiterator","odict_iterator","itertools.zip_longest","itertools.pairwise"].contains n=false)(hQ:Q () s):GI M A (Jr tg (.ref it) u) Q E s:=by
 unfold Jr;cases tg<;>first
  |exact Hc hQ
  |(cases u<;>first
    |exact Hc hQ
    | (refine GB (wpAny_load ho ?_)
       rw[hc,hd];show GI M A (if(["enumerate","zip","dict_itemiterator","dict_reverseitemiterator","odict_iterator","itertools.zip_longest","itertools.pairwise"].contains n&&vs[0]?==some (rawInt _))=true then _ else _) Q E s;rw[if_neg (by intro h;rw[hn,JD]at h;cases h)];exact Hc hQ))

def Itl(K:PySem.W.Frag)(a:Addr):It:=
 ⟨λi H=>∃xs x,SqL K H a xs/\xs[i]?=some x,λi H x H'=>H'=H/\∀xs,SqL K H a xs->xs[i]?=some x,λi H=>∃xs,SqL K H a xs/\xs.length<=i⟩
def Itr(lo:Int)(n:Nat):It:=⟨λi _=>i<n,λi H x H'=>H'=H/\x=.int (lo+i),λi _=>n<=i⟩
theorem An{P:GE}{w:GF}{K:PySem.W.Frag}{tg:Expr}(a it:Addr):qb P w K tg (Itl K a) [it] it (λi h=>h.IsListIter it a i) where
 mem:=by simp
 obj:=λi h st b hb=>by
  have e:b=it:=by simpa using hb
  subst e;obtain⟨o,e,c,d⟩:=st;exact⟨o,e,λv z=>by rw[d]at z;cases z⟩
 keep:=λi h h' st k=>st.at λo e=>k it (by simp) o e
 item:=by
  intro X hP hw hK hc i pins s σ H E I hf st hg;subst hP hw hK;obtain⟨xs,x,hq,hx⟩:=hg;obtain⟨its,rv,p,hz⟩:=I.list hq;obtain⟨u,hu,ru⟩:=rv.get hx;obtain⟨f0,f1,f2,f3,f4,f5⟩:=hf it (by simp);refine wpAny_pyNext_list_item st p.isList (x:=u) (by simpa using hu) λh' st' sb=>?_;have I1:Inv X pins σ H { s with heap:=h' }:=I.turned (t':=s.toks) (λb o hb e=>(sb.2 b hb).trans e) f0 f1 f3 f4 f5;obtain⟨o,e,c,d⟩:=id st';exact⟨u,rfl,vU (s:={ s with heap:=h' }) e c d (by decide) ⟨x,H,I1,ru,⟨rfl,λys hy=>by rw[I.list_inj hy hq];exact hx⟩,st',λb hb=>(hf b hb).1⟩⟩
 done:=by
  intro X hP hw hK hc i pins s σ H E I hf st hg;subst hP hw hK;obtain⟨xs,hq,hx⟩:=hg;obtain⟨its,rv,p,hz⟩:=I.list hq;obtain⟨f0,f1,f2,f3,f4,f5⟩:=hf it (by simp);have hl:=rv.length;exact wpAny_pyNext_list_end (I.ok.hd hc) st p.isList (by simp;omega) λh' eb=>⟨rfl,I.turned (t':=s.toks) (λb o hb e=>eb b o hb e) f0 f1 f3 f4 f5⟩
 self:=λ_ _ _ _ _ st h=>wpAny_pyIter_listiter st h
theorem zb{P:GE}{w:GF}{K:PySem.W.Frag}{tg:Expr}(it:Addr)(lo:Int)(n:Nat):qb P w K tg (Itr lo n) [it] it (λi h=>IsRangeIter h it (lo+(i:Nat)*1) ((n:Int)-(i:Nat)) 1) where
 mem:=by simp
 obj:=λi h st b hb=>by
  have e:b=it:=by simpa using hb
  subst e;exact⟨_,st,λv z=>by
   have z':IS _=Data.cell v:=z;cases z'⟩
 keep:=λi h h' st k=>k it (by simp) _ st
 item:=by
  intro X hP hw hK hc i pins s σ H E I hf st hg;subst hP hw hK;obtain⟨f0,f1,f2,f3,f4,f5⟩:=hf it (by simp);have W:=Walks.range (prog:=X.prog) (w:=X.w) (I.ok.hd hc) it lo 1 n;refine W.item i s _ _ hg st λv h' tk hv st' kk=>?_;obtain⟨t,rfl⟩:=hv;have I1:Inv X pins σ H { s with heap:=h',toks:=tk }:=I.turned (λb o hb e=>kk b o (by simpa using hb) e) f0 f1 f3 f4 f5;refine⟨_,rfl,vU (s:={ s with heap:=h',toks:=tk }) (n := "range_iterator") st' rfl rfl (by decide) ⟨.int (lo+i),H,I1,⟨t,?_⟩,⟨rfl,rfl⟩,st',λb hb=>(hf b hb).1⟩⟩;rw[Int.mul_one]
 done:=by
  intro X hP hw hK hc i pins s σ H E I hf st hg;subst hP hw hK;obtain⟨f0,f1,f2,f3,f4,f5⟩:=hf it (by simp);exact wpAny_pyNext_range_end (I.ok.hd hc) st (by have:n<=i:=hg;omega) λh' eb=>⟨rfl,I.turned (t':=s.toks) (λb o hb e=>eb b o hb e) f0 f1 f3 f4 f5⟩
 self:=λ_ _ _ _ _ st h=>wpAny_pyIter_rangeiter st h
section
variable {X:Cx}{tg:Expr}
def CJ(K:PySem.W.Frag)(tl:TE):TI:=λσ H R=>tl σ H λx H1=>∃a,x=.ref a/\(∃xs,SqL K H1 a xs)/\R (Itl K a) H1
theorem bj{l:Expr}{tl:TE}(hl:PE X l tl):PI X tg l (CJ X.K tl):=by
 intro pins s σ H R I h;refine thn (hl pins s σ H _ I h) λv s1 ⟨x,H1,I1,r1,q1⟩=>?_;obtain⟨a,e,⟨xs,hq⟩,q⟩:=q1;subst e;cases r1;obtain⟨its,rv,p,hz⟩:=I1.list hq;refine IU p.isList ?_;refine⟨s1.heap.objs.size,[s1.heap.objs.size],_,_,H1,rfl,I1.kept (t':=s1.toks) λb o e=>Gk _ e,An a _,⟨_,GH _ rfl,rfl,rfl⟩,λb hb=>?_,q⟩;have e:b=s1.heap.objs.size:=by simpa using hb
 subst e;exact I1.fpOk (Gh _) (I1.hok.fresh (Gh _))
theorem wP{pins:List (Addr×Obj)}{σ:St}{H:Hp}{s:Gb}{R:It->Hp->Prop}{E:F9->Gb->Prop}{lo hi:Int}{t u v:Tok}{tk:Nat}(I:Inv X pins σ H s)(h1:-(2^62)<=lo)(h2:lo<2^62)(h3:-(2^62)<=hi)(h4:hi<2^62)
  (q:R (Itr lo (hi-lo).toNat) H):GI (GK X.prog X.w) X.A (KH (.ref s.heap.objs.size)) (PIE X pins σ tg R) E { s with heap:=s.heap.push { cls:=.type "range",data:=.fields #[.int lo t,.int hi u,.int 1 v] },toks:=tk }:=by
 refine wpAny_pyIter_range (IsRange.new ..) (small_one h1 h2 h3 h4) ?_;have I1:Inv X pins σ H { s with heap:=s.heap.push { cls:=.type "range",data:=.fields #[.int lo t,.int hi u,.int 1 v] },toks:=tk }:=I.kept λb o e=>Gk _ e;refine⟨(s.heap.push { cls:=.type "range",data:=.fields #[.int lo t,.int hi u,.int 1 v] }).objs.size,[(s.heap.push { cls:=.type "range",data:=.fields #[.int lo t,.int hi u,.int 1 v] }).objs.size],_,_,H,rfl,
  I1.kept (t':=tk) λb o e=>Gk _ e,zb _ lo (hi-lo).toNat,?_,λb hb=>?_,q⟩
 .have e1:lo+((0:Nat):Int)*1=lo:=by simp
  have e2:(((hi-lo).toNat:Nat):Int)-((0:Nat):Int)=Builtin.Range.rangeSize lo hi 1:=by rw[rangeSize_one];split<;>omega
  show IsRangeIter _ _ (lo+((0:Nat):Int)*1) ((((hi-lo).toNat:Nat):Int)-((0:Nat):Int)) 1;rw[e1,e2];exact GH _ rfl
 .have e:b=(s.heap.push { cls:=.type "range",data:=.fields #[.int lo t,.int hi u,.int 1 v] }).objs.size:=by simpa using hb
  subst e;exact I1.fpOk (Gh _) (I1.hok.fresh (Gh _))
def E6(ta:TA):TI:=λσ H R=>ta σ H λvs H1=>∃j:Int,vs=[.int j]/\-(2^62)<=j/\j<2^62/\R (Itr 0 j.toNat) H1
def E7(ta:TA):TI:=λσ H R=>ta σ H λvs H1=>∃i j:Int,vs=[.int i,.int j]/\(-(2^62)<=i/\i<2^62/\-(2^62)<=j/\j<2^62)/\R (Itr i (j-i).toNat) H1
theorem mi{a:Expr}{ta:TA}{p pos:Pos}(hg:Gl X "range")(hm:X.mg "range" = none)(ha:PA X [a] ta)(hs:GG [a] X.env=[(false,eval a X.env)]:=by rfl):PI X tg (.Call (.Name "range" p) [a] [] pos) (E6 ta):=by
 intro pins s σ H R I h;refine Call_ (nG I hg hm boot_range (HL (thn (ha pos pins s σ H _ I h) λus s1 ⟨vs,H1,I1,r1,q1⟩=>?_) hs rfl));obtain⟨j,e,q1,q2,q⟩:=q1;subst e;cases r1 with
 |cons r rr =>
  cases rr;obtain⟨t,rfl⟩:=r;exact call_range_1 (wP I1 (by omega) (by omega) q1 q2 (by simpa using q))
theorem u0{a b:Expr}{ta:TA}{p pos:Pos}(hg:Gl X "range")(hm:X.mg "range" = none)(ha:PA X [a,b] ta)(hs:GG [a,b] X.env=[(false,eval a X.env),(false,eval b X.env)]:=by rfl)(hs2:GG [b] X.env=[(false,eval b X.env)]:=by rfl) :
  PI X tg (.Call (.Name "range" p) [a,b] [] pos) (E7 ta):=by
 intro pins s σ H R I h;refine Call_ (nG I hg hm boot_range (HL (thn (ha pos pins s σ H _ I h) λus s1 ⟨vs,H1,I1,r1,q1⟩=>?_) (by rw[hs,hs2]) (by rw[hs2];rfl)));obtain⟨i,j,e,⟨q1,q2,q3,q4⟩,q⟩:=q1;subst e;cases r1 with
 |cons r rr =>
  cases rr with
  |cons r' rr =>
   cases rr;obtain⟨t,rfl⟩:=r;obtain⟨t',rfl⟩:=r';exact call_range_2 (wP I1 q1 q2 q3 q4 q)

def D6(wi:TI)(g:TG)(tb:TS):TS:=λD σ H=>wi σ H λJ H1=>∃W:Nat->Nat->St->Hp->Prop,(∃m,W 0 m σ H1)/\∀i m σ H,W i m σ H->
 (J.stop i H/\D.nx σ H)\/(J.go i H/\∃N:St->Hp->Prop,(∀σ' H',N σ' H'->∃m',m'<m/\W (i+1) m' σ' H')/\∀x H',J.yld i H x H'->g x σ H' λσ2 H2=>tb { D with nx:=N,ct:=N,bk:=D.nx } σ2 H2)
def qc(fp:List Addr)(h:Heap):List (Addr×Obj):=fp.filterMap λb=>(h.get? b).map λo=>(b,o)
theorem kM{fp:List Addr}{h:Heap}{b:Addr}{o:Obj}(hb:b∈fp)(e:h.get? b=some o):(b,o)∈qc fp h:=List.mem_filterMap.mpr ⟨b,hb,by rw[e];rfl⟩
theorem Ao{fp:List Addr}{h:Heap}{p:Addr×Obj}(hp:p∈qc fp h):p.1∈fp/\h.get? p.1=some p.2:=by
 obtain⟨b,hb,e⟩:=List.mem_filterMap.mp hp;cases q:h.get? b with
 |none=>rw[q]at e;cases e
 |some o =>
  rw[q]at e;have e':(b,o)=p:=GU e;subst e';exact⟨hb,q⟩
theorem Inv.pinned{pins:List (Addr×Obj)}{σ:St}{H:Hp}{s:Gb}{fp:List Addr}(I:Inv X pins σ H s)(hf:∀b∈fp,p_ X pins H b)(ho:∀b∈fp,∃o,s.heap.get? b=some o/\∀v,o.data≠.cell v):Inv X (pins++qc fp s.heap) σ H s:=
 I.pins_of λp hp=>(List.mem_append.mp hp).elim (λz=>I.pin p (GN _ z)) λz=>by
  obtain⟨hb,e⟩:=Ao z;obtain⟨f0,f1,f2,_⟩:=hf p.1 hb;obtain⟨o,e',d⟩:=ho p.1 hb;rw[e]at e';cases e';exact⟨e,f0,f1,f2,d⟩
theorem Inv.unpinned{pins pl:List (Addr×Obj)}{σ:St}{H:Hp}{s:Gb}(I:Inv X (pins++pl) σ H s):Inv X pins σ H s:=I.pins_of λp hp=>I.pin p (GN _ (HC _ hp))
theorem cc{iter:Expr}{body:List Stmt}{wi:TI}{g:TG}{tb:TS}{pos:Pos}(hp:PassesOwn (GK X.prog X.w) X.A X.env X.xe)(hc:X.calm=true)(hi:PI X tg iter wi)(hg:PG X tg g)(hb:PSs X body tb)
  (hs:∀x,Hy iter X.env x=pure x:=by intro _;rfl):PS X (.For tg iter body [] pos) (D6 wi g tb):=by
 intro pins s σ H D I h;refine wpAny_For (thn (hi pins s σ H _ I h) λv s1 h1=>thn h1 λitv s2 h2=>?_) hs;obtain⟨it,fp,tn,J,H2,e,I2,T,st2,f2,W,⟨m0,w0⟩,turn⟩:=h2;subst e
 -- what stays true of the iterator's objects through the loop
 have stat:∀{H':Hp},(∀b∈fp,H' b=none)->∀b∈fp,p_ X pins H' b:=λhn b hb=>⟨hn b hb,(f2 b hb).2⟩;refine codeAny_forLoop_any (λn s'=>∃i σ' H',Inv X pins σ' H' s'/\tn i s'.heap/\(∀b∈fp,H' b=none)/\W i n σ' H') ?_ m0 ⟨0,σ,H2,I2,st2,λb hb=>(f2 b hb).1,w0⟩;rintro n s3 ⟨i,σ3,H3,I3,st3,fr3,w3⟩;rcases turn i n σ3 H3 w3 with⟨stop,qn⟩|⟨go,N,hN,step⟩
 .refine II hp (thn (T.done X rfl rfl rfl hc i pins s3 σ3 H3 X.xe I3 (stat fr3) st3 stop) λr s4 ⟨hr,I4⟩=>?_);subst hr;exact Ij ⟨σ3,H3,I4,qn⟩
 .refine II hp (thn (T.item X rfl rfl rfl hc i pins s3 σ3 H3 X.xe I3 (stat fr3) st3 go) λr s4 ⟨u,hr,h4⟩=>?_);subst hr;refine II hp (thn h4 λ_ s5 ⟨x,H5,I5,r5,y5,st5,fr5⟩=>?_);have I5':=I5.pinned (stat fr5) (T.obj _ _ st5);refine II hp (thn (hg _ s5 σ3 H5 x u _ I5' r5 (step x H5 y5)) λ_ s6 ⟨σ6,H6,I6,q6⟩=>?_);refine II hp (thn (hb _ s6 σ6 H6 _ I6 q6) λf s7 q7=>?_);have again:∀{σ7:St} {H7:Hp},Inv X (pins++qc fp s5.heap) σ7 H7 s7->N σ7 H7->∃m,m<n/\∃i σ' H',Inv X pins σ' H' s7/\tn i s7.heap/\(∀b∈fp,H' b=none)/\W i m σ' H':=λ{σ7 H7} I7 n7=>by
   obtain⟨m',hm,w7⟩:=hN σ7 H7 n7;refine⟨m',hm,i+1,σ7,H7,I7.unpinned,T.keep _ _ _ st5 λb hb o e=>(I7.pin (b,o) (GN _ (GN _ (kM hb e)))).1,λb hb=>?_,w7⟩;obtain⟨o,e,d⟩:=T.obj _ _ st5 b hb;exact(I7.pin (b,o) (GN _ (GN _ (kM hb e)))).2.1
  cases f with
  |next=>obtain⟨σ7,H7,I7,n7⟩:=q7;exact again I7 n7
  |cont=>obtain⟨σ7,H7,I7,n7⟩:=q7;exact again I7 n7
  |brk=>obtain⟨σ7,H7,I7,q7⟩:=q7;exact⟨σ7,H7,I7.unpinned,q7⟩
  |ret v=>obtain⟨x7,σ7,H7,I7,r7,q7⟩:=q7;exact⟨x7,σ7,H7,I7.unpinned,r7,q7⟩
end

theorem cg{K:PySem.W.Frag}{a:Addr}{xs:List V}{g:TG}{tb:TS}{D:eV}{σ:St}{H:Hp}(Pv:Nat->St->Hp->Prop)(h0:Pv 0 σ H)(hl:∀i σ H,i<=xs.length->Pv i σ H->SqL K H a xs)
  (hs:∀i x σ H,xs[i]?=some x->Pv i σ H->g x σ H λσ2 H2=>tb { D with nx:=Pv (i+1),ct:=Pv (i+1),bk:=D.nx } σ2 H2)(hd:∀σ H,Pv xs.length σ H->D.nx σ H) :
  ∃W:Nat->Nat->St->Hp->Prop,(∃m,W 0 m σ H)/\∀i m σ H,W i m σ H->
   ((Itl K a).stop i H/\D.nx σ H)\/((Itl K a).go i H/\∃N:St->Hp->Prop,(∀σ' H',N σ' H'->∃m',m'<m/\W (i+1) m' σ' H')/\∀x H',(Itl K a).yld i H x H'->g x σ H' λσ2 H2=>tb { D with nx:=N,ct:=N,bk:=D.nx } σ2 H2):=by
 refine⟨λi m σ H=>m=xs.length-i/\i<=xs.length/\Pv i σ H,⟨xs.length,by simp,GV _,h0⟩,?_⟩;rintro i m σ H ⟨rfl,hi,p⟩;have q:=hl i σ H hi p;by_cases hlt:i<xs.length
 .refine .inr ⟨⟨xs,xs[i],q,by simp[hlt]⟩,Pv (i+1),λσ' H' p'=>⟨xs.length-(i+1),by omega,rfl,hlt,p'⟩,λx H' y=>?_⟩;obtain⟨e,y⟩:=y;subst e;exact hs i x σ _ (y xs q) p
 .have e:i=xs.length:=by omega
  subst e;exact .inl ⟨⟨xs,q,Gh _⟩,hd σ H p⟩
theorem jl{lo:Int}{n:Nat}{g:TG}{tb:TS}{D:eV}{σ:St}{H:Hp}(Pv:Nat->St->Hp->Prop)(h0:Pv 0 σ H)
  (hs:∀i σ H,i<n->Pv i σ H->g (.int (lo+i)) σ H λσ2 H2=>tb { D with nx:=Pv (i+1),ct:=Pv (i+1),bk:=D.nx } σ2 H2)(hd:∀σ H,Pv n σ H->D.nx σ H) :
  ∃W:Nat->Nat->St->Hp->Prop,(∃m,W 0 m σ H)/\∀i m σ H,W i m σ H->
   ((Itr lo n).stop i H/\D.nx σ H)\/((Itr lo n).go i H/\∃N:St->Hp->Prop,(∀σ' H',N σ' H'->∃m',m'<m/\W (i+1) m' σ' H')/\∀x H',(Itr lo n).yld i H x H'->g x σ H' λσ2 H2=>tb { D with nx:=N,ct:=N,bk:=D.nx } σ2 H2):=by
 refine⟨λi m σ H=>m=n-i/\i<=n/\Pv i σ H,⟨n,by simp,GV _,h0⟩,?_⟩;rintro i m σ H ⟨rfl,hi,p⟩;by_cases hlt:i<n
 .refine .inr ⟨hlt,Pv (i+1),λσ' H' p'=>⟨n-(i+1),by omega,rfl,hlt,p'⟩,λx H' y=>?_⟩;obtain⟨e,y⟩:=y;subst e y;exact hs i σ _ hlt p
 .have e:i=n:=by omega
  subst e;exact .inl ⟨Gh _,hd σ H p⟩

abbrev R2:=V->V->Hp->VK->Prop
def OpR(X:Cx)(f:F9->F9->Sem F9)(r:R2):Prop:=
 ∀(pins:List (Addr×Obj)) (s:Gb) (σ:St) (H:Hp) (x y:V) (v u:F9) (Q:VK),Inv X pins σ H s->bq x v->bq y u->r x y H Q->
  GI (GK X.prog X.w) X.A (f v u) (EP X pins σ Q) X.xe s
def UnR(X:Cx)(f:F9->Sem F9)(r:V->Hp->VK->Prop):Prop:=
 ∀(pins:List (Addr×Obj)) (s:Gb) (σ:St) (H:Hp) (x:V) (v:F9) (Q:VK),Inv X pins σ H s->bq x v->r x H Q->
  GI (GK X.prog X.w) X.A (f v) (EP X pins σ Q) X.xe s
def gQ(X:Cx)(f:F9)(r:List V->Hp->VK->Prop):Prop:=
 ∀(pins:List (Addr×Obj)) (s:Gb) (σ:St) (H:Hp) (xs:List V) (us:List F9) (Q:VK),Inv X pins σ H s->a_ xs us->r xs H Q->
  GI (GK X.prog X.w) X.A (call f us) (EP X pins σ Q) X.xe s
def tOp(r:R2)(ta tb:TE):TE:=λσ H Q=>ta σ H λx H1=>tb σ H1 λy H2=>r x y H2 Q
def tUn(r:V->Hp->VK->Prop)(ta:TE):TE:=λσ H Q=>ta σ H λx H1=>r x H1 Q
def rI(C:Int->Int->Prop)(g:Int->Int->V):R2:=λx y H Q=>∃i j,x=.int i/\y=.int j/\C i j/\Q (g i j) H
def rI0(g:Int->Int->V):R2:=λx y H Q=>∃i j,x=.int i/\y=.int j/\Q (g i j) H
def rU(g:Int->V):V->Hp->VK->Prop:=λx H Q=>∃i,x=.int i/\Q (g i) H

section
variable {X:Cx}{a b c:Expr}{ta tb tc:TE}{pos:Pos}

theorem BK(ha:PE X a ta)(hb:PE X b tb){pins:List (Addr×Obj)}{s:Gb}{σ:St}{H:Hp}{R:V->V->Hp->Prop}(I:Inv X pins σ H s)
  (h:ta σ H λx H1=>tb σ H1 λy H2=>R x y H2){Q:F9->Gb->Prop}{f:F9->F9->Sem F9}
  (hf:∀v u s2 x y H2,Inv X pins σ H2 s2->bq x v->bq y u->R x y H2->GI (GK X.prog X.w) X.A (f v u) Q X.xe s2) :
  GI (GK X.prog X.w) X.A (eval a X.env) (λv s₁=>GI (GK X.prog X.w) X.A (eval b X.env) (λu s₂=>GI (GK X.prog X.w) X.A (f v u) Q X.xe s₂) X.xe s₁) X.xe s:=by
 refine thn (ha pins s σ H _ I h) λv s1 ⟨x,H1,I1,r1,q1⟩=>?_;refine thn (hb pins s1 σ H1 _ I1 q1) λu s2 ⟨y,H2,I2,r2,q2⟩=>?_;exact hf v u s2 x y H2 I2 r1 r2 q2

theorem aP{op:Operator}{r:R2}(ho:OpR X (IE op) r)(ha:PE X a ta)(hb:PE X b tb):PE X (.BinOp a op b pos) (tOp r ta tb):=by
 intro pins s σ H Q I h;exact wpAny_BinOp (BK ha hb I h λv u s2 x y H2 I2 rx ry q=>ho pins s2 σ H2 x y v u Q I2 rx ry q)
theorem rR{op:UnaryOp}{r:V->Hp->VK->Prop}(ho:UnR X (unaryOp op) r)(ha:PE X a ta):PE X (.UnaryOp op a pos) (tUn r ta):=by
 intro pins s σ H Q I h;exact UnaryOp_ (thn (ha pins s σ H _ I h) λv s1 ⟨x,H1,I1,r1,q1⟩=>ho pins s1 σ H1 x v Q I1 r1 q1)
theorem opI{f:F9->F9->Sem F9}{C:Int->Int->Prop}{g:Int->Int->Int}
  (rule:∀(i j:Int) (t u:Tok) (s:Gb) (Q:F9->Gb->Prop) (E:F9->Gb->Prop),C i j->Q (.int (g i j) s.toks) { s with toks:=s.toks+1 }->GI (GK X.prog X.w) X.A (f (.int i t) (.int j u)) Q E s) :
  OpR X f (rI C λi j=>.int (g i j)):=by
 intro pins s σ H x y v u Q I rx ry h;obtain⟨i,j,rfl,rfl,hc,q⟩:=h;obtain⟨t,rfl⟩:=rx;obtain⟨t',rfl⟩:=ry;exact rule i j t t' s _ _ hc ⟨.int (g i j),H,I.tok _,⟨_,rfl⟩,q⟩
theorem D7{f:F9->F9->Sem F9}{g:Int->Int->Int}
  (rule:∀(i j:Int) (t u:Tok) (s:Gb) (Q:F9->Gb->Prop) (E:F9->Gb->Prop),Q (.int (g i j) s.toks) { s with toks:=s.toks+1 }->GI (GK X.prog X.w) X.A (f (.int i t) (.int j u)) Q E s) :
  OpR X f (rI0 λi j=>.int (g i j)):=by
 intro pins s σ H x y v u Q I rx ry h;obtain⟨i,j,rfl,rfl,q⟩:=h;obtain⟨t,rfl⟩:=rx;obtain⟨t',rfl⟩:=ry;exact rule i j t t' s _ _ ⟨.int (g i j),H,I.tok _,⟨_,rfl⟩,q⟩
theorem BL{f:F9->F9->Sem F9}{g:Int->Int->Bool}
  (rule:∀(i j:Int) (t u:Tok) (s:Gb) (Q:F9->Gb->Prop) (E:F9->Gb->Prop),Q (.bool (g i j)) s->GI (GK X.prog X.w) X.A (f (.int i t) (.int j u)) Q E s) :
  OpR X f (rI0 λi j=>.bl (g i j)):=by
 intro pins s σ H x y v u Q I rx ry h;obtain⟨i,j,rfl,rfl,q⟩:=h;obtain⟨t,rfl⟩:=rx;obtain⟨t',rfl⟩:=ry;exact rule i j t t' s _ _ ⟨.bl (g i j),H,I,rfl,q⟩

def FB(i j:Int):Prop:=0<j/\j<1073741824
def FC(i j:Int):Prop:=0<=j/\j<=1000000/\i.natAbs<2^64
def BM(i j:Int):Prop:=(-(2^64)<i/\i<2^64)\/(-(2^64)<j/\j<2^64)
theorem BM.ok{i j:Int}(h:BM i j):IntMulOk i j:=by
 rcases h with⟨h1,h2⟩|⟨h1,h2⟩
 .exact .of_left (intBits_le_64 h1 h2)
 .exact .of_right (intBits_le_64 h1 h2)
theorem b8:OpR X (IE .Add) (rI0 λi j=>.int (i+j)):=D7 λ_ _ _ _ _ _ _ q=>add_int q
theorem nH:OpR X (IE .Sub) (rI0 λi j=>.int (i-j)):=D7 λ_ _ _ _ _ _ _ q=>sub_int q
theorem tY:OpR X (IE .Mult) (rI BM λi j=>.int (i*j)):=opI λ_ _ _ _ _ _ _ hc q=>mul_int q hc.ok
theorem yA:OpR X (IE .FloorDiv) (rI FB λi j=>.int (i/j)):=opI λi j _ _ _ _ _ hc q=>by
 have h1:(0:Int)<j:=hc.1;have h2:j<1073741824:=hc.2;exact floordiv_int (by omega) (by rw[Int.fdiv_eq_ediv_of_nonneg i (by omega)];exact q) (.inl (PyProof.noPylong_small (by omega)))
theorem nI:OpR X (IE .Mod) (rI (λ_ j=>0<j) λi j=>.int (i%j)):=opI λi j _ _ _ _ _ hc q=>by
 have h1:(0:Int)<j:=hc;exact mod_int' (by omega) (by rw[Int.fmod_eq_emod_of_nonneg i (by omega)];exact q)
theorem D8:OpR X (IE .Pow) (rI FC λi j=>.int (i^j.toNat)):=opI λ_ _ _ _ _ _ _ hc q=>pow_int_small hc.1 hc.2.1 hc.2.2 q
theorem unI{f:F9->Sem F9}{g:Int->Int}
  (rule:∀(i:Int) (t:Tok) (s:Gb) (Q:F9->Gb->Prop) (E:F9->Gb->Prop),Q (.int (g i) s.toks) { s with toks:=s.toks+1 }->GI (GK X.prog X.w) X.A (f (.int i t)) Q E s) :
  UnR X f (rU λi=>.int (g i)):=by
 intro pins s σ H x v Q I rx h;obtain⟨i,rfl,q⟩:=h;obtain⟨t,rfl⟩:=rx;exact rule i t s _ _ ⟨.int (g i),H,I.tok _,⟨_,rfl⟩,q⟩
theorem nJ:UnR X (unaryOp .USub) (rU λi=>.int (-i)):=unI λ_ _ _ _ _ q=>neg_int q
end

def D9:V->V->Bool
 |.non,.non=>true|.non,.int _=>true|.int _,.non=>true|.non,.bl _=>true|.bl _,.non=>true|.non,.str _=>true|.str _,.non=>true
 |.int _,.int _=>true|.bl _,.bl _=>true|.str _,.str _=>true|.byt _,.byt _=>true
 |.int _,.str _=>true|.str _,.int _=>true|.bl _,.str _=>true|.str _,.bl _=>true
 |_,_=>false
def rEq:R2:=λx y H Q=>D9 x y=true/\Q (.bl (decide (x=y))) H
def rNe:R2:=λx y H Q=>D9 x y=true/\Q (.bl (!decide (x=y))) H

theorem yB{i j:Int}:decide (V.int i=V.int j)=(i==j):=by
 rw[Js];simp
theorem Ap{i j:Bool}:decide (V.bl i=V.bl j)=(i==j):=by
 rw[Js];simp
theorem yC{i j:Str}:decide (V.str i=V.str j)=(i==j):=by
 rw[Js];simp
theorem yD{i j:Array UInt8}:decide (V.byt i=V.byt j)=(i.toList==j.toList):=by
 rw[Js];cases i;cases j;simp

section
variable {X:Cx}{a b c:Expr}{ta tb tc:TE}{pos:Pos}
theorem bL{pins:List (Addr×Obj)}{σ:St}{H:Hp}{s:Gb}{Q:VK}{k k':Bool}(I:Inv X pins σ H s)(q:Q (.bl k) H)(e:k=k'):EP X pins σ Q (.bool k') s:=by
 subst e;exact⟨.bl k,H,I,rfl,q⟩
theorem br:OpR X (Hv .Eq) rEq:=by
 intro pins s σ H x y v u Q I rx ry h;obtain⟨hs,q⟩:=h;cases x with
 |non =>
  cases rx;cases y with
  |non=>cases ry;exact PySem.EqNone.eq_none_none (bL I q (by simp))
  |bl j=>cases ry;exact PySem.EqNone.eq_none_bool (bL I q (by simp))
  |int j=>obtain⟨t',rfl⟩:=ry;exact PySem.EqNone.eq_none_int (bL I q (by simp))
  |str j=>obtain⟨t',rfl⟩:=ry;exact PySem.EqNone.eq_none_str (bL I q (by simp))
  |_=>exact absurd (show false=true from hs) Gy
 |bl i =>
  cases rx;cases y with
  |non=>cases ry;exact PySem.EqNone.eq_bool_none (bL I q (by simp))
  |bl j=>cases ry;exact eq_bool (bL I q Ap)
  |str j=>obtain⟨t',rfl⟩:=ry;exact PySem.EqMixed.eq_bool_str (bL I q (by simp))
  |_=>exact absurd (show false=true from hs) Gy
 |int i =>
  obtain⟨t,rfl⟩:=rx;cases y with
  |non=>cases ry;exact PySem.EqNone.eq_int_none (bL I q (by simp))
  |int j=>obtain⟨t',rfl⟩:=ry;exact eq_int (bL I q yB)
  |str j=>obtain⟨t',rfl⟩:=ry;exact PySem.EqMixed.eq_int_str (bL I q (by simp))
  |_=>exact absurd (show false=true from hs) Gy
 |str i =>
  obtain⟨t,rfl⟩:=rx;cases y with
  |non=>cases ry;exact PySem.EqNone.eq_str_none (bL I q (by simp))
  |bl j=>cases ry;exact PySem.EqMixed.eq_str_bool (bL I q (by simp))
  |int j=>obtain⟨t',rfl⟩:=ry;exact PySem.EqMixed.eq_str_int (bL I q (by simp))
  |str j=>obtain⟨t',rfl⟩:=ry;exact eq_str (bL I q yC)
  |_=>exact absurd (show false=true from hs) Gy
 |byt i =>
  obtain⟨t,rfl⟩:=rx;cases y with
  |byt j=>obtain⟨t',rfl⟩:=ry;exact PySem.W.eq_bytes (bL I q yD)
  |_=>exact absurd (show false=true from hs) Gy
 |_=>cases y<;>exact absurd (show false=true from hs) Gy
theorem eQ:OpR X (Hv .NotEq) rNe:=by
 intro pins s σ H x y v u Q I rx ry h;obtain⟨hs,q⟩:=h;cases x with
 |non =>
  cases rx;cases y with
  |non=>cases ry;exact PySem.EqNone.ne_none_none (bL I q (by simp))
  |bl j=>cases ry;exact PySem.EqNone.ne_none_bool (bL I q (by simp))
  |int j=>obtain⟨t',rfl⟩:=ry;exact PySem.EqNone.ne_none_int (bL I q (by simp))
  |str j=>obtain⟨t',rfl⟩:=ry;exact PySem.EqNone.ne_none_str (bL I q (by simp))
  |_=>exact absurd (show false=true from hs) Gy
 |bl i =>
  cases rx;cases y with
  |non=>cases ry;exact PySem.EqNone.ne_bool_none (bL I q (by simp))
  |bl j=>cases ry;exact ne_bool (bL I q (congrArg not Ap))
  |str j=>obtain⟨t',rfl⟩:=ry;exact PySem.EqMixed.ne_bool_str (bL I q (by simp))
  |_=>exact absurd (show false=true from hs) Gy
 |int i =>
  obtain⟨t,rfl⟩:=rx;cases y with
  |non=>cases ry;exact PySem.EqNone.ne_int_none (bL I q (by simp))
  |int j=>obtain⟨t',rfl⟩:=ry;exact ne_int (bL I q (congrArg not yB))
  |str j=>obtain⟨t',rfl⟩:=ry;exact PySem.EqMixed.ne_int_str (bL I q (by simp))
  |_=>exact absurd (show false=true from hs) Gy
 |str i =>
  obtain⟨t,rfl⟩:=rx;cases y with
  |non=>cases ry;exact PySem.EqNone.ne_str_none (bL I q (by simp))
  |bl j=>cases ry;exact PySem.EqMixed.ne_str_bool (bL I q (by simp))
  |int j=>obtain⟨t',rfl⟩:=ry;exact PySem.EqMixed.ne_str_int (bL I q (by simp))
  |str j=>obtain⟨t',rfl⟩:=ry;exact ne_str (bL I q (congrArg not yC))
  |_=>exact absurd (show false=true from hs) Gy
 |byt i =>
  obtain⟨t,rfl⟩:=rx;cases y with
  |byt j=>obtain⟨t',rfl⟩:=ry;exact PySem.W.ne_bytes (bL I q (congrArg not yD))
  |_=>exact absurd (show false=true from hs) Gy
 |_=>cases y<;>exact absurd (show false=true from hs) Gy

theorem vV:OpR X (Hv .Lt) (rI0 λi j=>.bl (decide (i<j))):=BL λ_ _ _ _ _ _ _ q=>lt_int q
theorem zc:OpR X (Hv .LtE) (rI0 λi j=>.bl (decide (i<=j))):=BL λ_ _ _ _ _ _ _ q=>le_int q
theorem kN:OpR X (Hv .Gt) (rI0 λi j=>.bl (decide (j<i))):=BL λ_ _ _ _ _ _ _ q=>gt_int q
theorem jW:OpR X (Hv .In) (λx y H Q=>∃i j,x=.str i/\y=.str j/\Q (.bl (!(Hl j i 0 j.length 1).isEmpty)) H):=by
 intro pins s σ H x y v u Q I rx ry h;obtain⟨i,j,rfl,rfl,q⟩:=h;obtain⟨t,rfl⟩:=rx;obtain⟨t',rfl⟩:=ry;exact in_str (bL I q rfl)

theorem D_:OpR X (Hv .Is) (λx y H Q=>y=.non/\Q (.bl (decide (x=.non))) H):=by
 intro pins s σ H x y v u Q I rx ry h;obtain⟨rfl,q⟩:=h;cases ry;refine is_none_gen (bL I q ?_);cases x<;>first
  |(cases rx;rfl)
  |(obtain⟨t,rfl⟩:=rx;rfl)
theorem qd:OpR X (Hv .NotIn) (λx y H Q=>∃i j,x=.str i/\y=.str j/\Q (.bl (!(!(Hl j i 0 j.length 1).isEmpty))) H):=by
 intro pins s σ H x y v u Q I rx ry h;obtain⟨i,j,rfl,rfl,q⟩:=h;obtain⟨t,rfl⟩:=rx;obtain⟨t',rfl⟩:=ry;exact notIn_str (bL I q rfl)
theorem nomark(b:Expr){op:CmpOp}(h:op≠.In:=by decide)(h2:op≠.NotIn:=by decide):Ji op b=false:=by
 have e1:(op==CmpOp.In)=false:=by cases op<;>first|rfl|exact absurd rfl h
 have e2:(op==CmpOp.NotIn)=false:=by cases op<;>first|rfl|exact absurd rfl h2
 cases b<;>simp[Ji,e1,e2]
theorem fK{op:CmpOp}{r:R2}(ho:OpR X (Hv op) r)(ha:PE X a ta)(hb:PE X b tb)(hm:Ji op b=false):PE X (.Compare a [op] [b] pos) (tOp r ta tb):=by
 intro pins s σ H Q I h;exact wpAny_Compare1 (BK ha hb I h λv u s2 x y H2 I2 rx ry q=>ho pins s2 σ H2 x y v u Q I2 rx ry q) hm
def CK(t:TE):TT:=λσ H Q=>t σ H λx H'=>∃k,x=.bl k/\Q k H'
theorem aq{op:CmpOp}{r:R2}(ho:OpR X (Hv op) r)(ha:PE X a ta)(hb:PE X b tb)(hm:Ji op b=false):PT X (.Compare a [op] [b] pos) (CK (tOp r ta tb)):=by
 intro pins s σ H Q I h;refine wpAny_isTrue_Compare1 (thn (ha pins s σ H _ I h) λv s1 ⟨x,H1,I1,r1,q1⟩=>thn (hb pins s1 σ H1 _ I1 q1) λu s2 ⟨y,H2,I2,r2,q2⟩ =>
  thn (ho pins s2 σ H2 x y v u _ I2 r1 r2 q2) λc s3 ⟨z,H3,I3,r3,k,e,q3⟩=>?_) hm
 subst e;cases r3;exact HH ⟨H3,I3,q3⟩
theorem li:(Gr:Nat)<2^63:=by rw[J8];decide
theorem dJ:OpR X (IE .Add) (λx y H Q=>∃i j,x=.str i/\y=.str j/\i.length+j.length<=Gr/\Q (.str (i++j)) H):=by
 intro pins s σ H x y v u Q I rx ry h;obtain⟨i,j,rfl,rfl,hz,q⟩:=h;obtain⟨t,rfl⟩:=rx;obtain⟨t',rfl⟩:=ry;exact add_str (λt' tk=>⟨.str (i++j),H,I.tok _,⟨_,rfl⟩,q⟩) hz
theorem iC{x:V}{us:List F9}(r:a_ [x] us):∃u,us=[u]/\bq x u:=by
 cases r with
 |cons r1 r2=>cases r2;exact⟨_,rfl,r1⟩
theorem vW{x y:V}{us:List F9}(r:a_ [x,y] us):∃u w',us=[u,w']/\bq x u/\bq y w':=by
 cases r with
 |cons r1 r2 =>
  cases r2 with
  |cons r3 r4=>cases r4;exact⟨_,_,rfl,r1,r3⟩
theorem qf(hc:X.calm=true):gQ X (.builtin "max") (λxs H Q=>∃i j,xs=[.int i,.int j]/\Q (.int (if j>i then j else i)) H):=by
 intro pins s σ H xs us Q I r h;obtain⟨i,j,rfl,q⟩:=h;obtain⟨u,w',rfl,⟨t,rfl⟩,⟨t',rfl⟩⟩:=vW r;refine max_two_ints (I.ok.hd hc) λh' tk k=>⟨_,H,I.kept k,?_,q⟩;by_cases hj:j>i
 .rw[if_pos hj,if_pos hj];exact⟨_,rfl⟩
 .rw[if_neg hj,if_neg hj];exact⟨_,rfl⟩
theorem Aq:gQ X (.type "int") (λxs H Q=>(∃i,xs=[.int i]/\Q (.int i) H)\/∃k,xs=[.bl k]/\Q (.int (if k then 1 else 0)) H):=by
 intro pins s σ H xs us Q I r h;rcases h with⟨i,rfl,q⟩|⟨k,rfl,q⟩
 .obtain⟨u,rfl,t,rfl⟩:=iC r;exact call_int_int ⟨.int i,H,I,⟨_,rfl⟩,q⟩
 .obtain⟨u,rfl,r1⟩:=iC r;cases r1;exact call_int_bool ⟨.int (if k then 1 else 0),H,I.tok _,⟨_,rfl⟩,q⟩
theorem qg:gQ X (.type "str") (λxs H Q=>∃i,xs=[.int i]/\i.natAbs.log2<1920/\Q (.str (toString i)) H):=by
 intro pins s σ H xs us Q I r h;obtain⟨i,rfl,hz,q⟩:=h;obtain⟨u,rfl,t,rfl⟩:=iC r;exact PySem.P.str_of_int hz ⟨.str _,H,I.tok _,⟨_,rfl⟩,q⟩
def FD(K:PySem.W.Frag)(x:V)(H:Hp)(n:Nat):Prop:=
 match x with
 |.str y=>y.length<=Gr/\n=y.length
 |.byt y=>y.size<=Gr/\n=y.size
 |.ref p=>(∃xs,SqL K H p xs/\n=xs.length)\/∃xs,SqT K H p xs/\n=xs.length
 |_=>False
theorem om:gQ X (.builtin "len") (λxs H Q=>∃x n,xs=[x]/\FD X.K x H n/\Q (.int n) H):=by
 intro pins s σ H xs us Q I r h;obtain⟨x,n,rfl,e,q⟩:=h;obtain⟨u,rfl,rx⟩:=iC r;have hl:=li;have hs:Gr=16777216:=J8;cases x with
 |str y =>
  obtain⟨t,rfl⟩:=rx;obtain⟨hy,e'⟩:y.length<=Gr/\n=y.length:=e;subst e';exact len_str (by omega) ⟨.int _,H,I.tok _,⟨_,rfl⟩,q⟩
 |byt y =>
  obtain⟨t,rfl⟩:=rx;obtain⟨hy,e'⟩:y.size<=Gr/\n=y.size:=e;subst e';exact PySem.W.len_bytes (by omega) ⟨.int _,H,I.tok _,⟨_,rfl⟩,q⟩
 |ref p =>
  cases rx;have e':(∃xs,SqL X.K H p xs/\n=xs.length)\/∃xs,SqT X.K H p xs/\n=xs.length:=e;rcases e' with⟨xs,hx,e'⟩|⟨xs,hx,e'⟩
  .subst e';obtain⟨its,r',pl,hz⟩:=I.list hx;have hlen:=r'.length;exact Calls.call_len_list pl.isList (by simp only[Gx];omega) ⟨.int xs.length,H,I.tok _,⟨_,by simp only[Gx];rw[hlen]⟩,q⟩
  .subst e';obtain⟨its,r',pl,hz⟩:=I.tuple hx;have hlen:=r'.length;exact len_tuple pl (by simp only[Gx];omega) ⟨.int xs.length,H,I.tok _,⟨_,by simp only[Gx];rw[hlen]⟩,q⟩
 |_=>exact(show False from e).elim
end

structure sI(h:Heap)(x dx C:Addr)(mA:Str->Option F9):Prop where
 obj:h.get? x=some (PySem.W.instObj C dx)
 ns:h.Ns1 dx mA
 ne:dx≠x

theorem Ar{h:Heap}{dx:Addr}{mA:Str->Option F9}(n:h.Ns1 dx mA):∃od,h.get? dx=some od/\∀name,PySem.W.lookIn name od=some (mA name):=by
 obtain⟨o,es,ep,ho,hd,hk,_,hm⟩:=n;refine⟨o,ho,λname=>?_⟩;have e:=hm name;unfold nsFind findBy at e;rw[<-Array.find?_toList]at e;unfold PySem.W.lookIn;rw[hd];dsimp only
 split
 .rename_i y q
  rw[q]at e;exact congrArg some e
 .rename_i q
  rw[q]at e;have a:es.toList.any (·.refKey)=false:=by
   rw[HW];intro y hy;obtain⟨z,t,hkey⟩:=hk y (Array.mem_toList_iff.mp hy);simp[DictEntry.refKey,hkey]
  have a':¬ es.toList.any (·.refKey)=true:=by rw[a];exact Gy
  rw[if_neg a'];exact congrArg some e

theorem sI.look{h:Heap}{x dx C:Addr}{mA:Str->Option F9}(I:sI h x dx C mA):∃od,PySem.W.InstAt h x (PySem.W.instObj C dx) C (some od)/\∀name,PySem.W.lookIn name od=some (mA name):=
 let⟨od,ho,hl⟩:=Ar I.ns
 ⟨od,⟨I.obj,rfl,rfl,ho⟩,hl⟩

section
variable {prog:GE}{w:GF}{A:G_}{E:F9->Gb->Prop}{s:Gb}{K:PySem.W.Frag}{x dx C f:Addr}{mA:Str->Option F9}{name:Str}{v:F9}

theorem C7{expr:Bool}{Q:F9->Gb->Prop}(X:K.In s.heap)(I:sI s.heap x dx C mA)(hg:PySem.W.plainGet K C name=true)(hh:PySem.W.hasDictIn K C=true)
  (ha:PySem.W.findIn K (.ref C) name=some none)(hv:mA name=some v)(hv':PySem.W.handedIn v=true)(h:Q v { s with toks:=s.toks+1 }) :
  GI (GK prog w) A (getAttr (.ref x) name expr) Q E s:=by
 obtain⟨od,J,hl⟩:=I.look;exact PySem.W.get_value X J (PySem.W.plainGet_of hg).1 (PySem.W.findObj_own hh ha rfl (by rw[hl,hv])) hv' h

theorem BN{pl:Sem Bool}{Q:F9×List F9->Gb->Prop}(X:K.In s.heap)(I:sI s.heap x dx C mA)(hg:PySem.W.plainGet K C name=true)
  (hf:PySem.W.findIn K (.ref C) name=some (some (.ref f)))(ht:PySem.W.isFn K (.ref f)=true)(hv:mA name=none)(h:Q (.ref f,[.ref x]) s) :
  GI (GK prog w) A (JS (.ref x) name pl) Q E s:=by
 obtain⟨od,J,hl⟩:=I.look;exact PySem.W.method_fn X J (PySem.W.plainGet_of hg).1 (PySem.W.plainGet_of hg).2 hf (beq_iff_eq.mp ht) (by show(PySem.W.lookIn name od).map (·.isSome)=some false;rw[hl,hv];rfl) h

theorem C8{ns:List Str}{Q:Unit->Gb->Prop}(X:K.In s.heap)(I:sI s.heap x dx C mA)
  (hs:PySem.W.findIn K (.ref C) "__setattr__" = some (some (.builtin "object.__setattr__")))(hp:PySem.W.plainOver K C=true)(ht:PySem.W.takerIn K C name=some none)(hh:PySem.W.hasDictIn K C=true)
  (hw:PySem.Within mA ns)(hsz:ns.length<=Gr)
  (h:∀h',sI h' x dx C (λy=>if y=name then some v else mA y)->Iv dx s.heap h'->Q () { s with heap:=h',toks:=s.toks+2 }) :
  GI (GK prog w) A (setAttr (.ref x) name v) Q E s:=by
 obtain⟨od,J,hl⟩:=I.look;refine PySem.W.set_plain X J hs (PySem.W.osa_open (s:={ s with toks:=s.toks+1 }) (r:=none) X J hp ht λb=>?_);obtain⟨cd,hc,hd'⟩:=PySem.W.any_some hh;have hx:s.heap.get? x=some ⟨.ref C,some dx,.plain,#[]⟩:=I.obj;refine GB (Hc (GB (GB (wpAny_loadPart hx (GB (PySem.W.Looks.here (s:={ s with toks:=s.toks+1 }) (PySem.W.looks_clsIn X hc) ?_))))));rw[hd'];refine Hc (a:=some dx) (GB (Hc (GB ?_)));refine wpAny_nsSet1 (s:={ s with toks:=s.toks+1 }) I.ns λh' hn2 hs2=>?_;obtain⟨oD,esD,epD,hoD,hdD,hcD⟩:=hn2.count (PySem.Within.cons name v hw);refine GB (wpAny_lookBehind hoD (by rw[hdD];exact pastItsLine_dict (GM hcD (by rw[F8];omega))) ?_);exact Hc (h _ ⟨(hs2.2 _ (GX I.ne)).trans I.obj,hn2,I.ne⟩ hs2)

theorem BO{R:JQ->Gb->Prop}{vs:List F9}{kw:List (Str×F9)}(X:K.In s.heap)(hm:PySem.W.makesIn K C=true)
  (hi:PySem.W.findIn K (.ref C) "__init__" = some (some (.ref f)))(hf:PySem.W.typeIn K (.ref f)=some (.type "function"))
  (h:Jj (GK prog w) (A.under (.builtin "type.__call__" ⟨.ref C :: vs,kw⟩)) (.call (.ref f) ⟨.ref (s.heap.objs.size+1) :: vs,kw⟩) (PySem.W.InitBack (s.heap.objs.size+1) R)
   { s with heap:=(s.heap.push PySem.W.emptyDict).push (PySem.W.instObj C s.heap.objs.size) }) :
  Jj (GK prog w) A (.call (.ref C) ⟨vs,kw⟩) R s:=by
 obtain⟨hh,g,d,t,os⟩:=s;exact PySem.W.make_core (PySem.W.makes_of X hm) (PySem.W.looks_findIn X hi) (λself=>PySem.W.bind_fn X self hf) (.inl rfl) h
end

def bQ(f:Str)(v:V):List (Str×V)->List (Str×V)
 |[]=>[(f,v)]
 |(g,x)::r=>if g=f then(g,v)::r else(g,x)::bQ f v r
theorem sk(f g:Str)(v:V):∀fs:List (Str×V),(bQ f v fs).lookup g=if g=f then some v else fs.lookup g
 |[]=>by
  show GP g [(f,v)]=_;by_cases h:g=f
  .have hb:(g==f)=true:=beq_iff_eq.mpr h;simp only[GP,hb,if_pos h]
  .have hb:(g==f)=false:=beq_eq_false_iff_ne.mpr h;simp only[GP,hb,if_neg h]
 |(k,x)::r=>by
  have ih:=sk f g v r;rw[show bQ f v ((k,x)::r)=(if k=f then(k,v)::r else(k,x)::bQ f v r)from rfl];by_cases hk:k=f
  .rw[if_pos hk];by_cases h:g=k
   .have hb:(g==k)=true:=beq_iff_eq.mpr h;simp only[GP,hb,if_pos (h.trans hk)]
   .have hb:(g==k)=false:=beq_eq_false_iff_ne.mpr h;simp only[GP,hb,if_neg (λe:g=f=>h (e.trans hk.symm))]
  .rw[if_neg hk];by_cases h:g=k
   .have hb:(g==k)=true:=beq_iff_eq.mpr h;simp only[GP,hb,if_neg (λe:g=f=>hk (h.symm.trans e))]
   .have hb:(g==k)=false:=beq_eq_false_iff_ne.mpr h;simp only[GP,hb];exact ih
theorem qh(f:Str)(v:V):∀fs:List (Str×V),f∈(bQ f v fs).map (·.1)/\∀g,g∈fs.map (·.1)->g∈(bQ f v fs).map (·.1)
 |[]=>⟨by simp[bQ],λg h=>by simp at h⟩
 |(k,x)::r=>by
  obtain⟨i1,i2⟩:=qh f v r;rw[show bQ f v ((k,x)::r)=(if k=f then(k,v)::r else(k,x)::bQ f v r)from rfl];by_cases hk:k=f
  .rw[if_pos hk];subst hk;exact⟨by simp,λg h=>by simpa using h⟩
  .rw[if_neg hk];refine⟨?_,λg h=>?_⟩
   .rw[Gi];exact Gc _ i1
   .rw[Gi]at h⊢;rcases List.mem_cons.mp h with e|e
    .exact List.mem_cons.mpr (.inl e)
    .exact Gc _ (i2 g e)
theorem sr(f:Str)(v:V):∀fs:List (Str×V),(bQ f v fs).length<=fs.length+1
 |[]=>by simp[bQ]
 |(k,x)::r=>by
  have ih:=sr f v r;rw[show bQ f v ((k,x)::r)=(if k=f then(k,v)::r else(k,x)::bQ f v r)from rfl];by_cases hk:k=f
  .rw[if_pos hk,F8,F8];omega
  .rw[if_neg hk,F8,F8];omega

theorem gU.some_of{v:V}{o:Option F9}(r:gU (some v) o):∃u,o=some u/\bq v u:=by
 cases o with
 |none=>exact(show False from r).elim
 |some u=>exact⟨u,rfl,r⟩
theorem gU.none_of{o:Option F9}(r:gU none o):o=none:=by
 cases o with
 |none=>rfl
 |some u=>exact(show False from r).elim
theorem As{v:V}{u:F9}(r:bq v u):PySem.W.handedIn u=true:=by
 cases v with
 |non=>cases (show u=IL from r);rfl
 |bl b=>cases (show u=JV b from r);rfl
 |int i=>obtain⟨t,e⟩:=(show ∃t,u=IQ i t from r);cases e;rfl
 |str x=>obtain⟨t,e⟩:=(show ∃t,u=HP x t from r);cases e;rfl
 |byt b=>obtain⟨t,e⟩:=(show ∃t,u=Value.bytes b t from r);cases e;rfl
 |flt b=>obtain⟨t,e⟩:=(show ∃t,u=Kz b t from r);cases e;rfl
 |ref a=>cases (show u=GW a from r);rfl
 |ty n=>cases (show u=Ir n from r);rfl

section
variable {P:GE}{w:GF}{H H':Hp}{h h':Heap}{a C dx:Addr}{fs fs':List (Str×V)}
theorem rS(hok:HOk P w H h)(e:H a=some (.ins C dx fs)):∃mA,sI h a dx C mA/\(∀f,gU (fs.lookup f) (mA f))/\PySem.Within mA (fs.map (·.1))/\fs.length<=1000/\H dx=some (.own a):=by
 obtain⟨d,z,ne,ob,mA,n,r,q⟩:=(show cj P w H h a (.ins C dx fs)from hok a _ e);exact⟨mA,⟨ob,n,ne⟩,r,q,z,d⟩
end

structure Cls(K:PySem.W.Frag)(C:Addr):Prop where
 pg:PySem.W.plainGet K C Hk=true
 hd:PySem.W.hasDictIn K C=true
 po:PySem.W.plainOver K C=true
 sa:PySem.W.findIn K (.ref C) "__setattr__" = some (some (.builtin "object.__setattr__"))
theorem Cls.get{K:PySem.W.Frag}{C:Addr}(c:Cls K C)(f:Str):PySem.W.plainGet K C f=true:=c.pg
def dj(K:PySem.W.Frag)(C:Addr)(f:Str):Prop:=PySem.W.findIn K (.ref C) f=some none
theorem dj.taker{K:PySem.W.Frag}{C:Addr}{f:Str}(n:dj K C f):PySem.W.takerIn K C f=some none:=by
 unfold PySem.W.takerIn;rw[show PySem.W.findIn K (.ref C) f=some none from n];rfl
structure zd(K:PySem.W.Frag)(C:Addr)(m:Str)(f:Addr):Prop where
 at_:PySem.W.findIn K (.ref C) m=some (some (.ref f))
 fn:PySem.W.isFn K (.ref f)=true
 kp:PySem.W.keepIn K (.ref f)=true

section
variable {X:Cx}{pins:List (Addr×Obj)}{σ:St}{H:Hp}{s:Gb}{a C dx:Addr}{fs:List (Str×V)}{f:Str}{v:V}{A:G_}{E:F9->Gb->Prop}

theorem ze{b:Bool}{Q:F9->Gb->Prop}(I:Inv X pins σ H s)(e:H a=some (.ins C dx fs))(c:Cls X.K C)(n:dj X.K C f)(l:fs.lookup f=some v)
  (h:∀u s',Inv X pins σ H s'->bq v u->Q u s'):GI (GK X.prog X.w) A (getAttr (.ref a) f b) Q E s:=by
 obtain⟨mA,O,r,_,_,_⟩:=rS I.hok e;obtain⟨u,hu,ru⟩:=gU.some_of (v:=v) (o:=mA f) (by rw[<-l];exact r f);exact C7 I.kIn O (c.get f) c.hd n hu (As ru) (h u _ (I.tok _) ru)

theorem tZ{m:Str}{g:Addr}{pl:Sem Bool}{Q:F9×List F9->Gb->Prop}(I:Inv X pins σ H s)(e:H a=some (.ins C dx fs))(c:Cls X.K C)(k:zd X.K C m g)(l:fs.lookup m=none)
  (h:Q (.ref g,[.ref a]) s):GI (GK X.prog X.w) A (JS (.ref a) m pl) Q E s:=by
 obtain⟨mA,O,r,_,_,_⟩:=rS I.hok e;have hn:mA m=none:=gU.none_of (by rw[<-l];exact r m);exact BN I.kIn O (c.get m) k.at_ k.fn hn h

theorem zf{y:V}{u:F9}{Q:Unit->Gb->Prop}(I:Inv X pins σ H s)(e:H a=some (.ins C dx fs))(c:Cls X.K C)(n:dj X.K C f)(hl:fs.length<1000)(ry:bq y u)
  (h:∀s',Inv X pins σ (upd H a (.ins C dx (bQ f y fs))) s'->Q () s'):GI (GK X.prog X.w) A (setAttr (.ref a) f u) Q E s:=by
 obtain⟨mA,O,r,wi,_,ho⟩:=rS I.hok e;have hz:(fs.map (·.1)).length<=Gr:=by rw[F6,J8];omega
 refine C8 I.kIn O c.sa c.po n.taker c.hd wi hz λh' O' sb=>h _ ?_;have hd:∃o,h'.get? dx=some o:=let⟨o,_,_,e',_⟩:=O'.ns;⟨o,e'⟩;refine I.write (x:=a) (e:=dx) (by rw[e];exact HY) (.inr ho) (λb q hb z=>(sb.2 b hb).trans z) hd ?_;refine⟨by rw[ak O.ne];exact ho,?_,O.ne,O'.obj,_,O'.ns,λg=>?_,λg hg=>?_⟩
 .have:=sr f y fs;omega
 .show gU ((bQ f y fs).lookup g) (if g=f then some u else mA g);rw[sk];by_cases q:g=f
  .rw[if_pos q,if_pos q];exact ry
  .rw[if_neg q,if_neg q];exact r g
 .by_cases q:g=f
  .rw[q];exact(qh f y fs).1
  .refine(qh f y fs).2 g (wi g λz=>hg ?_);show(if g=f then some u else mA g)=none;rw[if_neg q];exact z

theorem Inv.made(I:Inv X pins σ H s):Inv X pins σ (upd (upd H s.heap.objs.size (.own (s.heap.objs.size+1))) (s.heap.objs.size+1) (.ins C s.heap.objs.size []))
  { s with heap:=(s.heap.push PySem.W.emptyDict).push (PySem.W.instObj C s.heap.objs.size) }:=by
 have e1:(s.heap.push PySem.W.emptyDict).get? s.heap.objs.size=some PySem.W.emptyDict:=GH s.heap rfl;have e2:((s.heap.push PySem.W.emptyDict).push (PySem.W.instObj C s.heap.objs.size)).get? (s.heap.objs.size+1)=some (PySem.W.instObj C s.heap.objs.size):=by
  have:=GH (s.heap.push PySem.W.emptyDict) (o:=PySem.W.instObj C s.heap.objs.size) rfl
  rwa[IV]at this
 have e3:(s.heap.push PySem.W.emptyDict).Ns s.heap.objs.size (λ_=>none):=⟨PySem.W.emptyDict,#[],_,e1,rfl,(λe he=>absurd he (by simp)),λ_=>rfl⟩;have I1:=I.laid (a:=s.heap.objs.size) (o:=.own (s.heap.objs.size+1)) (h':=s.heap.push PySem.W.emptyDict) (t':=s.toks) (λb u q=>Gk _ q) (Gh _) ⟨_,e1⟩;refine I1.laid (a:=s.heap.objs.size+1) (o:=.ins C s.heap.objs.size []) (t':=s.toks) (λb u q=>Gk _ q) (Kr (IV _ _)) ?_;have ne:s.heap.objs.size≠s.heap.objs.size+1:=Gw (Ic _);refine⟨by rw[ak ne,ae],GV _,ne,e2,λ_=>none,(Heap.Ns1.of_empty e3).at λo q=>Gk _ q,λ_=>HY,λy hy=>absurd rfl hy⟩

theorem C9{prog:GE}{w:GF}{env:Env}{e:Expr}{f:Str}{pos:Pos}{s:Gb}{Q:F9->Gb->Prop}(hb:IF e f env (eval e env)=eval e env)
  (h:GI (GK prog w) A (eval e env) (λo s₁=>GI (GK prog w) A (getAttr o f true) Q E s₁) E s):GI (GK prog w) A (eval (.Attribute e f pos) env) Q E s:=
 Attribute_any_ h (by rw[arm_eval_Attribute,hb])
end

def FE(K:PySem.W.Frag)(ta:TE)(f:Str):TE:=λσ H Q=>ta σ H λx H1=>∃a C dx fs v,x=.ref a/\H1 a=some (.ins C dx fs)/\Cls K C/\dj K C f/\fs.lookup f=some v/\Q v H1
def FG(K:PySem.W.Frag)(ta tv:TE)(f:Str):TS:=λD σ H=>tv σ H λy H1=>ta σ H1 λx H2=>∃a C dx fs,x=.ref a/\H2 a=some (.ins C dx fs)/\Cls K C/\dj K C f/\fs.length<1000/\
 D.nx σ (upd H2 a (.ins C dx (bQ f y fs)))
section
variable {X:Cx}{o e value:Expr}{f:Str}{pos pos' tpos:Pos}{ta tv:TE}
theorem bv(he:PE X e ta)(hb:IF e f X.env (eval e X.env)=eval e X.env):PE X (.Attribute e f pos) (FE X.K ta f):=by
 intro pins s σ H Q I h;refine C9 hb (thn (he pins s σ H _ I h) λu s1 ⟨x,H1,I1,rx,a,C,dx,fs,v,ex,ea,c,n,l,q⟩=>?_);subst ex;obtain rfl:u=GW a:=rx;exact ze I1 ea c n l λu' s2 I2 ru=>⟨v,H1,I2,ru,q⟩
theorem c8(ha:PE X o ta)(hv:PE X value tv)(hs:IR value (some (.Attribute o f pos')) pos.line X.env=pure false):PS X (.Assign [.Attribute o f pos'] value pos) (FG X.K ta tv f):=by
 intro pins s σ H D I h;refine plainObj_wpAny_Assign_Attribute (thn (hv pins s σ H _ I h) λu s1 ⟨y,H1,I1,ry,q⟩=>thn (ha pins s1 σ H1 _ I1 q) λov s2 ⟨x,H2,I2,rx,a,C,dx,fs,ex,ea,c,n,l,q2⟩=>?_) hs;subst ex;obtain rfl:ov=GW a:=rx;exact zf I2 ea c n l ry λs3 I3=>⟨σ,_,I3,q2⟩
end

section
variable {X:Cx}{pins:List (Addr×Obj)}{σ:St}{H:Hp}{s:Gb}{A:G_}{E:F9->Gb->Prop}{Q:F9->Gb->Prop}{c:F9}{b:Bool}
inductive kg (K:PySem.W.Frag) (H:Hp):V->F9->Prop where
 |non:kg K H .non (.type "NoneType")
 |bl (x:Bool):kg K H (.bl x) (.type "bool")
 |int (i:Int):kg K H (.int i) (.type "int")
 |str (x:Str):kg K H (.str x) (.type "str")
 |flt (x:UInt64):kg K H (.flt x) (.type "float")
 |lst {a:Addr} {xs:List V} (e:H a=some (.lst xs)):kg K H (.ref a) (.type "list")
 |frz {a:Addr} {o:Obj} {xs:List V} (e:H a=some (.frz o (.lst xs))):kg K H (.ref a) (.type "list")
 |tup {a:Addr} {xs:List V} (e:H a=some (.tup xs)):kg K H (.ref a) (.type "tuple")
 |dK {a:Addr} {kvs:List (Key×V)} (e:H a=some (.dK kvs)):kg K H (.ref a) (.type "dict")
 |dT {a:Addr} {kvs:List (List Key×V)} (e:H a=some (.dT kvs)):kg K H (.ref a) (.type "dict")
 |ins {a C dx:Addr} {fs:List (Str×V)} (e:H a=some (.ins C dx fs)) (cl:Cls K C) (ha:PySem.W.findIn K (.ref C) "__class__" = some (some (.builtin "object.__class__")))
   (hn:PySem.W.specialIn K (.builtin "object.__class__") "__get__" = some (some (.builtin "getset_descriptor.__get__"))) (htk:PySem.W.takesIn K (.builtin "object.__class__")=some true)
   (hm:PySem.W.mroIn K C (.type "object")=some true):kg K H (.ref a) (.ref C)
theorem At{x:V}{u t:F9}(I:Inv X pins σ H s)(rx:bq x u)(ty:kg X.K H x t)(e:PySem.W.kitOne X.K t c=some b)(h:∀tk,Q (.bool b) { s with toks:=tk }) :
  GI (GK X.prog X.w) A (call (.builtin "isinstance") [u,c]) Q E s:=by
 cases ty with
 |non=>cases (show u=IL from rx);exact PySem.W.kia_one PySem.W.kitx_none I.kIn HY e (λz=>nomatch z) h
 |bl y=>cases (show u=JV y from rx);exact PySem.W.kia_one PySem.W.kitx_bool I.kIn HY e (λz=>nomatch z) h
 |int i=>obtain⟨t,q⟩:=(show ∃t,u=IQ i t from rx);cases q;exact PySem.W.kia_one PySem.W.kitx_int I.kIn HY e (λz=>nomatch z) h
 |str y=>obtain⟨t,q⟩:=(show ∃t,u=HP y t from rx);cases q;exact PySem.W.kia_one PySem.W.kitx_str I.kIn HY e (λz=>nomatch z) h
 |flt y=>obtain⟨t,q⟩:=(show ∃t,u=Kz y t from rx);cases q;exact PySem.W.kia_one PySem.W.kitx_float I.kIn HY e (λz=>nomatch z) h
 |@lst a xs ea =>
  cases (show u=GW a from rx);obtain⟨_,_,n,_,h1⟩:=(show cj X.prog X.w H s.heap a (.lst xs)from I.hok a _ ea);exact PySem.W.kia_one PySem.W.kitx_list I.kIn ⟨_,h1,rfl⟩ e (λz=>nomatch z) h
 |@frz a ob xs ea =>
  cases (show u=GW a from rx);obtain⟨_,_,_,n,_,h1⟩:=(show cj X.prog X.w H s.heap a (.frz ob (.lst xs))from I.hok a _ ea);exact PySem.W.kia_one PySem.W.kitx_list I.kIn ⟨_,h1,rfl⟩ e (λz=>nomatch z) h
 |@tup a xs ea =>
  cases (show u=GW a from rx);obtain⟨_,_,_,p⟩:=(show cj X.prog X.w H s.heap a (.tup xs)from I.hok a _ ea);obtain⟨o,h1,h2,_⟩:=p;exact PySem.W.kia_one PySem.W.kitx_tuple I.kIn ⟨o,h1,h2⟩ e (λz=>nomatch z) h
 |@dK a kvs ea =>
  cases (show u=GW a from rx);obtain⟨_,_,vs,_,p⟩:=(show cj X.prog X.w H s.heap a (.dK kvs)from I.hok a _ ea);obtain⟨o,es,ep,h1,h2,_⟩:=p;exact PySem.W.kia_one PySem.W.kitx_dict I.kIn ⟨o,h1,h2.1⟩ e (λz=>nomatch z) h
 |@dT a kvs ea =>
  cases (show u=GW a from rx);obtain⟨_,_,xs,_,o,es,ep,h1,h2,_⟩:=(show cj X.prog X.w H s.heap a (.dT kvs)from I.hok a _ ea);exact PySem.W.kia_one PySem.W.kitx_dict I.kIn ⟨o,h1,h2.1⟩ e (λz=>nomatch z) h
 |@ins a C dx fs ea cl ha hn htk hm =>
  cases (show u=GW a from rx);obtain⟨mA,O,_⟩:=rS I.hok ea;obtain⟨od,J,_⟩:=O.look;exact PySem.W.kia_one (PySem.W.kitx_own (cl.get _) cl.hd ha hn htk hm) I.kIn J e (λz=>nomatch z) h
end

structure cE(k:Nat)(A:G_):Prop where
 hd:A.handled=none
 dp:A.depth+3*k+5<recursionLimit
 un:A.units+16*k+200<J2
theorem cE.mono{j k:Nat}{A:G_}(r:cE k A)(h:j<=k):cE j A:=⟨r.hd,by have:=r.dp;omega,by have:=r.un;omega⟩
theorem cE.deeper{k:Nat}{A:G_}(r:cE (k+1) A)(env:Env):cE k (A.deeper env):=
 ⟨r.hd,by have:=r.dp;show A.depth+1+3*k+5<_;omega,by have:=r.un;show A.units+3+16*k+200<_;omega⟩
theorem zg{A:G_}{C:Addr}{us:List F9}{kw:List (Str×F9)}:(A.under (.builtin "type.__call__" ⟨.ref C::us,kw⟩)).depth=A.depth+1:=by
 first|rfl|simp[Ks,Code.weight,Code.isCreation,Code.isGuard,Code.isCaller,Code.frames,Kt,guardIds]
theorem zh{A:G_}{C:Addr}{us:List F9}{kw:List (Str×F9)}:(A.under (.builtin "type.__call__" ⟨.ref C::us,kw⟩)).units=A.units+1:=by
 first|rfl|simp[Ks,Code.cUnits,Code.frames,Kt]
theorem cE.make{k:Nat}{A:G_}(r:cE (k+1) A)(C:Addr)(us:List F9)(kw:List (Str×F9)):cE k (A.under (.builtin "type.__call__" ⟨.ref C::us,kw⟩)):=
 ⟨r.hd,by have:=r.dp;rw[zg];omega,by have:=r.un;rw[zh];omega⟩
theorem cE.depth{k:Nat}{A:G_}(r:cE k A):A.depth<recursionLimit:=by have:=r.dp;omega
theorem cE.units{k:Nat}{A:G_}(r:cE k A):A.units+64<J2:=by have:=r.un;omega
def ux:TA:=λ_ H Q=>Q [] H
def CM(ta:TE)(tr:TA):TA:=λσ H Q=>ta σ H λx H1=>tr σ H1 λxs H2=>Q (x::xs) H2
section
variable {X:Cx}{e:Expr}{es:List Expr}{te:TE}{t:TA}{pos:Pos}
theorem ac:PA X [] ux:=λ_ _ _ _ H Q I h=>Calls.spliced_nil ⟨[],H,I,.nil,h⟩
theorem aa(ha:PE X e te)(hr:PA X es t)(hs:GG (e::es) X.env=(false,eval e X.env)::GG es X.env:=by rfl):PA X (e::es) (CM te t):=by
 intro pos pins s σ H Q I h;rw[hs];show GI _ _ (spliced ((false,eval e X.env)::HR pos (GG es X.env))) _ _ s;refine JE (thn (ha pins s σ H _ I h) λu s1 ⟨x,H1,I1,r1,q1⟩=>?_);exact thn (hr pos pins s1 σ H1 _ I1 q1) λus s2 ⟨xs,H2,I2,r2,q2⟩=>⟨x::xs,H2,I2,.cons r1 r2,q2⟩

def FH(t:TA):TE:=λσ H Q=>t σ H λxs H1=>xs.length<=Gr/\∀p,H1 p=none->Q (.ref p) (upd H1 p (.tup xs))
def Ea(t:TA):TE:=λσ H Q=>t σ H λxs H1=>xs.length<=Gr/\∀p,H1 p=none->Q (.ref p) (upd H1 p (.lst xs))
theorem aY{x1}(h:PA X es t):PE X (.Tuple es x1 pos) (FH t):=by
 intro pins s σ H Q I hq;refine wpAny_Tuple_spliced (thn (h pos pins s σ H _ I hq) λus s1 ⟨xs,H1,I1,r,z,q⟩=>⟨by rw[<-r.length];exact z,?_⟩);have hf:H1 s1.heap.objs.size=none:=I1.hok.fresh (Gh _);refine⟨.ref s1.heap.objs.size,upd H1 s1.heap.objs.size (.tup xs),I1.laid (t':=s1.toks) (λb u e=>Gk _ e) (Gh _) ?_,rfl,q _ hf⟩;exact⟨z,us,r,⟨_,GH _ rfl,rfl,_,rfl⟩⟩
theorem bi(h:PA X es t):PE X (.List es pos) (Ea t):=by
 intro pins s σ H Q I hq;refine wpAny_List_spliced (thn (h pos pins s σ H _ I hq) λus s1 ⟨xs,H1,I1,r,z,q⟩=>⟨by rw[<-r.length];exact z,?_⟩);have hf:H1 s1.heap.objs.size=none:=I1.hok.fresh (Gh _);refine⟨.ref s1.heap.objs.size,upd H1 s1.heap.objs.size (.lst xs),I1.laid (t':=s1.toks) (λb u e=>Gk _ e) (Gh _) ?_,rfl,q _ hf⟩;exact⟨z,us,0,r,GH _ rfl⟩
end

abbrev Sp:=List V->Hp->VK->XK->Prop
abbrev CXT:=List Env->Hp->Gb->XK->F9->Gb->Prop

structure sJ(P:GE)(w:GF)(K:PySem.W.Frag)(mg:Str->Option F9)(base:Heap)(A:G_)(outer:List Env)(s:Gb)(H:Hp):Prop where
 frames:A.frames=some outer
 mod:Mod K mg base
 bs:∀b o,base.get? b=some o->s.heap.get? b=some o/\H b=none
 bsz:base.objs.size<=s.heap.objs.size
 funs:s.heap.FunFrames base outer
 frf:∀b∈frs outer,H b=none
 hok:HOk P w H s.heap
 bare:Jg s.gens
def CE(outer:List Env)(P:GE)(w:GF)(H:Hp)(s:Gb)(Q:VK)(u:F9)(s':Gb):Prop:=
 ∃v H',s'.os=s.os/\Jg s'.gens/\Un (frs outer) [] H H' s.heap s'.heap/\HOk P w H' s'.heap/\bq v u/\Q v H'
def CR(CX:CXT)(outer:List Env)(P:GE)(w:GF)(H:Hp)(s:Gb)(Q:VK)(E:XK)(r:JQ)(s':Gb):Prop:=
 match r with
 |.ok (.ret u)=>CE outer P w H s Q u s'
 |.ok _=>False
 |.error e=>CX outer H s E e s'
structure aX(P:GE)(w:GF)(K:PySem.W.Frag)(mg:Str->Option F9)(base:Heap)(CX:CXT)(k:Nat)(f:Addr)(fd:Gn)(ps:List Str)(sp:Sp):Prop where
 len:∀vs H Q E,sp vs H Q E->vs.length=ps.length
 run:∀(A:G_) (outer:List Env) (s:Gb) (H:Hp) (args:Args) (us:List F9) (vs:List V) (Q:VK) (E:XK),cE k A->sJ P w K mg base A outer s H->BindsTo s fd args (ps.zip us)->a_ vs us->sp vs H Q E->
  Jj (GK P w) A (.call (.ref f) args) (CR CX outer P w H s Q E) s
theorem sJ.make{P:GE}{w:GF}{K:PySem.W.Frag}{mg:Str->Option F9}{base:Heap}{A:G_}{outer:List Env}{s:Gb}{H:Hp}(e:sJ P w K mg base A outer s H)(C:Addr)(us:List F9)(kw:List (Str×F9)) :
  sJ P w K mg base (A.under (.builtin "type.__call__" ⟨.ref C::us,kw⟩)) outer s H:=⟨by first|exact e.frames|(simpa[Ks,Code.envs,Kt,pushEnvs]using e.frames),e.mod,e.bs,e.bsz,e.funs,e.frf,e.hok,e.bare⟩
section
variable {X:Cx}{pins:List (Addr×Obj)}{σ:St}{H:Hp}{s s':Gb}
theorem Inv.env0(I:Inv X pins σ H s):sJ X.prog X.w X.K X.mg X.base X.A X.stack s H:=
 ⟨I.ok.frames,I.ok.mod,I.bs,GM I.ok.bsz I.sz,I.stack,I.stkFree,I.hok,I.bare⟩
theorem Inv.after{Q:VK}{u:F9}(I:Inv X pins σ H s)(h:CE X.stack X.prog X.w H s Q u s'):EP X pins σ Q u s':=by
 obtain⟨v,H',os,bare,un,hok,r,q⟩:=h;obtain⟨hh,g,d,t,os'⟩:=s';obtain rfl:os'=s.os:=os;exact⟨v,H',I.call (h':=hh) (g':=g) (d':=d) (t':=t) (ch:=[]) un hok bare (λb z=>absurd z (by simp)),r,q⟩
end

def zi(sp:Sp)(dvs:List V)(E:XK)(t:TA):TE:=λσ H Q=>t σ H λvs H1=>sp (vs++dvs) H1 Q E
def vX(C:Addr)(m:Str)(sp:Sp)(dvs:List V)(E:XK)(ta:TE)(t:TA):TE:=λσ H Q=>ta σ H λx H1=>∃a dx fs,x=.ref a/\H1 a=some (.ins C dx fs)/\fs.lookup m=none/\
 t σ H1 λvs H2=>sp (x::(vs++dvs)) H2 Q E
def vY(C:Addr)(sp:Sp)(dvs:List V)(E:XK)(t:TA):TE:=λσ H Q=>t σ H λvs H1=>∀x dx,H1 x=none->H1 dx=none->dx≠x->
 sp (.ref x::(vs++dvs)) (upd (upd H1 dx (.own x)) x (.ins C dx [])) (λv H2=>v=.non/\Q (.ref x) H2) E

def gR(K:PySem.W.Frag)(fd:Gn)(ps:List Str)(ds:List F9):Prop:=
 ∀(s:Gb) (us:List F9),K.In s.heap->(us++ds).length=ps.length->BindsTo s fd ⟨us,[]⟩ (ps.zip (us++ds))
theorem gR.all{K:PySem.W.Frag}{fd:Gn}{ps:List Str}(h:∀us:List F9,us.length=ps.length->JT fd ⟨us,[]⟩=pure (ps.zip us)):gR K fd ps []:=λs us _ hl=>by
 rw[GL]at hl⊢;exact .of_eq (h us hl)

def fL(CX:CXT)(X:Cx)(E:XK):Prop:=∀(pins:List (Addr×Obj)) (σ:St) (H:Hp) (s:Gb) (e:F9) (s':Gb),Inv X pins σ H s->CX X.stack H s E e s'->X.xe e s'

section
variable {X:Cx}{CX:CXT}{k:Nat}{f C:Addr}{fd:Gn}{ps:List Str}{sp:Sp}{dvs:List V}{ds:List F9}{E:XK}{x m:Str}{p pos apos:Pos}{e o:Expr}{es:List Expr}{ta:TE}{t:TA}

theorem wQ{pins:List (Addr×Obj)}{σ:St}{H:Hp}{s:Gb}{Q:VK}{us:List F9}{vs:List V}(F:aX X.prog X.w X.K X.mg X.base CX k f fd ps sp)(hr:cE k X.A)(hb:gR X.K fd ps ds)(hd:a_ dvs ds)(hx:fL CX X E)
  (I:Inv X pins σ H s)(r:a_ vs us)(h:sp (vs++dvs) H Q E):GI (GK X.prog X.w) X.A (call (.ref f) us) (EP X pins σ Q) X.xe s:=by
 have r2:a_ (vs++dvs) (us++ds):=r.append hd;have hl:(us++ds).length=ps.length:=by rw[<-r2.length];exact F.len _ _ _ _ h
 refine KI (Jz (F.run X.A X.stack s H ⟨us,[]⟩ (us++ds) (vs++dvs) Q E hr I.env0 (hb s us I.kIn hl) r2 h) λr s' hq=>?_);cases r with
 |error e=>exact hx pins σ H s e s' I hq
 |ok fl =>
  cases fl with
  |ret u=>exact I.after hq
  |next=>exact Hx hq
  |brk=>exact Hx hq
  |cont=>exact Hx hq

theorem yE(F:aX X.prog X.w X.K X.mg X.base CX k f fd ps sp)(hr:cE k X.A)(hg:Gl X x)(hm:X.mg x=some (.ref f))(hk:PySem.W.keepIn X.K (.ref f)=true)(hb:gR X.K fd ps ds)(hd:a_ dvs ds)(hx:fL CX X E)
  (ha:PA X (e::es) t)(hdb:(x==("__debug__" : Str))=false:=by decide)(he:GG (e::es) X.env=(false,eval e X.env)::GG es X.env:=by rfl)(hpl:(HR pos (GG es X.env)).any (·.1)=false:=by rfl) :
  PE X (.Call (.Name x p) (e::es) [] pos) (zi sp dvs E t):=by
 intro pins s σ H Q I h;refine HS (jF I hg hm ?_ hdb);refine PySem.W.callWith_K (h₀:=X.base) I.ok.mod.kin hk (thn (ha pos pins s σ H _ I h) λus s1 ⟨vs,H1,I1,r,q⟩=>⟨I1.kIn,?_⟩) he hpl;exact wQ F hr hb hd hx I1 r q
theorem C_{pl:Sem Bool}(he:PE X o ta)(c:Cls X.K C)(hm:zd X.K C m f)(F:aX X.prog X.w X.K X.mg X.base CX k f fd ps sp)(hr:cE k X.A)(hb:gR X.K fd ps ds)(hd:a_ dvs ds)(hx:fL CX X E)(ha:PA X (e::es) t)
  (hst:GG (e::es) X.env=(false,eval e X.env)::GG es X.env:=by rfl)(hpl:(HR pos (GG es X.env)).any (·.1)=false:=by rfl)
  (ht:eval (.Call (.Attribute o m apos) (e :: es) [] pos) X.env=(do
   let ov<-eval o X.env
   Kq apos.atName
   let(f,first)<-Jy [ov] (JS ov m pl)
   KJ pos f first (HR pos (GG (e::es) X.env)) (J9 pos (Jl [] X.env))):=by rfl) :
  PE X (.Call (.Attribute o m apos) (e::es) [] pos) (vX C m sp dvs E ta t):=by
 intro pins s σ H Q I h;refine PySem.W.methodCall_KW (pl:=pl) (thn (he pins s σ H _ I h) λu s1 ⟨x,H1,I1,rx,a,dx,fs,ex,ea,l,q⟩=>?_) ht;subst ex;obtain rfl:u=GW a:=rx;refine tZ I1 ea c hm l ?_;refine PySem.W.callWith_K (first:=[.ref a]) (h₀:=X.base) I.ok.mod.kin hm.kp (thn (ha pos pins s1 σ H1 _ I1 q) λus s2 ⟨vs,H2,I2,r,q2⟩=>⟨I2.kIn,?_⟩) hst hpl
 exact wQ (us:=.ref a::us) (vs:=.ref a::vs) F hr hb hd hx I2 (.cons rfl r) q2
theorem BP{pl:Sem Bool}(he:PE X o ta)(c:Cls X.K C)(hm:zd X.K C m f)(F:aX X.prog X.w X.K X.mg X.base CX k f fd ps sp)(hr:cE k X.A)(hb:gR X.K fd ps ds)(hd:a_ dvs ds)(hx:fL CX X E)
  (ht:eval (.Call (.Attribute o m apos) [] [] pos) X.env=(do
   let ov<-eval o X.env
   Kq apos.atName
   let(f,first)<-Jy [ov] (JS ov m pl)
   KJ pos f first (HR pos (GG [] X.env)) (J9 pos (Jl [] X.env))):=by rfl) :
  PE X (.Call (.Attribute o m apos) [] [] pos) (vX C m sp dvs E ta ux):=by
 intro pins s σ H Q I h;refine PySem.W.methodCall_KW (pl:=pl) (thn (he pins s σ H _ I h) λu s1 ⟨x,H1,I1,rx,a,dx,fs,ex,ea,l,q⟩=>?_) ht;subst ex;obtain rfl:u=GW a:=rx;refine tZ I1 ea c hm l ?_;exact PySem.W.callWith_K0 (first:=[.ref a]) I1.kIn hm.kp (wQ (us:=[.ref a]) (vs:=[.ref a]) F hr hb hd hx I1 (.cons rfl .nil) q)

structure Mk(K:PySem.W.Frag)(C f:Addr):Prop where
 makes:PySem.W.makesIn K C=true
 init:PySem.W.findIn K (.ref C) "__init__" = some (some (.ref f))
 fn:PySem.W.isFn K (.ref f)=true
 kp:PySem.W.keepIn K (.ref C)=true

theorem wR{pins:List (Addr×Obj)}{σ:St}{H:Hp}{s:Gb}{Q:VK}{us:List F9}{vs:List V}(M:Mk X.K C f)(F:aX X.prog X.w X.K X.mg X.base CX k f fd ps sp)(hr:cE (k+1) X.A)(hb:gR X.K fd ps ds)(hd:a_ dvs ds)
  (hx:fL CX X E)(I:Inv X pins σ H s)(r:a_ vs us)
  (h:∀x dx,H x=none->H dx=none->dx≠x->sp (.ref x::(vs++dvs)) (upd (upd H dx (.own x)) x (.ins C dx [])) (λv H2=>v=.non/\Q (.ref x) H2) E) :
  GI (GK X.prog X.w) X.A (call (.ref C) us) (EP X pins σ Q) X.xe s:=by
 have hq:=h (s.heap.objs.size+1) s.heap.objs.size (I.hok.fresh (HN _)) (I.hok.fresh (Gh _)) (Gw (Ic _));have I2:=Inv.made (C:=C) I;have r2:a_ (V.ref (s.heap.objs.size+1)::(vs++dvs)) (GW (s.heap.objs.size+1)::(us++ds)):=.cons rfl (r.append hd);have hl:(GW (s.heap.objs.size+1)::us++ds).length=ps.length:=by
  have e:=r2.length;rw[F.len _ _ _ _ hq]at e;exact e.symm
 refine KI (BO (f:=f) I.kIn M.makes M.init (beq_iff_eq.mp M.fn) (Jz (F.run _ X.stack _ _ ⟨GW (s.heap.objs.size+1)::us,[]⟩ (GW (s.heap.objs.size+1)::(us++ds)) _ _ E (hr.make C us [])
  (I2.env0.make C us []) (hb _ (GW (s.heap.objs.size+1)::us) I2.kIn hl) r2 hq) λr s' hq'=>?_))
 cases r with
 |error e=>exact hx pins σ _ _ e s' I2 hq'
 |ok fl =>
  cases fl with
  |ret u =>
   obtain⟨v,H',I3,rv,ev,q3⟩:=I2.after hq';subst ev;exact⟨rv,⟨V.ref (s.heap.objs.size+1),H',I3,rfl,q3⟩⟩
  |next=>exact Hx hq'
  |brk=>exact Hx hq'
  |cont=>exact Hx hq'
theorem Da(M:Mk X.K C f)(F:aX X.prog X.w X.K X.mg X.base CX k f fd ps sp)(hr:cE (k+1) X.A)(hg:Gl X x)(hm:X.mg x=some (.ref C))(hb:gR X.K fd ps ds)(hd:a_ dvs ds)(hx:fL CX X E)
  (ha:PA X (e::es) t)(hdb:(x==("__debug__" : Str))=false:=by decide)(he:GG (e::es) X.env=(false,eval e X.env)::GG es X.env:=by rfl)(hpl:(HR pos (GG es X.env)).any (·.1)=false:=by rfl) :
  PE X (.Call (.Name x p) (e::es) [] pos) (vY C sp dvs E t):=by
 intro pins s σ H Q I h;refine HS (jF I hg hm ?_ hdb);refine PySem.W.callWith_K (h₀:=X.base) I.ok.mod.kin M.kp (thn (ha pos pins s σ H _ I h) λus s1 ⟨vs,H1,I1,r,q⟩=>⟨I1.kIn,?_⟩) he hpl;exact wR M F hr hb hd hx I1 r q
theorem BQ(M:Mk X.K C f)(F:aX X.prog X.w X.K X.mg X.base CX k f fd ps sp)(hr:cE (k+1) X.A)(hg:Gl X x)(hm:X.mg x=some (.ref C))(hb:gR X.K fd ps ds)(hd:a_ dvs ds)(hx:fL CX X E)
  (hdb:(x==("__debug__" : Str))=false:=by decide):PE X (.Call (.Name x p) [] [] pos) (vY C sp dvs E ux):=by
 intro pins s σ H Q I h;refine HS (jF I hg hm ?_ hdb);exact PySem.W.callWith_K0 I.kIn M.kp (wR (us:=[]) M F hr hb hd hx I .nil h)
end

section
variable {X:Cx}{CX:CXT}{k:Nat}{f C:Addr}{fd:Gn}{ps ks:List Str}{sp:Sp}{E:XK}{x m:Str}{p pos apos kpos:Pos}{e o:Expr}{es:List Expr}{kws:List KC}{te ta:TE}{t tk:TA}{nm:Option Str}
variable {g:List F9->List F9->List F9}{gV:List V->List V->List V}
end

structure aK(N P:List Str)(sc:Scope):Prop where
 kind:sc.kind=.function
 co:sc.isCoroutine=false
 gen:sc.isGenerator=false
 nd:N.Nodup
 pre:N.take P.length=P
 par:∀x∈P,sc.names.lookup x=some .local\/sc.names.lookup x=some .cell
 nofree:∀y∈sc.names,y.2≠.free

theorem u5{Je:Str->Option J_}{x:Str}:∀{binds:List (Str×F9)} {m:Str->Option F9},(∀v,(x,v)∉binds)->KL Je binds m x=m x
 |[],_,_=>rfl
 |(n,v)::r,m,h=>by
  unfold KL;rw[u5 λw hw=>h w (Gc _ hw)]
  split
  .have:x≠n:=by rintro rfl;exact h v Gd
   simp[this]
  .rfl
theorem u6{Je:Str->Option J_}{x:Str}:∀{binds:List (Str×F9)} {m:Str->Option F9},(∀v,(x,v)∉binds)->KM Je binds m x=m x
 |[],_,_=>rfl
 |(n,v)::r,m,h=>by
  unfold KM;rw[u6 λw hw=>h w (Gc _ hw)]
  split
  .rfl
  .have:x≠n:=by rintro rfl;exact h v Gd
   simp[this]
theorem u7{Je:Str->Option J_}{x:Str}{v:F9}:∀{P:List Str} {vs:List F9} {i:Nat} {m:Str->Option F9},P.Nodup->P[i]?=some x->vs[i]?=some v->Je x=some .local->
  KL Je (P.zip vs) m x=some v
 |[],_,_,_,_,h,_,_=>by simp at h
 |_::_,[],_,_,_,_,h,_=>by simp at h
 |p::P,w::vs,0,m,nd,h1,h2,hk=>by
  simp at h1 h2;subst h1;subst h2;show KL Je ((p,w)::P.zip vs) m p=_;unfold KL;rw[u5 λv hv=>(List.nodup_cons.mp nd).1 (J3 hv).1,if_pos hk];simp
 |p::P,w::vs,i+1,m,nd,h1,h2,hk=>by
  show KL Je ((p,w)::P.zip vs) m x=_;unfold KL;exact u7 (i:=i) (List.nodup_cons.mp nd).2 (by simpa using h1) (by simpa using h2) hk
theorem u8{Je:Str->Option J_}{x:Str}{v:F9}:∀{P:List Str} {vs:List F9} {i:Nat} {m:Str->Option F9},P.Nodup->P[i]?=some x->vs[i]?=some v->Je x≠some .local->
  KM Je (P.zip vs) m x=some v
 |[],_,_,_,_,h,_,_=>by simp at h
 |_::_,[],_,_,_,_,h,_=>by simp at h
 |p::P,w::vs,0,m,nd,h1,h2,hk=>by
  simp at h1 h2;subst h1;subst h2;show KM Je ((p,w)::P.zip vs) m p=_;unfold KM;rw[u6 λv hv=>(List.nodup_cons.mp nd).1 (J3 hv).1,if_neg hk];simp
 |p::P,w::vs,i+1,m,nd,h1,h2,hk=>by
  show KM Je ((p,w)::P.zip vs) m x=_;unfold KM;exact u8 (i:=i) (List.nodup_cons.mp nd).2 (by simpa using h1) (by simpa using h2) hk

def i_(N:List Str)(vs:List V):St:=vs.map some++Gp (N.length-vs.length) none

def mH(CX:CXT)(P:GE)(w:GF)(K:PySem.W.Frag)(mg:Str->Option F9)(base:Heap)(N:List Str)(qual:Str)(scope:Scope)(f:Addr)(cd:F9)(A:G_)(outer:List Env)(s:Gb)(H:Hp)(E:XK):Cx where
 prog:=P
 w:=w
 K:=K
 mg:=mg
 base:=base
 A:=A.deeper (HE qual scope s.heap.objs.size f cd)
 N:=N
 s₀:=s
 H₀:=H
 env:=HE qual scope s.heap.objs.size f cd
 outer:=outer
 stack:=HE qual scope s.heap.objs.size f cd::outer
 ex:=[]
 calm:=true
 fn:=λ_=>true
 pn:=[]
 xe:=λe s'=>GI (GK P w) (A.deeper (HE qual scope s.heap.objs.size f cd)) (leaving (HE qual scope s.heap.objs.size f cd) e) (λ_ s''=>CX outer H s E e s'') (λe' s''=>CX outer H s E e' s'') s'

theorem wS{sc:Scope}{n:Nat}{x:Str}(h:sc.names.lookup x=some .cell):∃c,(cellsFrom n sc.names []).lookup x=some c:=by
 have q:=PySem.W.cellsFrom_some sc.names n [] (.inl h);exact Option.isSome_iff_exists.mp q

theorem Au{CX:CXT}{P:GE}{w:GF}{K:PySem.W.Frag}{mg:Str->Option F9}{base:Heap}{N ps:List Str}{qual:Str}{scope:Scope}{f:Addr}{cd:F9}{A:G_}{outer:List Env}{s s1:Gb}{H:Hp}{E:XK}{us:List F9}{vs:List V}
  (S:aK N ps scope)(hd:A.handled=none)(e0:sJ P w K mg base A outer s H)(hl:vs.length=ps.length)(r:a_ vs us)
  (x:InCallC s s.heap.objs.size (KL (HE qual scope s.heap.objs.size f cd).kindOf (ps.zip us) λ_=>none) (cellsFrom (s.heap.objs.size+1) scope.names []) (KM (HE qual scope s.heap.objs.size f cd).kindOf (ps.zip us) λ_=>none) s1) :
  Inv (mH CX P w K mg base N qual scope f cd A outer s H E) [] (i_ N vs) H s1:=by
 have hpl:ps.length<=N.length:=by have:=congrArg Ka S.pre;rw[GD]at this;omega
 obtain⟨h1,tk,rfl,hk⟩:=x.done;have noA:∀b:Addr,b∉(mH CX P w K mg base N qual scope f cd A outer s H E).ex:=λb z=>absurd (show b∈([]:List Addr)from z) (by simp);refine⟨⟨e0.mod,S.kind,rfl,rfl,Gh _,λy z c h1 h2=>?_,λy hy=>?_,λy c _ h=>?_,λ_=>hd,Around.frames_deeper e0.frames,.inr ⟨rfl,rfl⟩,λb z=>absurd z (noA b),e0.bs,e0.bsz,λb _ _=>noA b,λb z=>absurd z (noA b),e0.funs,e0.frf⟩,
  rfl,e0.bare,Un.kept hk,⟨_,x.toInCall.ns,λi y v h1 h2 h3=>?_⟩,λy c h=>⟨_,x.cell y c h⟩,e0.hok.fresh (Gh _),λy c h=>?_,λp hp=>absurd (show p∈([]:List (Addr×Obj))from hp) (by simp),e0.hok.kept hk,?_⟩
 .exact name_of_addr x.apart (PySem.mem_of_lookup h1) (PySem.mem_of_lookup h2)
 .have hy:scope.names.lookup y=some .cell\/scope.names.lookup y=some .free:=hy;rcases hy with hy|hy
  .exact wS hy
  .exact absurd rfl (S.nofree _ (PySem.mem_of_lookup hy))
 .exact GR (x.above y c (PySem.mem_of_lookup h))
 .have hi:i<vs.length:=by
   unfold i_ at h2;by_cases hi:i<vs.length
   .exact hi
   .rw[HU (by simpa using hi)]at h2;rw[List.getElem?_replicate]at h2
    split at h2<;>cases h2
  have ha:vs[i]?=some v:=by
   unfold i_ at h2;rw[IC (by simpa using hi),GA]at h2;cases e:vs[i]? with
   |none=>rw[e]at h2;cases h2
   |some a=>rw[e]at h2;cases h2;rfl
  obtain⟨u,hu,rv⟩:=r.get ha;have hp:ps[i]?=some y:=by
   rw[<-S.pre,List.getElem?_take_of_lt (by omega)];exact h1
  have ndP:ps.Nodup:=by rw[<-S.pre];exact S.nd.sublist (List.take_sublist _ _)
  refine⟨u,rv,?_⟩;rcases S.par y (Ge hp)with k|k
  .exact .inl ⟨k,u7 ndP hp hu k⟩
  .obtain⟨c,e⟩:=wS (n:=s.heap.objs.size+1) k;refine .inr ⟨.inl k,c,e,?_⟩;have q:=x.cell y c e;rw[u8 ndP hp hu (by show scope.names.lookup y≠_;rw[k];decide)]at q;exact q
 .exact e0.hok.fresh (GR (x.above y c (PySem.mem_of_lookup h)))
 .unfold i_;show _=N.length;rw[F7,F6,Ha];omega

theorem zj{CX:CXT}{P:GE}{w:GF}{K:PySem.W.Frag}{mg:Str->Option F9}{base:Heap}{k:Nat}{f:Addr}{name qual:Str}{params:Arguments}{body:List Stmt}{scope:Scope}{dV kV doc pm cdv ct oc:F9}{an od:Option Addr}
  {osl:Array (Option F9)}{N ps:List Str}{sp:Sp}(lk:K.lookup f=some ⟨oc,od,.func (PySem.W.fnOf name qual params body scope dV kV doc pm an cdv ct),osl⟩)(hcd:PySem.W.codeIn K cdv qual=true)(S:aK N ps scope)
  (len:∀vs H Q E,sp vs H Q E->vs.length=ps.length)
  (hbody:∀ (A:G_) (outer:List Env) (s:Gb) (H:Hp) (vs:List V) (Q:VK) (E:XK),cE k (A.deeper (HE qual scope s.heap.objs.size f cdv))→sp vs H Q E →
   ∃t,PSs (mH CX P w K mg base N qual scope f cdv A outer s H E) body t/\t { nx:=λ_ H'=>Q .non H',rt:=Q } (i_ N vs) H) :
  aX P w K mg base CX (k+1) f (PySem.W.fnOf name qual params body scope dV kV doc pm an cdv ct) ps sp:=by
 refine⟨len,λA outer s H args us vs Q E hr e0 hb r hsp=>?_⟩;have hl:=len _ _ _ _ hsp;have KX:K.In s.heap:=e0.mod.kin.keeps λb o e=>(e0.bs b o e).1;have lim:s.heap.NoLimit:=e0.mod.nolimit.keeps λb o e=>(e0.bs b o e).1;have hkind:∀y∈ps.zip us,scope.names.lookup y.1=some .local\/(scope.names.lookup y.1=some .cell/\((cellsFrom (s.heap.objs.size+1) scope.names []).lookup y.1).isSome=true):=λ⟨n,v⟩ hy=>by
  rcases S.par n (J3 hy).1 with q|q
  .exact .inl q
  .exact .inr ⟨q,PySem.W.cellsFrom_some _ _ _ (.inl q)⟩
 refine codeAny_call_function hr.depth (KX _ _ lk) rfl S.co S.gen rfl (PySem.W.codeRec_of KX hcd) (hb _ _ _ _ ?_);refine wpAny_newFunctionEnv_cells S.kind hkind λenv he s1 x=>?_;subst he;refine⟨lim.keeps x.toInCall.keep,codeAny_func ?_⟩;obtain⟨t,ht,hq⟩:=hbody A outer s H vs Q E (hr.deeper _) hsp;have I:Inv (mH CX P w K mg base N qual scope f cdv A outer s H E) [] (i_ N vs) H s1:=Au S hr.hd e0 hl r x;refine He (ht [] s1 (i_ N vs) H _ I hq) (λfl s' hs=>?_) λe s' hs=>hs;have fin:∀{σ':St} {H':Hp} {v:V} {u:F9},Inv (mH CX P w K mg base N qual scope f cdv A outer s H E) [] σ' H' s'->bq v u->Q v H'->CE outer P w H s Q u s':=
  λ{σ' H' v u} J rv q=>⟨v,H',J.os,J.bare,J.base,J.hok,rv,q⟩
 cases fl with
 |ret u =>
  obtain⟨v,σ',H',J,rv,q⟩:=hs;exact fin J rv q
 |next =>
  obtain⟨σ',H',J,q⟩:=hs;exact fin (v:=V.non) (u:=IL) J rfl q
 |brk =>
  obtain⟨_,_,_,q⟩:=hs;exact Hx q
 |cont =>
  obtain⟨_,_,_,q⟩:=hs;exact Hx q
section
variable {X:Cx}{x:Str}{p pos:Pos}{e:Expr}{es:List Expr}{t:TA}{id T:String}{r:List V->Hp->VK->Prop}

def tCB(r:List V->Hp->VK->Prop)(t:TA):TE:=λσ H Q=>t σ H λvs H1=>r vs H1 Q
theorem aF(hc:gQ X (.builtin id) r)(hg:Gl X x)(hm:X.mg x=none)(hv:Iu x=some (.builtin id))(ha:PA X (e::es) t)(hn:x≠"__name__":=by decide)(hdb:(x==("__debug__" : Str))=false:=by decide)
  (he:GG (e::es) X.env=(false,eval e X.env)::GG es X.env:=by rfl)(hpl:(HR pos (GG es X.env)).any (·.1)=false:=by rfl):PE X (.Call (.Name x p) (e::es) [] pos) (tCB r t):=by
 intro pins s σ H Q I h;refine HS (nG I hg hm hv ?_ hn hdb);exact PyProof.Rows.callWith_builtin1 (thn (ha pos pins s σ H _ I h) λus s1 ⟨vs,H1,I1,r1,q1⟩=>hc pins s1 σ H1 vs us Q I1 r1 q1) he hpl
theorem mj(hc:gQ X (.type T) r)(hg:Gl X x)(hm:X.mg x=none)(hv:Iu x=some (.type T))(ha:PA X (e::es) t)(hn:x≠"__name__":=by decide)(hdb:(x==("__debug__" : Str))=false:=by decide)
  (he:GG (e::es) X.env=(false,eval e X.env)::GG es X.env:=by rfl)(hpl:(HR pos (GG es X.env)).any (·.1)=false:=by rfl):PE X (.Call (.Name x p) (e::es) [] pos) (tCB r t):=by
 intro pins s σ H Q I h;refine HS (nG I hg hm hv ?_ hn hdb);exact HL (thn (ha pos pins s σ H _ I h) λus s1 ⟨vs,H1,I1,r1,q1⟩=>hc pins s1 σ H1 vs us Q I1 r1 q1) he hpl
end
end L2

namespace HT
open PySem PyProof.Rows

section
open PySem.SeqAt
open PySem.AutoSeq1 (wpAny_loadPart')
open PySem.MeetsSeq PySem.MeetsSeq2 PySem.MeetsSeq3

end

section
variable {prog:GE}{w:GF}{A:G_}{E:F9->Gb->Prop}{s:Gb}

def sIx(n d:Nat):Option Int->Nat
 |none=>d
 |some v=>if v<0 then(v+(n:Int)).toNat else min v.toNat n
theorem sIx_none(n d:Nat):sIx n d none=d:=rfl
theorem sIx_nat(n d k:Nat):sIx n d (some (k:Int))=min k n:=by
 show(if(k:Int)<0 then((k:Int)+(n:Int)).toNat else min (k:Int).toNat n)=min k n;rw[if_neg (by omega),IW]
theorem sIx_le(n d:Nat)(hd:d<=n)(o:Option Int):sIx n d o<=n:=by
 cases o with
 |none=>exact hd
 |some v =>
  show(if v<0 then(v+(n:Int)).toNat else min v.toNat n)<=n;by_cases hv:v<0
  .rw[if_pos hv];omega
  .rw[if_neg hv];exact Nat.min_le_right _ _
end
end HT

namespace L2
open PySem PySem.Spec PyProof.Rows

abbrev TO:=St->Hp->(Option Int->Hp->Prop)->Prop
def PO(X:Cx)(e:Option Expr)(t:TO):Prop:=
 ∀(pins:List (Addr×Obj)) (s:Gb) (σ:St) (H:Hp) (Q:Option Int->Hp->Prop),Inv X pins σ H s->t σ H Q->
  GI (GK X.prog X.w) X.A (evalPart e X.env) (λu s'=>∃o H',Inv X pins σ H' s'/\IsPart u o/\Q o H') X.xe s
def Db:TO:=λ_ H Q=>Q none H
def E8(t:TE):TO:=λσ H Q=>t σ H λx H1=>∃i,x=.int i/\Q (some i) H1

section
variable {X:Cx}{e:Expr}{te:TE}{lo hi:Option Expr}{tl th:TO}{pos p2:Pos}

theorem eZ:PO X none Db:=by
 intro pins s σ H Q I h;rw[evalPart_none];exact Hc ⟨none,H,I,.none,h⟩
theorem dS(h:PE X e te):PO X (some e) (E8 te):=by
 intro pins s σ H Q I hw;rw[evalPart_some];refine thn (h pins s σ H _ I hw) λu s1 ⟨x,H1,I1,r1,q1⟩=>?_;obtain⟨i,rfl,q⟩:=q1;obtain⟨t,rfl⟩:=r1;exact⟨some i,H1,I1,.int i t,q⟩

def SlR(X:Cx)(r:V->Option Int->Option Int->Hp->VK->Prop):Prop:=
 ∀(pins:List (Addr×Obj)) (s:Gb) (σ:St) (H:Hp) (x:V) (v vl vu:F9) (lo hi:Option Int) (sl:Addr) (Q:VK),Inv X pins σ H s->bq x v->s.heap.IsSliceOf sl vl vu .none->IsPart vl lo->IsPart vu hi->r x lo hi H Q->
  ∃T id,Km (.type T) "__getitem__" = pure (some (.builtin id))/\s.TypeIs v T/\GI (GK X.prog X.w) X.A (Ku v (.ref sl)) (EP X pins σ Q) X.xe s
def tSl(r:V->Option Int->Option Int->Hp->VK->Prop)(te:TE)(tl th:TO):TE:=λσ H Q=>te σ H λx H1=>tl σ H1 λl H2=>th σ H2 λu H3=>r x l u H3 Q
theorem dC{r:V->Option Int->Option Int->Hp->VK->Prop}(hr:SlR X r)(he:PE X e te)(hl:PO X lo tl)(hu:PO X hi th):PE X (.Subscript e (.Slice lo hi none p2) pos) (tSl r te tl th):=by
 intro pins s σ H Q I h;refine KN (thn (he pins s σ H _ I h) λv s1 ⟨x,H1,I1,r1,q1⟩=>?_);refine wpAny_Slice (thn (hl pins s1 σ H1 _ I1 q1) λvl s2 ⟨l,H2,I2,pl,q2⟩=>thn (hu pins s2 σ H2 _ I2 q2) λvu s3 ⟨u,H3,I3,pu,q3⟩=>?_);rw[evalPart_none];refine Hc ?_;have I4:Inv X pins σ H3 { s3 with heap:=s3.heap.push { cls:=.type "slice",data:=.fields #[vl,vu,.none] } }:=I3.kept (t':=s3.toks) λb ob q=>Gk _ q;obtain⟨T,id,hT,ht,hg⟩:=hr pins { s3 with heap:=s3.heap.push { cls:=.type "slice",data:=.fields #[vl,vu,.none] } } σ H3 x v vl vu l u s3.heap.objs.size Q I4 r1 (Heap.IsSliceOf.new ..) pl pu q3;show GI (GK X.prog X.w) X.A (Kh e (.Slice lo hi none p2) v (.ref s3.heap.objs.size)) (EP X pins σ Q) X.xe { s3 with heap:=s3.heap.push { cls:=.type "slice",data:=.fields #[vl,vu,.none] } };exact tail_any (ops:=[.ref s3.heap.objs.size,v]) ht hT hg (by with_unfolding_all rfl)

def gX(xs:List V)(lo hi:Option Int):List V:=(xs.drop (HT.sIx xs.length 0 lo)).take (HT.sIx xs.length xs.length hi-HT.sIx xs.length 0 lo)
theorem yh(xs:List V)(lo hi:Option Int):(gX xs lo hi).length<=xs.length:=by
 unfold gX;rw[GD,Iw];omega
end

def ixN(n:Nat)(i:Int):Option Nat:=if 0<=i then(if i<n then some i.toNat else none)else if -(n:Int)<=i then some (i+n).toNat else none
def atI{α:Type}(xs:List α)(i:Int):Option α:=(ixN xs.length i).bind λj=>xs[j]?
theorem yF{n:Nat}{i:Int}{j:Nat}(h:ixN n i=some j):seqIndex? i n=some j/\j<n/\-(n:Int)<=i/\i<n:=by
 unfold ixN at h;by_cases h0:0<=i
 .rw[if_pos h0]at h;by_cases h1:i<n
  .rw[if_pos h1]at h;have e:i.toNat=j:=GU h;exact⟨by rw[KA h0 h1,e],by omega,by omega,h1⟩
  .rw[if_neg h1]at h;cases h
 .rw[if_neg h0]at h;by_cases h1:-(n:Int)<=i
  .rw[if_pos h1]at h;have e:(i+n).toNat=j:=GU h;exact⟨by rw[Kv (by omega) h1,e],by omega,h1,by omega⟩
  .rw[if_neg h1]at h;cases h
theorem uy{α:Type}{xs:List α}{i:Int}{v:α}(h:atI xs i=some v):∃j,seqIndex? i xs.length=some j/\xs[j]?=some v/\j<xs.length/\-(xs.length:Int)<=i/\i<xs.length:=by
 unfold atI at h;cases e:ixN xs.length i with
 |none=>rw[e]at h;cases h
 |some j =>
  rw[e]at h;obtain⟨h1,h2,h3,h4⟩:=yF e;exact⟨j,h1,h,h2,h3,h4⟩
theorem cp{α:Type}{xs:List α}{j:Nat}{v:α}(h:xs[j]?=some v):atI xs (j:Int)=some v:=by
 have hj:j<xs.length:=(List.getElem?_eq_some_iff.mp h).1;have e:ixN xs.length (j:Int)=some j:=by
  unfold ixN;rw[if_pos (by omega),if_pos (by omega)];simp
 unfold atI;rw[e];exact h
def Dc(b:Expr):Prop:=∀o i,Kb b false o i=operate [o,i] (Ku o i)
def IxR(X:Cx)(r:R2):Prop:=
 ∀(value slice:Expr) (pins:List (Addr×Obj)) (s:Gb) (σ:St) (H:Hp) (x y:V) (v u:F9) (Q:VK),Inv X pins σ H s->bq x v->bq y u->r x y H Q->
  Kb slice false v u=operate [v,u] (Ku v u)->GI (GK X.prog X.w) X.A (Kh value slice v u) (EP X pins σ Q) X.xe s
def MtR(X:Cx)(id:String)(r:V->List V->Hp->VK->Prop):Prop:=
 ∀(pins:List (Addr×Obj)) (s:Gb) (σ:St) (H:Hp) (x:V) (xs:List V) (v:F9) (us:List F9) (Q:VK),Inv X pins σ H s->bq x v->a_ xs us->r x xs H Q->
  GI (GK X.prog X.w) X.A (call (.builtin id) (v::us)) (EP X pins σ Q) X.xe s
section
variable {X:Cx}{a b:Expr}{ta tb:TE}{pos:Pos}
theorem IxR.or{r r':R2}(h:IxR X r)(h':IxR X r'):IxR X (λx y H Q=>r x y H Q\/r' x y H Q):=by
 intro value slice pins s σ H x y v u Q I rx ry q hs;rcases q with q|q
 .exact h value slice pins s σ H x y v u Q I rx ry q hs
 .exact h' value slice pins s σ H x y v u Q I rx ry q hs
theorem aC{r:R2}(hr:IxR X r)(ha:PE X a ta)(hb:PE X b tb)(hs:Dc b):PE X (.Subscript a b pos) (tOp r ta tb):=by
 intro pins s σ H Q I h;exact KN (BK ha hb I h λv u s2 x y H2 I2 rx ry q=>hr a b pins s2 σ H2 x y v u Q I2 rx ry q (hs _ _))

def BR(K:PySem.W.Frag):R2:=λx y H Q=>∃p xs i v,x=.ref p/\y=.int i/\SqL K H p xs/\atI xs i=some v/\Q v H
def jG(K:PySem.W.Frag):R2:=λx y H Q=>∃p xs i v,x=.ref p/\y=.int i/\SqT K H p xs/\atI xs i=some v/\Q v H
def Eb:R2:=λx y H Q=>∃z i c,x=.str z/\y=.int i/\z.length<=Gr/\atI z.cps.toList i=some c/\Q (.str ⟨#[c]⟩) H
theorem bF:IxR X (BR X.K):=by
 intro value slice pins s σ H x y v u Q I rx ry h hs;obtain⟨p,xs,i,z,rfl,rfl,hq,he,q⟩:=h;cases rx;obtain⟨t,rfl⟩:=ry;obtain⟨its,r,pl,hz⟩:=I.list hq;obtain⟨j,h1,h2,h3,h4,h5⟩:=uy he;obtain⟨w,ew,rw'⟩:=r.get h2;have hl:=r.length;have hn:=li;have fin:EP X pins σ Q w s:=⟨z,H,I,rw',q⟩;by_cases h0:0<=i
 .have hj:i.toNat=j:=by
   rw[KA h0 h5]at h1;exact GU h1
  exact item_listR pl.isList h0 (by omega) (by rw[hj];simpa using ew) fin hs
 .have hj:(i+(its.toArray.size:Int)).toNat=j:=by
   rw[Kv (by omega) h4]at h1;rw[Gx,<-hl];exact GU h1
  exact subscriptTail_builtinR (x:=w) pl.isList.typeIs slot_list_getitem.lookup
   (wpAny_getItem_list_neg (Q:=λr s'=>r=w/\EP X pins σ Q r s') pl.isList (by omega) (by rw[Gx]<;>omega) (by omega) (by rw[hj];simpa using ew) ⟨rfl,fin⟩) hs
theorem aS:IxR X (jG X.K):=by
 intro value slice pins s σ H x y v u Q I rx ry h hs;obtain⟨p,xs,i,z,rfl,rfl,hq,he,q⟩:=h;cases rx;obtain⟨t,rfl⟩:=ry;obtain⟨its,r,pl,hz⟩:=I.tuple hq;obtain⟨j,h1,h2,h3,h4,h5⟩:=uy he;obtain⟨w,ew,rw'⟩:=r.get h2;have hl:=r.length;have hn:=li;have fin:EP X pins σ Q w s:=⟨z,H,I,rw',q⟩;exact subscriptTail_builtinR (x:=w) pl.typeIs slot_tuple_getitem.lookup
  (getItem_tuple (j:=j) (Q:=λr s'=>r=w/\EP X pins σ Q r s') pl (by omega) (by omega) (by rw[Gx,<-hl];exact h1) (by simpa using ew) ⟨rfl,fin⟩) hs
theorem eK:IxR X Eb:=by
 intro value slice pins s σ H x y v u Q I rx ry h hs;obtain⟨z,i,c,rfl,rfl,hz,he,q⟩:=h;obtain⟨t,rfl⟩:=rx;obtain⟨t',rfl⟩:=ry;obtain⟨j,h1,h2,h3,h4,h5⟩:=uy he;have hl:z.cps.toList.length=z.length:=by simp[Str.length]
 rw[hl]at h1 h4 h5;have hn:=li;exact tail_any (JF s z t) slot_str_getitem.lookup (getItem_str (c:=c) (by
  have e1:decide (i < -(2^63:Int))=false:=decide_eq_false (by omega);have e2:decide (i>=2^63)=false:=decide_eq_false (by omega);rw[e1,e2,Bool.or_false]) (by rw[h1];simpa using h2) ⟨.str ⟨#[c]⟩,H,I.tok _,⟨_,rfl⟩,q⟩) hs
def rIx(K:PySem.W.Frag):R2:=λx y H Q=>BR K x y H Q\/jG K x y H Q\/Eb x y H Q
theorem Av:IxR X (rIx X.K):=bF.or (aS.or eK)

theorem zk(its:List F9)(n j:Nat)(u:F9):JW (·.setIfInBounds j u) { cls:=.type "list",data:=.seq its.toArray n }={ cls:=.type "list",data:=.seq (its.set j u).toArray n }:=by
 simp[JW]
theorem Inv.lst{pins:List (Addr×Obj)}{σ:St}{H:Hp}{s:Gb}{p:Addr}{xs:List V}(I:Inv X pins σ H s)(h:H p=some (.lst xs)) :
  ∃(its:List F9) (n:Nat),a_ xs its/\s.heap.get? p=some { cls:=.type "list",data:=.seq its.toArray n }/\xs.length<=Gr:=by
 obtain⟨z,its,n,r,e⟩:=I.hok p _ h;exact⟨its,n,r,e,z⟩
theorem Inv.lstUpd{pins:List (Addr×Obj)}{σ:St}{H:Hp}{s:Gb}{p:Addr}{xs ys:List V}{its its':List F9}{n n':Nat}{f:Obj->Obj}(I:Inv X pins σ H s)(h:H p=some (.lst xs))
  (ho:s.heap.get? p=some { cls:=.type "list",data:=.seq its.toArray n })(hf:f { cls:=.type "list",data:=.seq its.toArray n }={ cls:=.type "list",data:=.seq its'.toArray n' })(r:a_ ys its')(hz:ys.length<=Gr)(t:Nat) :
  Inv X pins σ (upd H p (.lst ys)) { s with heap:=s.heap.update p f,toks:=t }:=by
 have e:(s.heap.update p f).get? p=some { cls:=.type "list",data:=.seq its'.toArray n' }:=by
  rw[Heap.get?_update_self f ho (by rw[hf]<;>rfl),hf]
 refine I.write (x:=p) (e:=p) (by rw[h];trivial) (.inl rfl) (λb u hb q=>(IY _ _ (GX hb)).trans q) ⟨_,e⟩ ?_;exact⟨hz,its',n',r,e⟩
def E9:V->V->V->Hp->(Hp->Prop)->Prop:=λo i v H Q=>∃p xs k j,o=.ref p/\i=.int k/\H p=some (.lst xs)/\ixN xs.length k=some j/\Q (upd H p (.lst (xs.set j v)))
theorem sK:D5 X E9:=by
 intro pins s σ H o i v ov iv u Q I ro ri rv h;obtain⟨p,xs,k,j,rfl,rfl,hp,hj,q⟩:=h;cases ro;obtain⟨t,rfl⟩:=ri;obtain⟨its,n,r,ho,hz⟩:=I.lst hp;obtain⟨h1,h2,h3,h4⟩:=yF hj;have hl:=r.length;have hn:=li;have I':Inv X pins σ (upd H p (.lst (xs.set j v))) { s with heap:=s.heap.update p (JW (·.setIfInBounds j u)) }:=
  I.lstUpd hp ho (zk its n j u) (r.set rv j) (by rw[List.length_set];exact hz) s.toks
 by_cases h0:0<=k
 .have hk:k.toNat=j:=by
   rw[KA h0 h4]at h1;exact GU h1
  exact PySem.W.ki_setAt ho h0 (by omega) (by rw[Gx,<-hl];exact h4) (by rw[hk];exact⟨_,I',q⟩)
 .have hk:(k+(its.toArray.size:Int)).toNat=j:=by
   rw[Kv (by omega) h3]at h1;rw[Gx,<-hl];exact GU h1
  exact PySem.W.ki_setBack ho (by omega) (by rw[Gx,<-hl];exact h3) (by omega) (by rw[hk];exact⟨_,I',q⟩)

theorem wT(lo hi:Option Int)(n:Nat):(IT lo hi none n).1=((HT.sIx n 0 lo:Nat):Int)/\(IT lo hi none n).2.1=((HT.sIx n n hi:Nat):Int)/\(IT lo hi none n).2.2=1:=by
 refine⟨?_,?_,rfl⟩
 .cases lo with
  |none=>simp[IT,HT.sIx]
  |some i =>
   simp only[IT,HT.sIx,Option.getD_none,show(1:Int)>0 by decide,if_true];by_cases h:i<0
   .simp only[h,if_true]<;>omega
   .simp only[h,if_false]<;>omega
 .cases hi with
  |none=>simp[IT,HT.sIx]
  |some i =>
   simp only[IT,HT.sIx,Option.getD_none,show(1:Int)>0 by decide,if_true];by_cases h:i<0
   .simp only[h,if_true]<;>omega
   .simp only[h,if_false]<;>omega
theorem vB(its:List F9)(lo hi:Option Int):slicePick its.toArray lo hi none=((its.drop (HT.sIx its.length 0 lo)).take (HT.sIx its.length its.length hi-HT.sIx its.length 0 lo)).toArray:=by
 obtain⟨h1,h2,h3⟩:=wT lo hi its.toArray.size;unfold slicePick;rw[h1,h2,h3];simp only[sliceRange_one,pick_run,Gx]<;>rfl
def FI(K:PySem.W.Frag):V->Option Int->Option Int->Hp->VK->Prop:=λx lo hi H Q=>∃a xs,x=.ref a/\SqL K H a xs/\∀p,H p=none->Q (.ref p) (upd H p (.lst (gX xs lo hi)))
theorem nK:SlR X (FI X.K):=by
 intro pins s σ H x v vl vu lo hi sl Q I rx hs pl pu h;obtain⟨a,xs,rfl,hx,q⟩:=h;cases rx;obtain⟨its,r,ht,hz⟩:=I.list hx;have hlen:=r.length;refine⟨"list",_,slot_list_getitem.lookup,ht.isList.typeIs,?_⟩;refine wpAny_getItem_list_slice ht.isList hs pl pu .none (by simp) ?_ (by rw[Gx]<;>omega)
 rw[vB,<-hlen];refine⟨.ref s.heap.objs.size,_,I.laid (t':=s.toks) (o:=.lst (gX xs lo hi)) (λb ob q=>Gk _ q) (Gh _) ?_,rfl,q _ (I.hok.fresh (Gh _))⟩;exact⟨GM (yh xs lo hi) hz,_,0,(r.drop (HT.sIx xs.length 0 lo)).take (HT.sIx xs.length xs.length hi-HT.sIx xs.length 0 lo),GH _ rfl⟩

def ja:V->Bool
 |.non=>true
 |.bl _=>true
 |.int _=>true
 |.str _=>true
 |_=>false
def eqV:V->V->Bool
 |.non,.non=>true
 |.bl a,.bl b=>a==b
 |.bl a,.int b=>(if a then 1 else 0)==b
 |.int a,.bl b=>a==(if b then 1 else 0)
 |.int a,.int b=>a==b
 |.str a,.str b=>a==b
 |_,_=>false
theorem Ec{A:G_}{s:Gb}{y x:V}{u v:F9}(ry:bq y u)(rx:bq x v)(fy:ja y=true)(fx:ja x=true):SeqAt.EqAt A s u v (eqV y x):=by
 cases y with
 |non =>
  cases ry;cases x with
  |non=>cases rx;exact SeqAt.EqAt.same _
  |bl b=>cases rx;exact SeqAt.EqAt.none_bool b
  |int b=>obtain⟨t,rfl⟩:=rx;exact SeqAt.EqAt.none_int b t
  |str b=>obtain⟨t,rfl⟩:=rx;exact SeqAt.EqAt.none_str b t
  |_=>exact absurd (show false=true from fx) Gy
 |bl a =>
  cases ry;cases x with
  |non=>cases rx;exact SeqAt.EqAt.bool_none a
  |bl b=>cases rx;exact SeqAt.EqAt.bool_bool a b
  |int b=>obtain⟨t,rfl⟩:=rx;exact SeqAt.EqAt.bool_int a b t
  |str b=>obtain⟨t,rfl⟩:=rx;exact SeqAt.EqAt.bool_str a b t
  |_=>exact absurd (show false=true from fx) Gy
 |int a =>
  obtain⟨t',rfl⟩:=ry;cases x with
  |non=>cases rx;exact SeqAt.EqAt.int_none a t'
  |bl b=>cases rx;exact SeqAt.EqAt.int_bool a t' b
  |int b=>obtain⟨t,rfl⟩:=rx;exact SeqAt.EqAt.int_int a t' b t
  |str b=>obtain⟨t,rfl⟩:=rx;exact SeqAt.EqAt.int_str a t' b t
  |_=>exact absurd (show false=true from fx) Gy
 |str a =>
  obtain⟨t',rfl⟩:=ry;cases x with
  |non=>cases rx;exact SeqAt.EqAt.str_none a t'
  |bl b=>cases rx;exact SeqAt.EqAt.str_bool a t' b
  |int b=>obtain⟨t,rfl⟩:=rx;exact SeqAt.EqAt.str_int a t' b t
  |str b=>obtain⟨t,rfl⟩:=rx;exact SeqAt.EqAt.str_str a t' b t
  |_=>exact absurd (show false=true from fx) Gy
 |_=>exact absurd (show false=true from fy) Gy
def eqU(x:V)(u:F9):Bool:=match u with
 |.none=>eqV .non x
 |.bool b=>eqV (.bl b) x
 |.int i _=>eqV (.int i) x
 |.str z _=>eqV (.str z) x
 |_=>false
theorem wU{x y:V}{u:F9}(r:bq y u)(f:ja y=true):eqU x u=eqV y x:=by
 cases y with
 |non=>cases r;rfl
 |bl b=>cases r;rfl
 |int i=>obtain⟨t,rfl⟩:=r;rfl
 |str z=>obtain⟨t,rfl⟩:=r;rfl
 |_=>exact absurd (show false=true from f) Gy
theorem nM{x:V}:∀{xs:List V} {us:List F9},a_ xs us->xs.all ja=true->us.any (eqU x)=xs.any λy=>eqV y x
 |_,_,.nil,_=>rfl
 |y::xs,u::us,.cons r t,f=>by
  rw[IG,HF]at f;rw[Il,Il,wU r f.1,nM t f.2]
theorem jH{A:G_}{s:Gb}{x:V}{v:F9}(rx:bq x v)(fx:ja x=true):∀{xs:List V} {us:List F9},a_ xs us->xs.all ja=true->∀u∈us,SeqAt.EqAt A s u v (eqU x u)
 |_,_,.nil,_=>λu hu=>by cases hu
 |y::xs,u::us,.cons r t,f=>λu' hu=>by
  rw[IG,HF]at f;rcases List.mem_cons.mp hu with rfl|hu
  .rw[wU r f.1];exact Ec r rx f.1 fx
  .exact jH rx fx t f.2 u' hu
def inV(x:V)(xs:List V):Bool:=xs.any λy=>eqV y x
def rIn(K:PySem.W.Frag)(neg:Bool):R2:=λx y H Q=>∃p xs,y=.ref p/\(SqL K H p xs\/SqT K H p xs)/\ja x=true/\xs.all ja=true/\Q (.bl (if neg then !inV x xs else inV x xs)) H
theorem gY:OpR X (Hv .In) (rIn X.K false):=by
 intro pins s σ H x y v u Q I rx ry h;obtain⟨p,xs,rfl,hq,fx,fs,q⟩:=h;cases ry;rcases hq with hq|hq
 .obtain⟨its,r,pl,hz⟩:=I.list hq;refine SeqAt.in_listAt (eqU x) pl.isList (λw hw=>jH rx fx r fs w (by simpa using hw)) ⟨.bl _,H,I,rfl,?_⟩;rw[show its.toArray.any (eqU x)=its.any (eqU x) by simp,nM r fs];exact q
 .obtain⟨its,r,pl,hz⟩:=I.tuple hq;refine SeqAt.in_tupleAt (eqU x) pl (λw hw=>jH rx fx r fs w (by simpa using hw)) ⟨.bl _,H,I,rfl,?_⟩;rw[show its.toArray.any (eqU x)=its.any (eqU x) by simp,nM r fs];exact q
theorem wV:OpR X (Hv .NotIn) (rIn X.K true):=by
 intro pins s σ H x y v u Q I rx ry h;obtain⟨p,xs,rfl,hq,fx,fs,q⟩:=h;cases ry;rcases hq with hq|hq
 .obtain⟨its,r,pl,hz⟩:=I.list hq;refine SeqAt.notIn_listAt (eqU x) pl.isList (λw hw=>jH rx fx r fs w (by simpa using hw)) ⟨.bl _,H,I,rfl,?_⟩;rw[show its.toArray.any (eqU x)=its.any (eqU x) by simp,nM r fs];exact q
 .obtain⟨its,r,pl,hz⟩:=I.tuple hq;refine SeqAt.notIn_tupleAt (eqU x) pl (λw hw=>jH rx fx r fs w (by simpa using hw)) ⟨.bl _,H,I,rfl,?_⟩;rw[show its.toArray.any (eqU x)=its.any (eqU x) by simp,nM r fs];exact q
theorem bA:gQ X (.builtin "len") (λxs H Q=>∃p ys,xs=[.ref p]/\(SqL X.K H p ys\/SqT X.K H p ys)/\Q (.int ys.length) H):=by
 intro pins s σ H xs us Q I r h;obtain⟨p,ys,rfl,hq,q⟩:=h;obtain⟨u,rfl,rx⟩:=iC r;cases rx;have hn:=li;rcases hq with hq|hq
 .obtain⟨its,r',pl,hz⟩:=I.list hq;have hlen:=r'.length;exact Calls.call_len_list pl.isList (by simp only[Gx]<;>omega) ⟨.int ys.length,H,I.tok _,⟨s.toks+1,by rw[Gx,hlen]⟩,q⟩
 .obtain⟨its,r',pl,hz⟩:=I.tuple hq;have hlen:=r'.length;exact len_tuple pl (by simp only[Gx]<;>omega) ⟨.int ys.length,H,I.tok _,⟨s.toks+1,by rw[Gx,hlen]⟩,q⟩
theorem dm:gQ X (.builtin "len") (λxs H Q=>∃z,xs=[.str z]/\z.length<=Gr/\Q (.int z.length) H):=by
 intro pins s σ H xs us Q I r h;obtain⟨z,rfl,hz,q⟩:=h;obtain⟨u,rfl,t,rfl⟩:=iC r;have hn:=li;exact len_str (by omega) ⟨.int z.length,H,I.tok _,⟨_,rfl⟩,q⟩
def tyV(K:PySem.W.Frag)(T:String)(x:V)(H:Hp):Prop:=match x with
 |.str _=>T = "str"
 |.int _=>T = "int"
 |.ref p=>(T = "list"/\∃xs,SqL K H p xs)\/(T = "tuple"/\∃o,K.lookup p=some o/\o.cls=.type "tuple"/\o.dict=none)\/
   (T = "dict"/\((∃kvs,H p=some (.dK kvs))\/∃kvs,H p=some (.dT kvs)))\/(T = "set"/\∃S n,H p=some (.set S n))
 |_=>False
theorem Ed{pins:List (Addr×Obj)}{σ:St}{H:Hp}{s:Gb}{T:String}{x:V}{v:F9}(I:Inv X pins σ H s)(r:bq x v)(ty:tyV X.K T x H) :
  s.TypeIs v T/\∀a,v=.ref a->∃ob,s.heap.get? a=some ob/\ob.dict=none:=by
 cases x with
 |str z =>
  obtain⟨t,rfl⟩:=r;cases (show T = "str" from ty);exact⟨JF s z t,λ_ e=>nomatch e⟩
 |int i =>
  obtain⟨t,rfl⟩:=r;cases (show T = "int" from ty);exact⟨KO s i t,λ_ e=>nomatch e⟩
 |ref p =>
  cases r;rcases ty with⟨rfl,xs,hq⟩|⟨rfl,o,hk,hc,hd⟩|⟨rfl,hk⟩|⟨rfl,S,n,hk⟩
  .obtain⟨its,_,pl,_⟩:=I.list hq;refine⟨pl.isList.typeIs,λa e=>?_⟩;cases e;obtain⟨o,n,e,c,hd,_⟩:=pl;exact⟨o,e,hd⟩
  .refine⟨⟨o,I.kIn p o hk,hc⟩,λa e=>?_⟩;cases e;exact⟨o,I.kIn _ o hk,hd⟩
  .have z:∃o,s.heap.get? p=some o/\o.ExactDict:=by
    rcases hk with⟨kvs,hk⟩|⟨kvs,hk⟩
    .obtain⟨_,_,_,_,o,_,_,e,ex,_⟩:=I.hok p _ hk;exact⟨o,e,ex⟩
    .obtain⟨_,_,_,_,o,_,_,e,ex,_⟩:=I.hok p _ hk;exact⟨o,e,ex⟩
   obtain⟨o,e,ex⟩:=z;refine⟨⟨o,e,ex.1⟩,λa e2=>?_⟩;cases e2;exact⟨o,e,ex.2.1⟩
  .obtain⟨o,_,_,_,e,ex,_⟩:=I.hok p _ hk;refine⟨⟨o,e,ex.1⟩,λa e2=>?_⟩;cases e2;exact⟨o,e,ex.2.1⟩
 |_=>exact Hx ty
def tBM(K:PySem.W.Frag)(T:String)(r:V->List V->Hp->VK->Prop)(to:TE)(t:TA):TE:=λσ H Q=>to σ H λx H1=>tyV K T x H1/\t σ H1 λxs H2=>r x xs H2 Q
variable {o e:Expr}{es:List Expr}{to:TE}{t:TA}{name:Str}{apos cpos:Pos}{T id:String}{r:V->List V->Hp->VK->Prop}
theorem cq(pa:PlainAttrs T)(slot:Slot T name id)(hty:typeOf (.builtin id)=pure (.type "method_descriptor"))(hm:MtR X id r)(ho:PE X o to)(ha:PA X (e::es) t)
  (hbase:IF o name X.env (eval o X.env)=eval o X.env:=by rfl)
  (hfew:((HR cpos (GG (e :: es) X.env)).all (fun x=>!x.1) && (J9 cpos (Jl [] X.env)).all (fun x=>x.1.isSome)
   && decide ((e::es).length+([]:List KC).length+(if([]:List KC).isEmpty then 0 else 1)<30))=true:=by rfl)
  (hline:(apos.endLine==cpos.line)=true:=by rfl) (hs:GG (e::es) X.env=(false,eval e X.env)::GG es X.env:=by rfl) (hplain:(HR cpos (GG es X.env)).any (·.1)=false:=by rfl) :
  PE X (.Call (.Attribute o name apos) (e::es) [] cpos) (tBM X.K T r to t):=by
 intro pins s σ H Q I h;refine wpAny_Call_method_late hbase hfew hline rfl (thn (ho pins s σ H _ I h) λv s1 ⟨x,H1,I1,r1,ty,q1⟩=>?_);obtain⟨h1,h2⟩:=Ed I1 r1 ty;refine⟨T,id,pa,slot,hty,h1,h2,?_⟩;have hA:=ha cpos pins s1 σ H1 _ I1 q1;rw[hs]at hA⊢;refine Ig (by show(false||(HR cpos (GG es X.env)).any (·.1))=false;rw[hplain]<;>rfl) (Jm ?_)
 exact thn hA λus s2 ⟨vs,H2,I2,r2,q2⟩=>hm pins s2 σ H2 x vs v us Q I2 r1 r2 q2
end

def MtM(X:Cx)(id:String)(r:V->List V->Hp->VK->Prop):Prop:=
 ∀(pins:List (Addr×Obj)) (s:Gb) (σ:St) (H:Hp) (x:V) (xs:List V) (v:F9) (us:List F9) (Q:VK),Inv X pins σ H s->bq x v->a_ xs us->r x xs H Q->
  GI (GK X.prog X.w) X.A (call (.builtin id) (v::us)) (EP X pins σ Q) X.xe s

theorem a_.one:∀{x:V} {us:List F9},a_ [x] us->∃u,us=[u]/\bq x u
 |_,_,.cons r .nil=>⟨_,rfl,r⟩
theorem a_.rep{xs:List V}{us:List F9}(h:a_ xs us):∀k:Nat,a_ (Gp k xs).flatten (Gp k us).flatten
 |0=>.nil
 |k+1=>by
  rw[Hr,Hr,Ip,Ip];exact a_.append h (a_.rep h k)
theorem u9(its:List F9):∀(k:Nat) (acc:List F9),
  KP (λx1 x2=>x1++x2) acc.toArray (Gp k its.toArray)=(acc++(Gp k its).flatten).toArray
 |0,acc=>by simp
 |k+1,acc=>by
  have e:acc.toArray++its.toArray=(acc++its).toArray:=by simp
  have e2:(acc++its)++(Gp k its).flatten=acc++(Gp (k+1) its).flatten:=by
   rw[Hr,Ip,Gs]
  rw[<-e2,<-u9 its k (acc++its),<-e,Hr,J5]

section
variable {X:Cx}{pins:List (Addr×Obj)}{σ:St}{H:Hp}{s:Gb}{l b:Addr}{xs ys zs:List V}

theorem Inv.lset{its its':List F9}{n:Nat}{f:Array F9->Array F9}{t':Nat}(I:Inv X pins σ H s)(hH:H l=some (.lst xs))
  (e:s.heap.get? l=some { cls:=.type "list",data:=.seq its.toArray n })(hf:f its.toArray=its'.toArray)(hv:a_ ys its')(hz:ys.length<=Gr) :
  Inv X pins σ (upd H l (.lst ys)) { s with heap:=s.heap.update l (JW f),toks:=t' }:=by
 have q:=PySem.IsL.update e f;rw[hf]at q;refine I.write (x:=l) (e:=l) (by rw[hH];exact trivial) (.inl rfl) (λb' u hb hu=>(IY s.heap (JW f) (GX hb)).trans hu) ⟨_,q⟩ ?_;exact⟨hz,its',_,hv,q⟩
theorem Inv.lnew{its:List F9}{t':Nat}(I:Inv X pins σ H s)(hv:a_ ys its)(hz:ys.length<=Gr) :
  Inv X pins σ (upd H s.heap.objs.size (.lst ys)) { s with heap:=s.heap.push { cls:=.type "list",data:=.seq its.toArray },toks:=t' }:=
 I.laid (λ_ _ q=>Gk _ q) (Gh _) ⟨hz,its,0,hv,GH _ rfl⟩
theorem Inv.fresh(I:Inv X pins σ H s):H s.heap.objs.size=none:=I.hok.fresh (Gh _)
theorem Inv.lstM(I:Inv X pins σ H s)(hH:H l=some (.lst xs)):xs.length<=Gr/\∃(its:List F9) (n:Nat),a_ xs its/\xs.length=its.length/\s.heap.get? l=some { cls:=.type "list",data:=.seq its.toArray n }:=by
 obtain⟨z,its,n,r,e⟩:=I.hok l _ hH;exact⟨z,its,n,r,r.length,e⟩

theorem wW{n:Nat}(h:n<=Gr):HZ n=false:=by
 unfold HZ;exact decide_eq_false (by omega)
end

section
variable {X:Cx}

def Dd:V->List V->Hp->VK->Prop:=λx vs H Q=>∃l xs y,x=.ref l/\vs=[y]/\H l=some (.lst xs)/\xs.length<Gr/\Q .non (upd H l (.lst (xs++[y])))
theorem bZ:MtM X "list.append" Dd:=by
 intro pins s σ H x vs v us Q I rx rv h;obtain⟨l,xs,y,rfl,rfl,hH,hz,q⟩:=h;cases rx;obtain⟨u,rfl,ru⟩:=rv.one;obtain⟨z,its,n,r,hl,e⟩:=I.lstM hH;refine IN F.slot_list_append ⟨_,e,rfl⟩ F.entry_list_append (F.args_list_append_2 _ _) (PySem.list_append l its.toArray n u (by rw[Gx];omega)) ⟨e,?_⟩;refine⟨.non,_,I.lset (its':=its++[u]) hH e (by simp) (r.append (.cons ru .nil)) ?_,rfl,q⟩;rw[F7,Im];omega

def Dg:V->List V->Hp->VK->Prop:=λx vs H Q=>∃l b xs zs,x=.ref l/\vs=[.ref b]/\H l=some (.lst xs)/\H b=some (.lst zs)/\xs.length+zs.length<=Gr/\Q .non (upd H l (.lst (xs++zs)))
theorem jX:MtM X "list.extend" Dg:=by
 intro pins s σ H x vs v us Q I rx rv h;obtain⟨l,b,xs,zs,rfl,rfl,hH,hB,hz,q⟩:=h;cases rx;obtain⟨u,rfl,ru⟩:=rv.one;cases ru;obtain⟨z,its,n,r,hl,e⟩:=I.lstM hH;obtain⟨z2,its2,n2,r2,hl2,e2⟩:=I.lstM hB;have hsz:its.toArray.size+its2.toArray.size<=Gr:=by rw[Gx,Gx];omega
 have hlong:¬ (!its.toArray.isEmpty&&HZ (its.toArray.size+its2.toArray.size))=true:=by
  rw[wW hsz,Kc];exact Gy
 refine IN F.slot_list_extend ⟨_,e,rfl⟩ F.entry_list_extend (F.args_list_extend_2 _ _)
  (AutoSeq1.list_extend_list_list_0 l its.toArray n b its2.toArray n2 hlong (by rw[Gx];omega) (by omega)) ⟨e,e2,?_⟩
 refine⟨.non,_,I.lset (its':=its++its2) hH e (by simp) (r.append r2) ?_,rfl,q⟩;rw[F7];omega

def FJ:R2:=λx y H Q=>∃l b xs zs,x=.ref l/\y=.ref b/\H l=some (.lst xs)/\H b=some (.lst zs)/\xs.length+zs.length<=Gr/\∀p,H p=none->Q (.ref p) (upd H p (.lst (xs++zs)))
theorem i5:OpR X (IE .Add) FJ:=by
 intro pins s σ H x y v u Q I rx ry h;obtain⟨l,b,xs,zs,rfl,rfl,hH,hB,hz,q⟩:=h;cases rx;cases ry;obtain⟨z,its,n,r,hl,e⟩:=I.lstM hH;obtain⟨z2,its2,n2,r2,hl2,e2⟩:=I.lstM hB;refine PySem.P.add_list e e2 ?_ (by rw[Gx,Gx];omega);have ea:its.toArray++its2.toArray=(its++its2).toArray:=by simp
 rw[ea];exact⟨.ref _,_,I.lnew (t':=s.toks) (r.append r2) (by rw[F7];omega),rfl,q _ I.fresh⟩
def FK:R2:=λx y H Q=>∃l k xs,x=.ref l/\y=.int k/\H l=some (.lst xs)/\-(2^63)<=k/\k<2^63/\xs.length*k.toNat<=Gr/\
 ∀p,H p=none->Q (.ref p) (upd H p (.lst (Gp k.toNat xs).flatten))
theorem yG{α:Type}(xs:List α)(k:Nat):(Gp k xs).flatten.length=k*xs.length:=by
 induction k with
 |zero=>simp
 |succ k ih=>rw[Hr,Ip,F7,ih,Nat.succ_mul,Nat.add_comm]
theorem Aw:OpR X (IE .Mult) FK:=by
 intro pins s σ H x y v u Q I rx ry h;obtain⟨l,k,xs,rfl,rfl,hH,h1,h2,hz,q⟩:=h;cases rx;obtain⟨t,rfl⟩:=ry;obtain⟨z,its,n,r,hl,e⟩:=I.lstM hH;have hlen:its.toArray.size*k.toNat<=Gr:=by rw[Gx,<-hl];exact hz
 have hcap:¬ its.toArray.size*k.toNat>(2^63-1)/8:=by
  have:(Gr:Nat)<=(2^63-1)/8:=by decide
  omega
 have hfit:¬ (!Builtin.List.listFitsIndex k)=true:=by
  rw[fitsIndex_both h1 h2];exact Gy
 have hlong:¬ HZ (its.toArray.size*k.toNat)=true:=by
  rw[wW hlen];exact Gy
 have hnew:KP (λx1 x2=>x1++x2) #[] (Gp (if its.toArray.isEmpty=true then 0 else k.toNat) its.toArray)=(Gp k.toNat its).flatten.toArray:=by
  have f0:∀m:Nat,KP (λx1 x2=>x1++x2) #[] (Gp m its.toArray)=(Gp m its).flatten.toArray:=λm=>by
   have:=u9 its m [];rw[J6]at this;exact this
  rw[f0];cases its with
  |nil=>simp
  |cons a r'=>rw[if_neg (by simp)]
 refine wpAny_binaryOp_repeat_ref (T := "list") (U := "int") (by decide) ⟨_,e,rfl⟩ (λs'=>KO s' k t) noFill_list_mul F.fills_int_mul F.slot_int_rmul repeat_list F.slot_int_index.lookup
  (IN F.slot_int_rmul (KO s k t) F.entry_int_rmul (F.args_int_rmul_2 _ _) (int___rmul___int_list k t l its.toArray n)
   ⟨e,rfl,⟨_,e,rfl⟩,IN F.slot_list_mul ⟨_,e,rfl⟩ F.entry_list_mul (F.args_list_mul_2 _ _) (AutoListH.list___mul___list_int_3 l its.toArray n k t hfit hcap hlong) ⟨e,?_⟩⟩)
 rw[hnew];exact⟨.ref _,_,I.lnew (t':=s.toks) (r.rep k.toNat) (by rw[yG,Nat.mul_comm];exact hz),rfl,q _ I.fresh⟩

end

section
variable {prog:GE}{w:GF}{A:G_}{E:F9->Gb->Prop}{s:Gb}
end

section
variable {X:Cx}
end

section
variable {κ:Type}[DecidableEq κ]
def cW(kvs:List (κ×V))(k:κ):Option V:=(kvs.find? λkv=>decide (kv.1=k)).map (·.2)
def jc(kvs:List (κ×V))(k:κ)(v:V):List (κ×V):=
 if(kvs.any λkv=>decide (kv.1=k))=true then kvs.map (λkv=>if kv.1=k then(kv.1,v)else kv)else kvs++[(k,v)]
theorem lj{p:κ×V}{r:List (κ×V)}{k:κ}(e:p.1=k):cW (p::r) k=some p.2:=by simp[cW,Ik,e]
theorem dW{p:κ×V}{r:List (κ×V)}{k:κ}(e:¬ p.1=k):cW (p::r) k=cW r k:=by simp[cW,Ik,e]
theorem sL(k:κ):∀kvs:List (κ×V),(kvs.any λkv=>decide (kv.1=k))=(cW kvs k).isSome
 |[]=>rfl
 |p::r=>by
  rw[Il];by_cases e:p.1=k
  .simp only[lj e,decide_eq_true e,Bool.true_or,Option.isSome_some]
  .rw[dW e,decide_eq_false e,Ki];exact sL k r
theorem mI(kvs:List (κ×V))(k:κ)(v:V):(jc kvs k v).length<=kvs.length+1:=by
 unfold jc
 split
 .rw[F6];omega
 .rw[F7,F8,Gj];omega
theorem wX{kvs:List (κ×V)}{k:κ}(v:V)(h:cW kvs k=none):jc kvs k v=kvs++[(k,v)]:=by
 unfold jc;rw[sL,h];exact if_neg (by decide)

theorem gU.isSome_eq{o:Option V}{u:Option F9}(r:gU o u):o.isSome=u.isSome:=by
 cases o with
 |none=>cases u with
  |none=>rfl
  |some _=>exact(show False from r).elim
 |some _=>cases u with
  |none=>exact(show False from r).elim
  |some _=>rfl
theorem KV.val{kvs:List (κ×V)}{vs:List (κ×F9)}(r:KV kvs vs)(k:κ):gU (cW kvs k) (JX vs k):=by
 unfold KV at r;induction r with
 |nil=>exact HY
 |@cons p q ps qs h t ih =>
  obtain⟨h1,h2⟩:=h;by_cases e:p.1=k
  .have e':q.1=k:=h1.symm.trans e;have b:JX (q::qs) k=some q.2:=by simp[JX,Ik,e']
   rw[lj e,b];exact h2
  .have e':¬ q.1=k:=λz=>e (h1.trans z);have b:JX (q::qs) k=JX qs k:=by simp[JX,Ik,e']
   rw[dW e,b];exact ih
theorem KV.any{kvs:List (κ×V)}{vs:List (κ×F9)}(r:KV kvs vs)(k:κ):(kvs.any λkv=>decide (kv.1=k))=vs.any λkv=>decide (kv.1=k):=by
 unfold KV at r;induction r with
 |nil=>rfl
 |cons h t ih=>rw[Il,Il,ih,h.1]
theorem KV.repl{kvs:List (κ×V)}{vs:List (κ×F9)}(r:KV kvs vs)(k:κ){y:V}{u:F9}(ry:bq y u) :
  KV (kvs.map λkv=>if kv.1=k then(kv.1,y)else kv) (vs.map λkv=>if kv.1=k then(kv.1,u)else kv):=by
 unfold KV at r⊢;induction r with
 |nil=>exact .nil
 |@cons p q ps qs h t ih =>
  rw[Gi,Gi];refine .cons ?_ ih;obtain⟨h1,h2⟩:=h;by_cases e:p.1=k
  .rw[if_pos e,if_pos (h1.symm.trans e)];exact⟨h1,ry⟩
  .rw[if_neg e,if_neg (λz=>e (h1.trans z))];exact⟨h1,h2⟩
theorem KV.put{kvs:List (κ×V)}{vs:List (κ×F9)}(r:KV kvs vs)(k:κ){y:V}{u:F9}(ry:bq y u):KV (jc kvs k y) (KQ vs k u):=by
 unfold jc KQ;rw[r.any k];by_cases e:(vs.any λkv=>decide (kv.1=k))=true
 .rw[if_pos e,if_pos e];exact r.repl k ry
 .rw[if_neg e,if_neg e];exact Paired.snoc r ⟨rfl,ry⟩
theorem KV.length{kvs:List (κ×V)}{vs:List (κ×F9)}(r:KV kvs vs):kvs.length=vs.length:=Paired.length r
end


theorem mo{P:GE}{w:GF}{k:Key}{u:F9}(r:bq (kV k) u):(bB P w).is k u=true:=by
 cases k with
 |inl i=>obtain⟨t,e⟩:=(show ∃t,u=IQ i t from r);subst e;exact yf P w i t
 |inr x=>obtain⟨t,e⟩:=(show ∃t,u=HP x t from r);subst e;exact yg P w x t
theorem u_{P:GE}{w:GF}:∀{ks:List Key} {us:List F9},a_ (ks.map kV) us->ItemsAre (bB P w) ks us
 |[],_,r=>by rw[Iy]at r;cases r;exact .nil
 |k::ks,_,r=>by
  rw[Gi]at r;cases r with
  |cons h t=>exact .cons (mo h) (u_ t)

abbrev KT(H:Hp):List (List Key×V)->List (List Key×Addr×F9)->Prop:=Paired λp q=>p.1=q.1/\H q.2.1=some (.tup (p.1.map kV))/\bq p.2 q.2.2
theorem KT.val{H:Hp}{kvs:List (List Key×V)}{xs:List (List Key×Addr×F9)}(r:KT H kvs xs)(k:List Key):gU (cW kvs k) ((KB xs k).map (·.2)):=by
 induction r with
 |nil=>exact HY
 |@cons p q ps qs h t ih =>
  obtain⟨h1,_,h2⟩:=h;by_cases e:p.1=k
  .have e':q.1=k:=h1.symm.trans e;have b:KB (q::qs) k=some q.2:=by simp[KB,Ik,e']
   rw[lj e,b];exact h2
  .have e':¬ q.1=k:=λz=>e (h1.trans z);have b:KB (q::qs) k=KB qs k:=by simp[KB,Ik,e']
   rw[dW e,b];exact ih
theorem KT.repl{H:Hp}{kvs:List (List Key×V)}{xs:List (List Key×Addr×F9)}(r:KT H kvs xs)(k:List Key){y:V}{u:F9}(ry:bq y u) :
  KT H (kvs.map λkv=>if kv.1=k then(kv.1,y)else kv) (xs.map (putAt k u)):=by
 induction r with
 |nil=>exact .nil
 |@cons p q ps qs h t ih =>
  rw[Gi,Gi];refine .cons ?_ ih;obtain⟨h1,h2,h3⟩:=h;unfold putAt;by_cases e:p.1=k
  .rw[if_pos e,if_pos (h1.symm.trans e)];exact⟨h1,h2,ry⟩
  .rw[if_neg e,if_neg (λz=>e (h1.trans z))];exact⟨h1,h2,h3⟩
theorem KT.put{H:Hp}{kvs:List (List Key×V)}{xs:List (List Key×Addr×F9)}(r:KT H kvs xs)(k:List Key){b:Addr}{y:V}{u:F9}(hb:H b=some (.tup (k.map kV)))(ry:bq y u) :
  KT H (jc kvs k y) (storedH xs k b u):=by
 have e:(kvs.any λkv=>decide (kv.1=k))=(KB xs k).isSome:=by
  rw[sL,(r.val k).isSome_eq,JL]
 unfold jc storedH;rw[e];by_cases q:(KB xs k).isSome=true
 .rw[if_pos q,if_pos q];exact r.repl k ry
 .rw[if_neg q,if_neg q];exact Paired.snoc r ⟨rfl,hb,ry⟩
theorem KT.keeps{H H':Hp}{kvs:List (List Key×V)}{xs:List (List Key×Addr×F9)}(r:KT H kvs xs)(ht:∀b ys,H b=some (.tup ys)->H' b=some (.tup ys)):KT H' kvs xs:=
 Paired.mapP r λ_ _ z=>⟨z.1,ht _ _ z.2.1,z.2.2⟩

section
variable {P:GE}{w:GF}{H:Hp}{h:Heap}{a:Addr}
theorem CN{u:HO}(ok:HOk P w H h)(e:Rd H a u):cj P w H h a u:=e.ok ok
theorem on{kvs:List (Key×V)}(ok:HOk P w H h)(e:Rd H a (.dK kvs)):kvs.length<=Gr/\(a==HD)=false/\∃vs,KV kvs vs/\h.DictOf (bB P w) a vs:=
 show cj P w H h a (.dK kvs)from CN ok e
theorem E_{kvs:List (Key×V)}(ok:HOk P w H h)(e:H a=some (.dK kvs)):kvs.length<=Gr/\(a==HD)=false/\∃vs,KV kvs vs/\h.DictOf (bB P w) a vs:=on ok (.inl e)
theorem qi{ks:List Key}(ok:HOk P w H h)(e:H a=some (.tup (ks.map kV))):(Ke (bB P w)).is h ks a:=by
 obtain⟨_,its,r,o,h1,h2,n,h3⟩:=(show cj P w H h a (.tup (ks.map kV))from ok a _ e);exact⟨o,its.toArray,n,h1,h2,h3,by simpa using u_ r⟩
theorem rT{kvs:List (List Key×V)}(ok:HOk P w H h)(e:Rd H a (.dT kvs)):kvs.length<=Gr/\(a==HD)=false/\
  ∃xs,KT H kvs xs/\h.DictOfH (Ke (bB P w)) a xs:=by
 obtain⟨z,y,xs,r,o,es,ep,h1,h2,h3,h4,h5⟩:=(show cj P w H h a (.dT kvs)from CN ok e);refine⟨z,y,xs,r,o,es,ep,h1,h2,h3,h4,λx hx=>?_,h5⟩;have all:∀{l:List (List Key×V)} {m:List (List Key×Addr×F9)},KT H l m->∀x∈m,(Ke (bB P w)).is h x.1 x.2.1:=by
  intro l m q;induction q with
  |nil=>intro x hx;exact nomatch hx
  |@cons p q ps qs hq t ih =>
   intro x hx;rcases List.mem_cons.mp hx with e|hx
   .subst e;exact qi ok (by rw[<-hq.1];exact hq.2.1)
   .exact ih x hx
 exact all r x hx
theorem Fa{kvs:List (List Key×V)}(ok:HOk P w H h)(e:H a=some (.dT kvs)):kvs.length<=Gr/\(a==HD)=false/\
  ∃xs,KT H kvs xs/\h.DictOfH (Ke (bB P w)) a xs:=rT ok (.inl e)
end

def eW(H:Hp)(a:Addr)(y:V)(r:Option V):Prop:=
 (∃kvs k,Rd H a (.dK kvs)/\y=kV k/\r=cW kvs k)\/∃kvs k b,Rd H a (.dT kvs)/\y=.ref b/\H b=some (.tup (k.map kV))/\r=cW kvs k
def uz(H:Hp)(a:Addr)(y v:V)(H':Hp):Prop:=
 (∃kvs k,H a=some (.dK kvs)/\y=kV k/\kvs.length<Gr/\H'=upd H a (.dK (jc kvs k v)))\/
 ∃kvs k b,H a=some (.dT kvs)/\y=.ref b/\H b=some (.tup (k.map kV))/\kvs.length<Gr/\H'=upd H a (.dT (jc kvs k v))
theorem eW.k{H:Hp}{a:Addr}{kvs:List (Key×V)}{k:Key}(e:H a=some (.dK kvs)):eW H a (kV k) (cW kvs k):=.inl ⟨kvs,k,.inl e,rfl,rfl⟩
theorem uz.k{H:Hp}{a:Addr}{kvs:List (Key×V)}{k:Key}{v:V}(e:H a=some (.dK kvs))(hl:kvs.length<Gr):uz H a (kV k) v (upd H a (.dK (jc kvs k v))):=.inl ⟨kvs,k,e,rfl,hl,rfl⟩
section
variable {X:Cx}{pins:List (Addr×Obj)}{σ:St}{H:Hp}{s:Gb}{a:Addr}{y v:V}{u r:F9}{o:Option V}{A:G_}{E:F9->Gb->Prop}

theorem Inv.big(I:Inv X pins σ H s):HD<s.heap.objs.size:=by
 have h:GJ<s.heap.objs.size:=(I.mod.glob.keeps I.bk).lt;exact HM (by decide) h

theorem Ax{Q:F9->Gb->Prop}(hu:A.units+1<J2)(I:Inv X pins σ H s)(g:eW H a y (some v))(ry:bq y u)(h:∀w' s',Inv X pins σ H s'->bq v w'->Q w' s') :
  GI (GK X.prog X.w) A (Ku (.ref a) u) Q E s:=by
 rcases g with⟨kvs,k,e,ey,l⟩|⟨kvs,k,b,e,ey,eb,l⟩
 .subst ey;obtain⟨z,hd,vs,rel,dd⟩:=on I.hok e;obtain⟨w',hw,rw'⟩:=gU.some_of (v:=v) (o:=JX vs k) (by rw[l];exact rel.val k);exact wpAny_getItem_of (mo ry) dd.mapOf hw (h w' _ (I.tok _) rw')
 .subst ey;cases (show u=GW b from ry);obtain⟨z,hd,xs,rel,dd⟩:=rT I.hok e;obtain⟨w',hw,rw'⟩:=gU.some_of (v:=v) (o:=(KB xs k).map (·.2)) (by rw[l];exact rel.val k);obtain⟨p,hp,hp2⟩:=Option.map_eq_some_iff.mp hw;refine wpAny_getItem_heap (IP hu) (qi I.hok eb) dd hp ?_;rw[hp2];exact h w' _ (I.tok _) rw'
theorem FL{Q:F9->Gb->Prop}(hu:A.units+1<J2)(I:Inv X pins σ H s)(g:eW H a y o)(ry:bq y u)(h:∀s',Inv X pins σ H s'->Q (.bool o.isSome) s') :
  GI (GK X.prog X.w) A (Hv .In u (.ref a)) Q E s:=by
 rcases g with⟨kvs,k,e,ey,l⟩|⟨kvs,k,b,e,ey,eb,l⟩
 .subst ey;obtain⟨z,hd,vs,rel,dd⟩:=on I.hok e;refine wpAny_in_of (mo ry) hd dd.mapOf ?_;rw[<-(rel.val k).isSome_eq,<-l];exact h _ (I.tok _)
 .subst ey;cases (show u=GW b from ry);obtain⟨z,hd,xs,rel,dd⟩:=rT I.hok e;refine wpAny_in_heap (IP hu) (qi I.hok eb) hd dd ?_;have q:=(rel.val k).isSome_eq;rw[JL]at q;rw[<-q,<-l];exact h _ (I.tok _)
theorem Dh{Q:F9->Gb->Prop}(hu:A.units+1<J2)(I:Inv X pins σ H s)(g:eW H a y o)(ry:bq y u)(h:∀s',Inv X pins σ H s'->Q (.bool (!o.isSome)) s') :
  GI (GK X.prog X.w) A (Hv .NotIn u (.ref a)) Q E s:=by
 rcases g with⟨kvs,k,e,ey,l⟩|⟨kvs,k,b,e,ey,eb,l⟩
 .subst ey;obtain⟨z,hd,vs,rel,dd⟩:=on I.hok e;refine wpAny_notIn_of (mo ry) hd dd.mapOf ?_;rw[<-(rel.val k).isSome_eq,<-l];exact h _ (I.tok _)
 .subst ey;cases (show u=GW b from ry);obtain⟨z,hd,xs,rel,dd⟩:=rT I.hok e;refine wpAny_notIn_heap (IP hu) (qi I.hok eb) hd dd ?_;have q:=(rel.val k).isSome_eq;rw[JL]at q;rw[<-q,<-l];exact h _ (I.tok _)
theorem yH{h':Heap}{t':Nat}{ob:HO}(I:Inv X pins σ H s)(mu:Mut (H a))(hs:Iv a s.heap h')(he:∃q,h'.get? a=some q)(new:cj X.prog X.w (upd H a ob) h' a ob) :
  Inv X pins σ (upd H a ob) { s with heap:=h',toks:=t' }:=
 I.write (x:=a) (e:=a) mu (.inl rfl) (λb q hb z=>(hs.2 b hb).trans z) he new
theorem Ay{P:GE}{w:GF}{H':Hp}{h':Heap}{kvs:List (Key×V)}{vs:List (Key×F9)}(z:kvs.length<=Gr)(hd:(a==HD)=false)(rel:KV kvs vs)(dd:h'.DictOf (bB P w) a vs) :
  cj P w H' h' a (.dK kvs):=⟨z,hd,vs,rel,dd⟩
theorem Az{H':Hp}{Q:Unit->Gb->Prop}(hu:A.units+1<J2)(I:Inv X pins σ H s)(g:uz H a y v H')(ry:bq y u)(rv:bq v r)(h:∀s',Inv X pins σ H' s'->Q () s') :
  GI (GK X.prog X.w) A (setItem (.ref a) u r) Q E s:=by
 rcases g with⟨kvs,k,e,ey,l,eH⟩|⟨kvs,k,b,e,ey,eb,l,eH⟩
 .subst ey eH;obtain⟨z,hd,vs,rel,dd⟩:=E_ I.hok e;have hz:vs.length<=Gr:=by rw[<-rel.length];exact z
  have hl:(jc kvs k v).length<=Gr:=by have:=mI kvs k v;omega
  refine wpAny_setItem_pairs (hsz:=hz) (mo ry) dd λh' dd' hs=>h _ ?_;have he:∃q,h'.get? a=some q:=let⟨q,_,_,hq,_⟩:=dd';⟨q,hq⟩;exact yH I (by rw[e];exact HY) hs he (Ay hl hd (rel.put k rv) dd')
 .subst ey eH;cases (show u=GW b from ry);obtain⟨z,hd,xs,rel,dd⟩:=Fa I.hok e;have hz:xs.length<=Gr:=by rw[<-Paired.length rel];exact z
  have hl:(jc kvs k v).length<=Gr:=by have:=mI kvs k v;omega
  refine wpAny_setItem_heap (hsz:=hz) (IP hu) (qi I.hok eb) dd λh' dd' hs=>h _ ?_;obtain⟨q,es,ep,hq,h2,h3,h4,_,h5⟩:=dd';refine yH I (by rw[e];exact HY) hs ⟨q,hq⟩ ⟨hl,hd,_,(rel.put k eb rv).keeps λc ys ec=>?_,q,es,ep,hq,h2,h3,h4,h5⟩;rw[ak (EY ec e (λz=>nomatch z))];exact ec
end

section
variable {X:Cx}{pins:List (Addr×Obj)}{σ:St}{H:Hp}{s:Gb}{a:Addr}{kvs:List (Key×V)}{k:Key}{u:F9}{A:G_}{E:F9->Gb->Prop}
theorem Fb{Q:F9->Gb->Prop}(I:Inv X pins σ H s)(e:Rd H a (.dK kvs))(h:∀t s',Inv X pins σ H s'->Q (.int kvs.length t) s'):GI (GK X.prog X.w) A (call (.builtin "len") [.ref a]) Q E s:=by
 obtain⟨z,hd,vs,rel,dd⟩:=on I.hok e;refine call_len_dict hd dd (by rw[<-rel.length];rw[J8]at z;omega) ?_;rw[<-rel.length];exact h _ _ (I.tok _)
end


def BS(i:Expr):Prop:=∀ov iv,Kb i false ov iv=operate [ov,iv] (Ku ov iv)
theorem yI{prog:GE}{w:GF}{A:G_}{E:F9->Gb->Prop}{s:Gb}{env:Env}{value slice:Expr}{pos:Pos}{T id:String}{Q:F9->Gb->Prop}
  (hl:Km (.type T) "__getitem__" = pure (some (.builtin id)))(hs:BS slice)
  (h:GI (GK prog w) A (eval value env) (λo s₁=>GI (GK prog w) A (eval slice env) (λi s₂=>s₂.TypeIs o T/\GI (GK prog w) A (Ku o i) Q E s₂) E s₁) E s) :
  GI (GK prog w) A (eval (.Subscript value slice pos) env) Q E s:=by
 refine KN (He h (λo s₁ h₁=>He h₁ (λi s₂ h₂=>?_) λ_ _ x=>x) λ_ _ x=>x);obtain⟨hT,h₂⟩:=h₂;unfold Kh;refine GB ?_;rw[getitemInPython_of_ne hT.not_modules];refine GB (wpAny_specialOf hT hl ?_);have fin:GI (GK prog w) A (Kb slice false o i) (λr s₃=>GI (GK prog w) A (letTemporaryGo value o r >>= λ_=>pure r) Q E s₃) E s₂:=by
  rw[hs o i];exact wpAny_operating (He h₂ (λr s₃ h₃=>GB (wpAny_letTemporaryGo (Hc h₃))) λ_ _ x=>x)
 first
  |exact Hc (GB fin)
  |exact GB (Hc (GB fin))
  |exact GB fin

theorem yi{X:Cx}{pins:List (Addr×Obj)}{σ:St}{H:Hp}{s:Gb}{a:Addr}{y:V}{o:Option V}(I:Inv X pins σ H s)(g:eW H a y o):s.TypeIs (.ref a) "dict":=by
 rcases g with⟨kvs,k,e,_,_⟩|⟨kvs,k,b,e,_,_,_⟩
 .obtain⟨_,_,vs,_,dd⟩:=on I.hok e;exact dd.typeIs
 .obtain⟨_,_,xs,_,dd⟩:=rT I.hok e;exact dd.typeIs
def Fc(td ty:TE):TE:=λσ H Q=>td σ H λx H1=>ty σ H1 λy H2=>∃a v,x=.ref a/\eW H2 a y (some v)/\Q v H2
def Fd(td ty tv:TE):TS:=λD σ H=>tv σ H λv H1=>td σ H1 λx H2=>ty σ H2 λy H3=>∃a H4,x=.ref a/\uz H3 a y v H4/\D.nx σ H4
section
variable {X:Cx}{o i e value:Expr}{pos pos' tpos:Pos}{td ty tv:TE}
theorem le(hu:X.A.units+1<J2)(ho:PE X o td)(hi:PE X i ty)(hs:BS i):PE X (.Subscript o i pos) (Fc td ty):=by
 intro pins s σ H Q I h;refine yI PySem.F.slot_dict_getitem.lookup hs (thn (ho pins s σ H _ I h) λu s1 ⟨x,H1,I1,rx,q1⟩=>thn (hi pins s1 σ H1 _ I1 q1) λiv s2 ⟨y,H2,I2,ry,a,v,ex,g,q2⟩=>?_);subst ex;obtain rfl:u=GW a:=rx;exact⟨yi I2 g,Ax hu I2 g ry λw' s3 I3 rw'=>⟨v,H2,I3,rw',q2⟩⟩
theorem yJ(hu:X.A.units+1<J2)(ho:PE X o td)(hi:PE X i ty)(hv:PE X value tv)(hs:IR value (some (.Subscript o i pos')) pos.line X.env=pure false) :
  PS X (.Assign [.Subscript o i pos'] value pos) (Fd td ty tv):=by
 intro pins s σ H D I h;refine wpAny_Assign_Subscript (thn (hv pins s σ H _ I h) λr s1 ⟨v,H1,I1,rv,q1⟩=>thn (ho pins s1 σ H1 _ I1 q1) λu s2 ⟨x,H2,I2,rx,q2⟩=>thn (hi pins s2 σ H2 _ I2 q2) λiv s3 ⟨y,H3,I3,ry,a,H4,ex,g,q3⟩=>?_) hs;subst ex;obtain rfl:u=GW a:=rx;exact Az hu I3 g ry rv λs4 I4=>⟨σ,H4,I4,q3⟩
end


theorem BT{P:GE}{w:GF}{H:Hp}(h:Heap)(hb:HD<h.objs.size):cj P w H (h.push { cls:=.type "dict",data:=.dict #[] }) h.objs.size (.dK []):=
 ⟨GV _,beq_eq_false_iff_ne.mpr (GX (Gw hb)),[],.nil,Heap.DictOf.new h⟩
def Ee:TE:=λ_ H Q=>∀p,H p=none->Q (.ref p) (upd H p (.dK []))
section
variable {X:Cx}{pos:Pos}
theorem wY:PE X (.Dict [] [] pos) Ee:=λpins s σ H Q I h =>
 wpAny_Dict_empty ⟨.ref s.heap.objs.size,_,I.laid (a:=s.heap.objs.size) (o:=.dK []) (t':=s.toks) (λ_ _ q=>Gk _ q) (Gh _) (BT s.heap I.big),rfl,h _ (I.hok.fresh (Gh _))⟩
end

def IsD(H:Hp)(a:Addr):Prop:=(∃kvs,Rd H a (.dK kvs))\/∃kvs,Rd H a (.dT kvs)
theorem AA{X:Cx}{pins:List (Addr×Obj)}{σ:St}{H:Hp}{s:Gb}{a:Addr}(I:Inv X pins σ H s)(d:IsD H a) :
  s.TypeIs (.ref a) "dict"/\(∀b,GW a=.ref b->∃ob,s.heap.get? b=some ob/\ob.dict=none)/\(a==HD)=false:=by
 rcases d with⟨kvs,e⟩|⟨kvs,e⟩
 .obtain⟨_,hd,vs,_,dd⟩:=on I.hok e;refine⟨dd.typeIs,λb q=>?_,hd⟩;cases q;obtain⟨ob,_,_,h1,h2,_⟩:=dd;exact⟨ob,h1,h2.2.1⟩
 .obtain⟨_,hd,xs,_,dd⟩:=rT I.hok e;refine⟨dd.typeIs,λb q=>?_,hd⟩;cases q;obtain⟨ob,_,_,h1,h2,_⟩:=dd;exact⟨ob,h1,h2.2.1⟩

section
variable {X:Cx}{pins:List (Addr×Obj)}{σ:St}{H:Hp}{s:Gb}{a:Addr}{y d:V}{u r:F9}{o:Option V}{A:G_}{E:F9->Gb->Prop}
end

section
variable {X:Cx}{o e f:Expr}{apos cpos:Pos}{td ty tx:TE}
end

section
variable {X:Cx}{pins:List (Addr×Obj)}{σ:St}{H:Hp}{s:Gb}{a:Addr}{kvs:List (Key×V)}{A:G_}{E:F9->Gb->Prop}
end


section
variable {X:Cx}{pins:List (Addr×Obj)}{σ:St}{H:Hp}{s:Gb}{a:Addr}{y:V}{u:F9}{A:G_}{E:F9->Gb->Prop}
end
end L2

namespace Att
open PySem PySem.W PySem.Calls PyProof.Rows

theorem t0{P:GQ}{h:Heap}:∀(ns:List Int) (vs:List F9),WellAll P h vs (ns.map WData.int)->KD vs ns:=by
 intro ns;induction ns with
 |nil =>
  intro vs w;rw[Iy]at w;cases w;exact .nil
 |cons n ns ih =>
  intro vs w;rw[Gi]at w;cases w with
  |cons a b =>
   cases a;exact .cons _ _ (ih _ b)

theorem AB{l:OpenLaw}{n:Nat}(hn:l.most=some n){P:GQ}{h:Heap}{args:List WData}{vals:List F9}
  (hpre:l.row.toRowW.claim.pre args=true)(hwl:WellAll P h vals args) :
  ∃a vs ns,vals=[GW a]/\args=[WData.list (ns.map WData.int)]/\h.get? a=some { cls:=.type "list",data:=.seq vs.toArray }/\KD vs ns/\ns.length<=n:=by
 have hsh:WShape.hasAll [] args [.list .int]=true:=(pre_splitW hpre).1;have hc:l.pre.holds [] { args:=args }=true:=(pre_splitW hpre).2;obtain⟨d,r,rfl,h1,h2⟩:=hasAllW_cons hsh;obtain rfl:=hasAllW_nil h2;obtain⟨xs,rfl,h3⟩:=hasW_list h1;obtain⟨ns,rfl⟩:=items_int h3;have hlen:ns.length<=n:=by
  unfold OpenLaw.pre at hc;have h4:(WTm.not (.lt (.lit (.int (n:Int))) (.len (.arg 0)))).holds [] { args:=[.list (ns.map .int)] }=true:=by
   have h4:=(holds_andW hc).1;rw[hn]at h4;exact h4
  have h5:=condW_of h4 (w_not (w_lt w_lit (w_len_list (w_arg rfl))));rw[F6]at h5;refine Iz λq=>?_;have q':(n:Int)<((ns.length:Nat):Int):=by omega
  first
   |(rw[decide_eq_true q']at h5;exact absurd h5 (by decide))
   |(simp at h5;omega)
 cases hwl with
 |cons w1 w2 =>
  cases w2;cases w1 with
  |list ho hall=>exact⟨_,_,ns,rfl,rfl,ho,t0 ns _ hall,hlen⟩

theorem AC(l:OpenLaw)(args:List WData):l.row.toRowW.claim.post args (.bool true) args=true:=
 postW_of (r:=l.row.toRowW) (X:=(true==true))
  (show WShape.has [] (.bool true) .bool=true by first|rfl|decide|simp[WShape.has,WShape.arms,WShape.armsAll])
  (show(WTm.eq .res (.lit (.bool true))).value [] { args:=args,res:=some (.bool true),after:=args }=some (.bool (true==true))from w_eq_bool (w_res rfl) w_lit) rfl

theorem attach_call{l:OpenLaw}{n:Nat}{q:GE}{loose:List Str}{XP:(Str->Option F9)->Heap->Prop}{YP:GF->Heap->Prop}{d:DefRec}
  (hn:l.most=some n)(hdf:d.params.defaults=[])
  (call:∀ (w:GF) (s₀ s₁:Gb) (mg mb:Str→Option F9) (fa:Addr) (o:Obj) (pm cd doc:F9) (a:Addr) (vs:List F9) (ns:List Int),
   Ground q loose [] XP w s₀ mg mb s₁.heap->YP w s₁.heap->
   s₁.heap.get? fa=some o->o.data=.func (docDef d.name d.params d.body d.scope pm cd doc)->s₁.heap.CodeRec cd d.name->mg d.name=some (.ref fa)->
   s₁.heap.get? a=some { cls:=.type "list",data:=.seq vs.toArray }->KD vs ns->ns.length<=n->s₁.gens=#[]->
   Jj (GK l.prog w) Kf (.call (.ref fa) ⟨[.ref a],[]⟩) (λr s'=>r=.ok (.ret (.bool true))/\OldK s₁.heap s'.heap/\s'.os=s₁.os/\Jg s'.gens) s₁) :
  WalkO q loose XP YP l.row.toRowW d [] (λf vs=>PySem.call f vs):=by
 intro w s₀ s₁ mg mb G Y fa o pm cd doc dV kV ho hd hcd hD hmg hg args vals as hpre hlay hrd hwl hlo;obtain rfl:dV=.none:=Dflts.none hD hdf;obtain rfl:kV=.none:=Dflts.noKw hD;obtain⟨a,vs,ns,rfl,rfl,hobj,hints,hlen⟩:=AB hn hpre hwl;refine enter_call (Jz (call w s₀ s₁ mg mb fa o pm cd doc a vs ns G Y ho (fd_plain hd) hcd hmg hobj hints hlen hg) λr s' hq=>?_);obtain⟨rfl,h2,h3,h4⟩:=hq;exact⟨.inl ⟨.bool true,.bool true,[],rfl,λ_=>rfl,.bool true,AC l _,λ_=>⟨List.Pairwise.nil,λ_ hm=>(nomatch hm)⟩⟩,h2,h3,h4⟩

section
variable {prog:GE}{w:GF}{A:G_}{E:F9->Gb->Prop}{s:Gb}{K:Frag}

end
end Att

namespace L2
open PySem PySem.Spec PyProof.Rows

theorem va:∀{vs:List F9} {ns:List Int},KD vs ns->a_ (ns.map V.int) vs
 |_,_,.nil=>.nil
 |_,_,.cons n t h=>.cons ⟨t,rfl⟩ (va h)

def BU(H:Hp):Prop:=∀b,H b=none\/∃o xs,H b=some (.frz o (.lst xs))

theorem BV{P:GE}{w:GF}{K:PySem.W.Frag}{mg mb:Str->Option F9}{CX:CXT}{k:Nat}{fa a:Addr}{fd:Gn}{x:Str}{sp:Sp}{s₁:Gb}{vs:List F9}{ns:List Int}
  (KX:K.In s₁.heap)(hns:s₁.heap.Ns GJ mg)(hb:s₁.heap.Ns Kk mb)(hbb:∀x:Str,x≠"__name__"->mb x=Iu x)(hlim:s₁.heap.NoLimit)(hg:s₁.gens=#[])
  (ha:s₁.heap.get? a=some { cls:=.type "list",data:=.seq vs.toArray })(hi:KD vs ns)(hl:ns.length<=Gr)(hr:cE k Kf)
  (F:∀base:Heap,K.In base->base.Ns GJ mg->aX P w K mg base CX k fa fd [x] sp)(hbind:∀(s:Gb) (u:F9),BindsTo s fd ⟨[u],[]⟩ [(x,u)])
  (hsp:∀H:Hp,BU H->SqL K H a (ns.map V.int)->sp [.ref a] H (λv _=>v=.bl true) λ_ _ _=>False)
  (hCX:∀H e s',CX [] H s₁ (λ_ _ _=>False) e s'->False) :
  Jj (GK P w) Kf (.call (.ref fa) ⟨[.ref a],[]⟩) (λr s'=>r=.ok (.ret (.bool true))/\OldK s₁.heap s'.heap/\s'.os=s₁.os/\Jg s'.gens) s₁:=by
 have rv:=va hi;have lenV:=hi.length
 -- from an abstract heap in which nothing but the script may be tracked
 have core:∀H:Hp,BU H->SqL K H a (ns.map V.int)->HOk P w H s₁.heap->(∀b,H b≠none->b=a)->(H a≠none->K.lookup a=none)->
   Jj (GK P w) Kf (.call (.ref fa) ⟨[.ref a],[]⟩) (λr s'=>r=.ok (.ret (.bool true))/\OldK s₁.heap s'.heap/\s'.os=s₁.os/\Jg s'.gens) s₁:=by
  intro H hO hS hok hA hK;have base_of:∀{b:Addr} {o:Obj},s₁.heap.get? b=some o->H b=none->(oh s₁.heap H).get? b=some o:=λe n=>BE e n;have noA:∀{b:Addr} {o:Obj} {es:Array Hb} {ep:Nat},s₁.heap.get? b=some o->o.data=.dict es ep->H b=none:=λ{b o es ep} e d=>by
   cases q:H b with
   |none=>rfl
   |some u =>
    have e':b=a:=hA b (by rw[q];simp);subst e';rw[ha]at e;cases e;have d':Data.seq vs.toArray _=Data.dict es ep:=d;cases d'
  have nsK:∀{b:Addr} {m:Str->Option F9},s₁.heap.Ns b m->(oh s₁.heap H).Ns b m:=λ{b m} ⟨o,es,ep,e,d,r⟩=>⟨o,es,ep,base_of e (noA e d),d,r⟩;have hKb:K.In (oh s₁.heap H):=λb o e=>base_of (KX b o e) (by
   cases q:H b with
   |none=>rfl
   |some u =>
    have e':b=a:=hA b (by rw[q];simp);subst e';rw[hK (by rw[q];simp)]at e;cases e)
  have hM:Mod K mg (oh s₁.heap H):=⟨hKb,nsK hns,⟨mb,nsK hb,hbb⟩,let⟨mc,h1,h2⟩:=hlim;⟨mc,nsK h1,h2⟩⟩;have e0:sJ P w K mg (oh s₁.heap H) Kf [] s₁ H:=⟨rfl,hM,λb o e=>C5 e,Kr (Ak _ _),trivial,λb hb=>absurd (show b∈([]:List Addr)from hb) (by simp),hok,.of_eq hg⟩;refine Jz ((F _ hKb (nsK hns)).run Kf [] s₁ H ⟨[.ref a],[]⟩ [.ref a] [.ref a] _ _ hr e0 (hbind s₁ (.ref a)) (.cons rfl .nil) (hsp H hO hS)) λr s' h=>?_;cases r with
  |error e=>exact(hCX H e s' h).elim
  |ok fl =>
   cases fl with
   |next=>exact Hx h
   |brk=>exact Hx h
   |cont=>exact Hx h
   |ret u =>
    obtain⟨v,H',os,bare,un,hok',r',q⟩:=h;have q':v=.bl true:=q;subst q';obtain rfl:u=JV true:=r';refine⟨rfl,OldK.of_keep λb o e=>?_,os,bare⟩;cases q:H b with
    |none=>exact un.keep b o e q (by intro z;exact absurd (show b∈([]:List Addr)from z) (by simp)) (by simp)
    |some u =>
     rcases hO b with z|⟨ob,xs,z⟩
     .rw[q]at z;cases z
     .have z2:=un.frzs b ob _ z;obtain⟨e1,_⟩:=hok b _ z;obtain⟨e2,_⟩:=hok' b _ z2;rw[e]at e1;cases e1;exact e2
 cases hk:K.lookup a with
 |some o =>
  -- the script is one of the module's own objects
  have e:=KX a o hk;rw[ha]at e;cases e;refine core (λ_=>none) (λ_=>.inl rfl) (.inr ⟨_,vs.toArray,_,hk,rfl,rfl,rfl,by rw[Gx,lenV];exact hl,by simpa using rv⟩) (λb u z=>by have z':(none:Option HO)=some u:=z;cases z') (λb z=>absurd rfl z) λz=>absurd rfl z
 |none =>
  refine core (λb=>if b=a then some (.frz { cls:=.type "list",data:=.seq vs.toArray } (.lst (ns.map V.int)))else none) (λb=>?_) (.inl (.inr ⟨{ cls:=.type "list",data:=.seq vs.toArray },if_pos rfl⟩)) (λb u z=>?_) (λb z=>?_) λ_=>hk
  .by_cases hb:b=a
   .exact .inr ⟨_,_,if_pos hb⟩
   .exact .inl (if_neg hb)
  .by_cases hb:b=a
   .have z':=(if_pos hb).symm.trans z;cases z';subst hb;exact⟨ha,by rw[F6];exact hl,vs,_,rv,ha⟩
   .have z':=(if_neg hb).symm.trans z;cases z'
  .by_cases hb:b=a
   .exact hb
   .exact absurd (if_neg hb) z

theorem walk_of{l:PySem.W.OpenLaw}{n k:Nat}{q:GE}{loose:List Str}{XP:(Str->Option F9)->Heap->Prop}{YP:GF->Heap->Prop}{d:DefRec}{K:GQ->PySem.W.Frag}{CX:GF->CXT}{sp:GF->Sp}{x:Str}
  (hn:l.most=some n)(hn2:n<=Gr)(hdf:d.params.defaults=[])(hr:cE k Kf)
  (hY:∀(w:GF) (h:Heap),YP w h->(K w.params).In h)
  (F:∀ (w:GF) (mg:Str→Option F9) (fa:Addr) (h:Heap),(K w.params).In h→h.Ns GJ mg→mg d.name=some (.ref fa) →
   ∃fd:Gn,(∀(s:Gb) (u:F9),BindsTo s fd ⟨[u],[]⟩ [(x,u)])/\
    ∀base:Heap,(K w.params).In base->base.Ns GJ mg->aX l.prog w (K w.params) mg base (CX w) k fa fd [x] (sp w))
  (hsp:∀(w:GF) (H:Hp) (a:Addr) (ns:List Int),ns.length<=n->BU H->SqL (K w.params) H a (ns.map V.int)->sp w [.ref a] H (λv _=>v=.bl true) λ_ _ _=>False)
  (hCX:∀(w:GF) (H:Hp) (s:Gb) (e:F9) (s':Gb),CX w [] H s (λ_ _ _=>False) e s'->False) :
  PySem.W.WalkO q loose XP YP l.row.toRowW d [] (λf vs=>PySem.call f vs):=by
 refine Att.attach_call hn hdf λw s₀ s₁ mg mb fa o pm cd doc a vs ns G Y ho hd hcd hmg hobj hints hlen hg=>?_;have KX:=hY w _ Y;obtain⟨fd,hb,hF⟩:=F w mg fa _ KX G.T.g hmg;exact BV KX G.T.g G.T.b G.T.builtins G.T.nolimit hg hobj hints (GM hlen hn2) hr hF hb (λH hO hS=>hsp w H a ns hlen hO hS) λH e s'=>hCX w H s₁ e s'

abbrev CX0:CXT:=λ_ _ _ _ _ _=>False
abbrev E0:XK:=λ_ _ _=>False
theorem eR{X:Cx}:fL CX0 X E0:=λ_ _ _ _ _ _ _ h=>h.elim

structure Fun(K:PySem.W.Frag)(x qual:Str)(st:Stmt)(f:Addr)(fd:Gn):Prop where
 ex:∃(oc:F9) (od:Option Addr) (kV doc pm:F9) (an:Option Addr) (cdv ct:F9) (osl:Array (Option F9)),
  fd=PySem.W.fnOf x qual (cI st) (cm st) (au st) .none kV doc pm an cdv ct/\K.lookup f=some ⟨oc,od,.func fd,osl⟩/\PySem.W.codeIn K cdv qual=true
 kp:PySem.W.keepIn K (.ref f)=true
section
variable {P:GE}{w:GF}{K:PySem.W.Frag}{mg:Str->Option F9}{base:Heap}
theorem Fun.ok{x qual:Str}{st:Stmt}{f:Addr}{fd:Gn}{N ps:List Str}{k:Nat}{sp:Sp}(F:Fun K x qual st f fd)(S:aK N ps (au st))(len:∀vs H Q E,sp vs H Q E->vs.length=ps.length)
  (hbody:∀ (cdv:F9) (A:G_) (outer:List Env) (s:Gb) (H:Hp) (vs:List V) (Q:VK) (E:XK),cE k (A.deeper (HE qual (au st) s.heap.objs.size f cdv))→sp vs H Q E →
   ∃t,PSs (mH CX0 P w K mg base N qual (au st) f cdv A outer s H E).nox (cm st) t/\t { nx:=λ_ H'=>Q .non H',rt:=Q } (i_ N vs) H):aX P w K mg base CX0 (k+1) f fd ps sp:=by
 obtain⟨oc,od,kV,doc,pm,an,cdv,ct,osl,rfl,lk,hcd⟩:=F.ex;refine zj lk hcd S len λA outer s H vs Q E hr hsp=>?_;obtain⟨t,h,q⟩:=hbody cdv A outer s H vs Q E hr hsp;exact⟨t,h.nox,q⟩
theorem Fun.binds{x qual:Str}{st:Stmt}{f:Addr}{fd:Gn}{ps:List Str}(F:Fun K x qual st f fd)
  (h:∀(kV doc pm:F9) (an:Option Addr) (cdv ct:F9) (us:List F9),us.length=ps.length->JT (PySem.W.fnOf x qual (cI st) (cm st) (au st) .none kV doc pm an cdv ct) ⟨us,[]⟩=pure (ps.zip us)):gR K fd ps []:=by
 obtain⟨oc,od,kV,doc,pm,an,cdv,ct,osl,rfl,lk,hcd⟩:=F.ex;exact .all (h kV doc pm an cdv ct)
theorem t_{x qual:Str}{st:Stmt}{f:Addr}{oc:F9}{od an:Option Addr}{osl:Array (Option F9)}{kV doc pm cdv ct:F9}(l:K.lookup f=some ⟨oc,od,.func (PySem.W.fnOf x qual (cI st) (cm st) (au st) .none kV doc pm an cdv ct),osl⟩)
  (c:PySem.W.codeIn K cdv qual=true)(k:PySem.W.keepIn K (.ref f)=true):Fun K x qual st f (PySem.W.fnOf x qual (cI st) (cm st) (au st) .none kV doc pm an cdv ct):=⟨⟨oc,od,kV,doc,pm,an,cdv,ct,osl,rfl,l,c⟩,k⟩
end
theorem fe{A:G_}{k:Nat}(hr:cE k A):A.units+1<J2:=Go (Nat.add_le_add_left (by decide:1<=64) _) hr.units
theorem aA{n:Nat}(h:n<=1000):n<Gr:=Go h (by decide)

section
variable {X:Cx}
theorem pv(i:Nat){x:Str}{pos:Pos}(hN:X.N[i]?=some x:=by rfl)(hv:Vis X.env.scope x:=by first|exact Gm rfl|exact Kn (Gm rfl)|exact Kn (Kn rfl))(hd:(x==("__debug__" : Str))=false:=by decide)
  (hcd:(x==("__classdict__" : Str))=false:=by decide):PE X (.Name x pos) (BF i):=D1 hN hv hd hcd
theorem AD:gQ X (.builtin "len") (λxs H Q=>∃a kvs,xs=[V.ref a]/\H a=some (.dK kvs)/\Q (.int kvs.length) H):=by
 intro pins s σ H xs us Q I r h;obtain⟨a,kvs,rfl,ha,q⟩:=h;obtain⟨u,rfl,ru⟩:=iC r;cases ru;exact Fb I (.inl ha) λt s' I'=>⟨.int kvs.length,H,I',⟨t,rfl⟩,q⟩
end

theorem av{A B:Prop}(h:B):if false=true then A else B:=by
 rw[if_neg Gy];exact h
theorem aN{A B:Prop}(h:A):if true=true then A else B:=by
 rw[if_pos rfl];exact h
theorem dX{c A B:Prop}[Decidable c](h1:c->A)(h2:¬ c->B):if c then A else B:=by
 by_cases h:c
 .rw[if_pos h];exact h1 h
 .rw[if_neg h];exact h2 h
theorem CO{c A B:Prop}[Decidable c](hc:c)(h:B):if(!decide c)=true then A else B:=by
 rw[decide_eq_true hc];exact av h

def aj(H H':Hp):Prop:=∀b o,H b=some o->H' b=some o
theorem aj.refl(H:Hp):aj H H:=λ_ _ h=>h
theorem aj.trans{H H1 H2:Hp}(a:aj H H1)(b:aj H1 H2):aj H H2:=λc o h=>b c o (a c o h)
theorem aj.free{H H':Hp}(e:aj H H'){l:Addr}(h:H' l=Option.none):H l=Option.none:=by
 cases q:H l with
 |none=>rfl
 |some o =>
  rw[e l o q]at h;cases h
theorem aj.seq{K:PySem.W.Frag}{H H':Hp}{a:Addr}{xs:List V}(e:aj H H')(h:SqL K H a xs):SqL K H' a xs:=by
 rcases h with(h|⟨o,h⟩)|h
 .exact .inl (.inl (e _ _ h))
 .exact .inl (.inr ⟨o,e _ _ h⟩)
 .exact .inr h

section
variable {κ:Type}[DecidableEq κ]
end

section
variable {prog:GE}{w:GF}{A:G_}{R:JQ->Gb->Prop}{s:Gb}
theorem wZ{elt target iter:Expr}{ifs:List Expr}{scope:Scope}{pos:Pos}{it acc:F9}{env:Env}(I:Nat->Gb->Prop)
  (turn:∀ n s,I n s→GI (GK prog w) A (pyNext it) (fun r s₁=>match r with
   |none=>R (.ok .next) s₁
   |some v=>GI (GK prog w) A (Jr target it v) (λ_ s₀=>GI (GK prog w) A (Kl target env v) (λ_ s₂ =>
     GI (GK prog w) A (forIn ifs true λc r=>if r=true then do let ok<-isTrue c env (eval c env);pure (Jt ok)else pure (Jt r)) (λok s₃ =>
      if ok=true then GI (GK prog w) A (eval elt env) (λx s₄ =>
       GI (GK prog w) A (call (.builtin "list.append") [acc,x]) (λ_ s₅=>∃m,m<n/\I m s₅) (λ_ _=>False) s₄) (λ_ _=>False) s₃
      else ∃m,m<n/\I m s₃) (λ_ _=>False) s₂) (λ_ _=>False) s₀) (λ_ _=>False) s₁) (λ_ _=>False) s)
  (n:Nat) (h:I n s):Jj (GK prog w) A (.compLoop (.ListComp elt [⟨target,iter,ifs,0⟩] scope pos) 0 it acc env) R s:=by
 refine codeAny_loop rfl I (λn s hI=>?_) n h;show GI _ A ((compTurn (.ListComp elt [⟨target,iter,ifs,0⟩] scope pos) 0 it acc env).onRaise (λx=>do noteFrame x env;theTreesLotGoes x)) _ _ s
 refine wpAny_noted ?_;rw[compTurn_list];refine GB (Kg (GB (He (turn n s hI) (λr s₁ h₁=>?_) λ_ _ h'=>h'.elim)));cases r with
 |none=>exact Hc h₁
 |some v =>
  refine GB (He h₁ (λ_ s₀ h₀=>?_) λ_ _ h'=>h'.elim);refine GB (He h₀ (λ_ s₂ h₂=>GB (He h₂ (λok s₃ h₃=>?_) λ_ _ h'=>h'.elim)) λ_ _ h'=>h'.elim);cases ok with
  |false=>exact Hc ⟨rfl,h₃⟩
  |true =>
   exact GB (GB (He h₃ (λx s₄ h₄=>GB (He h₄ (λ_ s₅ h₅=>Hc (Hc ⟨rfl,h₅⟩)) λ_ _ h'=>h'.elim)) λ_ _ h'=>h'.elim))
end

def PTs(X:Cx)(ifs:List Expr)(t:TT):Prop:=
 ∀(pins:List (Addr×Obj)) (s:Gb) (σ:St) (H:Hp) (Q:Bool->Hp->Prop),Inv X pins σ H s->t σ H Q->
  GI (GK X.prog X.w) X.A (forIn ifs true λc r=>if r=true then do let ok<-isTrue c X.env (eval c X.env);pure (Jt ok)else pure (Jt r)) (TP X pins σ Q) X.xe s
def Ef:TT:=λ_ H Q=>Q true H
theorem dD{X:Cx}:PTs X [] Ef:=λ_ _ _ H _ I h=>wpAny_tests_nil ⟨H,I,h⟩
theorem iD{X:Cx}{c:Expr}{t:TT}(h:PT X c t):PTs X [c] t:=λpins s σ H Q I hw=>wpAny_tests_one (h pins s σ H Q I hw)

abbrev Cx.blk(X:Cx)(N:List Str)(s:Gb)(H:Hp)(scope:Scope)(cl:List (Str×Addr))(C:Addr)(ex:List Addr):Cx:=
 { X with N:=N,s₀:=s,H₀:=H,env:=compEnvC scope cl C X.env,outer:=X.stack,stack:=X.stack,ex:=ex,fn:=λ_=>false,pn:=[],xe:=λ_ _=>False }

def sM(env:Env):List (Str×Addr)->Prop
 |[]=>True
 |p::r=>env.cells.lookup p.1=some p.2/\sM env r
theorem kO{α:Type}:∀{l:List (Str×α)} {x:Str} {k:α},l.lookup x=some k->(x,k)∈l
 |[],_,_,h=>by simp at h
 |(n,k')::r,x,k,h=>by
  rw[List.lookup_cons]at h;cases hx:x==n with
  |true =>
   rw[hx]at h;have e:x=n:=Ky hx;have e2:k'=k:=GU h;rw[e,e2];exact Gd
  |false =>
   rw[hx]at h;exact Gc _ (kO h)
theorem sM.get{env:Env}:∀{cl:List (Str×Addr)} {x:Str} {c:Addr},sM env cl->cl.lookup x=some c->env.cells.lookup x=some c:=λ{cl x c} h e=>by
 have go:∀(l:List (Str×Addr)),sM env l->∀p∈l,env.cells.lookup p.1=some p.2:=by
  intro l;induction l with
  |nil=>intro _ p hp;cases hp
  |cons q r ih =>
   intro ha p hp;rcases List.mem_cons.mp hp with rfl|hp
   .exact ha.1
   .exact ih ha.2 p hp
 exact go cl h (x,c) (kO e)
def kP(X:Cx)(scope:Scope)(cl:List (Str×Addr)):List Str->List Nat->Prop
 |[],[]=>True
 |y::ys,j::js=>(X.N[j]?=some y/\(X.env.kindOf y=some .cell\/X.env.kindOf y=some .free)/\(cl.lookup y).isSome=true/\((Ia scope X.env).names.lookup y=some .cell\/(Ia scope X.env).names.lookup y=some .free))/\kP X scope cl ys js
 |_,_=>False
theorem kP.get{X:Cx}{scope:Scope}{cl:List (Str×Addr)}:∀{ys:List Str} {js:List Nat} {i:Nat} {y:Str},kP X scope cl ys js->ys[i]?=some y->
  ∃j,js[i]?=some j/\X.N[j]?=some y/\(X.env.kindOf y=some .cell\/X.env.kindOf y=some .free)/\(cl.lookup y).isSome=true/\((Ia scope X.env).names.lookup y=some .cell\/(Ia scope X.env).names.lookup y=some .free)
 |[],_,_,_,_,e=>by simp at e
 |_::_,[],_,_,h,_=>h.elim
 |y::ys,j::js,0,z,h,e=>by
  have e':y=z:=by simpa using e
  subst e';exact⟨j,rfl,h.1⟩
 |y::ys,j::js,i+1,z,h,e=>by
  obtain⟨k,e1,e2⟩:=kP.get (i:=i) h.2 (by simpa using e);exact⟨k,by simpa using e1,e2⟩
theorem kP.len{X:Cx}{scope:Scope}{cl:List (Str×Addr)}:∀{ys:List Str} {js:List Nat},kP X scope cl ys js->ys.length=js.length
 |[],[],_=>rfl
 |[],_::_,h=>h.elim
 |_::_,[],h=>h.elim
 |_::_,_::_,h=>by rw[F8,F8,kP.len h.2]
def qj(σ:St)(js:List Nat):St:=js.map λj=>(σ[j]?).join
theorem w_{scope:Scope}{env:Env}{x:Str}(hcell:∀y∈scope.names,y.2≠.cell)(h:(Ia scope env).names.lookup x=some .cell\/(Ia scope env).names.lookup x=some .free):(x,JR)∈scope.names:=by
 have hm:∃k,(k=NameKind.cell\/k=JR)/\(x,k)∈(Ia scope env).names:=by
  rcases h with h|h
  .exact⟨_,.inl rfl,kO h⟩
  .exact⟨_,.inr rfl,kO h⟩
 obtain⟨k,hk,hm⟩:=hm;obtain⟨⟨n,k'⟩,hin,e⟩:=List.mem_map.mp hm;dsimp only at e;by_cases hc:(k'==JR&&env.scope.kind==.function&&env.kindOf n==some .cell)=true
 .rw[if_pos hc]at e;cases e;have:k'=JR:=by
   rw[HF,HF]at hc;exact Ky hc.1.1
  rw[<-this];exact hin
 .rw[if_neg hc]at e;cases e;rcases hk with hk|hk
  .exact absurd hk (hcell _ hin)
  .rw[<-hk];exact hin
section
variable {X:Cx}{pins:List (Addr×Obj)}{σ:St}{H:Hp}{s:Gb}
theorem Inv.adopt{D:Addr}{ys:List V}{its:List F9}{n:Nat}(I:Inv X pins σ H s)(hn:H D=none)(hnew:X.s₀.heap.objs.size<=D)(hL:D≠X.env.locals)(hc:∀x c,X.env.cells.lookup x=some c->c≠D)(hp:∀p∈X.pn++pins,p.1≠D)
  (e:s.heap.get? D=some { cls:=.type "list",data:=.seq its.toArray n })(hv:a_ ys its)(hz:ys.length<=Gr):Inv X pins σ (upd H D (.lst ys)) s:=by
 have ne:∀b u,H b=some u->b≠D:=λb u q=>cy q hn;refine⟨I.ok,I.os,I.bare,⟨I.base.keep,I.base.slot,λb o q nn hx=>?_,I.base.there,λb xs q=>?_,λb o u q=>?_,λb ps q=>?_⟩,I.loc,I.cell,?_,λx c q=>?_,λp hq=>?_,λb u q=>?_,I.len⟩
 .rw[ak (Gw (GC (Gq q) hnew))];exact I.base.free b o q nn hx
 .have z:=I.base.tups b xs q;rw[ak (ne b _ z)];exact z
 .have z:=I.base.frzs b o u q;rw[ak (ne b _ z)];exact z
 .obtain⟨more,z⟩:=I.base.tbls b ps q;exact⟨more,by rw[ak (ne b _ z)];exact z⟩
 .rw[ak (GX hL)];exact I.free
 .rw[ak (hc x c q)];exact I.freeC x c q
 .obtain⟨a1,a2,a3⟩:=I.pin p hq;exact⟨a1,by rw[ak (hp p hq)];exact a2,a3⟩
 .by_cases hb:b=D
  .subst hb;rw[ae]at q;cases q;exact⟨hz,its,n,hv,e⟩
  .rw[ak hb]at q;exact(I.hok b u q).stay (λc v _ r=>r) (λc r=>by rw[ak (ne c _ r)];exact r) λc xs r=>by rw[ak (ne c _ r)];exact r
structure zm(X:Cx)(pins:List (Addr×Obj))(σ:St)(C D:Addr)(H:Hp)(s:Gb):Prop where
 inv:Inv X pins σ H s
 ns:∃m,s.heap.Ns C m
 nL:C≠X.env.locals
 new:X.s₀.heap.objs.size<=C
 nc:∀x c,X.env.cells.lookup x=some c->c≠C
 np:∀p∈X.pn++pins,p.1≠C
 free:H C=none
theorem zm.gone{C D:Addr}{h':Heap}(O:zm X pins σ C D H s)(sb:Iv C s.heap h'):Inv X pins σ H { s with heap:=h' }:=
 O.inv.turned (t':=s.toks) (it:=C) (λb o hb e=>(sb.2 b hb).trans e) O.free O.nL (.inr O.new) O.nc O.np
end

def gLC(J:It)(g:TG)(tc:TT)(te:TE)(n:Nat)(cv:St)(Fin:List V->Hp->Prop)(H1:Hp):Prop:=
 ∃W:Nat->Nat->List V->Hp->Prop,(∃m,W 0 m [] H1)/\∀i m ys H,W i m ys H->
  (J.stop i H/\Fin ys H)\/
  (J.go i H∧ys.length < Gr∧∃ N:List V→Hp→Prop,(∀ ys' H',N ys' H'→∃ m',m' < m∧W (i+1) m' ys' H')∧∀ x H',J.yld i H x H'→∀ own:St,own.length=n→g x (own++cv) H' fun σ2 H2=>(∃ own2:St,own2.length=n∧σ2=own2++cv) ∧
   tc σ2 H2 λb H3=>if b=true then te σ2 H3 λy H4=>N (ys++[y]) H4 else N ys H3)

def uA(env:Env):List (Str×J_)->List (Str×Addr)->List (Str×Addr)
 |[],acc=>acc
 |(n,k)::r,acc=>uA env r (if k==.free then(match env.cells.lookup n with|some c=>(n,c)::acc|none=>acc)else acc)
theorem xa(env:Env):∀(names:List (Str×J_)) (acc:List (Str×Addr)),sM env acc->sM env (uA env names acc)
 |[],_,h=>h
 |(n,k)::r,acc,h=>by
  refine xa env r _ ?_
  split
  .split
   .exact⟨by assumption,h⟩
   .exact h
  .exact h
structure oq(X:Cx)(scope:Scope)(cl:List (Str×Addr))(own caps:List Str)(js:List Nat):Prop where
 clos:closureFor scope X.env=pure cl
 cell:∀y∈scope.names,y.2≠.cell
 kind:scope.kind=.function
 names:∀y∈scope.names,y.2=.local->scope.names.lookup y.1=some .local
 allc:sM X.env cl
 free:(scope.names.all λy=>y.2 != .free||(cl.lookup y.1).isSome)=true
 cap:kP X scope cl caps js

theorem d_{X:Cx}{scope:Scope}{own caps:List Str}{js:List Nat}(clos:closureFor scope X.env=pure (uA X.env scope.names []):=by with_unfolding_all rfl)(cell:∀y∈scope.names,y.2≠.cell:=by decide +kernel)(kind:scope.kind=.function:=by rfl)
  (names:∀y∈scope.names,y.2=.local->scope.names.lookup y.1=some .local:=by decide +kernel)(free:(scope.names.all λy=>y.2 != .free||((uA X.env scope.names []).lookup y.1).isSome)=true:=by with_unfolding_all rfl)
  (cap:kP X scope (uA X.env scope.names []) caps js):oq X scope (uA X.env scope.names []) own caps js:=⟨clos,cell,kind,names,xa _ _ _ trivial,free,cap⟩
section
variable {X:Cx}{elt iter target:Expr}{ifs:List Expr}{scope:Scope}{cl:List (Str×Addr)}{pos:Pos}{own caps:List Str}{js:List Nat}{g:TG}{tc:TT}{te:TE}
theorem xb{pins:List (Addr×Obj)}{σ:St}{s₂:Gb}{H1:Hp}{it:Addr}{fp:List Addr}{tn:Nat->Heap->Prop}{J:It}{Fin:List V->Hp->Prop}{RR:F9->Addr->JQ->Gb->Prop}{E:F9->Gb->Prop}
  (hc:X.calm=true)(L:oq X scope cl own caps js)
  (hg:∀s H C ex,PG (X.blk (own++caps) s H scope cl C ex) target g)(ht:∀s H C ex,PTs (X.blk (own++caps) s H scope cl C ex) ifs tc)(he:∀s H C ex,PE (X.blk (own++caps) s H scope cl C ex) elt te)
  (I2:Inv X pins σ H1 s₂)(T:qb X.prog X.w X.K target J fp it tn)(st2:tn 0 s₂.heap)(f2:∀b∈fp,p_ X pins H1 b)
  (G:gLC J g tc te own.length (qj σ js) Fin H1)
  (hRR:∀D C H ys s',H D=none->zm X pins σ C D (upd H D (.lst ys)) s'->Fin ys H->RR (.ref D) C (.ok .next) s') :
  GI (GK X.prog X.w) X.A (newList []) (λacc s₃=>GI (GK X.prog X.w) X.A (newFunctionEnv scope X.env.globals cl [] X.env.qual none .none (some X.env)) (λcenv s₄ =>
   Jj (GK X.prog X.w) X.A (.compStart (.ListComp elt [⟨target,iter,ifs,0⟩] scope pos) 0 (.ref it) acc { cenv with scope:=Ia scope X.env }) (RR acc cenv.locals) s₄) E s₃) E s₂:=by
 refine JM (wpAny_newFunctionEnv L.cell (by intro y hy;simp at hy) (λh₁ hns₁ hsb₁=>?_) L.kind);dsimp only at hns₁ hsb₁⊢;generalize hH2:s₂.heap.push { cls:=.type "list",dict:=none,data:=.seq ([]:List F9).toArray }=G2 at hns₁ hsb₁⊢;have hC:G2.objs.size=s₂.heap.objs.size+1:=by rw[<-hH2,IV]
 have up2:∀b o,s₂.heap.get? b=some o->G2.get? b=some o:=λb o e=>hH2▸Gk _ e;have hDC:s₂.heap.objs.size≠G2.objs.size:=by rw[hC];exact Gw (Ic _)
 have hD2:G2.get? s₂.heap.objs.size=some { cls:=.type "list",data:=.seq ([]:List F9).toArray ([]:List F9).length }:=hH2▸GH _ rfl
 -- the state with the list laid
 have I3:Inv X pins σ H1 { s₂ with heap:=G2 }:=I2.kept (t':=s₂.toks) up2;have up3:∀b o,G2.get? b=some o->h₁.get? b=some o:=λb o e=>hsb₁.extBut b o (Gw (Gq e)) (Gk _ e);have DH:H1 s₂.heap.objs.size=none:=I2.fresh;have CH:H1 G2.objs.size=none:=I3.fresh;have fpl:∀b∈fp,b<s₂.heap.objs.size:=λb hb=>by
  obtain⟨o,e,_⟩:=T.obj 0 _ st2 b hb;exact Gq e
 have celllt:∀x c,X.env.cells.lookup x=some c->c<s₂.heap.objs.size:=λx c e=>by
  obtain⟨v,q⟩:=I2.cell x c e;exact q.lt
 have locl:X.env.locals<s₂.heap.objs.size:=I2.lt;generalize hD:s₂.heap.objs.size=D at *;generalize hCC:G2.objs.size=C at *;have hDltC:D<C:=by omega
 have noF:∀b,b∈frs X.stack->b<D:=λb hb=>by
  rcases List.mem_cons.mp (I2.stkSub b hb)with e|hb
  .rw[e];exact locl
  .obtain⟨_,o,ho,_⟩:=I2.ok.funs.mem hb;exact GC (Gq ho) (hD▸I2.sz)
 have fpF:∀b∈fp,b∉frs X.stack:=λb hb z=>by
  obtain⟨_,e1,e2,_⟩:=f2 b hb;rcases List.mem_cons.mp (I2.stkSub b z)with e|z
  .exact e1 e
  .exact e2 z
 have ok':(X.blk (own++caps) { s₂ with heap:=G2 } H1 scope cl C (D::fp)).Ok:={
  mod:=I2.ok.mod
  kind:=L.kind
  glob:=I2.ok.glob
  blt:=I2.ok.blt
  above:=Kr hCC
  inj:=λx y c e1 e2=>I2.ok.inj x y c (L.allc.get e1) (L.allc.get e2)
  has:=λx hx=>by
   have hm:=w_ L.cell hx;have q:=List.all_eq_true.mp L.free _ hm;have q':(cl.lookup x).isSome=true:=by simpa using q
   exact Option.isSome_iff_exists.mp q'
  cab:=λx c e=>nomatch e
  hd:=I2.ok.hd
  frames:=I2.ok.frames
  stk:=.inl rfl
  exf:=λb hb=>by
   rcases List.mem_cons.mp hb with rfl|hb
   .exact⟨Gw hDltC,λx c e=>Gw (celllt x c (L.allc.get e))⟩
   .obtain⟨_,e1,e2,_,e4,_⟩:=f2 b hb;exact⟨Gw (HM (fpl b hb) hDltC),λx c e=>e4 x c (L.allc.get e)⟩
  bs:=λb o e=>⟨up2 b o (I2.bs b o e).1,(I2.bs b o e).2⟩
  bsz:=by
   show X.base.objs.size<=G2.objs.size;have:=I2.ok.bsz;have:=I2.sz;omega
  noex:=λb o e hb=>by
   have hlt:=Gq (I2.bs b o e).1;rcases List.mem_cons.mp hb with z|hb
   .exact absurd (show b<D from hD▸hlt) (by rw[z];exact Hm _)
   .obtain⟨_,_,_,e3,_⟩:=f2 b hb;rcases e3 with e3|e3
    .exact I2.ok.noex b o e e3
    .exact absurd (GC (Gq (I2.ok.bs b o e).1) e3) (Hm _)
  exfs:=λb hb z=>by
   rcases List.mem_cons.mp hb with e|hb
   .exact absurd (noF b z) (by rw[e];exact Hm _)
   .exact fpF b hb z
  funs:=I3.stack
  frf:=I3.stkFree }
 have hns:h₁.Ns C (λx=>([]:List (Str×F9)).reverse.lookup x):=hns₁;have i_:Inv (X.blk (own++caps) { s₂ with heap:=G2 } H1 scope cl C (D::fp)) [(D,JN [])] (Gp own.length none++qj σ js) H1 { s₂ with heap:=h₁,toks:=s₂.toks+([]:List (Str×F9)).length }:=by
  refine⟨ok',rfl,I2.bare,Un.kept up3,⟨_,hns,λi x v e1 e2 e3=>?_⟩,λx c e=>?_,CH,λx c e=>I2.freeC x c (L.allc.get e),λp hp=>?_,I3.hok.kept up3,?_⟩
  .have hlo:own.length<=i:=by
    refine Iz λhlt=>?_;rw[IC (by rw[Ha];exact hlt),List.getElem?_replicate,if_pos hlt]at e2;cases e2
   have e1':caps[i-own.length]?=some x:=by rw[<-HU hlo];exact e1
   obtain⟨j,j1,j2,j3,j4,j5⟩:=L.cap.get e1';have e2':(qj σ js)[i-own.length]?=some (some v):=by
    rw[<-e2,HU (by rw[Ha];exact hlo),Ha]
   have e4:σ[j]?=some (some v):=by
    unfold qj at e2';rw[GA,j1]at e2';have e5:(σ[j]?).join=some v:=GU e2';cases hq:σ[j]? with
    |none=>rw[hq]at e5;cases e5
    |some q=>rw[hq]at e5;exact congrArg some e5
   obtain⟨m,hn,hl⟩:=I2.loc;obtain⟨u,ru,lk⟩:=hl j x v j2 e4 (.inr j3);refine⟨u,ru,.inr ⟨j5,?_⟩⟩;rcases lk with⟨k,_⟩|⟨_,c,ec,o,ho,hd⟩
   .rcases j3 with z|z<;>(rw[k]at z;cases z)
   .obtain⟨c',ec'⟩:=Option.isSome_iff_exists.mp j4;have:=L.allc.get ec';rw[ec]at this;cases this;exact⟨c,ec',o,up3 _ _ (up2 _ _ ho),hd⟩
  .obtain⟨v,o,ho,hd⟩:=I2.cell x c (L.allc.get e);exact⟨v,o,up3 _ _ (up2 _ _ ho),hd⟩
  .have e:p=(D,JN []):=by simpa using hp
   subst e;exact⟨up3 _ _ hD2,DH,Gw hDltC,λz=>absurd (noF D z) (Hm _),λv z=>by cases z⟩
  .rw[F7,F7,Ha];unfold qj;rw[F6,L.cap.len]
 obtain⟨W,⟨m0,w0⟩,turn⟩:=G;have loop:Jj (GK X.prog X.w) X.A (.compLoop (.ListComp elt [⟨target,iter,ifs,0⟩] scope pos) 0 (.ref it) (.ref D) (compEnvC scope cl C X.env)) (RR (.ref D) C) { s₂ with heap:=h₁,toks:=s₂.toks+([]:List (Str×F9)).length }:=by
  refine wZ (λn s'=>∃i ys its ow H',Inv (X.blk (own++caps) { s₂ with heap:=G2 } H1 scope cl C (D::fp)) [(D,JN its)] (ow++qj σ js) H' s'/\ow.length=own.length/\tn i s'.heap/\(∀b∈fp,H' b=none)/\a_ ys its/\ys.length<=Gr/\W i n ys H') ?_ m0
   ⟨0,[],[],Gp own.length none,H1,i_,Ha,T.keep _ _ _ st2 λb _ o e=>up3 _ _ (up2 _ _ e),λb hb=>(f2 b hb).1,.nil,GV _,w0⟩
  rintro n s' ⟨i,ys,its,ow,H',I',hlo,st,fr,hv,hz,wv⟩;have fpok:∀{H'':Hp},(∀b∈fp,H'' b=none)->∀b∈fp,p_ (X.blk (own++caps) { s₂ with heap:=G2 } H1 scope cl C (D::fp)) [(D,JN its)] H'' b:=λhn b hb=>by
   obtain⟨_,e1,e2,e3,e4,e5⟩:=f2 b hb;refine⟨hn b hb,Gw (HM (fpl b hb) hDltC),fpF b hb,.inl (Gc _ hb),λx c e=>e4 x c (L.allc.get e),λp hp=>?_⟩;have e:p=(D,JN its):=by simpa using hp
   subst e;exact HK (fpl b hb)
  rcases turn i n ys H' wv with⟨stop,fin⟩|⟨go,hlt,N,hN,step⟩
  .refine He (T.done (X.blk (own++caps) { s₂ with heap:=G2 } H1 scope cl C (D::fp)) rfl rfl rfl hc i _ s' _ H' (λ_ _=>False) I' (fpok fr) st stop) (λr s4 ⟨hr,I4⟩=>?_) λ_ _ f=>f;subst hr;have pD:=I4.pin (D,JN its) (by simp);have hch:∀b∈D::fp,(b∈X.ex\/X.s₀.heap.objs.size<=b)/\b≠X.env.locals/\(∀x c,X.env.cells.lookup x=some c->c≠b)/\∀p∈X.pn++pins,p.1≠b:=λb hb=>by
    rcases List.mem_cons.mp hb with rfl|hb
    .exact⟨.inr (hD▸I2.sz),HK locl,λx c e=>Gw (celllt x c e),λp hp=>Gw (hD▸Gq (I2.pin p hp).1)⟩
    .obtain⟨_,e1,e2,e3,e4,e5⟩:=f2 b hb;exact⟨e3,e1,e4,e5⟩
   have IX:Inv X pins σ H' s4:=I2.call' (ch:=D::fp) I4.os ((Un.kept up2).trans I4.base) I4.hok I4.bare hch;have cD:=hch D Gd;have IA:Inv X pins σ (upd H' D (.lst ys)) s4:=IX.adopt pD.2.1 (hD▸I2.sz) cD.2.1 cD.2.2.1 cD.2.2.2 pD.1 hv hz;obtain⟨mm,hmm,_⟩:=I4.loc;refine hRR D C H' ys s4 pD.2.1 ⟨IA,⟨mm,hmm⟩,HK (HM locl hDltC),?_,λx c e=>Gw (HM (celllt x c e) hDltC),λp hp=>?_,?_⟩ fin
   .have:=I2.sz;omega
   .exact Gw (HM (show p.1<D from hD▸Gq (I2.pin p hp).1) hDltC)
   .rw[ak (HK hDltC)];exact I4.free
  .refine He (T.item (X.blk (own++caps) { s₂ with heap:=G2 } H1 scope cl C (D::fp)) rfl rfl rfl hc i _ s' _ H' (λ_ _=>False) I' (fpok fr) st go) (λr s4 ⟨u,hr,h4⟩=>?_) λ_ _ f=>f;subst hr;refine He h4 (λ_ s5 ⟨x,H5,I5,r5,y5,st5,fr5⟩=>?_) λ_ _ f=>f;have I5':=I5.pinned (fpok fr5) (T.obj _ _ st5);have keepT:∀{σ8:St} {H8:Hp} {s8:Gb},Inv (X.blk (own++caps) { s₂ with heap:=G2 } H1 scope cl C (D::fp)) ([(D,JN its)]++qc fp s5.heap) σ8 H8 s8->tn (i+1) s8.heap/\∀b∈fp,H8 b=none:=λ{σ8 H8 s8} I8 =>
    ⟨T.keep _ _ _ st5 fun b hb o e=>(I8.pin (b,o) (GN _ (GN _ (kM hb e)))).1,fun b hb=>by
     obtain⟨o,e,d⟩:=T.obj _ _ st5 b hb;exact(I8.pin (b,o) (GN _ (GN _ (kM hb e)))).2.1⟩
   refine He (hg _ _ _ _ _ s5 _ H5 x u _ I5' r5 (step x H5 y5 ow hlo)) (λ_ s6 ⟨σ6,H6,I6,⟨own2,hl2,e6⟩,q6⟩=>?_) λ_ _ f=>f;subst e6;refine He (ht _ _ _ _ _ s6 _ H6 _ I6 q6) (λb s7 ⟨H7,I7,q7⟩=>?_) λ_ _ f=>f;cases b with
   |false =>
    rw[if_neg Gy];rw[if_neg Gy]at q7;obtain⟨m',hm,w7⟩:=hN _ _ q7;obtain⟨k1,k2⟩:=keepT I7;exact⟨m',hm,i+1,ys,its,own2,H7,I7.unpinned,hl2,k1,k2,hv,hz,w7⟩
   |true =>
    rw[if_pos rfl];rw[if_pos rfl]at q7;refine He (he _ _ _ _ _ s7 _ H7 _ I7 q7) (λy s8 ⟨vy,H8,I8,r8,n8⟩=>?_) λ_ _ f=>f;obtain⟨m',hm,w8⟩:=hN _ _ n8;obtain⟨k1,k2⟩:=keepT I8;have pD:=I8.pin (D,JN its) (by simp);have hyl:=hv.length;refine append_at (hsz:=by show its.toArray.size<=Gr;rw[Gx];omega) pD.1 λh9 hs9 hD9=>?_;have I9:Inv (X.blk (own++caps) { s₂ with heap:=G2 } H1 scope cl C (D::fp)) [] (own2++qj σ js) H8 { s8 with heap:=h9 }:=by
     refine(I8.pins_of (pins':=[]) λp hp=>nomatch hp).turned (t':=s8.toks) (it:=D) (λb o hb e=>(hs9.2 b hb).trans e) pD.2.1 (Gw hDltC) (.inl Gd) (λx c e=>Gw (celllt x c (L.allc.get e))) λp hp=>?_;simp at hp
    refine⟨m',hm,i+1,ys++[vy],its++[y],own2,H8,I9.pins_of λp hp=>?_,hl2,T.keep _ _ _ k1 λb hb o e=>(hs9.2 b (Gw (fpl b hb))).trans e,k2,hv.append (.cons r8 .nil),?_,w8⟩
    .have e:p=(D,JN (its++[y])):=by simpa using hp
     subst e;exact⟨hD9.trans (congrArg some (LCg.lst_snoc its y)),pD.2.1,Gw hDltC,λz=>absurd (noF D z) (Hm _),λv z=>by cases z⟩
    .rw[F7,Im];omega
 exact codeAny_compStart_list loop (T.self _ _ _ _ _ (T.keep _ _ _ st2 λb _ o e=>up3 _ _ (up2 _ _ e)) loop)

def uB(wi:TI)(g:TG)(tc:TT)(te:TE)(n:Nat)(js:List Nat):TE:=λσ H Q=>wi σ H λJ H1=>gLC J g tc te n (qj σ js) (λys H=>∀p,H p=none->Q (.ref p) (upd H p (.lst ys))) H1
variable {wi:TI}
theorem xc(hc:X.calm=true)(L:oq X scope cl own caps js)(hi:PI X target iter wi)
  (hg:∀s H C ex,PG (X.blk (own++caps) s H scope cl C ex) target g)(ht:∀s H C ex,PTs (X.blk (own++caps) s H scope cl C ex) ifs tc)(he:∀s H C ex,PE (X.blk (own++caps) s H scope cl C ex) elt te)
  (hs:∀x,Hy iter X.env x=pure x:=by intro _;rfl):PE X (.ListComp elt [⟨target,iter,ifs,0⟩] scope pos) (uB wi g tc te own.length js):=by
 intro pins s σ H Q I h;rw[eval_ListComp];refine wpAny_comprehension_free (use:=none) rfl hs L.clos L.kind L.names (thn (hi pins s σ H _ I h) λv s1 h1=>thn h1 λitv s2 h2=>?_);obtain⟨it,fp,tn,J,H2,e,I2,T,st2,f2,G⟩:=h2;subst e;refine xb hc L hg ht he I2 T st2 f2 G ?_;intro D C H3 ys s' hD O fin;obtain⟨m,hn⟩:=O.ns;exact⟨m,hn,λh' sb=>⟨.ref D,_,O.gone sb,rfl,fin D hD⟩⟩
theorem AE{k:Nat}{y:Str}{py spos:Pos}(hc:X.calm=true)(L:oq X scope cl own caps js)(hi:PI X target iter wi)
  (hg:∀s H C ex,PG (X.blk (own++caps) s H scope cl C ex) target g)(ht:∀s H C ex,PTs (X.blk (own++caps) s H scope cl C ex) ifs tc)(he:∀s H C ex,PE (X.blk (own++caps) s H scope cl C ex) elt te)
  (hN:X.N.Nodup)(hk:X.N[k]?=some y)(hy:X.env.scope.names.lookup y=some .local)
  (hsw:IR (.ListComp elt [⟨target,iter,ifs,0⟩] scope pos) (some (.Name y py)) spos.line X.env=pure true:=by rfl)
  (hs:∀x,Hy iter X.env x=pure x:=by intro _;rfl):PS X (.Assign [.Name y py] (.ListComp elt [⟨target,iter,ifs,0⟩] scope pos) spos) (pZ (uB wi g tc te own.length js) (bE k)):=by
 intro pins s σ H De I h;rw[exec_Assign_Name_used _ _ _ _ hsw];refine GB (Kg (GB ?_));show GI _ _ (do let _<-comprehension (.ListComp elt [⟨target,iter,ifs,0⟩] scope pos) scope X.env _ (newList []) false (eval iter X.env) (some (Kl (.Name y py) X.env))) _ _ s
 refine GB (He (wpAny_comprehension_free (use:=some (Kl (.Name y py) X.env)) (Q:=λ_ s'=>SP X pins De .next s') rfl hs L.clos L.kind L.names
  (thn (hi pins s σ H _ I h) λv s1 h1=>thn h1 λitv s2 h2=>?_)) (λ_ s' hq=>Hc (Hc hq)) λ_ _ e=>e)
 obtain⟨it,fp,tn,J,H2,e,I2,T,st2,f2,G⟩:=h2;subst e;refine xb hc L hg ht he I2 T st2 f2 G ?_;intro D C H3 ys s' hD O fin;show GI _ _ (Kl (.Name y py) X.env (.ref D)) _ _ _;refine wpAny_assign_Name (uZ O.inv hN hk (.inl hy) (show bq (.ref D) (.ref D)from rfl) (λs'' I'' sb=>?_) (.inr hy));obtain⟨a,hsb,ha⟩:=sb;have hne:C≠a:=by
  rcases ha with rfl|ha
  .exact O.nL
  .exact GX (O.nc _ _ ha)
 obtain⟨m,hn⟩:=O.ns;refine⟨m,hn.sameBut hsb hne,λh' sb'=>⟨_,_,?_,fin D hD⟩⟩;exact I''.turned (t':=s''.toks) (it:=C) (λb o hb e=>(sb'.2 b hb).trans e) O.free O.nL (.inr O.new) O.nc O.np
end

section
variable {X:Cx}{elt iter:Expr}{ifs:List Expr}{scope:Scope}{cl:List (Str×Addr)}{pos:Pos}{caps:List Str}{js:List Nat}{tc:TT}{te:TE}{wi:TI}{x:Str}{px:Pos}
theorem BW{J:It}{cv:St}{Fin:List V->Hp->Prop}{H1:Hp}(h:∃W:Nat->Nat->List V->Hp->Prop,(∃m,W 0 m [] H1)/\∀i m ys H,W i m ys H->
  (J.stop i H/\Fin ys H)\/
  (J.go i H∧ys.length < Gr∧∃ N:List V→Hp→Prop,(∀ ys' H',N ys' H'→∃ m',m' < m∧W (i+1) m' ys' H')∧∀ x H',J.yld i H x H' →
   tc (some x::cv) H' λb H3=>if b=true then te (some x::cv) H3 λy H4=>N (ys++[y]) H4 else N ys H3)):gLC J (bE 0) tc te 1 cv Fin H1:=by
 obtain⟨W,w0,turn⟩:=h;refine⟨W,w0,λi m ys H w=>?_⟩;rcases turn i m ys H w with⟨a,b⟩|⟨a,b,N,hN,c⟩
 .exact .inl ⟨a,b⟩
 .refine .inr ⟨a,b,N,hN,λv H' y own ho=>?_⟩
  match own,ho with
  |[τ],_=>exact⟨⟨[some v],rfl,rfl⟩,c v H' y⟩
def tLC(wi:TI)(tc:TT)(te:TE)(js:List Nat):TE:=uB wi (bE 0) tc te 1 js
theorem fG(hc:X.calm=true)(L:oq X scope cl [x] caps js)(hi:PI X (.Name x px) iter wi)
  (ht:∀s H C ex,PTs (X.blk (x::caps) s H scope cl C ex) ifs tc)(he:∀s H C ex,PE (X.blk (x::caps) s H scope cl C ex) elt te)
  (hN:(x::caps).Nodup:=by decide +kernel)(hx:(Ia scope X.env).names.lookup x=some .local:=by with_unfolding_all rfl)
  (hs:∀x,Hy iter X.env x=pure x:=by intro _;rfl):PE X (.ListComp elt [⟨.Name x px,iter,ifs,0⟩] scope pos) (tLC wi tc te js):=
 xc (own:=[x]) (g:=bE 0) hc L hi (λs H C ex=>aM (i:=0) hN rfl (.inl hx) (.inr hx)) ht he hs
theorem zn{k:Nat}{y:Str}{py spos:Pos}(hc:X.calm=true)(L:oq X scope cl [x] caps js)(hi:PI X (.Name x px) iter wi)
  (ht:∀s H C ex,PTs (X.blk (x::caps) s H scope cl C ex) ifs tc)(he:∀s H C ex,PE (X.blk (x::caps) s H scope cl C ex) elt te)
  (hXN:X.N.Nodup)(hk:X.N[k]?=some y)(hy:X.env.scope.names.lookup y=some .local)(hN:(x::caps).Nodup:=by decide +kernel)(hx:(Ia scope X.env).names.lookup x=some .local:=by with_unfolding_all rfl)
  (hsw:IR (.ListComp elt [⟨.Name x px,iter,ifs,0⟩] scope pos) (some (.Name y py)) spos.line X.env=pure true:=by rfl)
  (hs:∀x,Hy iter X.env x=pure x:=by intro _;rfl):PS X (.Assign [.Name y py] (.ListComp elt [⟨.Name x px,iter,ifs,0⟩] scope pos) spos) (pZ (tLC wi tc te js) (bE k)):=
 AE (own:=[x]) (g:=bE 0) hc L hi (λs H C ex=>aM (i:=0) hN rfl (.inl hx) (.inr hx)) ht he hXN hk hy hsw hs
theorem dF{K:PySem.W.Frag}{a:Addr}{xs:List V}{cv:St}{Fin:List V->Hp->Prop}{H1:Hp}(Pv:Nat->List V->Hp->Prop)(h0:Pv 0 [] H1)(hl:∀i ys H,i<=xs.length->Pv i ys H->SqL K H a xs)(hz:∀i ys H,i<xs.length->Pv i ys H->ys.length<Gr)
  (hs:∀i x ys H,xs[i]?=some x->Pv i ys H->tc (some x::cv) H λb H3=>if b=true then te (some x::cv) H3 λy H4=>Pv (i+1) (ys++[y]) H4 else Pv (i+1) ys H3)
  (hd:∀ys H,Pv xs.length ys H->Fin ys H):gLC (Itl K a) (bE 0) tc te 1 cv Fin H1:=by
 refine BW ⟨λi m ys H=>m=xs.length-i/\i<=xs.length/\Pv i ys H,⟨xs.length,by simp,GV _,h0⟩,?_⟩;rintro i m ys H ⟨rfl,hi,p⟩;have q:=hl i ys H hi p;by_cases hlt:i<xs.length
 .refine .inr ⟨⟨xs,xs[i],q,by simp[hlt]⟩,hz i ys H hlt p,Pv (i+1),λys' H' p'=>⟨xs.length-(i+1),by omega,rfl,hlt,p'⟩,λv H' y=>?_⟩;obtain⟨e,y⟩:=y;subst e;exact hs i v ys _ (y xs q) p
 .have e:i=xs.length:=by omega
  subst e;exact .inl ⟨⟨xs,q,Gh _⟩,hd ys H p⟩
theorem lm{lo:Int}{n:Nat}{cv:St}{Fin:List V->Hp->Prop}{H1:Hp}(Pv:Nat->List V->Hp->Prop)(h0:Pv 0 [] H1)(hz:∀i ys H,i<n->Pv i ys H->ys.length<Gr)
  (hs:∀i ys H,i<n->Pv i ys H->tc (some (.int (lo+i))::cv) H λb H3=>if b=true then te (some (.int (lo+i))::cv) H3 λy H4=>Pv (i+1) (ys++[y]) H4 else Pv (i+1) ys H3)
  (hd:∀ys H,Pv n ys H->Fin ys H):gLC (Itr lo n) (bE 0) tc te 1 cv Fin H1:=by
 refine BW ⟨λi m ys H=>m=n-i/\i<=n/\Pv i ys H,⟨n,by simp,GV _,h0⟩,?_⟩;rintro i m ys H ⟨rfl,hi,p⟩;by_cases hlt:i<n
 .refine .inr ⟨hlt,hz i ys H hlt p,Pv (i+1),λys' H' p'=>⟨n-(i+1),by omega,rfl,hlt,p'⟩,λv H' y=>?_⟩;obtain⟨e,y⟩:=y;subst e y;exact hs i ys _ hlt p
 .have e:i=n:=by omega
  subst e;exact .inl ⟨Gh _,hd ys H p⟩
end

theorem d3{A B:Hp->Prop}{σ:St}{H:Hp}(h:A H):Ef σ H (λb H3=>if b=true then A H3 else B H3):=by
 show if true=true then A H else B H;rw[if_pos rfl];exact h
theorem iE{α:Type}(x:α)(r:List α):atI (x::r) 0=some x:=cp (j:=0) rfl

def Its(x:Str):It:=⟨λi _=>i<x.cps.size,λi H v H'=>H'=H/\∃c,x.cps[i]?=some c/\v=.str ⟨#[c]⟩,λi _=>i=x.cps.size⟩
theorem BX{P:GE}{w:GF}{K:PySem.W.Frag}{tg:Expr}{x:Str}{t:Tok}{it:Addr}{n:String}(hn:["enumerate","zip","dict_itemiterator","dict_reverseitemiterator","odict_iterator","itertools.zip_longest","itertools.pairwise"].contains n=false)
  (W:∀A':G_,A'.handled=none->Walks P w A' it [it] [it] x.cps.size (SignAt x) (λi h=>h.IsStrIter it n x t i))
  (slf:∀(A:G_) (i:Nat) (s:Gb) (Q:F9->Gb->Prop) (E:F9->Gb->Prop),s.heap.IsStrIter it n x t i->Q (.ref it) s->GI (GK P w) A (KH (.ref it)) Q E s) :
  qb P w K tg (Its x) [it] it (λi h=>h.IsStrIter it n x t i) where
 mem:=by simp
 obj:=λi h st b hb=>by
  have e:b=it:=by simpa using hb
  subst e;obtain⟨o,e,c,d⟩:=st;exact⟨o,e,λv z=>by rw[d]at z;cases z⟩
 keep:=λi h h' st k=>let⟨o,ho,r⟩:=st;⟨o,k it (by simp) o ho,r⟩
 item:=by
  intro X hP hw hK hc i pins s σ H E I hf st hg;subst hP hw hK;obtain⟨f0,f1,f2,f3,f4,f5⟩:=hf it (by simp);refine(W X.A (I.ok.hd hc)).item i s _ _ hg st λv h' tk hv st' kk=>?_;obtain⟨c,u,hcx,rfl⟩:=hv;have I1:Inv X pins σ H { s with heap:=h',toks:=tk }:=I.turned (λb o hb e=>kk b o (by simpa using hb) e) f0 f1 f3 f4 f5;obtain⟨o,e,c',d⟩:=id st';exact⟨_,rfl,vU (s:={ s with heap:=h',toks:=tk }) e c' d hn ⟨.str ⟨#[c]⟩,H,I1,⟨u,rfl⟩,⟨rfl,c,hcx,rfl⟩,st',λb hb=>(hf b hb).1⟩⟩
 done:=by
  intro X hP hw hK hc i pins s σ H E I hf st hg;subst hP hw hK;obtain⟨f0,f1,f2,f3,f4,f5⟩:=hf it (by simp);have e:i=x.cps.size:=hg;subst e;exact(W X.A (I.ok.hd hc)).done s _ _ st λh' tk kk=>⟨rfl,I.turned (λb o hb e=>kk b o (by simpa using hb) e) f0 f1 f3 f4 f5⟩
 self:=slf
section
variable {X:Cx}{tg:Expr}
def FM(tl:TE):TI:=λσ H R=>tl σ H λv H1=>∃x,v=.str x/\R (Its x) H1
theorem AF{l:Expr}{tl:TE}(hl:PE X l tl):PI X tg l (FM tl):=by
 intro pins s σ H R I h;refine thn (hl pins s σ H _ I h) λv s1 ⟨x,H1,I1,r1,q1⟩=>?_;obtain⟨z,e,q⟩:=q1;subst e;obtain⟨t,rfl⟩:=r1;have go:∀n ob,["enumerate","zip","dict_itemiterator","dict_reverseitemiterator","odict_iterator","itertools.zip_longest","itertools.pairwise"].contains n=false->
   (∀A':G_,A'.handled=none->Walks X.prog X.w A' s1.heap.objs.size [s1.heap.objs.size] [s1.heap.objs.size] z.cps.size (SignAt z) (λi h=>h.IsStrIter s1.heap.objs.size n z t i))->
   (∀(A:G_) (i:Nat) (s:Gb) (Q:F9->Gb->Prop) (E:F9->Gb->Prop),s.heap.IsStrIter s1.heap.objs.size n z t i->Q (.ref s1.heap.objs.size) s->GI (GK X.prog X.w) A (KH (.ref s1.heap.objs.size)) Q E s)->
   (s1.heap.push ob).IsStrIter s1.heap.objs.size n z t 0->PIE X pins σ tg R (.ref s1.heap.objs.size) { s1 with heap:=s1.heap.push ob }:=λn ob hn W slf st=>by
  refine⟨s1.heap.objs.size,[s1.heap.objs.size],_,_,H1,rfl,I1.kept (t':=s1.toks) λb o e=>Gk _ e,BX hn W slf,st,λb hb=>?_,q⟩;have e:b=s1.heap.objs.size:=by simpa using hb
  subst e;exact I1.fpOk (Gh _) (I1.hok.fresh (Gh _))
 cases ha:z.cps.all (· < 128)
 .exact wpAny_pyIter_wide ha (go "str_iterator" _ (by decide) (λA' hA=>Walks.strWide hA _ z t) (λ_ _ _ _ _ st h=>wpAny_pyIter_striter_wide st h) ⟨_,GH _ rfl,rfl,rfl⟩)
 .exact wpAny_pyIter_ascii ha (go "str_ascii_iterator" _ (by decide) (λA' hA=>Walks.strAscii hA _ z t) (λ_ _ _ _ _ st h=>wpAny_pyIter_striter_ascii st h) ⟨_,GH _ rfl,rfl,rfl⟩)
end
theorem Di{x:Str}{g:TG}{tb:TS}{D:eV}{σ:St}{H:Hp}(Pv:Nat->St->Hp->Prop)(h0:Pv 0 σ H)
  (hs:∀i c σ H,x.cps[i]?=some c->Pv i σ H->g (.str ⟨#[c]⟩) σ H λσ2 H2=>tb { D with nx:=Pv (i+1),ct:=Pv (i+1),bk:=D.nx } σ2 H2)(hd:∀σ H,Pv x.cps.size σ H->D.nx σ H) :
  ∃W:Nat->Nat->St->Hp->Prop,(∃m,W 0 m σ H)/\∀i m σ H,W i m σ H->
   ((Its x).stop i H/\D.nx σ H)\/((Its x).go i H/\∃N:St->Hp->Prop,(∀σ' H',N σ' H'->∃m',m'<m/\W (i+1) m' σ' H')/\∀v H',(Its x).yld i H v H'->g v σ H' λσ2 H2=>tb { D with nx:=N,ct:=N,bk:=D.nx } σ2 H2):=by
 refine⟨λi m σ H=>m=x.cps.size-i/\i<=x.cps.size/\Pv i σ H,⟨x.cps.size,by simp,GV _,h0⟩,?_⟩;rintro i m σ H ⟨rfl,hi,p⟩;by_cases hlt:i<x.cps.size
 .refine .inr ⟨hlt,Pv (i+1),λσ' H' p'=>⟨x.cps.size-(i+1),by omega,rfl,hlt,p'⟩,λv H' y=>?_⟩;obtain⟨e,c,hc,y⟩:=y;subst e y;exact hs i c σ _ hc p
 .have e:i=x.cps.size:=by omega
  subst e;exact .inl ⟨rfl,hd σ H p⟩
theorem Eg{x:Str}{tc:TT}{te:TE}{cv:St}{Fin:List V->Hp->Prop}{H1:Hp}(Pv:Nat->List V->Hp->Prop)(h0:Pv 0 [] H1)(hz:∀i ys H,i<x.cps.size->Pv i ys H->ys.length<Gr)
  (hs:∀i c ys H,x.cps[i]?=some c->Pv i ys H->tc (some (.str ⟨#[c]⟩)::cv) H λb H3=>if b=true then te (some (.str ⟨#[c]⟩)::cv) H3 λy H4=>Pv (i+1) (ys++[y]) H4 else Pv (i+1) ys H3)
  (hd:∀ys H,Pv x.cps.size ys H->Fin ys H):gLC (Its x) (bE 0) tc te 1 cv Fin H1:=by
 refine BW ⟨λi m ys H=>m=x.cps.size-i/\i<=x.cps.size/\Pv i ys H,⟨x.cps.size,by simp,GV _,h0⟩,?_⟩;rintro i m ys H ⟨rfl,hi,p⟩;by_cases hlt:i<x.cps.size
 .refine .inr ⟨hlt,hz i ys H hlt p,Pv (i+1),λys' H' p'=>⟨x.cps.size-(i+1),by omega,rfl,hlt,p'⟩,λv H' y=>?_⟩;obtain⟨e,c,hc,y⟩:=y;subst e y;exact hs i c ys _ hc p
 .have e:i=x.cps.size:=by omega
  subst e;exact .inl ⟨rfl,hd ys H p⟩

section
variable {X:Cx}
theorem AG{v:F9}{o:Option Int}(p:IsPart v o):∃l:Option (Int×Tok),v=partValue l/\o=l.map (·.1):=by
 cases p with
 |none=>exact⟨none,rfl,rfl⟩
 |int i t=>exact⟨some (i,t),rfl,rfl⟩
theorem jY:SlR X (λx lo hi H Q=>∃z,x=.str z/\z.length<=Gr/\Q (.str (Txt.slice z lo hi)) H):=by
 intro pins s σ H x v vl vu lo hi sl Q I r hs pl pu h;obtain⟨z,rfl,hz,q⟩:=h;obtain⟨t,rfl⟩:=r;obtain⟨l,rfl,rfl⟩:=AG pl;obtain⟨u,rfl,rfl⟩:=AG pu;exact⟨"str",_,F.slot_str_getitem.lookup,JF _ _ _,wpAny_getItem_str_slice (l:=l) (u:=u) (st:=none) hs rfl
  (post_val_or_str ⟨GM (Txt.slice_le z _ _) hz,λt' k=>⟨.str (Txt.slice z _ _),H,I.tok k,⟨t',rfl⟩,q⟩⟩)⟩
theorem ou:OpR X (IE .Mult) (λx y H Q=>∃z n,x=.str z/\y=.int n/\MulOk z n/\Q (.str (Txt.mul z n)) H):=by
 intro pins s σ H x y v u Q I rx ry h;obtain⟨z,n,rfl,rfl,hm,q⟩:=h;obtain⟨t,rfl⟩:=rx;obtain⟨t',rfl⟩:=ry;exact SB.mul hm λt'' k=>⟨.str _,H,I.tok k,⟨t'',rfl⟩,q⟩
theorem vb:∀(l:List (Str×Tok)),a_ ((l.map (·.1)).map V.str) (strValues l)
 |[]=>.nil
 |p::r=>.cons ⟨p.2,rfl⟩ (vb r)
theorem AH:MtR X "str.split" (λx xs H Q=>∃z c,x=.str z/\xs=[.str ⟨#[c]⟩]/\z.length+2<=Gr/\∀p,H p=none->Q (.ref p) (upd H p (.lst ((Txt.split z ⟨#[c]⟩).map V.str)))):=by
 intro pins s σ H x xs v us Q I rx r h;obtain⟨z,c,rfl,rfl,hz,q⟩:=h;obtain⟨t,rfl⟩:=rx;obtain⟨w',rfl,u,rfl⟩:=iC r;have hy:((⟨#[c]⟩:Str).length==0)=false:=rfl;have len:=split_le z ⟨#[c]⟩;have new:∀(l:List (Str×Tok)) (k:Nat),l.map (·.1)=Txt.split z ⟨#[c]⟩->EP X pins σ Q (.ref s.heap.objs.size) { s with heap:=s.heap.push { cls:=.type "list",data:=.seq (strValues l).toArray },toks:=k }:=λl k e =>
  ⟨.ref _,_,I.lnew (t':=k) (vb l) (by rw[e,F6];exact GM len hz),rfl,by rw[e];exact q _ I.fresh⟩
 cases h1:(decide (z.length<(⟨#[c]⟩:Str).length)||decide (Builtin.Str.strKind z<Builtin.Str.strKind ⟨#[c]⟩))
 .cases hf:(Hl z ⟨#[c]⟩ 0 z.length (z.length+1)).isEmpty
  .have e1:Txt.split z ⟨#[c]⟩=Builtin.Str.partsBetween z (Hl z ⟨#[c]⟩ 0 z.length (z.length+1)) (⟨#[c]⟩:Str).length:=
    (if_neg (ne_true_of_eq_false h1)).trans (if_neg (ne_true_of_eq_false hf))
   refine IN JU (JF _ _ _) JO (JG _ _) (meets_str_split_sep z ⟨#[c]⟩ t u h1 hy hf (by omega) (by rw[<-e1];omega)) ?_;show wants _ _ _ { s with toks:=_,heap:=s.heap.push { cls:=.type "list",data:=.seq (strsFrom s.toks (Builtin.Str.partsBetween z (Hl z ⟨#[c]⟩ 0 z.length (z.length+1)) (⟨#[c]⟩:Str).length)).toArray } };rw[strsFrom_eq];exact new _ _ ((numbered_texts _ _).trans e1.symm)
  .exact IN JU (JF _ _ _) JO (JG _ _) (meets_str_split_not_found z ⟨#[c]⟩ t u h1 hy hf)
    (new [(z,t)] _ ((if_neg (ne_true_of_eq_false h1)).trans (if_pos hf)).symm)
 .exact IN JU (JF _ _ _) JO (JG _ _) (meets_str_split_cannot_occur z ⟨#[c]⟩ t u h1)
   (new [(z,t)] _ (if_pos h1).symm)
theorem zo{ys:List Str}:∀{us:List F9},a_ (ys.map V.str) us->StrsAre us ys:=by
 induction ys with
 |nil=>intro us h;cases h;exact .nil
 |cons y ys ih =>
  intro us h;cases h with
  |cons r t =>
   obtain⟨tk,rfl⟩:=r;exact .cons y tk (ih t)
theorem nN:MtR X "str.join" (λx xs H Q=>∃sep a ys,x=.str sep/\xs=[.ref a]/\SqL X.K H a (ys.map V.str)/\sep.length<=16/\(ys.map (·.length)).sum+ys.length<=1048576/\Q (.str (Txt.join sep ys)) H):=by
 intro pins s σ H x xs v us Q I rx r h;obtain⟨sep,a,ys,rfl,rfl,hS,h1,h2,q⟩:=h;obtain⟨t,rfl⟩:=rx;obtain⟨w',rfl,rfl⟩:=iC r;obtain⟨its,rv,p,hz⟩:=I.list hS;exact join_listW p.isList (zo (by simpa using rv)) h1 h2 λt' k=>⟨.str _,H,I.tok k,⟨t',rfl⟩,q⟩
end
end L2

namespace Tl
open PySem PySem.Builtin PySem.Builtin.Str L2

abbrev tx(l:List Nat):Str:=⟨l.toArray⟩
theorem zp(s:Str):s=tx s.cps.toList:=by cases s;rfl
theorem eN(a b:List Nat):tx a++tx b=tx (a++b):=by
 show(⟨a.toArray++b.toArray⟩:Str)=⟨(a++b).toArray⟩;rw[List.append_toArray]
theorem aZ(l:List Nat):(tx l).length=l.length:=by show l.toArray.size=_;simp
theorem i6{a b:List Nat}(h:tx a=tx b):a=b:=by
 have e:a.toArray=b.toArray:=congrArg Str.cps h;have e2:=congrArg Array.toList e;simpa using e2
theorem AI(l:List Nat)(i:Nat):(tx l).cps[i]?=l[i]?:=by show l.toArray[i]?=_;simp
theorem yK(l:List Nat):(tx l).cps.size=l.length:=by show l.toArray.size=_;simp

def jd{α:Type}(l:List α)(lo hi:Option Int):List α:=(l.drop (HT.sIx l.length 0 lo)).take (HT.sIx l.length l.length hi-HT.sIx l.length 0 lo)
theorem rV(n d:Nat)(i:Int):max 0 (min (if i<0 then i+(n:Int)else i) (n:Int))=((HT.sIx n d (some i):Nat):Int):=by
 show _=(((if i<0 then(i+(n:Int)).toNat else min i.toNat n):Nat):Int);by_cases h:i<0
 .rw[if_pos h,if_pos h];omega
 .rw[if_neg h,if_neg h];omega
theorem qk(lo hi:Option Int)(n:Nat):strSliceIndices lo hi 1 n=JY ((HT.sIx n 0 lo:Nat):Int) ((HT.sIx n n hi:Nat):Int) 1:=by
 cases lo with
 |none =>
  cases hi with
  |none=>rfl
  |some j=>exact congrArg (λz=>JY 0 z 1) (rV n n j)
 |some i =>
  cases hi with
  |none=>exact congrArg (λz=>JY z (n:Int) 1) (rV n 0 i)
  |some j =>
   have a:=rV n 0 i;have b:=rV n n j;show JY (max 0 (min (if i<0 then i+(n:Int)else i) (n:Int))) (max 0 (min (if j<0 then j+(n:Int)else j) (n:Int))) 1=_;rw[a,b]
theorem fB(l:List Nat)(lo hi:Option Int):Txt.slice (tx l) lo hi=tx (jd l lo hi):=by
 have h1:=HT.sIx_le l.length 0 (GV _) lo;have h2:=HT.sIx_le l.length l.length (Gh _) hi;have ei:strSliceIndices lo hi 1 l.length=strSliceIndices (some ((HT.sIx l.length 0 lo:Nat):Int)) (some ((HT.sIx l.length l.length hi:Nat):Int)) 1 l.length:=by
  rw[qk lo hi,qk (some _) (some _),HT.sIx_nat,HT.sIx_nat,Ju h1,Ju h2]
 have e:Txt.slice (tx l) lo hi=StrLaws.sliceText (tx l) (some ((HT.sIx l.length 0 lo:Nat):Int)) (some ((HT.sIx l.length l.length hi:Nat):Int)):=by
  unfold Txt.slice StrLaws.sliceText;rw[aZ,ei]
 by_cases hab:HT.sIx l.length 0 lo<=HT.sIx l.length l.length hi
 .rw[e,StrLaws.sliceText_nat (tx l) hab (by rw[aZ];exact h2)];rfl
 .have e0:strSliceIndices lo hi 1 (tx l).length=[]:=by
   rw[aZ,qk];unfold JY;simp only[show(1:Int)>0 by decide,if_true];rw[if_neg (by omega)];rfl
  unfold Txt.slice;rw[e0];have hne:¬ (((1:Int)==1&&([]:List Nat).length==(tx l).length)=true):=by
   rw[aZ];intro h;have:0=l.length:=by simpa using h
   omega
  rw[if_neg hne];unfold jd;rw[Nat.sub_eq_zero_of_le (by omega),JH];rfl
theorem cut_to{α:Type}(l:List α)(j:Nat):jd l none (some (j:Int))=l.take j:=by
 unfold jd;rw[HT.sIx_none,HT.sIx_nat,List.drop_zero,Nat.sub_zero];by_cases h:j<=l.length
 .rw[Ju h]
 .rw[Nat.min_eq_right (by omega),Hh (Gh _),Hh (by omega)]
theorem cut_from{α:Type}(l:List α)(i:Nat):jd l (some (i:Int)) none=l.drop i:=by
 unfold jd;rw[HT.sIx_none,HT.sIx_nat];by_cases h:i<=l.length
 .rw[Ju h,Hh (by rw[Iw];exact Gh _)]
 .rw[Nat.min_eq_right (by omega),Nat.sub_self,JH,Ih (by omega)]
def ox{α:Type}(l:List α)(n:Nat):List α:=(Gp n l).flatten
theorem mq{α:Type}(l:List α)(n:Nat):ox l (n+1)=l++ox l n:=by unfold ox;rw[Hr,Ip]
theorem xf(l:List Nat):∀(n:Nat) (acc:List Nat),(Gp n l.toArray).foldl (·++·) acc.toArray=(acc++ox l n).toArray
 |0,acc=>by simp[ox]
 |n+1,acc=>by
  rw[Hr,J5,List.append_toArray,xf l n,mq,Gs]
theorem AJ(l:List Nat)(n:Nat):Txt.mul (tx l) (n:Int)=tx (ox l n):=by
 unfold Txt.mul;by_cases h1:(n:Int)<1
 .have e:n=0:=by omega
  subst e;rw[if_pos h1];rfl
 .rw[if_neg h1];by_cases h2:((n:Int)==1||(tx l).length==0)=true
  .rw[if_pos h2];rcases Bool.or_eq_true _ _▸h2 with h|h
   .have e:n=1:=by have:=Ky h;omega
    subst e;rw[mq];simp[ox]
   .have e:l=[]:=by
     have:=Ky h;rw[aZ]at this;exact List.eq_nil_of_length_eq_zero this
    subst e;have:∀k,ox ([]:List Nat) k=[]:=λk=>by
     induction k with
     |zero=>rfl
     |succ k ih=>rw[mq,ih];rfl
    rw[this]
  .rw[if_neg h2];have:=xf l n [];have e:((n:Int)).toNat=n:=by omega
   rw[e];show(⟨(Gp n l.toArray).foldl (·++·) #[]⟩:Str)=_;rw[show(#[]:Array Nat)=([]:List Nat).toArray from rfl,this,J6]
theorem su{l:List Nat}{n:Nat}(h1:n<=100000)(h2:l.length<=100):MulOk (tx l) (n:Int):=by
 have hb:l.length*n<=10000000:=by
  have:=Nat.mul_le_mul h2 h1;omega
 refine⟨?_,λ_ _=>?_,λ_ _=>?_⟩
 .rw[decide_eq_false (by omega),decide_eq_false (by omega)];rfl
 .rw[aZ];have:(100:Int)<=(2^63-1)/(n:Int):=by
   by_cases e:n=0
   .omega
   .exact(Int.le_ediv_iff_mul_le (by omega)).mpr (by omega)
  omega
 .rw[aZ];unfold tooLong;have e:((n:Int)).toNat=n:=by omega
  rw[e];exact decide_eq_false (by show ¬ (_>16777216);omega)

def bx(c:Nat):List Nat->List (List Nat)
 |[]=>[[]]
 |x::r=>if x=c then[]::bx c r else match bx c r with
  |[]=>[[x]]
  |p::ps=>(x::p)::ps
theorem gq(c x:Nat)(r:List Nat):bx c (x::r)=if x=c then[]::bx c r else match bx c r with
  |[]=>[[x]]
  |p::ps=>(x::p)::ps:=rfl
theorem vc(c:Nat):∀l,bx c l≠[]
 |[]=>by simp[bx]
 |x::r=>by
  unfold bx
  split
  .simp
  .split<;>simp
def cG(sep:List Nat):List (List Nat)->List Nat
 |[]=>[]
 |[x]=>x
 |x::y::r=>x++sep++cG sep (y::r)
theorem jI(sep:List Nat):∀ps:List (List Nat),Txt.join (tx sep) (ps.map tx)=tx (cG sep ps):=by
 have go:∀ps:List (List Nat),KR (tx sep) (ps.map tx)=tx (cG sep ps):=by
  intro ps;induction ps with
  |nil=>rfl
  |cons x r ih =>
   cases r with
   |nil=>rfl
   |cons y r =>
    show tx x++tx sep++KR (tx sep) (tx y::r.map tx)=_;rw[show KR (tx sep) (tx y::r.map tx)=tx (cG sep (y::r))from ih,eN,eN];rfl
 intro ps;show glued (tx sep) (ps.map tx)=_;rw[StrLaws.glued_eq_join];exact go ps
theorem sx(c:Nat):∀ps:List (List Nat),ps≠[]->(∀p∈ps,c∉p)->bx c (cG [c] ps)=ps:=by
 have one:∀p:List Nat,c∉p->bx c p=[p]:=by
  intro p;induction p with
  |nil=>intro _;rfl
  |cons x r ih =>
   intro h;have hx:x≠c:=λe=>h (by rw[e];exact Gd);rw[gq,if_neg hx,ih λz=>h (Gc _ z)]
 have app:∀(p:List Nat) (l:List Nat),c∉p->bx c (p++c::l)=p::bx c l:=by
  intro p l;induction p with
  |nil =>
   intro _;show bx c (c::l)=_;rw[gq,if_pos rfl]
  |cons x r ih =>
   intro h;have hx:x≠c:=λe=>h (by rw[e];exact Gd);show bx c (x::(r++c::l))=_;rw[gq,if_neg hx,ih λz=>h (Gc _ z)]
 intro ps;induction ps with
 |nil=>intro h;exact absurd rfl h
 |cons x r ih =>
  intro _ h;cases r with
  |nil=>exact one x (h x Gd)
  |cons y r =>
   show bx c (x++[c]++cG [c] (y::r))=_;rw[Gs,show[c]++cG [c] (y::r)=c::cG [c] (y::r)from rfl,app _ _ (h x Gd),ih (by simp) λp hp=>h p (Gc _ hp)]
theorem BY(l:List Nat)(c:Nat):Txt.split (tx l) ⟨#[c]⟩=(bx c l).map tx:=by
 have h1:=StrLaws.join_split (tx l) ⟨#[c]⟩;have h2:=StrLaws.split_free (tx l) c;have h3:=PyProof.Rows.split_pos (tx l) ⟨#[c]⟩;obtain⟨ps,e⟩:∃ps:List (List Nat),Txt.split (tx l) ⟨#[c]⟩=ps.map tx:=⟨(Txt.split (tx l) ⟨#[c]⟩).map (λs=>s.cps.toList),by
  rw[Hw];exact(List.map_id' _).symm.trans (Jw λs _=>zp s)⟩
 rw[e]at h1 h2 h3;have e2:cG [c] ps=l:=by
  have:=jI [c] ps;have h4:Txt.join (tx [c]) (ps.map tx)=KR (tx [c]) (ps.map tx):=StrLaws.glued_eq_join _ _;rw[h4]at this;exact i6 (this.symm.trans h1)
 have hne:ps≠[]:=by
  intro z;rw[z]at h3;simp at h3
 rw[e,<-e2,sx c ps hne λp hp=>?_];have:=h2 (tx p) (Ib hp);simpa using this
theorem ua(l:List Nat)(c:Nat):(!(occurrences (tx l) ⟨#[c]⟩ 0 (tx l).length 1).isEmpty)=decide (c∈l):=by
 have:=StrLaws.found_one (tx l) c;rw[this]
end Tl

namespace L2
open PySem PySem.Spec PyProof.Rows

def FN(K:PySem.W.Frag)(T:String)(x:V)(H:Hp)(b:Bool):Prop:=match x with
 |.non=>b=false
 |.bl _=>b=(T == "bool" || T == "int")
 |.int _=>b=(T == "int")
 |.str _=>b=(T == "str")
 |.ref p=>((∃xs,SqL K H p xs)/\b=(T == "list"))\/((∃xs,SqT K H p xs)/\b=(T == "tuple"))
 |_=>False
section
variable {X:Cx}
theorem cN:gQ X (.builtin "isinstance") (λxs H Q=>∃x T b,xs=[x,.ty T]/\(T = "bool"\/T = "int"\/T = "str"\/T = "tuple"\/T = "list")/\FN X.K T x H b/\Q (.bl b) H):=by
 intro pins s σ H xs us Q I r h;obtain⟨x,T,b,rfl,hT,hv,q⟩:=h;obtain⟨u,w',rfl,r1,r2⟩:=vW r;cases r2;have no:b=false->EP X pins σ Q (.bool false) { s with toks:=s.toks+1 }:=λe=>⟨.bl false,H,I.tok _,rfl,e▸q⟩;have yes:b=true->EP X pins σ Q (.bool true) s:=λe=>⟨.bl true,H,I,rfl,e▸q⟩;cases x with
 |non =>
  cases r1;have hv':b=false:=hv;rcases hT with rfl|rfl|rfl|rfl|rfl
  .exact IsiPair.NoneType_bool (no hv')
  .exact IsiPair.NoneType_int (no hv')
  .exact IsiPair.NoneType_str (no hv')
  .exact IsiPair.NoneType_tuple (no hv')
  .exact IsiPair.NoneType_list (no hv')
 |bl c =>
  cases r1;rcases hT with rfl|rfl|rfl|rfl|rfl
  .exact IsiPair.bool_bool (yes (hv.trans (by decide)))
  .exact IsiPair.bool_int (yes (hv.trans (by decide)))
  .exact IsiPair.bool_str (no (hv.trans (by decide)))
  .exact IsiPair.bool_tuple (no (hv.trans (by decide)))
  .exact IsiPair.bool_list (no (hv.trans (by decide)))
 |int c =>
  obtain⟨t,rfl⟩:=r1;rcases hT with rfl|rfl|rfl|rfl|rfl
  .exact IsiPair.int_bool (no (hv.trans (by decide)))
  .exact IsiPair.int_int (yes (hv.trans (by decide)))
  .exact IsiPair.int_str (no (hv.trans (by decide)))
  .exact IsiPair.int_tuple (no (hv.trans (by decide)))
  .exact IsiPair.int_list (no (hv.trans (by decide)))
 |str c =>
  obtain⟨t,rfl⟩:=r1;rcases hT with rfl|rfl|rfl|rfl|rfl
  .exact IsiPair.str_bool (no (hv.trans (by decide)))
  .exact IsiPair.str_int (no (hv.trans (by decide)))
  .exact IsiPair.str_str (yes (hv.trans (by decide)))
  .exact IsiPair.str_tuple (no (hv.trans (by decide)))
  .exact IsiPair.str_list (no (hv.trans (by decide)))
 |ref p =>
  cases r1;rcases hv with⟨⟨xs,hq⟩,hb⟩|⟨⟨xs,hq⟩,hb⟩
  .obtain⟨its,_,p',_⟩:=I.list hq;obtain⟨o,n,e,c,_⟩:=p';rcases hT with rfl|rfl|rfl|rfl|rfl
   .exact IsiPair.list_bool e c (no (hb.trans (by decide)))
   .exact IsiPair.list_int e c (no (hb.trans (by decide)))
   .exact IsiPair.list_str e c (no (hb.trans (by decide)))
   .exact IsiPair.list_tuple e c (no (hb.trans (by decide)))
   .exact IsiPair.list_list e c (yes (hb.trans (by decide)))
  .obtain⟨its,_,p',_⟩:=I.tuple hq;obtain⟨o,e,c,_⟩:=p';rcases hT with rfl|rfl|rfl|rfl|rfl
   .exact IsiPair.tuple_bool e c (no (hb.trans (by decide)))
   .exact IsiPair.tuple_int e c (no (hb.trans (by decide)))
   .exact IsiPair.tuple_str e c (no (hb.trans (by decide)))
   .exact IsiPair.tuple_tuple e c (yes (hb.trans (by decide)))
   .exact IsiPair.tuple_list e c (no (hb.trans (by decide)))
 |byt c=>exact hv.elim
 |flt c=>exact hv.elim
 |ty c=>exact hv.elim
end

section
variable {X:Cx}
end
structure bS(K:PySem.W.Frag)(mg:Str->Option F9)(x:Str)(st:Stmt)(ps:List Str)(f:Addr)(fd:Gn):Prop where
 fn:Fun K x x st f fd
 bd:gR K fd ps []
 mg:mg x=some (.ref f)
 ba:∀us:List F9,us.length=ps.length->JT fd ⟨us,[]⟩=pure (ps.zip us)
section
variable {X:Cx}{x:Str}{st:Stmt}{ps:List Str}{f:Addr}{fd:Gn}{k:Nat}{sp:Sp}{e:Expr}{es:List Expr}{t:TA}{p pos:Pos}
theorem aD(D:bS X.K X.mg x st ps f fd)(G:aX X.prog X.w X.K X.mg X.base CX0 k f fd ps sp)(hr:cE k X.A)(hg:Gl X x)(ha:PA X (e::es) t)(hd:(x==("__debug__" : Str))=false:=by decide)
  (he:GG (e::es) X.env=(false,eval e X.env)::GG es X.env:=by rfl)(hpl:(HR pos (GG es X.env)).any (·.1)=false:=by rfl):PE X (.Call (.Name x p) (e::es) [] pos) (zi sp [] E0 t):=yE G hr hg D.mg D.fn.kp D.bd .nil eR ha hd he hpl
theorem BZ{K:PySem.W.Frag}{h:Heap}{mg:Str->Option F9}(KX:K.In h)(G:h.Ns GJ mg){od an:Option Addr}{sl:Array (Option F9)}{oc kV dc pm cd ct:F9}(a:PySem.W.nsIn K GJ x=some (some (.ref f)))
  (l:K.lookup f=some ⟨oc,od,.func (PySem.W.fnOf x x (cI st) (cm st) (au st) .none kV dc pm an cd ct),sl⟩)(c:PySem.W.codeIn K cd x=true)(k:PySem.W.keepIn K (.ref f)=true)
  (b:∀(kV doc pm:F9) (an:Option Addr) (cdv ct:F9) (us:List F9),us.length=ps.length->JT (PySem.W.fnOf x x (cI st) (cm st) (au st) .none kV doc pm an cdv ct) ⟨us,[]⟩=pure (ps.zip us)) :
  bS K mg x st ps f (PySem.W.fnOf x x (cI st) (cm st) (au st) .none kV dc pm an cd ct):=
 ⟨t_ l c k,(t_ l c k).binds b,PySem.W.mg_of KX G a,λus hl=>b _ _ _ _ _ _ us hl⟩
end

theorem cO{t u:TS}{D:eV}{σ:St}{H:Hp}(Mid:St->Hp->Prop)(h2:∀σ' H',Mid σ' H'->u D σ' H')(h1:(∀σ' H',Mid σ' H'->u D σ' H')->t { D with nx:=u D } σ H):BG t u D σ H:=h1 h2

section
variable {X:Cx}
theorem B1(hc:X.calm=true):gQ X (.builtin "all") (λxs H Q=>∃(l:Addr) (bs:List Bool),xs=[.ref l]/\SqL X.K H l (bs.map V.bl)/\Q (.bl (bs.all id)) H):=by
 intro pins s σ H xs us Q I r h;obtain⟨l,bs,rfl,hl,q⟩:=h;obtain⟨u,rfl,ru⟩:=iC r;cases ru;obtain⟨its,rv,p,z⟩:=I.list hl;have hlt:l<s.heap.objs.size:=by obtain⟨_,_,e,_⟩:=p;exact Gq e
 have len:=rv.length;refine call_all_walk (IU p.isList ?_);refine⟨s.heap.objs.size,[s.heap.objs.size,l],[s.heap.objs.size],its.toArray.size,_,_,λi=>(bs[i]?).getD true,rfl,Walks.list (A:=X.A.in1) (I.ok.hd hc) _ l (Gw hlt) its.toArray,
  ⟨⟨_,GH _ rfl,rfl,rfl⟩,p.isList.push _⟩,λi v s' Q' E' hP hQ=>?_,λh' tk hk=>?_⟩
 .have hi:its[i]?=some v:=by simpa using hP
  have hlt2:i<bs.length:=by
   have:=(List.getElem?_eq_some_iff.mp hi).1;rw[F6]at len;omega
  have eb:(bs.map V.bl)[i]?=some (V.bl bs[i]):=by rw[GA,Ga hlt2];rfl
  obtain⟨w',hw,rw'⟩:=rv.get eb;rw[hi]at hw;cases hw;cases rw';have e2:(bs[i]?).getD true=bs[i]:=by rw[Ga hlt2];rfl
  have hQ2:Q' ((bs[i]?).getD true) s':=hQ;rw[e2]at hQ2;exact HH hQ2
 .have e:((HQ its.toArray.size).all λi=>(bs[i]?).getD true)=bs.all id:=by
   have:its.toArray.size=bs.length:=by rw[F6]at len;simp;omega
   rw[this];exact LSm.range_all bs
  rw[e];exact⟨.bl _,H,I.kept λb x e=>hk b x (λhm=>by rw[List.mem_singleton.mp hm]at e;exact Hm _ (Gq e)) (Gk _ e),rfl,q⟩

theorem ub(hu:X.A.units+1<J2):OpR X (Hv .In) (λy x H Q=>∃a o,x=.ref a/\eW H a y o/\Q (.bl o.isSome) H):=by
 intro pins s σ H y x u v Q I ry rx h;obtain⟨a,o,rfl,g,q⟩:=h;cases rx;exact FL hu I g ry λs' I'=>⟨.bl _,H,I',rfl,q⟩
theorem ki(hu:X.A.units+1<J2):OpR X (Hv .NotIn) (λy x H Q=>∃a o,x=.ref a/\eW H a y o/\Q (.bl (!o.isSome)) H):=by
 intro pins s σ H y x u v Q I ry rx h;obtain⟨a,o,rfl,g,q⟩:=h;cases rx;exact Dh hu I g ry λs' I'=>⟨.bl _,H,I',rfl,q⟩
end

inductive DD where
 |bl (b:Bool)
 |int (i:Int)
 |str (s:Str)
 |tup (l:List DD)
 |lst (l:List DD)
mutual
def DD.deep:DD->Nat
 |.bl _=>0
 |.int _=>0
 |.str _=>0
 |.tup l=>fg l+1
 |.lst l=>fg l+1
def fg:List DD->Nat
 |[]=>0
 |d::r=>max d.deep (fg r)
end
mutual
def Rep(K:PySem.W.Frag)(H:Hp):DD->V->Prop
 |.bl b,v=>v=.bl b
 |.int i,v=>v=.int i
 |.str s,v=>v=.str s
 |.tup l,v=>∃a xs,v=.ref a/\SqT K H a xs/\l.length<=1000/\cF K H l xs
 |.lst l,v=>∃a xs,v=.ref a/\SqL K H a xs/\l.length<=1000/\cF K H l xs
def cF(K:PySem.W.Frag)(H:Hp):List DD->List V->Prop
 |[],xs=>xs=[]
 |d::l,xs=>∃x r,xs=x::r/\Rep K H d x/\cF K H l r
end
theorem cF.len{K:PySem.W.Frag}{H:Hp}:∀{l:List DD} {xs:List V},cF K H l xs->xs.length=l.length
 |[],xs,h=>by
  unfold cF at h;rw[h];rfl
 |d::l,xs,h=>by
  unfold cF at h;obtain⟨x,r,rfl,_,h⟩:=h;rw[F8,F8,h.len]
theorem cF.get{K:PySem.W.Frag}{H:Hp}:∀{l:List DD} {xs:List V} {i:Nat} {d:DD},cF K H l xs->l[i]?=some d->∃x,xs[i]?=some x/\Rep K H d x
 |[],_,_,_,_,e=>by simp at e
 |d::l,xs,0,d',h,e=>by
  unfold cF at h;obtain⟨x,r,rfl,hx,h⟩:=h;have:d=d':=by simpa using e
  subst this;exact⟨x,rfl,hx⟩
 |d::l,xs,i+1,d',h,e=>by
  unfold cF at h;obtain⟨x,r,rfl,hx,h⟩:=h;obtain⟨y,ey,hy⟩:=h.get (i:=i) (by simpa using e);exact⟨y,by simpa using ey,hy⟩
theorem ql:∀{l:List DD} {i:Nat} {d:DD},l[i]?=some d->d.deep<=fg l
 |[],_,_,e=>by simp at e
 |d::l,0,d',e=>by
  have:d=d':=by simpa using e
  subst this;unfold fg;exact Nat.le_max_left _ _
 |d::l,i+1,d',e=>by
  have:=ql (l:=l) (i:=i) (by simpa using e);unfold fg;exact GM this (Nat.le_max_right _ _)
def xg(K:PySem.W.Frag)(n:Nat):Sp:=λvs H Q _=>∃d x y,vs=[x,y]/\d.deep<n/\Rep K H d x/\Rep K H d y/\Q (.bl true) H

def uC(P:GE)(w:GF)(K:PySem.W.Frag)(a:Addr)(kvs:List (Key×V)):Prop:=(a==HD)=false/\∃o vs,K.lookup a=some o/\KV kvs vs/\o.IsDictOf (bB P w) vs
section
variable {X:Cx}{o i:Expr}{pos:Pos}{td ty:TE}
theorem Inv.modD{pins:List (Addr×Obj)}{σ:St}{H:Hp}{s:Gb}(I:Inv X pins σ H s){a:Addr}{kvs:List (Key×V)}(m:uC X.prog X.w X.K a kvs):∃vs,KV kvs vs/\s.heap.DictOf (bB X.prog X.w) a vs:=by
 obtain⟨_,o,vs,hk,r,d⟩:=m;exact⟨vs,r,Heap.dictOf_iff.mpr ⟨o,I.kIn a o hk,d⟩⟩
theorem vd:OpR X (Hv .In) (λy x H Q=>∃a kvs k,x=.ref a/\uC X.prog X.w X.K a kvs/\y=kV k/\Q (.bl (cW kvs k).isSome) H):=by
 intro pins s σ H y x u v Q I ry rx h;obtain⟨a,kvs,k,rfl,m,rfl,q⟩:=h;cases rx;obtain⟨vs,rel,dd⟩:=I.modD m;refine wpAny_in_of (mo ry) m.1 dd.mapOf ?_;rw[<-(rel.val k).isSome_eq];exact⟨.bl _,H,I.tok _,rfl,q⟩
def Eh(P:GE)(w:GF)(K:PySem.W.Frag)(td ty:TE):TE:=λσ H Q=>td σ H λx H1=>ty σ H1 λy H2=>∃a kvs k v,x=.ref a/\uC P w K a kvs/\y=kV k/\cW kvs k=some v/\Q v H2
theorem xh(ho:PE X o td)(hi:PE X i ty)(hs:BS i):PE X (.Subscript o i pos) (Eh X.prog X.w X.K td ty):=by
 intro pins s σ H Q I h;refine yI PySem.F.slot_dict_getitem.lookup hs (thn (ho pins s σ H _ I h) λu s1 ⟨x,H1,I1,rx,q1⟩=>thn (hi pins s1 σ H1 _ I1 q1) λiv s2 ⟨y,H2,I2,ry,a,kvs,k,v,ex,m,ey,l,q2⟩=>?_);subst ex ey;obtain rfl:u=GW a:=rx;obtain⟨vs,rel,dd⟩:=I2.modD m;obtain⟨w',hw,rw'⟩:=gU.some_of (v:=v) (o:=JX vs k) (by rw[<-l];exact rel.val k);exact⟨dd.mapOf.typeIs,wpAny_getItem_of (mo ry) dd.mapOf hw ⟨v,H2,I2.tok _,rw',q2⟩⟩
end

def CXe(P:GE)(w:GF):CXT:=λouter H s E e s' =>
 ∃(x C:Addr) (H':Hp) (B:Heap) (a0:F9),e=.ref x/\s'.os=s.os/\Jg s'.gens/\Un (frs outer) [] H H' s.heap s'.heap/\HOk P w H' B/\
  (∀b o,s.heap.get? b=some o->H b=none->b∉frs outer->B.get? b=some o)/\(∀b o,s.heap.get? b=some o->b∉frs outer->∃o',B.get? b=some o')/\
  JZ B outer x (.ref C) a0 s'.heap/\E (.ref C) none H'
def Ei(X:Cx)(E:XK):Prop:=∀(pins:List (Addr×Obj)) (σ:St) (H:Hp) (s:Gb) (x C:Addr) (vs:List F9) (h':Heap),Inv X pins σ H s->Heap.MadeExcOf s.heap h' x (.ref C) vs->E (.ref C) none H->X.xe (.ref x) { s with heap:=h' }
theorem yL{env:Env}{l:List Env}{b L:Addr}(hf:env.frame=some L)(h:b∈frs (env::l)):b=L\/b∈frs l:=by
 unfold frs at h;rw[HJ,hf]at h;exact List.mem_cons.mp h
theorem Dj(l:List Env):∀env∈l,∀a,env.frame=some a->a∈frs l:=λenv he a hf=>List.mem_filterMap.mpr ⟨env,he,hf⟩
section
variable {P:GE}{w:GF}{K:PySem.W.Frag}{mg:Str->Option F9}{base:Heap}{N:List Str}{qual:Str}{scope:Scope}{f:Addr}{cd:F9}{A:G_}{outer:List Env}{s:Gb}{H:Hp}{E:XK}
theorem nO:Ei (mH (CXe P w) P w K mg base N qual scope f cd A outer s H E) E:=by
 intro pins σ H1 s1 x C vs h' I hx ee;have hfr:(HE qual scope s.heap.objs.size f cd).frame=some (HE qual scope s.heap.objs.size f cd).locals:=rfl;have hst:=I.stack;have hfree:=I.stkFree;have hsub:=I.stkSub;show GI (GK P w) (A.deeper (HE qual scope s.heap.objs.size f cd)) (leaving (HE qual scope s.heap.objs.size f cd) (.ref x)) (λ_ s''=>CXe P w outer H s E (.ref x) s'') _ _;have hin:=Dj (HE qual scope s.heap.objs.size f cd::outer);have hff:s1.heap.FunFrames (PySem.W.hideAll s1.heap (frs (HE qual scope s.heap.objs.size f cd::outer))) (HE qual scope s.heap.objs.size f cd::outer):=PySem.W.funFrames_hide hst hin;have notfr:∀b,b<s.heap.objs.size->b∉frs outer->b∉frs (HE qual scope s.heap.objs.size f cd::outer):=λb hlt hb hm=>by
  rcases yL hfr hm with e|hm
  .exact absurd (GC hlt I.ok.above) (by rw[e];exact Hm _)
  .exact hb hm
 refine wpAny_leaves_madeW (base:=PySem.W.hideAll s1.heap (frs (HE qual scope s.heap.objs.size f cd::outer))) (h:=s1.heap) I.ok.frames hfr (λb o q=>PySem.W.of_hideAll _ q) hff hx λh'' t x1 x2 x3 x4=>?_;have cov1:∀b o,s.heap.get? b=some o->H b=none->b∉frs outer->(PySem.W.hideAll s1.heap (frs (HE qual scope s.heap.objs.size f cd::outer))).get? b=some o:=λb o q n hb =>
  PySem.W.hideAll_get _ (I.base.keep b o q n hb (show b∉([]:List Addr) by simp)) (notfr b (Gq q) hb)
 have cov2:∀b o,s.heap.get? b=some o->b∉frs outer->∃o',(PySem.W.hideAll s1.heap (frs (HE qual scope s.heap.objs.size f cd::outer))).get? b=some o':=λb o q hb=>by
  obtain⟨o',e⟩:=I.base.there b o q (show b∉([]:List Addr) by simp);exact⟨o',PySem.W.hideAll_get _ e (notfr b (Gq q) hb)⟩
 have slot:∀b,b∈frs outer->∀o,s1.heap.get? b=some o->∃sl,h''.get? b=some { o with slots:=sl }:=λb hb o q=>by
  have hm:b∈frs (HE qual scope s.heap.objs.size f cd::outer):=by
   unfold frs;rw[HJ,hfr];exact Gc _ hb
  obtain⟨_,o2,e2,nd⟩:=hff.mem hm;rw[q]at e2;cases e2;exact x4 b o (hx.keeps b o q) nd
 refine⟨x,C,H1,_,_,rfl,I.os,I.bare,⟨λb o q n hb _=>x1.1 b o (cov1 b o q n hb),λb o q n hb hx'=>?_,I.base.free,λb o q _=>?_,I.base.tups,I.base.frzs,I.base.tbls⟩,λb ob e=>?_,cov1,cov2,x1,ee⟩
 .obtain⟨sl,e1⟩:=I.base.slot b o q n hb hx';obtain⟨sl2,e2⟩:=slot b hb _ e1;exact⟨sl2,e2⟩
 .by_cases hb:b∈frs outer
  .obtain⟨o',e⟩:=I.base.there b o q (show b∉([]:List Addr) by simp);obtain⟨sl2,e2⟩:=slot b hb _ e;exact⟨_,e2⟩
  .obtain⟨o',e⟩:=cov2 b o q hb;exact⟨o',x1.1 b o' e⟩
 .refine(I.hok b ob e).stay (λc v hc q=>PySem.W.hideAll_get _ q λhm=>?_) (λ_ q=>q) λ_ _ q=>q;have z:=hfree c hm;rcases hc with rfl|hc
  .rw[e]at z;cases z
  .rw[hc]at z;cases z
theorem fN:fL (CXe P w) (mH (CXe P w) P w K mg base N qual scope f cd A outer s H E) E:=by
 intro pins σ H1 s1 e s' I h;obtain⟨x,C,H',B,a0,rfl,os,bare,un,hok,cov1,cov2,fl,ee⟩:=h;have hfr:(HE qual scope s.heap.objs.size f cd).frame=some (HE qual scope s.heap.objs.size f cd).locals:=rfl;show GI (GK P w) (A.deeper (HE qual scope s.heap.objs.size f cd)) (leaving (HE qual scope s.heap.objs.size f cd) (.ref x)) (λ_ s''=>CXe P w outer H s E (.ref x) s'') _ _;have notfr:∀b,b<s.heap.objs.size->b∉frs outer->b∉frs (HE qual scope s.heap.objs.size f cd::outer):=λb hlt hb hm=>by
  rcases yL hfr hm with e|hm
  .exact absurd (GC hlt I.ok.above) (by rw[e];exact Hm _)
  .exact hb hm
 refine wpAny_leaves_onW I.ok.frames hfr fl λh'' f2 up=>?_;have c1:∀b o,s.heap.get? b=some o->H b=none->b∉frs outer->B.get? b=some o:=λb o q n hb =>
  cov1 b o (I.base.keep b o q n hb (show b∉([]:List Addr) by simp)) (I.base.free b o q n (show b∉([]:List Addr) by simp)) (notfr b (Gq q) hb)
 have c2:∀b o,s.heap.get? b=some o->b∉frs outer->∃o',B.get? b=some o':=λb o q hb=>by
  obtain⟨o',e⟩:=I.base.there b o q (show b∉([]:List Addr) by simp);exact cov2 b o' e (notfr b (Gq q) hb)
 have fm:∀b,b∈frs outer->b∈frs (HE qual scope s.heap.objs.size f cd::outer):=λb hb=>by
  unfold frs;rw[HJ,hfr];exact Gc _ hb
 refine⟨x,C,H',B,a0,rfl,os.trans I.os,bare,⟨λb o q n hb _=>f2.1 b o (c1 b o q n hb),λb o q n hb hx'=>?_,λb o q n hx'=>?_,λb o q _=>?_,λb xs q=>un.tups b xs (I.base.tups b xs q),λb o u q=>un.frzs b o u (I.base.frzs b o u q),λb ps q=>?_⟩,hok,c1,c2,f2,ee⟩
 .obtain⟨sl,e1⟩:=I.base.slot b o q n hb hx';obtain⟨sl2,e2⟩:=un.slot b _ e1 (I.base.free b o q n hx') (fm b hb) (by simp);obtain⟨_,o3,e3,nd⟩:=fl.2.2.1.mem (fm b hb);rw[e2]at e3;cases e3;obtain⟨sl3,e4⟩:=up b _ e2 nd;exact⟨sl3,e4⟩
 .obtain⟨o',e⟩:=I.base.there b o q hx';exact un.free b o' e (I.base.free b o q n hx') (by simp)
 .by_cases hb:b∈frs outer
  .obtain⟨_,o3,e3,_⟩:=f2.2.2.1.mem hb;exact⟨o3,e3⟩
  .obtain⟨o',e⟩:=c2 b o q hb;exact⟨o',f2.1 b o' e⟩
 .obtain⟨m1,e1⟩:=I.base.tbls b ps q;obtain⟨m2,e2⟩:=un.tbls b _ e1;exact⟨m1++m2,by rw[e2,JB]⟩
end

abbrev qm:List F9:=[.type "ValueError",.type "Exception",.type "BaseException",.type "object"]
structure rW(K:PySem.W.Frag)(mg:Str->Option F9)(c:Str)(C:Addr):Prop where
 mg:mg c=some (.ref C)
 ex:PySem.W.excIn K C qm "ValueError.__new__" = true
theorem Dk{K:PySem.W.Frag}{h:Heap}{C:Addr}{bmB:List F9}{newId:String}(X:K.In h)(q:PySem.W.excIn K C bmB newId=true) :
  ∃bm N nm q bs hdct sn sub ab col dd k0 k1 k2 k3 k5 mN,h.get? C=some (excClassObj nm q C N bs bm hdct sn sub ab col dd k0 k1 k2 k3 k5 newId)/\h.Ns N mN/\mN "__init__" = none/\OwnTail h bmB bm:=by
 unfold PySem.W.excIn at q
 split at q
 .rename_i dd cd sl ho
  split at q
  .rename_i C' bm k0 k1 k2 k3 n k5 hm hs
   simp only[HF,beq_iff_eq,Bool.not_eq_true']at q;obtain⟨⟨⟨⟨⟨rfl,rfl⟩,hdel⟩,ht⟩,hok⟩,hni⟩:=q;obtain⟨nm,bs,mro,ns,qn,hd,sn,sub,ab,col,del⟩:=cd;dsimp only at hm hdel hok hni;subst hm hdel;have hsl:sl=#[k0,k1,k2,k3,some (.builtin n),k5]:=by
    obtain⟨l⟩:=sl;simp only at hs;rw[hs]
   subst hsl;exact⟨bm,ns,nm,qn,bs,hd,sn,sub,ab,col,dd,k0,k1,k2,k3,k5,_,X _ _ ho,.of_isNs (PySem.W.isNs_of_in X hok),PySem.W.nsMap_none_of_in X hok hni,PySem.W.tail_of_in X ht⟩
  .cases q
 .cases q
def Ej(E:XK)(C:Addr)(t:TA):TS:=λ_ σ H=>t σ H λvs H1=>vs.length<=Gr/\E (.ref C) none H1
section
variable {X:Cx}{E:XK}{c:Str}{C:Addr}{e:Expr}{es:List Expr}{t:TA}{np cpos pos:Pos}
theorem lq(hc:X.calm=true)(hw:Ei X E)(O:rW X.K X.mg c C)(hg:Gl X c)(ha:PA X (e::es) t)(hd:(c==("__debug__" : Str))=false:=by decide)
  (he:GG (e::es) X.env=(false,eval e X.env)::GG es X.env:=by rfl)(hpl:(HR cpos (GG es X.env)).any (·.1)=false:=by rfl) :
  PS X (.Raise (some (.Call (.Name c np) (e::es) [] cpos)) none pos) (Ej E C t):=by
 intro pins s σ H D I h;obtain⟨bm,N,nm,q,bs,hdct,sn,sub,ab,col,dd,k0,k1,k2,k3,k5,mN,hC,hN,hni,T⟩:=Dk I.ok.mod.kin O.ex;refine wpAny_Raise_call_subU (C:=C) (nm:=nm) (q:=q) (N:=N) (bs:=bs) (bm:=bm) (hdct:=hdct) (sn:=sn) (sub:=sub) (ab:=ab) (col:=col) (dd:=dd) (k0:=k0) (k1:=k1) (k2:=k2) (k3:=k3) (k5:=k5)
  PySem.F.excBase_ValueError (by decide +kernel) PySem.F.excBase_ValueError (mN:=mN) (T.hasType PySem.F.excBase_ValueError.hasBase) (I.ok.hd hc) (by rw[he];show(false||(HR cpos (GG es X.env)).any (·.1))=false;rw[hpl];rfl) hni
  (jF I hg O.mg ⟨rfl,?_⟩ hd)
 have ha':=ha cpos pins s σ H _ I h;rw[he]at ha'⊢;refine Jm (He ha' (λvs s₂ h₂=>?_) λ_ _ y=>y);obtain⟨xs,H1,I1,r,hz,ee⟩:=h₂;exact⟨rfl,by rw[<-r.length];exact hz,I1.bk _ _ hC,hN.keeps I1.bk,T.keeps I1.bk,λh' x hm=>hw pins σ H1 s₂ x C _ h' I1 hm ee⟩
end
theorem Fun.okE{P:GE}{w:GF}{K:PySem.W.Frag}{mg:Str->Option F9}{base:Heap}{x qual:Str}{st:Stmt}{f:Addr}{fd:Gn}{N ps:List Str}{k:Nat}{sp:Sp}(F:Fun K x qual st f fd)(S:aK N ps (au st))(len:∀vs H Q E,sp vs H Q E->vs.length=ps.length)
  (hbody:∀ (cdv:F9) (A:G_) (outer:List Env) (s:Gb) (H:Hp) (vs:List V) (Q:VK) (E:XK),cE k (A.deeper (HE qual (au st) s.heap.objs.size f cdv))→sp vs H Q E →
   ∃t,PSs (mH (CXe P w) P w K mg base N qual (au st) f cdv A outer s H E) (cm st) t/\t { nx:=λ_ H'=>Q .non H',rt:=Q } (i_ N vs) H):aX P w K mg base (CXe P w) (k+1) f fd ps sp:=by
 obtain⟨oc,od,kV,doc,pm,an,cdv,ct,osl,rfl,lk,hcd⟩:=F.ex;exact zj lk hcd S len λA outer s H vs Q E hr hsp=>hbody cdv A outer s H vs Q E hr hsp
abbrev Cx.marked(X:Cx)(v:F9):Cx:={ X with A:=X.A.mark (some v),calm:=false,xe:=λ_ _=>False }
theorem Inv.marked{X:Cx}{pins:List (Addr×Obj)}{σ:St}{H:Hp}{s:Gb}(I:Inv X pins σ H s)(v:F9):Inv (X.marked v) pins σ H s:=
 ⟨⟨I.ok.mod,I.ok.kind,I.ok.glob,I.ok.blt,I.ok.above,I.ok.inj,I.ok.has,I.ok.cab,(λh=>nomatch h),I.ok.frames,I.ok.stk,I.ok.exf,I.ok.bs,I.ok.bsz,I.ok.noex,I.ok.exfs,I.ok.funs,I.ok.frf⟩,I.os,I.bare,I.base,I.loc,I.cell,I.free,I.freeC,I.pin,I.hok,I.len⟩
theorem Inv.unmarked{X:Cx}{pins:List (Addr×Obj)}{σ:St}{H:Hp}{s:Gb}{v:F9}(I:Inv (X.marked v) pins σ H s)(hd:X.calm=true->X.A.handled=none):Inv X pins σ H s:=
 ⟨⟨I.ok.mod,I.ok.kind,I.ok.glob,I.ok.blt,I.ok.above,I.ok.inj,I.ok.has,I.ok.cab,hd,I.ok.frames,I.ok.stk,I.ok.exf,I.ok.bs,I.ok.bsz,I.ok.noex,I.ok.exfs,I.ok.funs,I.ok.frf⟩,I.os,I.bare,I.base,I.loc,I.cell,I.free,I.freeC,I.pin,I.hok,I.len⟩
theorem SP.unmarked{X:Cx}{pins:List (Addr×Obj)}{D:eV}{f:Flow}{s':Gb}{v:F9}(hd:X.calm=true->X.A.handled=none)(h:SP (X.marked v) pins D f s'):SP X pins D f s':=by
 cases f with
 |next=>obtain⟨σ',H',I,q⟩:=h;exact⟨σ',H',I.unmarked hd,q⟩
 |brk=>obtain⟨σ',H',I,q⟩:=h;exact⟨σ',H',I.unmarked hd,q⟩
 |cont=>obtain⟨σ',H',I,q⟩:=h;exact⟨σ',H',I.unmarked hd,q⟩
 |ret u=>obtain⟨v,σ',H',I,r,q⟩:=h;exact⟨v,σ',H',I.unmarked hd,r,q⟩
def uc(K:PySem.W.Frag)(C T:Addr):Prop:=PySem.W.exmOne K (.ref C) (.ref T)=some true
section
variable {X:Cx}{k:Nat}{f T:Addr}{fd:Gn}{ps:List Str}{sp:Sp}{fx c:Str}{st:Stmt}{e:Expr}{es:List Expr}{t:TA}{b₀:Stmt}{suite:List Stmt}{th:TS}{np pf cpos apos hpos pos:Pos}
theorem Ek{pins:List (Addr×Obj)}{σ:St}{H1 H':Hp}{s1 s2:Gb}{D:eV}{x C:Addr}{B:Heap}{a0:F9}{E2:F9->Gb->Prop}(I1:Inv X pins σ H1 s1)(hst:X.stack=X.env::X.outer/\X.env.frame=some X.env.locals)
  (os:s2.os=s1.os)(bare:Jg s2.gens)(un:Un (frs X.stack) [] H1 H' s1.heap s2.heap)(hok:HOk X.prog X.w H' B)
  (cov1:∀b o,s1.heap.get? b=some o->H1 b=none->b∉frs X.stack->B.get? b=some o)(cov2:∀b o,s1.heap.get? b=some o->b∉frs X.stack->∃o',B.get? b=some o')(fl:JZ B X.stack x (.ref C) a0 s2.heap)
  (hg:Gl X c)(hm:X.mg c=some (.ref T))(tk:uc X.K C T)(hh:∀v,PSs (X.marked v) (b₀::suite) th)(q:th D σ H')(hd:(c==("__debug__" : Str))=false:=by decide) :
  GI (GK X.prog X.w) X.A (noteFrame (.ref x) X.env) (λ_ s₂=>GI (GK X.prog X.w) X.A (setFlight (.ref x) none) (λ_ s₃=>GI (GK X.prog X.w) X.A (handleBy (.ref x) X.env [.ExceptHandler (some (.Name c np)) none (b₀::suite) hpos]) (SP X pins D) E2 s₃) E2 s₂) E2 s2:=by
 have hfr:X.A.frames=some (X.env::X.outer):=hst.1▸I1.ok.frames
 -- the state behind, in any later heap that keeps B and the frames
 have after:∀h6:Heap,JZ B X.stack x (.ref C) a0 h6->s2.heap.UpToSlots h6->Inv X pins σ H' { s2 with heap:=h6 }:=λh6 fl6 up=>by
  refine I1.call' (ch:=[]) os ⟨λb o q n hb _=>fl6.1 b o (cov1 b o q n hb),λb o q n hb hx'=>?_,un.free,λb o q _=>?_,un.tups,un.frzs,un.tbls⟩ (hok.kept fl6.1) bare (λb z=>absurd z (by simp))
  .obtain⟨sl,e1⟩:=un.slot b o q n hb hx';obtain⟨_,o3,e3,nd⟩:=fl.2.2.1.mem hb;rw[e1]at e3;cases e3;obtain⟨sl3,e4⟩:=up b _ e1 nd;exact⟨sl3,e4⟩
  .by_cases hb:b∈frs X.stack
   .obtain⟨_,o3,e3,_⟩:=fl6.2.2.1.mem hb;exact⟨o3,e3⟩
   .obtain⟨o',e⟩:=cov2 b o q hb;exact⟨o',fl6.1 b o' e⟩
 rw[hst.1]at fl;refine wpAny_looks_onW hfr hst.2 fl λh₄ held up4=>?_;refine wpAny_landsW held λh₅ fl5 up5=>?_;have fl5':JZ B X.stack x (.ref C) a0 h₅:=hst.1▸fl5;have I5:=after h₅ fl5' (up4.trans up5);have I5m:=I5.marked (.ref x);refine wpAny_handleBy_cons (codeAny_handlers_test (jF (X:=X.marked (.ref x)) I5m hg hm ?_ hd)) (by intro q;cases q);obtain⟨ob,hob,hobc⟩:=fl5.there;have LT:PySem.W.Looks (GK X.prog X.w) h₅ (typeOf (.ref x)) (.ref C):=by
  have z:PySem.W.Looks (GK X.prog X.w) h₅ (typeOf (.ref x)) ob.cls:=(PySem.W.Looks.ld hob).andThen .now;rw[hobc]at z;exact z
 refine(PySem.W.exm_one (M:=GK X.prog X.w) (I5.kIn) LT tk).here ?_;refine codeAny_handlers_suite ?_;refine lands_againW fl5 λh₆ fl6 up6=>?_;have I6:=after h₆ (hst.1▸fl6) ((up4.trans up5).trans up6);refine He (hh (.ref x) pins _ σ H' D (I6.marked (.ref x)) q) (λfl s' h=>?_) λ_ _ z=>Hx z;exact h.unmarked I1.ok.hd

theorem B2{W:F9->Gb->Prop}{pins:List (Addr×Obj)}{σ:St}{H:Hp}{s:Gb}{Q:VK}{E:XK}(I:Inv X pins σ H s)(D:bS X.K X.mg fx st ps f fd)(G:aX X.prog X.w X.K X.mg X.base (CXe X.prog X.w) k f fd ps sp)(hr:cE k X.A)(hg:Gl X fx)
  (ha:PA (X.wish W) (e::es) t)(h:t σ H λvs H1=>sp (vs++[]) H1 Q E)(hW:∀H1 s1 e s2,Inv X pins σ H1 s1->CXe X.prog X.w X.stack H1 s1 E e s2->W e s2)
  (hd:(fx==("__debug__" : Str))=false:=by decide)(he:GG (e::es) X.env=(false,eval e X.env)::GG es X.env:=by rfl)(hpl:(HR cpos (GG es X.env)).any (·.1)=false:=by rfl) :
  GI (GK X.prog X.w) X.A (eval (.Call (.Name fx pf) (e::es) [] cpos) X.env) (EP X pins σ Q) W s:=by
 have I':=I.wish W;refine HS (jF I hg D.mg ?_ hd);refine PySem.W.callWith_K (h₀:=X.base) I.ok.mod.kin D.fn.kp (thn (ha cpos pins s σ H _ I' h) λus s1 ⟨vs,H1,I1,r,q⟩=>⟨I1.kIn,?_⟩) he hpl;have r2:a_ (vs++[]) (us++[]):=r.append .nil;have hl:(us++[]).length=ps.length:=by rw[<-r2.length];exact G.len _ _ _ _ q
 refine KI (Jz (G.run X.A X.stack s1 H1 ⟨us,[]⟩ (us++[]) (vs++[]) Q E hr I1.env0 (D.bd s1 us I1.kIn hl) r2 q) λr s' hq=>?_);cases r with
 |error ex=>exact hW H1 s1 ex s' I1.unwish hq
 |ok fl =>
  cases fl with
  |ret u=>exact I1.unwish.after hq
  |next=>exact Hx hq
  |brk=>exact Hx hq
  |cont=>exact Hx hq
def Dl(K:PySem.W.Frag)(sp:Sp)(i:Nat)(t:TA)(T:Addr)(th:TS):TS:=λD σ H=>t σ H λvs H1=>sp (vs++[]) H1 (λv H2=>D.nx (σ.set i (some v)) H2) (λcls _ H2=>∃C,cls=.ref C/\uc K C T/\th D σ H2)
theorem zr{i:Nat}{y:Str}{py:Pos}(hN:X.N.Nodup)(hi:X.N[i]?=some y)(hy:Loc X.env.scope y)(Df:bS X.K X.mg fx st ps f fd)(G:aX X.prog X.w X.K X.mg X.base (CXe X.prog X.w) k f fd ps sp)(hr:cE k X.A)(hgf:Gl X fx)
  (ha:∀W,PA (X.wish W) (e::es) t)(hgc:Gl X c)(O:rW X.K X.mg c T)(hst:X.stack=X.env::X.outer/\X.env.frame=some X.env.locals)(hh:∀v,PSs (X.marked v) (b₀::suite) th)
  (hs:IR (.Call (.Name fx pf) (e::es) [] cpos) (some (.Name y py)) apos.line X.env=pure false:=by rfl)(hf:X.fn y=true\/X.env.scope.names.lookup y=some .local:=by first|exact .inl rfl|exact .inr rfl|assumption)
  (hd:(fx==("__debug__" : Str))=false:=by decide)(hdc:(c==("__debug__" : Str))=false:=by decide)(he:GG (e::es) X.env=(false,eval e X.env)::GG es X.env:=by rfl)(hpl:(HR cpos (GG es X.env)).any (·.1)=false:=by rfl) :
  PS X (.Try [.Assign [.Name y py] (.Call (.Name fx pf) (e::es) [] cpos) apos] [.ExceptHandler (some (.Name c np)) none (b₀::suite) hpos] [] [] pos) (Dl X.K sp i t T th):=by
 intro pins s σ H D I h;refine wpAny_Try_except (Jd (JK (thn (B2 I Df G hr hgf (ha _) h (λH1 s1 ex s2 I1 hx=>?_) hd he hpl) λv s1 ⟨y,H1,I1,r1,q1⟩=>?_) hs))
 .obtain⟨x,C,H',B,a0,rfl,os,bare,un,hok,cov1,cov2,fl,C',ec,tk,q⟩:=hx;cases ec;exact Ek I1 hst os bare un hok cov1 cov2 fl hgc O.mg tk hh q hdc
 .exact oj I1 hN hi hy r1 (λs2 I2=>Ij (Ij ⟨_,H1,I2,q1⟩)) hf
end
end L2

set_option maxHeartbeats 4000000
namespace L2
open PySem PySem.Spec PyProof.Rows Tl

def PP(X:Cx)(v:Expr)(c:St->Prop):Prop:=∀(pins:List (Addr×Obj)) (s:Gb) (σ:St) (H:Hp) (Q:F9->Gb->Prop),Inv X pins σ H s->c σ->(∀(y:Str) (t:Tok) (s':Gb),y.length<=20000->Inv X pins σ H s'->Q (.str y t) s')->GI (GK X.prog X.w) X.A (eval v X.env) Q X.xe s
def PJ(X:Cx)(vs:List Expr)(c:St->Prop):Prop:=∀(pins:List (Addr×Obj)) (s:Gb) (σ:St) (H:Hp) (acc:Str) (Q:Str->Gb->Prop),Inv X pins σ H s->c σ->acc.length+20000*vs.length<=1000000->(∀(z:Str) (s':Gb),z.length<=1000000->Inv X pins σ H s'->Q z s')->Joins (GK X.prog X.w) X.A X.xe (evalEach vs X.env) acc Q s
section
variable {X:Cx}
theorem qo:PJ X [] (λ_=>True):=λ_ s _ _ acc _ I _ ha q=>q acc s (by simpa using ha) I
theorem eE{v:Expr}{vs:List Expr}{c d:St->Prop}(h:PP X v c)(hr:PJ X vs d)(he:evalEach (v::vs) X.env=eval v X.env::evalEach vs X.env:=by rfl):PJ X (v::vs) (λσ=>c σ/\d σ):=by
 intro pins s σ H acc Q I hc ha q;rw[he];refine h pins s σ H _ I hc.1 λy t s' hy I'=>?_;have hl:(acc++y).length=acc.length+y.length:=strLen_append _ _;rw[F8]at ha;refine⟨y,t,rfl,?_,hr pins s' σ H (acc++y) Q I' hc.2 (by rw[hl];omega) q⟩;rw[hl];exact GM (show acc.length+y.length<=1000000 by omega) (by decide)
theorem jZ{x:Str}{j pos}(hx:x.length<=20000:=by decide +kernel):PP X (.Constant (.str x) j pos) (λ_=>True):=λ_ s _ _ _ I _ q=>IM (q x _ _ hx (I.tok _))
theorem Dm{pins:List (Addr×Obj)}{s:Gb}{σ:St}{H:Hp}{Q:F9->Gb->Prop}{y:Str}{t:Tok}(I:Inv X pins σ H s)(hy:y.length<=20000)(q:∀(y:Str) (t:Tok) (s':Gb),y.length<=20000->Inv X pins σ H s'->Q (.str y t) s') :
  GI (GK X.prog X.w) X.A (formatField (.str y t) Hk) Q X.xe s:=
 formatField_str (λt' tk=>q y t' _ hy (I.tok tk)) (GM hy (by decide))
theorem rX{i:Nat}{e:Expr}{pos:Pos}(he:PE X e (BF i)):PP X (.FormattedValue e 114 none pos) (λσ=>∃l:List Nat,σ[i]?=some (some (.str (tx l)))/\l.length<=1000/\∀c∈l,c<127):=by
 intro pins s σ H Q I hc q;obtain⟨l,hv,hl,hc⟩:=hc;refine wpAny_FormattedValue_repr (thn (he pins s σ H (λv H'=>v=.str (tx l)/\H'=H) I ⟨_,hv,rfl,rfl⟩) λu s1 ⟨x,H1,I1,r1,e1,e2⟩=>?_);subst e1 e2;obtain⟨t,rfl⟩:=r1;have hb:(reprText (tx l)).length<=20000:=by
  have:=StrLaws.reprText_len (tx l) (λc hm=>HM (hc c (by simpa using hm)) (by decide));have e1:(reprText (tx l)).cps.toList.length=(reprText (tx l)).length:=ID;have e2:=aZ l;have e3:(tx l).cps.toList.length=(tx l).length:=ID;omega
 exact wpAny_pyReprObj_str (Dm (I1.tok _) hb q) (GM hb (by decide))
theorem El{n:Int}{e:Expr}{pos:Pos}(he:PE X e (tC (.int n)))(hn:n.natAbs.log2<1920:=by decide)(hl:(toString n:Str).length<=20000:=by decide +kernel):PP X (.FormattedValue e (-1) none pos) (λ_=>True):=by
 intro pins s σ H Q I _ q;refine wpAny_FormattedValue_plain (thn (he pins s σ H (λv H'=>v=.int n/\H'=H) I ⟨rfl,rfl⟩) λu s1 ⟨x,H1,I1,r1,e1,e2⟩=>?_);subst e1 e2;obtain⟨t,rfl⟩:=r1;exact wpAny_formatField_int hn (q _ _ _ hl (I1.tok _))
def tFs(c:St->Prop):TE:=λσ H Q=>c σ/\∀z:Str,Q (.str z) H
theorem nP{v v2:Expr}{vs:List Expr}{c:St->Prop}{pos:Pos}(h:PJ X (v::v2::vs) c)(hl:vs.length<=20:=by decide):PE X (.JoinedStr (v::v2::vs) pos) (tFs c):=by
 intro pins s σ H Q I hw;refine wpAny_JoinedStr (h pins s σ H _ _ I hw.1 (by show 0+_<=_;simp only[F8];omega) λz s' hz I'=>⟨GM hz (by decide),.str z,H,I'.tok _,⟨_,rfl⟩,hw.2 z⟩)
end

theorem Inv.track{X:Cx}{pins:List (Addr×Obj)}{σ:St}{H:Hp}{s:Gb}{D:Addr}{o:HO}(I:Inv X pins σ H s)(hn:H D=none)(hnew:X.s₀.heap.objs.size<=D)(hL:D≠X.env.locals)(hc:∀x c,X.env.cells.lookup x=some c->c≠D)(hp:∀p∈X.pn++pins,p.1≠D)
  (ok:cj X.prog X.w (upd H D o) s.heap D o):Inv X pins σ (upd H D o) s:=by
 have ne:∀b u,H b=some u->b≠D:=λb u q=>cy q hn;refine⟨I.ok,I.os,I.bare,⟨I.base.keep,I.base.slot,λb o q nn hx=>?_,I.base.there,λb xs q=>?_,λb o u q=>?_,λb ps q=>?_⟩,I.loc,I.cell,?_,λx c q=>?_,λp hq=>?_,λb u q=>?_,I.len⟩
 .rw[ak (Gw (GC (Gq q) hnew))];exact I.base.free b o q nn hx
 .have z:=I.base.tups b xs q;rw[ak (ne b _ z)];exact z
 .have z:=I.base.frzs b o u q;rw[ak (ne b _ z)];exact z
 .obtain⟨more,z⟩:=I.base.tbls b ps q;exact⟨more,by rw[ak (ne b _ z)];exact z⟩
 .rw[ak (GX hL)];exact I.free
 .rw[ak (hc x c q)];exact I.freeC x c q
 .obtain⟨a1,a2,a3⟩:=I.pin p hq;exact⟨a1,by rw[ak (hp p hq)];exact a2,a3⟩
 .by_cases hb:b=D
  .subst hb;rw[ae]at q;cases q;exact ok
  .rw[ak hb]at q;exact(I.hok b u q).stay (λc v _ r=>r) (λc r=>by rw[ak (ne c _ r)];exact r) λc xs r=>by rw[ak (ne c _ r)];exact r
def Ite(K:PySem.W.Frag)(a:Addr):It:=
 ⟨λi H=>∃xs x,SqL K H a xs/\xs[i]?=some x,λi H x H'=>∃p,H p=none/\x=.ref p/\∀xs y,SqL K H a xs->xs[i]?=some y->H'=upd H p (.tup [.int (i:Int),y]),λi H=>∃xs,SqL K H a xs/\xs.length<=i⟩
theorem AK{P:GE}{w:GF}{K:PySem.W.Frag}{elts:List Expr}{k1}{tp:Pos}(a e it:Addr)(hei:e≠it):qb P w K (.Tuple elts k1 tp) (Ite K a) [e,it] e (λi h=>(∃old,IsEnum h e it (i:Nat) old)/\h.IsListIter it a i) where
 mem:=by simp
 obj:=λi h st b hb=>by
  have hb':b=e\/b=it:=by simpa using hb
  rcases hb' with rfl|rfl
  .obtain⟨⟨old,h1⟩,_⟩:=st;exact⟨_,h1,λv z=>by cases z⟩
  .obtain⟨_,o,h1,c,d⟩:=st;exact⟨o,h1,λv z=>by rw[d]at z;cases z⟩
 keep:=λi h h' st k=>⟨let⟨old,h1⟩:=st.1;⟨old,k e (by simp) _ h1⟩,st.2.at λo h1=>k it (by simp) o h1⟩
 item:=by
  intro X hP hw hK hc i pins s σ H E I hf st hg;subst hP hw hK;obtain⟨xs,x,hq,hx⟩:=hg;obtain⟨its,rv,p,hz⟩:=I.list hq;obtain⟨u,hu,ru⟩:=rv.get hx;obtain⟨f0,f1,f2,f3,f4,f5⟩:=hf e (by simp);obtain⟨g0,g1,g2,g3,g4,g5⟩:=hf it (by simp);obtain⟨⟨old,he⟩,hit⟩:=st;refine wpAny_pyNext_enum_item he hit p.isList (x:=u) (by simpa using hu) hei λh' heo hit' hT hz' hk=>?_;have kk:∀b o,b∉[e,it]->s.heap.get? b=some o->h'.get? b=some o:=λb o hb q=>hk b o (λz=>hb (by simp[z])) (λz=>hb (by simp[z])) q;have nit:∀b v,H b=some v->b∉[e,it]:=λb v q z=>by
   have z':b=e\/b=it:=by simpa using z
   rcases z' with rfl|rfl
   .rw[f0]at q;cases q
   .rw[g0]at q;cases q
  have I1:Inv X pins σ H { s with heap:=h',toks:=s.toks+1 }:=by
   refine I.step (g':=s.gens) (d':=s.drawn) (ch:=[e,it]) (λb hb=>?_) (λb o _ _ hb q _=>kk b o hb q) (λb o _ _ hb q _=>⟨o.slots,kk b o hb q⟩) (λ_ _ _ _ n=>n)
    (λb o hb q=>⟨o,kk b o hb q⟩) (λ_ _ q=>q) (λ_ _ _ q=>q) (λb ps q=>⟨#[],by rw[q];simp⟩) (λm hm=>?_) (λb v q=>?_) I.bare
   .have z':b=e\/b=it:=by simpa using hb
    rcases z' with rfl|rfl
    .exact⟨f3,f1,f4,f5⟩
    .exact⟨g3,g1,g4,g5⟩
   .obtain⟨o,es,ep,ho,r⟩:=hm;exact⟨o,es,ep,kk _ o (λz=>by
     have z':X.env.locals=e\/X.env.locals=it:=by simpa using z
     rcases z' with z'|z'
     .exact f1 z'.symm
     .exact g1 z'.symm) ho,r⟩
   .refine(I.hok b v q).stay (λc o hc r=>kk c o ?_ r) (λ_ r=>r) λ_ _ r=>r;rcases hc with rfl|hc
    .exact nit _ _ q
    .exact nit _ _ hc
  have hsz:s.heap.objs.size<h'.objs.size:=by rw[hz'];exact Ic _
  have hTn:H s.heap.objs.size=none:=I.fresh;have elt:e<s.heap.objs.size:=Gq he;have I2:Inv X pins σ (upd H s.heap.objs.size (.tup [.int (i:Int),x])) { s with heap:=h',toks:=s.toks+1 }:=by
   refine I1.track hTn I.sz (HK I.lt) (λy c q=>?_) (λp hp=>?_) ⟨by show 2<=Gr;decide,[.int i s.toks,u],.cons ⟨_,rfl⟩ (.cons ru .nil),⟨_,hT,rfl,_,rfl⟩⟩
   .obtain⟨v,q2⟩:=I.cell y c q;exact Gw q2.lt
   .exact Gw (Gq (I.pin p hp).1)
  refine⟨_,rfl,wpAny_letOwnedTupleGo_enum (s:={ s with heap:=h',toks:=s.toks+1 }) heo λh'' he'' hs''=>?_⟩;have I3:Inv X pins σ (upd H s.heap.objs.size (.tup [.int (i:Int),x])) { s with heap:=h'',toks:=s.toks+1 }:=Inv.turned (s:={ s with heap:=h',toks:=s.toks+1 }) (h':=h'') (t':=s.toks+1) (it:=e) I2 (λb o hb q=>(hs''.2 b hb).trans q) (by rw[ak (Gw elt)];exact f0) f1 f3 f4 f5;refine⟨.ref s.heap.objs.size,_,I3,rfl,⟨_,hTn,rfl,λys y hy hy2=>?_⟩,⟨⟨_,he''⟩,?_⟩,λb hb=>?_⟩
  .rw[I.list_inj hy hq,hx]at hy2;cases hy2;rfl
  .exact hit'.at λo h1=>(hs''.2 it (GX hei)).trans h1
  .have z':b=e\/b=it:=by simpa using hb
   rcases z' with rfl|rfl
   .rw[ak (Gw elt)];exact f0
   .have ilt:b<s.heap.objs.size:=by
     obtain⟨o,h1,_⟩:=hit;exact Gq h1
    rw[ak (Gw ilt)];exact g0
 done:=by
  intro X hP hw hK hc i pins s σ H E I hf st hg;subst hP hw hK;obtain⟨xs,hq,hx⟩:=hg;obtain⟨its,rv,p,hz⟩:=I.list hq;obtain⟨g0,g1,g2,g3,g4,g5⟩:=hf it (by simp);obtain⟨⟨old,he⟩,hit⟩:=st;have hl:=rv.length;exact wpAny_pyNext_enum_end (I.ok.hd hc) he hit p.isList (by simp;omega) λh' eb=>⟨rfl,I.turned (t':=s.toks) (λb o hb e=>eb b o hb e) g0 g1 g3 g4 g5⟩
 self:=λ_ _ _ _ _ st h=>by
  obtain⟨⟨old,he⟩,_⟩:=st;exact wpAny_pyIter_enum he h
section
variable {X:Cx}{elts:List Expr}{k1:Nat}{tp:Pos}
def Fe(K:PySem.W.Frag)(tl:TE):TI:=λσ H R=>tl σ H λx H1=>∃a,x=.ref a/\(∃xs,SqL K H1 a xs)/\R (Ite K a) H1
theorem yM{l:Expr}{k1}{tl:TE}{p pos:Pos}(hg:Gl X "enumerate")(hm:X.mg "enumerate" = none)(hl:PE X l tl)(hs:GG [l] X.env=[(false,eval l X.env)]:=by rfl):PI X (.Tuple elts k1 tp) (.Call (.Name "enumerate" p) [l] [] pos) (Fe X.K tl):=by
 intro pins s σ H R I h;have ha:PA X [l] (CM tl ux):=aa hl ac hs;refine Call_ (nG I hg hm (by decide +kernel:Iu "enumerate" = some (.type "enumerate")) (HL (thn (ha pos pins s σ H (λvs H1=>match vs with|[x]=>∃a,x=.ref a/\(∃xs,SqL X.K H1 a xs)/\R (Ite X.K a) H1|_=>False) I h) λus s1 ⟨vs,H1,I1,r1,q1⟩=>?_) hs rfl))
 match vs,r1,q1 with
 |[x],r1,q1 =>
 obtain⟨a,rfl,⟨xs,hq⟩,q⟩:=q1;obtain⟨u,rfl,ru⟩:=iC r1;cases ru;obtain⟨its,rv,p,hz⟩:=I1.list hq;refine call_enumerate_list p.isList λh' he hit hz' hk=>?_;refine wpAny_pyIter_enum he ?_;refine⟨s1.heap.objs.size+1,[s1.heap.objs.size+1,s1.heap.objs.size],_,_,H1,rfl,I1.kept (t':=s1.toks) hk,AK a _ _ (Nat.succ_ne_self _),⟨⟨_,he⟩,hit⟩,λb hb=>?_,q⟩;have z':b=s1.heap.objs.size+1\/b=s1.heap.objs.size:=by simpa using hb
 have I2:=I1.kept (h':=h') (t':=s1.toks) hk;rcases z' with rfl|rfl
 .exact I1.fpOk (HN _) (I1.hok.fresh (HN _))
 .exact I1.fpOk (Gh _) (I1.hok.fresh (Gh _))
end
theorem xi{K:PySem.W.Frag}{a:Addr}{xs:List V}{g:TG}{tb:TS}{D:eV}{σ:St}{H:Hp}(Pv:Nat->St->Hp->Prop)(h0:Pv 0 σ H)(hl:∀i σ H,i<=xs.length->Pv i σ H->SqL K H a xs)
  (hs:∀i x σ H p,xs[i]?=some x->Pv i σ H->H p=none->g (.ref p) σ (upd H p (.tup [.int (i:Int),x])) λσ2 H2=>tb { D with nx:=Pv (i+1),ct:=Pv (i+1),bk:=D.nx } σ2 H2)(hd:∀σ H,Pv xs.length σ H->D.nx σ H) :
  ∃W:Nat->Nat->St->Hp->Prop,(∃m,W 0 m σ H)/\∀i m σ H,W i m σ H->
   ((Ite K a).stop i H/\D.nx σ H)\/((Ite K a).go i H/\∃N:St->Hp->Prop,(∀σ' H',N σ' H'->∃m',m'<m/\W (i+1) m' σ' H')/\∀x H',(Ite K a).yld i H x H'->g x σ H' λσ2 H2=>tb { D with nx:=N,ct:=N,bk:=D.nx } σ2 H2):=by
 refine⟨λi m σ H=>m=xs.length-i/\i<=xs.length/\Pv i σ H,⟨xs.length,by simp,GV _,h0⟩,?_⟩;rintro i m σ H ⟨rfl,hi,p⟩;have q:=hl i σ H hi p;by_cases hlt:i<xs.length
 .refine .inr ⟨⟨xs,xs[i],q,by simp[hlt]⟩,Pv (i+1),λσ' H' p'=>⟨xs.length-(i+1),by omega,rfl,hlt,p'⟩,λx H' y=>?_⟩;obtain⟨t,ht,e,y⟩:=y;subst e;have e2:=y xs xs[i] q (by simp[hlt]);subst e2;exact hs i xs[i] σ H t (by simp[hlt]) p ht
 .have e:i=xs.length:=by omega
  subst e;exact .inl ⟨⟨xs,q,Gh _⟩,hd σ H p⟩

section
variable {X:Cx}{tg:Expr}
end
theorem sN{X:Cx}(hu:X.A.units<J2):OpR X (Hv .Eq) (λx y H Q=>∃a b xs,x=.ref a/\y=.ref b/\SqL X.K H a xs/\SqL X.K H b []/\Q (.bl xs.isEmpty) H):=by
 intro pins s σ H x y v u Q I rx ry h;obtain⟨a,b,xs,rfl,rfl,ha,hb,q⟩:=h;cases rx;cases ry;obtain⟨its,r,p,z⟩:=I.list ha;obtain⟨its2,r2,p2,z2⟩:=I.list hb;have l1:=r.length;have l2:=r2.length;cases xs with
 |nil =>
  refine SeqAt.eq_listAt (e:=λ_=>true) p.isList p2.isList (by simp at l1 l2⊢;omega) hu (λj h1 h2=>absurd h1 (by simp at l1⊢;omega)) ⟨.bl _,H,I,rfl,?_⟩;have e:its.toArray.size=0:=by rw[Gx];exact l1.symm
  rw[e];exact q
 |cons x r=>exact SeqAt.eq_list_lengthsAt p.isList p2.isList (by simp at l1 l2⊢;omega) hu ⟨.bl false,H,I,rfl,q⟩
def Em:V->List V->Hp->VK->Prop:=λx vs H Q=>∃l y xs j,x=.ref l/\vs=[y]/\H l=some (.lst xs)/\ja y=true/\xs.all ja=true/\(∃v,xs[j]?=some v/\eqV v y=true)/\(∀(m:Nat) (v:V),m<j->xs[m]?=some v->eqV v y=false)/\Q (.int (j:Nat)) H
theorem B3{X:Cx}:MtM X "list.index" Em:=by
 intro pins s σ H x vs v us Q I rx rv h;obtain⟨l,y,xs,j,rfl,rfl,hH,fy,fs,⟨vj,hvj,hit⟩,hno,q⟩:=h;cases rx;obtain⟨u,rfl,ru⟩:=rv.one;obtain⟨z,its,n,r,hl,e⟩:=I.lstM hH;have fl:∀(m:Nat) (v:V),xs[m]?=some v->ja v=true:=λm v h=>List.all_eq_true.mp fs v (Ge h);have hj:j<its.toArray.size:=by
  rw[Gx,<-hl];exact(List.getElem?_eq_some_iff.mp hvj).1
 have at':∀(m:Nat) (hm:m<its.toArray.size) (v:V),xs[m]?=some v->eqU y its.toArray[m]=eqV v y:=λm hm v h=>by
  obtain⟨u',hu',ru'⟩:=r.get h;have hm2:m<its.length:=by rw[Gx]at hm;exact hm
  have:its[m]=u':=by
   rw[Ga hm2]at hu';exact GU hu'
  rw[show its.toArray[m]=its[m] by simp,this];exact wU ru' (fl m v h)
 refine IN F.slot_list_index ⟨_,e,rfl⟩ F.entry_list_index (F.args_list_index_2 _ _) (SeqAt.list_indexAt l its.toArray n none #[] u (eqU y) j hj ?_ ?_ ?_) ⟨e,λw hw=>jH ru fy r fs w (by simpa using hw),?_⟩
 .have h1:j<xs.length:=(List.getElem?_eq_some_iff.mp hvj).1;have h2:xs.length<=100000000:=GM z (by decide);omega
 .rw[at' j hj vj hvj];exact hit
 .intro m hm hlt;have h1:m<xs.length:=by rw[hl];rw[Gx]at hm;exact hm
  rw[at' m hm _ (Ga h1)];exact hno m _ hlt (Ga h1)
 .exact⟨.int (j:Nat),H,I.tok _,⟨_,rfl⟩,q⟩
end L2

namespace L2
open PySem PySem.Spec PyProof.Rows

section
variable {X:Cx}
theorem ag{H:Hp}{p:Addr}(h:H p=none)(o:HO):aj H (upd H p o):=λb u q=>by rw[ak (cy q h)];exact q
theorem aj.tup{K:PySem.W.Frag}{H H':Hp}{a:Addr}{xs:List V}(e:aj H H')(h:SqT K H a xs):SqT K H' a xs:=by
 rcases h with(h|⟨o,h⟩)|h
 .exact .inl (.inl (e _ _ h))
 .exact .inl (.inr ⟨o,e _ _ h⟩)
 .exact .inr h
def AL(K:PySem.W.Frag):Sp:=λvs H Q _=>∃(a:Addr) (ns:List Int),vs=[.ref a]/\SqL K H a (ns.map V.int)/\ns.length<=63/\∀H',Q (.bl true) H'
theorem aQ{n:Nat}(h:n<=1000):n<=Gr:=GR (aA h)
theorem AM{n:Nat}(h:n<=1000000):n<=Gr:=GM h (by decide)
theorem le1:1<=Gr:=by decide
theorem le2:2<=Gr:=by decide
theorem le3:3<=Gr:=by decide
theorem le4:4<=Gr:=by decide
end
end L2

namespace HT
open PySem PyProof.Rows
section
open PySem.SeqAt
open PySem.AutoSeq1 (wpAny_loadPart')
open PySem.MeetsSeq PySem.MeetsSeq2 PySem.MeetsSeq3

end
end HT

namespace L2
open PySem PySem.Spec PyProof.Rows
section
variable {X:Cx}

end
end L2

set_option maxHeartbeats 4000000
namespace L2
open PySem PySem.Spec PyProof.Rows Tl
def aT(n:Nat):List Nat:=(J0 10 n).map Char.toNat
theorem je(n:Nat):(PySem.Str.ofString (toString ((n:Nat):Int)))=tx (aT n):=by
 have e:=PySem.W.KIN.signs_num n;rw[zp (PySem.Str.ofString _),e];rfl
theorem ud:∀d:Nat,d<10->(Nat.digitChar d).toNat=d+48:=by decide
theorem oy{n:Nat}(h:n<10):aT n=[n+48]:=by
 unfold aT;rw[Nat.toDigits_of_lt_base h,JI,ud n h]
theorem ve{n:Nat}(h:10<=n):aT n=aT (n/10)++[n%10+48]:=by
 have hm:n%10<10:=J1 n (by decide);have t:J0 10 (n/10)++J0 10 (n%10)=J0 10 (10*(n/10)+n%10):=Nat.toDigits_append_toDigits (by decide) (by omega) hm;rw[Nat.div_add_mod]at t;unfold aT;rw[<-t,Gg,Nat.toDigits_of_lt_base hm,JI,ud _ hm]
theorem jJ:∀(k n:Nat),n<10^(k+1)->(aT n).length<=k+1
 |0,n,h=>by
  rw[oy (by simpa using h)];simp
 |k+1,n,h=>by
  by_cases hn:n<10
  .rw[oy hn];simp
  .rw[ve (by omega),F7,Im];have:=jJ k (n/10) (by
    rw[Nat.pow_succ]at h;omega)
   omega
theorem Dn:∀(n c:Nat),c∈aT n->48<=c/\c<=57:=by
 intro n;induction n using Nat.strongRecOn with
 |_ n ih =>
  intro c hc;by_cases h:n<10
  .rw[oy h]at hc;have:c=n+48:=by simpa using hc
   omega
  .rw[ve (by omega)]at hc;rcases List.mem_append.mp hc with hc|hc
   .exact ih (n/10) (by omega) c hc
   .have:c=n%10+48:=by simpa using hc
    omega
theorem AN{n:Nat}(h:n<10^100):n.log2<1920:=by
 by_cases e:n=0
 .subst e;decide
 .refine(Nat.log2_lt e).mpr (HM h ?_);decide +kernel
abbrev pl(x:Int×Int):List V:=[.int x.1,.int x.2]
abbrev fm(w h f m:Int):List V:=[.int w,.int h,.int f,.int m]
inductive Say where
 |text (l:List Nat)
 |page (k:Nat)
 |row (k:Nat)
theorem jK{α:Type}(xs:List α)(x:α):atI (xs++[x]) (-1)=some x:=by
 unfold atI ixN;rw[if_neg (by decide),if_pos (by simp;omega)];have e:(-1+((xs++[x]).length:Int)).toNat=xs.length:=by simp;omega
 show(xs++[x])[(-1+((xs++[x]).length:Int)).toNat]?=some x;rw[e];simp
section
variable {X:Cx}
theorem yN(ns:List Int):∀k,k<=ns.length->preSum (λi=>(ns[i]?).getD 0) k=(ns.take k).sum
 |0,_=>by simp[preSum]
 |k+1,h=>by
  rw[preSum,yN ns k (by omega),HA,Ga (by omega),IJ];show _+ns[k]=_+(ns[k]+0);rw[Int.add_zero]
theorem B4(hc:X.calm=true):gQ X (.builtin "sum") (λxs H Q=>∃(l:Addr) (ns:List Int),xs=[.ref l]/\SqL X.K H l (ns.map V.int)/\Q (.int ns.sum) H):=by
 intro pins s σ H xs us Q I r h;obtain⟨l,ns,rfl,hl,q⟩:=h;obtain⟨u,rfl,ru⟩:=iC r;cases ru;obtain⟨its,rv,p,z⟩:=I.list hl;have hlt:l<s.heap.objs.size:=by obtain⟨_,_,e,_⟩:=p;exact Gq e
 have len:=rv.length;rw[F6]at len;refine call_sum_walkG (IU p.isList ?_);refine⟨s.heap.objs.size,[s.heap.objs.size,l],[s.heap.objs.size],its.toArray.size,_,_,λi=>(ns[i]?).getD 0,rfl,Walks.list (A:=X.A.in1) (I.ok.hd hc) _ l (Gw hlt) its.toArray,
  ⟨⟨_,GH _ rfl,rfl,rfl⟩,p.isList.push _⟩,λb hb=>?_,λi v hP=>?_,λh' tk t' hk=>?_⟩
 .show b<(s.heap.push _).objs.size;rw[IV];rcases List.mem_cons.mp hb with rfl|hb
  .exact Ic _
  .rw[List.mem_singleton.mp hb];exact Nat.lt_succ_of_lt hlt
 .have hi:its[i]?=some v:=by simpa using hP
  have hlt2:i<ns.length:=by
   have:=(List.getElem?_eq_some_iff.mp hi).1;omega
  have eb:(ns.map V.int)[i]?=some (V.int ns[i]):=by rw[GA,Ga hlt2];rfl
  obtain⟨w',hw,t,ht⟩:=rv.get eb;rw[hi]at hw;cases hw;refine⟨t,?_⟩;have e2:(ns[i]?).getD 0=ns[i]:=by rw[Ga hlt2];rfl
  show v=IQ ((ns[i]?).getD 0) t;rw[e2];exact ht
 .have e1:its.toArray.size=ns.length:=by simp;omega
  have e:preSum (λi=>(ns[i]?).getD 0) its.toArray.size=ns.sum:=by
   rw[e1,yN ns _ (Gh _),Gv]
  rw[e];exact⟨.int _,H,I.kept λb x e=>hk b x (λhm=>by rw[List.mem_singleton.mp hm]at e;exact Hm _ (Gq e)) (Gk _ e),⟨_,rfl⟩,q⟩
end
theorem aj.put{H H2:Hp}{r:Addr}{o:HO}(s:aj H H2)(hr:H r=none):aj H (upd H2 r o):=λb u q=>by rw[ak (cy q hr)];exact s b u q
theorem B5{α:Type}(f:α->V)(ns:List α)(lo hi:Option Int):gX (ns.map f) lo hi=(jd ns lo hi).map f:=by
 unfold gX jd;rw[F6,List.map_take,List.map_drop]
structure Wd where
 lead:Int
 kept:Bool
 say:Say
 foot:List Say

section
variable {prog:GE}{w:GF}{A:G_}{R:JQ->Gb->Prop}{I:Addr}{fp wr:List Addr}{P:Nat->F9->Prop}{St:Nat->Heap->Prop}
end
section
variable {prog:GE}{w:GF}{A:G_}{R:JQ->Gb->Prop}{I:Addr}{fp wr:List Addr}{P:Nat->F9->Prop}{St:Nat->Heap->Prop}
end
structure Frm where
 w:Int
 h:Int
 f:Int
 m:Int
theorem sO{X:Cx}(hu:X.A.units<J2):OpR X (Hv .NotEq) (λx y H Q=>∃a b xs,x=.ref a/\y=.ref b/\SqL X.K H a xs/\SqL X.K H b []/\Q (.bl (!xs.isEmpty)) H):=by
 intro pins s σ H x y v u Q I rx ry h;obtain⟨a,b,xs,rfl,rfl,ha,hb,q⟩:=h;cases rx;cases ry;obtain⟨its,r,p,z⟩:=I.list ha;obtain⟨its2,r2,p2,z2⟩:=I.list hb;have l1:=r.length;have l2:=r2.length;cases xs with
 |nil =>
  refine SeqAt.RcNeAt.lists (e:=λ_=>true) p.isList p2.isList (by simp at l1 l2⊢;omega) hu (λj h1 h2=>absurd h1 (by simp at l1⊢;omega)) _ _ _ _ ⟨.bl _,H,I,rfl,?_⟩;have e:its.toArray.size=0:=by rw[Gx];exact l1.symm
  rw[e];exact q
 |cons x r=>exact SeqAt.RcNeAt.lists_lengths p.isList p2.isList (by simp at l1 l2⊢;omega) hu _ _ _ _ ⟨.bl true,H,I,rfl,q⟩
inductive CL:List Expr->List V->Prop where
 |nil:CL [] []
 |int {i:Int} {j:Nat} {pos:Pos} {es:List Expr} {vs:List V} (h:CL es vs):CL (.Constant (.int i) j pos::es) (.int i::vs)
 |str {x:Str} {j:Nat} {pos:Pos} {es:List Expr} {vs:List V} (h:CL es vs):CL (.Constant (.str x) j pos::es) (.str x::vs)
def tVs(vs:List V):TA:=λ_ H Q=>Q vs H
theorem ue{X:Cx}:∀{es:List Expr} {vs:List V},CL es vs->PA X es (tVs vs)
 |_,_,.nil=>ac
 |_,_,.int h=>aa ah (ue h)
 |_,_,.str h=>aa ao (ue h)
def FO(K:PySem.W.Frag):List V->Hp->VK->Prop:=λxs H Q=>∃p ys,xs=[.ref p]/\(SqL K H p ys\/SqT K H p ys)/\Q (.int (ys.length:Nat)) H
def kB:Str:=PySem.Str.ofString "behind"
section
variable (F:Frm)(ds:List Wd)(xs:List (Int×Int))(k:Str)(i:Nat)(j:Int)
end
section
variable {F:Frm}{ds:List Wd}{xs ys:List (Int×Int)}
end
section
variable {prog:GE}{w:GF}{A:G_}{R:JQ->Gb->Prop}{I:Addr}{fp wr:List Addr}{n:Nat}{P:Nat->F9->Prop}{St:Nat->Heap->Prop}
end
section
variable {F:Frm}{ds:List Wd}{xs:List (Int×Int)}{i:Nat}
end
section
variable {F:Frm}{ds:List Wd}{xs ys:List (Int×Int)}{i:Nat}
end
section
variable {X:Cx}{elts:List Expr}{k1:Nat}{tp:Pos}
end
end L2

set_option maxHeartbeats 4000000
namespace PySem
section
variable {prog:GE}{w:GF}{A:G_}{E:F9->Gb->Prop}{s:Gb}
end
section
variable {prog:GE}{w:GF}{A:G_}{R:JQ->Gb->Prop}
end
namespace F
end F
section
variable {prog:GE}{w:GF}{A:G_}{s:Gb}{R:JQ->Gb->Prop}
end
section
variable {prog:GE}{w:GF}{A:G_}{E:F9->Gb->Prop}{s:Gb}
end
end PySem

set_option maxHeartbeats 4000000
namespace L2
open PySem PySem.Spec PyProof.Rows Tl
structure B6(K:PySem.W.Frag)(x qual:Str)(st:Stmt)(f:Addr)(fd:Gn):Prop where
 ex:∃(oc:F9) (od:Option Addr) (dV kV doc pm:F9) (an:Option Addr) (cdv ct:F9) (osl:Array (Option F9)),fd=PySem.W.fnOf x qual (cI st) (cm st) (au st) dV kV doc pm an cdv ct/\K.lookup f=some ⟨oc,od,.func fd,osl⟩/\PySem.W.codeIn K cdv qual=true
 kp:PySem.W.keepIn K (.ref f)=true
theorem B6.ok{P:GE}{w:GF}{K:PySem.W.Frag}{mg:Str->Option F9}{base:Heap}{x qual:Str}{st:Stmt}{f:Addr}{fd:Gn}{N ps:List Str}{k:Nat}{sp:Sp}(F:B6 K x qual st f fd)(S:aK N ps (au st))(len:∀vs H Q E,sp vs H Q E->vs.length=ps.length)(hbody:∀(cdv:F9) (A:G_) (outer:List Env) (s:Gb) (H:Hp) (vs:List V) (Q:VK) (E:XK),cE k (A.deeper (HE qual (au st) s.heap.objs.size f cdv))->sp vs H Q E->
   ∃t,PSs (mH CX0 P w K mg base N qual (au st) f cdv A outer s H E).nox (cm st) t/\t { nx:=λ_ H'=>Q .non H',rt:=Q } (i_ N vs) H):aX P w K mg base CX0 (k+1) f fd ps sp:=by
 obtain⟨oc,od,dV,kV,doc,pm,an,cdv,ct,osl,rfl,lk,hcd⟩:=F.ex;exact zj lk hcd S len λA outer s H vs Q E hr hsp=>let⟨t,h,q⟩:=hbody cdv A outer s H vs Q E hr hsp;⟨t,h.nox,q⟩
structure xj(K:PySem.W.Frag)(mg:Str->Option F9)(x:Str)(st:Stmt)(ps:List Str)(f:Addr)(fd:Gn)(dv:F9):Prop where
 fn:B6 K x x st f fd
 bd:gR K fd ps []
 bd1:gR K fd ps [dv]
 mg:mg x=some (.ref f)
section
variable {X:Cx}{x:Str}{st:Stmt}{ps:List Str}{f:Addr}{fd:Gn}{dv:F9}{k:Nat}{sp:Sp}{e:Expr}{es:List Expr}{t:TA}{p pos:Pos}
theorem AO{dx:V}(D:xj X.K X.mg x st ps f fd dv)(hdx:bq dx dv)(G:aX X.prog X.w X.K X.mg X.base CX0 k f fd ps sp)(hr:cE k X.A)(hg:Gl X x)(ha:PA X (e::es) t)(hd:(x==("__debug__" : Str))=false:=by decide)
  (he:GG (e::es) X.env=(false,eval e X.env)::GG es X.env:=by rfl)(hpl:(HR pos (GG es X.env)).any (·.1)=false:=by rfl):PE X (.Call (.Name x p) (e::es) [] pos) (zi sp [dx] E0 t):=yE G hr hg D.mg D.fn.kp D.bd1 (.cons hdx .nil) eR ha hd he hpl
theorem AQ{K:PySem.W.Frag}{h:Heap}{mg:Str->Option F9}(KX:K.In h)(G:h.Ns GJ mg){od an od2:Option Addr}{sl sl2:Array (Option F9)}{oc oc2 kV dc pm cd ct:F9}{T:Addr}{n2:Nat}(a:PySem.W.nsIn K GJ x=some (some (.ref f)))
  (l:K.lookup f=some ⟨oc,od,.func (PySem.W.fnOf x x (cI st) (cm st) (au st) (.ref T) kV dc pm an cd ct),sl⟩)(c:PySem.W.codeIn K cd x=true)(k:PySem.W.keepIn K (.ref f)=true)(lt:K.lookup T=some ⟨oc2,od2,.seq #[dv] n2,sl2⟩)
  (b:∀(kV doc pm:F9) (an:Option Addr) (cdv ct:F9) (us:List F9),us.length=ps.length->∃k,JT (PySem.W.fnOf x x (cI st) (cm st) (au st) (.ref T) kV doc pm an cdv ct) ⟨us,[]⟩=seqItems? (.ref T) >>= k/\k (some #[dv])=pure (ps.zip us))
  (b1:∀(kV doc pm:F9) (an:Option Addr) (cdv ct:F9) (us:List F9),us.length+1=ps.length->∃k,JT (PySem.W.fnOf x x (cI st) (cm st) (au st) (.ref T) kV doc pm an cdv ct) ⟨us,[]⟩=seqItems? (.ref T) >>= k/\k (some #[dv])=pure (ps.zip (us++[dv]))) :
  xj K mg x st ps f (PySem.W.fnOf x x (cI st) (cm st) (au st) (.ref T) kV dc pm an cd ct) dv:=by
 refine⟨⟨⟨oc,od,.ref T,kV,dc,pm,an,cd,ct,sl,rfl,l,c⟩,k⟩,λs us kin hl=>?_,λs us kin hl=>?_,PySem.W.mg_of KX G a⟩
 .rw[GL]at hl⊢;obtain⟨k',e1,e2⟩:=b kV dc pm an cd ct us hl;exact .of_defaults (T:=T) rfl (kin T _ lt) rfl e1 e2
 .rw[F7,Im]at hl;obtain⟨k',e1,e2⟩:=b1 kV dc pm an cd ct us hl;exact .of_defaults (T:=T) rfl (kin T _ lt) rfl e1 e2
end
section
variable {F:Frm}{ds:List Wd}{xs ys zs:List (Int×Int)}{i j:Nat}
end
section
variable {F:Frm}{ds:List Wd}{x0 xs zs:List (Int×Int)}{np i:Nat}
end
section
variable {F:Frm}{ds:List Wd}{xs:List (Int×Int)}{i j:Nat}
end
section
variable {room:Int}{brk:Nat->Bool}
end
section
variable {F:Frm}{ds:List Wd}{L room:Int}{brk:Nat->Bool}
end
section
variable {F:Frm}{ds:List Wd}{xs:List (Int×Int)}{i j:Nat}
end
section
variable {F:Frm}{ds es:List Wd}{xs ys:List (Int×Int)}{a r:Nat}
end
section
variable {a:Nat}{ds rs:List Wd}
end
section
variable {F:Frm}{ds:List Wd}{xs:List (Int×Int)}{k:Nat}
end
section
variable {F:Frm}{ds es:List Wd}{xs:List (Int×Int)}{k j:Nat}{h h' f w:Int}
end
section
variable {K:PySem.W.Frag}{H0 H H':Hp}{as:List Addr}{ds:List Wd}
end
section
variable {X:Cx}
end
section
variable {prog:GE}{w:GF}{A:G_}{E:F9->Gb->Prop}{s:Gb}
end
section
variable {X:Cx}{pos:Pos}
end
section
variable {X:Cx}{elt iter:Expr}{ifs:List Expr}{scope:Scope}{cl:List (Str×Addr)}{pos px py tp:Pos}{k1:Nat}{x y:Str}{caps:List Str}{js:List Nat}{tc:TT}{te:TE}{wi:TI}
def g2(K:PySem.W.Frag):TG:=BJ K 2 (rQ (bE 0) (rQ (bE 1) BI))
theorem AR(hc:X.calm=true)(L:oq X scope cl [x,y] caps js)(hi:PI X (.Tuple [.Name x px,.Name y py] k1 tp) iter wi)
  (ht:∀s H C ex,PTs (X.blk (x::y::caps) s H scope cl C ex) ifs tc)(he:∀s H C ex,PE (X.blk (x::y::caps) s H scope cl C ex) elt te)
  (hN:(x::y::caps).Nodup:=by decide +kernel)(hx:(Ia scope X.env).names.lookup x=some .local:=by with_unfolding_all rfl)(hy:(Ia scope X.env).names.lookup y=some .local:=by with_unfolding_all rfl)
  (hs:∀x,Hy iter X.env x=pure x:=by intro _;rfl):PE X (.ListComp elt [⟨.Tuple [.Name x px,.Name y py] k1 tp,iter,ifs,0⟩] scope pos) (uB wi (g2 X.K) tc te 2 js):=
 xc (own:=[x,y]) (g:=g2 X.K) hc L hi (λs H C ex=>dZ hc (a7 (aM (i:=0) hN rfl (.inl hx) (.inr hx)) (a7 (aM (i:=1) hN rfl (.inl hy) (.inr hy)) dt))) ht he hs
end
end L2

set_option maxHeartbeats 4000000
namespace L2
open PySem PySem.W PySem.Calls PySem.Spec PyProof.Rows Builtin Builtin.ObjectAttr Builtin.Getset_descriptor
section
variable {prog:GE}{w:GF}{A:G_}{E:F9->Gb->Prop}{h:Heap}{g:Array Kp}{d:Drawn}{t:Nat}{os:Hu}{K:Frag}{x C:Addr}
end
end L2

namespace L2
open PySem PySem.W PySem.Spec PyProof.Rows
section
variable {X:Cx}{pins:List (Addr×Obj)}{σ:St}{H:Hp}{s:Gb}
end
section
variable {X:Cx}{k:Nat}{f T:Addr}{fd:Gn}{ps:List Str}{sp:Sp}{fx c n:Str}{i:Nat}{st:Stmt}{e:Expr}{es:List Expr}{t:TA}{b₀:Stmt}{suite:List Stmt}{th:TS}{np pf cpos apos hpos pos:Pos}
end
end L2

set_option maxHeartbeats 4000000
namespace L2
open PySem PySem.Spec PyProof.Rows Builtin Builtin.ObjectAttr
section
variable {prog:GE}{w:GF}{A:G_}{E:F9->Gb->Prop}{h:Heap}{g:Array Kp}{d:Drawn}{t:Nat}{os:Hu}{a:Addr}{o:Obj}
theorem xk:Km (.type "list") "keys" = pure none:=by rw[typeLookup_type,builtinLookup_eq_fast];kernel_rfl
theorem sP:isSubtype (.type "AttributeError") (.type "AttributeError")=pure true:=by rw[isSubtype_type];kernel_rfl
theorem zt{α:Type}{ov:F9}{name msg:Str}{Q:α->Gb->Prop}(hm:msg.length<=Gr)(hh:A.handled=none)
  (hq:∀h' t' e,(∀b o,h.get? b=some o->h'.get? b=some o)->(∃ob,h'.get? e=some ob/\ob.cls=.type "AttributeError")->E (.ref e) ⟨h',g,d,t',os⟩) :
  GI (GK prog w) A (raiseAttrError ov name msg:Sem α) Q E ⟨h,g,d,t,os⟩:=by
 unfold raiseAttrError;refine GB (wpAny_mkStr (GB ?_) hm);unfold newExc newTuple;refine GB (JM ?_ (by size_fits));refine GB (m:=firstArgMember _ _) (wpAny_of_eq (a:=IL) (by unfold firstArgMember;kernel_rfl) ?_);refine JM ?_ (by size_fits);have hE:=GH (h.push { cls:=.type "tuple",data:=.seq #[HP msg t] }) (o:={ cls:=.type "AttributeError",data:=.fields (#[GW h.objs.size,.none,.none,.none,.bool false,.none]++ownMembersOf (.type "AttributeError") [HP msg t]) }) rfl;have hT:(⟨(h.push { cls:=.type "tuple",data:=.seq #[HP msg t] }).push { cls:=.type "AttributeError",data:=.fields (#[GW h.objs.size,.none,.none,.none,.bool false,.none]++ownMembersOf (.type "AttributeError") [HP msg t]) },g,d,t+1,os⟩:Gb).TypeIs (.ref (h.push { cls:=.type "tuple",data:=.seq #[HP msg t] }).objs.size) "AttributeError":=⟨_,hE,rfl⟩;have f1:=sP;unfold noteAttr lacksNameAndObj layMembers
 repeat (any_goals (first|assumption|wp_step))
 unfold raiseNew;refine GB (wpAny_handled ?_);rw[hh]
 first
  |refine wpAny_throw ?_
  |refine GB (Hc (wpAny_throw ?_))
 refine hq _ _ _ (λb o hb=>?_) ⟨_,Heap.get?_update_self _ hE rfl,rfl⟩;have lt:=Gq hb;refine(IY _ _ (λe=>?_)).trans (Gk _ (Gk _ hb));have sz:(h.push { cls:=.type "tuple",data:=.seq #[HP msg t] }).objs.size=h.objs.size+1:=IV ..;have e':(h.push { cls:=.type "tuple",data:=.seq #[HP msg t] }).objs.size=b:=e;exact absurd lt (by rw[<-e',sz];exact Nat.not_lt.mpr (HN _))
theorem zu{tk:Tok}{Q:Fin->Gb->Prop}{its:Array F9}{n:Nat}{sl:Array (Option F9)}(hx:h.get? a=some ⟨.type "list",none,.seq its n,sl⟩)(hh:A.handled=none)
  (hq:∀h' t' e,(∀b o,h.get? b=some o->h'.get? b=some o)->(∃ob,h'.get? e=some ob/\ob.cls=.type "AttributeError")->E (.ref e) ⟨h',g,d,t',os⟩) :
  GI (GK prog w) A (Kx.«object.__getattribute__» ⟨[.ref a,.str "keys" tk],[]⟩) Q E ⟨h,g,d,t,os⟩:=by
 have hT:(⟨h,g,d,t,os⟩:Gb).TypeIs (.ref a) "list":=⟨_,hx,rfl⟩;have f4:=xk
 repeat (any_goals (first|assumption|wp_step))
 exact zt (by decide +kernel) hh hq
theorem vC:Km (.type "list") "__getattr__" = pure none:=by rw[typeLookup_type,builtinLookup_eq_fast];kernel_rfl
theorem AS{tk:Tok}{R:JQ->Gb->Prop}{its:Array F9}{n:Nat}{sl:Array (Option F9)}(hx:h.get? a=some ⟨.type "list",none,.seq its n,sl⟩)(hh:A.handled=none)
  (hq:∀h' t' e,(∀b o,h.get? b=some o->h'.get? b=some o)->(∃ob,h'.get? e=some ob/\ob.cls=.type "AttributeError")->R (.error (.ref e)) ⟨h',g,d,t',os⟩) :
  Jj (GK prog w) A (.call (.builtin "list.__getattribute__") ⟨[.ref a,.str "keys" tk],[]⟩) R ⟨h,g,d,t,os⟩:=
 codeAny_call_builtin F.slot_list_getattribute.plain F.entry_list_ga (F.slot_list_getattribute.check _ _ _ _ _ _ _ _ (show(⟨h,g,d,t,os⟩:Gb).TypeIs (.ref a) "list" from⟨_,hx,rfl⟩) (F.args_list_getattribute_2 _ _) (zu hx hh hq))
theorem Do{tk:Tok}{Q:F9->Gb->Prop}{its:Array F9}{n:Nat}{sl:Array (Option F9)}(hx:h.get? a=some ⟨.type "list",none,.seq its n,sl⟩)(hh:A.handled=none)
  (hq:∀h' t' e,(∀b o,h.get? b=some o->h'.get? b=some o)->(∃ob,h'.get? e=some ob/\ob.cls=.type "AttributeError")->E (.ref e) ⟨h',g,d,t',os⟩) :
  GI (GK prog w) A (getAttrBy (.ref a) (.str "keys" tk) false) Q E ⟨h,g,d,t,os⟩:=by
 have hT:(⟨h,g,d,t,os⟩:Gb).TypeIs (.ref a) "list":=⟨_,hx,rfl⟩;have f2:=F.slot_list_getattribute.lookup;have f3:=F.slot_list_getattribute.bind (.ref a)
 repeat (any_goals (first|assumption|wp_step))
 refine AS hx hh λh' t' e k ex=>?_;obtain⟨ob,he,hec⟩:=id ex;have hT2:(⟨h',g,d,t',os⟩:Gb).TypeIs (.ref e) "AttributeError":=⟨_,he,hec⟩;have f5:=sP;have f6:=vC;show GI (GK prog w) A (getattributeRaised (GW a) (HP (Ko "keys") tk) (Ir "list") (.ref e) none false false) Q E ⟨h',g,d,t',os⟩;unfold getattributeRaised hookBehind
 repeat (any_goals (first|assumption|wp_step))
 exact hq _ _ _ k ex
theorem AT{Q:Option F9->Gb->Prop}{its:Array F9}{n:Nat}{sl:Array (Option F9)}(hx:h.get? a=some ⟨.type "list",none,.seq its n,sl⟩)(hh:A.handled=none)
  (hq:∀h' t',(∀b o,h.get? b=some o->h'.get? b=some o)->Q none ⟨h',g,d,t',os⟩) :
  GI (GK prog w) A (getAttr? (.ref a) "keys") Q E ⟨h,g,d,t,os⟩:=by
 unfold getAttr? getAttrBy?
 repeat (any_goals (first|assumption|with_reducible apply Do hx hh|wp_step))
 rintro h' t' e k ⟨ob,he,hec⟩;have hT2:(⟨h',g,d,t',os⟩:Gb).TypeIs (.ref e) "AttributeError":=⟨_,he,hec⟩;have f5:=sP
 repeat (any_goals (first|assumption|wp_step))
 exact hq _ _ k
end
end L2

namespace L2
open PySem PySem.Spec PyProof.Rows
def laid(kvs:List (Key×F9)):List (Key×F9):=kvs.foldl (λm kv=>KQ m kv.1 kv.2) []
theorem qp(kvs:List (Key×F9))(kv:Key×F9):laid (kvs++[kv])=KQ (laid kvs) kv.1 kv.2:=by unfold laid;rw[JP];rfl
theorem zv(m:List (Key×F9))(k:Key)(v:F9):(KQ m k v).length<=m.length+1:=by
 unfold KQ
 split
 .rw[F6];omega
 .rw[F7];simp
theorem nQ:entryFor table "dict.update.loop" = some Kx.«dict.update.loop»:=entryFor_of_tree (by kernel_rfl)
theorem iF:plainId "dict.update.loop" = true:=by decide +kernel
section
variable {prog:GE}{w:GF}{A:G_}{R:JQ->Gb->Prop}{i0 l d:Addr}{its:Array F9}{kvs:List (Key×F9)}
def Prs(prog:GE)(w:GF)(h:Heap)(its:Array F9)(kvs:List (Key×F9)):Prop:=its.size=kvs.length/\∀(j:Nat) v k x,its[j]?=some v->kvs[j]?=some (k,x)->∃p key,v=.ref p/\IsTup h p #[key,x]/\(bB prog w).is k key=true
theorem B7{h h':Heap}{p a:Addr}{xs:Array F9}(t:IsTup h p xs)(s:Iv a h h')(n:p≠a):IsTup h' p xs:=by
 obtain⟨o,ho,r⟩:=t;exact⟨o,(s.2 p n).trans ho,r⟩
theorem Prs.keep{h h':Heap}{a:Addr}(t:Prs prog w h its kvs)(s:Iv a h h')(n:∀o,h.get? a=some o->o.cls≠.type "tuple"):Prs prog w h' its kvs:=⟨t.1,λj v k x e1 e2=>by
 obtain⟨p,key,e3,tp,kk⟩:=t.2 j v k x e1 e2;refine⟨p,key,e3,B7 tp s λe=>?_,kk⟩;obtain⟨o,ho,hc,_⟩:=tp;exact n o (by rw[<-e];exact ho) hc⟩
theorem vD(ne1:i0≠d)(ne2:l≠d)(ne3:l≠i0)(hh:A.in1.handled=none)(hz:its.size<=100000) :
  ∀(k i:Nat) (s:Gb),its.size-i=k->i<=its.size->s.heap.IsListIter i0 l i->s.heap.IsList l its->s.heap.DictOf (bB prog w) d (laid (kvs.take i))->(laid (kvs.take i)).length<=i->Prs prog w s.heap its kvs->
  (∀h' tk,h'.DictOf (bB prog w) d (laid kvs)->(∀b o,b≠d->b≠i0->s.heap.get? b=some o->h'.get? b=some o)->R (.ok (.ret .none)) { s with heap:=h',toks:=tk })->
  Jj (GK prog w) A (.builtin "dict.update.loop" ⟨[.ref d,.ref i0,rawInt (i:Int),.none],[]⟩) R s:=by
 intro k;induction k with
 |zero =>
  intro i s hk hi hit hl hd hdl hp hR;have ei:i=its.size:=by omega
  refine codeAny_builtin nQ ?_;rw[Around.under_plainId iF _];show GI _ A.in1 (pyNext (.ref i0) >>= _) _ _ s;refine GB (wpAny_pyNext_list_end hh hit hl (by simp[ei]) λh' ex=>?_);refine GB (Hc ?_);have e1:kvs.take i=kvs:=Hh (by rw[ei,hp.1];exact Gh _);rw[e1]at hd;exact Hc (hR h' _ (hd.extBut ex (GX ne1)) λb o _ hb e=>ex b o hb e)
 |succ k ih =>
  intro i s hk hi hit hl hd hdl hp hR;have hlt:i<its.size:=by omega
  have hkl:i<kvs.length:=by rw[<-hp.1];exact hlt
  refine codeAny_builtin nQ ?_;rw[Around.under_plainId iF _];show GI _ A.in1 (pyNext (.ref i0) >>= _) _ _ s;refine GB (wpAny_pyNext_list_item hit hl (x:=its[i]) (by simp[hlt]) λh1 it1 sb1=>?_);have hp1:Prs prog w h1 its kvs:=hp.keep sb1 λo ho hc=>by
   obtain⟨o2,ho2,hc2,_⟩:=hit;rw[ho]at ho2;cases ho2;rw[hc]at hc2;exact absurd (Value.type.inj hc2) (by decide)
  obtain⟨p,key,ev,tp,kk⟩:=hp1.2 i its[i] kvs[i].1 kvs[i].2 (by simp[hlt]) (by rw[Ga hkl]);rw[ev];have hd1:=hd.sameBut sb1 (GX ne1);have hT:({ s with heap:=h1 }:Gb).TypeIs (.ref p) "tuple":=by
   obtain⟨o,ho,hc,_⟩:=tp;exact⟨o,ho,hc⟩
  obtain⟨ot,hot,hotc,nt,hotd⟩:=id tp;show GI _ A.in1 (Jy [GW p] _ >>= _) _ _ _;refine GB (Jh (GB (wpAny_tryCatch ?_)));unfold Builtin.Dict.pairItems;refine GB (wpAny_typeOf hT ?_);rw[if_pos (by decide)];refine GB (wpAny_seqItems hot hotd (Hc ?_));show GI _ A.in1 (Jy [key,kvs[i].2] (dictSet d key kvs[i].2)) _ _ _;refine Jh (wpAny_dictSet_pairs kk hd1 (λh2 dd sb2=>?_) (GM hdl (GM hi (GM hz (by decide)))));have tk1:kvs.take (i+1)=kvs.take i++[kvs[i]]:=by rw[HA,Ga hkl];rfl
  have dd2:h2.DictOf (bB prog w) d (laid (kvs.take (i+1))):=by rw[tk1,qp];exact dd
  have hp2:Prs prog w h2 its kvs:=hp1.keep sb2 λo ho hc=>by
   have ty:({ s with heap:=h1 }:Gb).TypeIs (.ref d) "dict":=hd1.typeIs;obtain⟨o2,ho2,hc2⟩:=ty;have ho3:h1.get? d=some o2:=ho2;rw[ho]at ho3;cases ho3;rw[hc]at hc2;exact absurd (Value.type.inj hc2) (by decide)
  have it2:h2.IsListIter i0 l (i+1):=by
   obtain⟨o2,ho2,r⟩:=it1;exact⟨o2,(sb2.2 _ ne1).trans ho2,r⟩
  have hl2:h2.IsList l its:=by
   obtain⟨o2,ho2,r⟩:=hl;exact⟨o2,(sb2.2 _ ne2).trans ((sb1.2 _ ne3).trans ho2),r⟩
  have sl:(laid (kvs.take (i+1))).length<=i+1:=by
   rw[tk1,qp];have:=zv (laid (kvs.take i)) kvs[i].1 kvs[i].2;omega
  refine Hc ⟨plainId_quiet iF _,ih (i+1) _ (by omega) hlt it2 hl2 dd2 sl hp2 λh' tk dd' kp=>hR h' tk dd' λb o n1 n2 e=>kp b o n1 n2 ?_⟩;exact(sb2.2 _ n1).trans ((sb1.2 _ n2).trans e)
end
def mr(kvs:List (Key×V)):List (Key×V):=kvs.foldl (λm kv=>jc m kv.1 kv.2) []
theorem uf(kvs:List (Key×V))(kv:Key×V):mr (kvs++[kv])=jc (mr kvs) kv.1 kv.2:=by unfold mr;rw[JP];rfl
def FP(K:PySem.W.Frag)(H:Hp)(ps:List V)(kvs:List (Key×V)):Prop:=ps.length=kvs.length/\∀(j:Nat) p k v,ps[j]?=some p->kvs[j]?=some (k,v)->∃a,p=.ref a/\SqT K H a [kV k,v]
section
variable {X:Cx}
theorem ug(hc:X.calm=true):gQ X (.type "dict") (λxs H Q=>∃l ps kvs,xs=[.ref l]/\SqL X.K H l ps/\ps.length<=100000/\FP X.K H ps kvs/\∀p,H p=none->Q (.ref p) (upd H p (.dK (mr kvs)))):=by
 intro pins s σ H xs us Q I r h;obtain⟨l,ps,kvs,rfl,hl,hz,hp,q⟩:=h;obtain⟨u,rfl,ru⟩:=iC r;cases ru;obtain⟨its,rv,p,z⟩:=I.list hl;have hh:=I.ok.hd hc;refine callType_codes (Q₁:=λobj s₁=>obj=.ref s.heap.objs.size/\s₁={ s with heap:=s.heap.push { cls:=.type "dict",data:=.dict #[] } }) F.kt_called_dict (F.kt_typeCall_dict_1 _) F.entry_dict_init (kt_code_dict_new _ ⟨rfl,rfl⟩) ?_;rintro obj s₁ ⟨rfl,rfl⟩;have hnew:(s.heap.push { cls:=.type "dict",data:=.dict #[] }).DictOf (bB X.prog X.w) s.heap.objs.size []:=Heap.DictOf.new s.heap;refine⟨hnew.typeIs,F.args_dict_init_2 _ _,?_⟩;unfold Kx.«dict.__init__»;refine GB ?_;unfold Builtin.Dict.selfAndRest;refine GB (wpAny_notOrdered_dict hnew.typeIs ?_);show GI _ _ (pure (s.heap.objs.size,[GW l])) _ _ _;refine Hc ?_;show GI _ _ (Builtin.Dict.updateFrom "dict.__init__" s.heap.objs.size (.ref l) [] .none) _ _ _;unfold Builtin.Dict.updateFrom;have pl:=p.isList.push { cls:=.type "dict",data:=.dict #[] };refine GB (wpAny_typeOf pl.typeIs ?_);rw[if_pos (by decide)];obtain⟨o0,n0,ho0,hcl,hdd,hdat⟩:=id p;obtain⟨c0,d0,dt0,sl0⟩:=o0;simp only at hcl hdd hdat;subst hcl hdd hdat;have hlt:l<s.heap.objs.size:=Gq ho0;have hx:=Gk { cls:=.type "dict",data:=.dict #[] } ho0;refine GB (AT hx hh λh1 t1 k1=>?_);refine GB (wpAny_rule ?_);have pl1:h1.IsList l its.toArray:=⟨_,k1 _ _ hx,rfl,_,rfl⟩;refine GB (IU pl1 ?_);refine Hc ⟨plainId_quiet iF _,?_⟩;have hdn:h1.DictOf (bB X.prog X.w) s.heap.objs.size []:=by
  obtain⟨o,es,ep,ho,rr⟩:=hnew;exact⟨o,es,ep,k1 _ _ ho,rr⟩
 have hdlt:s.heap.objs.size<h1.objs.size:=by
  obtain⟨o,es,ep,ho,rr⟩:=hdn;exact Gq ho
 have kept:∀b o,s.heap.get? b=some o->h1.get? b=some o:=λb o e=>k1 _ _ (Gk _ e);have ilen:its.length=ps.length:=rv.length.symm;have ex:∀n,n<=kvs.length->∃vs:List (Key×F9),vs.length=n/\∀j,(hj:j<n)->∃x:Key×F9,vs[j]?=some x/\x.1=(kvs[j]?.map (·.1)).getD x.1/\(∀v,(kvs[j]?.map (·.2))=some v->bq v x.2)/\∃a key,its[j]?=some (.ref a)/\IsTup s.heap a #[key,x.2]/\(bB X.prog X.w).is x.1 key=true:=by
  intro n;induction n with
  |zero=>exact λ_=>⟨[],rfl,λj hj=>absurd hj (IK _)⟩
  |succ n ih =>
   intro hn;obtain⟨vs,vl,hv⟩:=ih (by omega);have hk:n<kvs.length:=hn;have hpn:n<ps.length:=by rw[hp.1];exact hk
   obtain⟨a,ea,ha⟩:=hp.2 n ps[n] kvs[n].1 kvs[n].2 (Ga hpn) (Ga hk);obtain⟨u,eu,ru⟩:=rv.get (Ga hpn);rw[ea]at ru;cases ru;obtain⟨it2,r2,p2,_⟩:=I.tuple ha;obtain⟨u1,u2,rfl,r3,r4⟩:=vW r2;refine⟨vs++[(kvs[n].1,u2)],by simp[vl],λj hj=>?_⟩;by_cases c:j<n
   .obtain⟨x,e1,e2⟩:=hv j c;exact⟨x,by rw[IC (by omega)];exact e1,e2⟩
   .have ej:j=n:=by omega
    subst ej;refine⟨(kvs[j].1,u2),by rw[HU (by omega),vl,Nat.sub_self];rfl,by rw[Ga hk];rfl,λv e=>?_,a,u1,eu,p2,mo r3⟩;rw[Ga hk]at e;cases e;exact r4
 obtain⟨vs,vl,hv⟩:=ex kvs.length (Gh _);have rel:∀n,n<=kvs.length->KV (mr (kvs.take n)) (laid (vs.take n)):=by
  intro n;induction n with
  |zero=>exact λ_=>.nil
  |succ n ih =>
   intro hn;obtain⟨x,e1,e2,e3,_⟩:=hv n hn;have hk:n<kvs.length:=hn;have t1':kvs.take (n+1)=kvs.take n++[kvs[n]]:=by rw[HA,Ga hk];rfl
   have t2':vs.take (n+1)=vs.take n++[x]:=by rw[HA,e1];rfl
   rw[t1',t2',uf,qp];rw[Ga hk]at e2 e3;have ek:x.1=kvs[n].1:=e2;rw[ek];exact(ih (by omega)).put _ (e3 _ rfl)
 have rel':=rel kvs.length (Gh _);rw[Gv,<-vl,Gv]at rel';have prs:Prs X.prog X.w (h1.push { cls:=.type "list_iterator",data:=.fields #[.ref l,.int 0 0] }) its.toArray vs:=by
  refine⟨by simp[ilen,hp.1,vl],λj v k x e1 e2=>?_⟩;have hj:j<kvs.length:=by rw[<-vl];exact(List.getElem?_eq_some_iff.mp e2).1
  obtain⟨y,f1,f2,f3,a,key,f4,f5,f6⟩:=hv j hj;rw[e2]at f1;cases f1;have e1':its[j]?=some v:=by simpa using e1
  rw[f4]at e1';cases e1';obtain⟨oo,hoo,rr⟩:=f5;exact⟨a,key,rfl,⟨oo,Gk _ (kept _ _ hoo),rr⟩,f6⟩
 have lz:∀n,(mr (kvs.take n)).length<=n:=by
  intro n;induction n with
  |zero=>exact Gh _
  |succ n ih =>
   by_cases hk:n<kvs.length
   .have t1':kvs.take (n+1)=kvs.take n++[kvs[n]]:=by rw[HA,Ga hk];rfl
    rw[t1',uf];have:=mI (mr (kvs.take n)) kvs[n].1 kvs[n].2;omega
   .rw[Hh (by omega)];rw[Hh (by omega)]at ih;omega
 have lz':=lz kvs.length;rw[Gv]at lz';refine vD (prog:=X.prog) (w:=X.w) (A:=X.A.in1) (i0:=h1.objs.size) (l:=l) (d:=s.heap.objs.size) (its:=its.toArray) (kvs:=vs) (HK hdlt) (Gw hlt) (Gw (HM hlt hdlt)) hh (by simp;omega) its.toArray.size 0 _ (by simp) (GV _) ?_ ?_ ?_ (Gh _) ?_ ?_
 .exact⟨_,GH _ rfl,rfl,rfl⟩
 .exact pl1.push _
 .rw[JH];exact hdn.push _
 .exact prs
 .intro h' tk dd kp;refine⟨rfl,.ref s.heap.objs.size,_,I.laid (a:=s.heap.objs.size) (o:=.dK (mr kvs)) (t':=tk) (λb o e=>?_) (Gh _) (Ay (GM lz' (by rw[<-hp.1];exact GM hz (by decide))) (beq_eq_false_iff_ne.mpr (GX (Gw I.big))) rel' dd),rfl,q _ (I.hok.fresh (Gh _))⟩;have hb:=Gq e;exact kp b o (Gw hb) (Gw (HM hb hdlt)) (Gk _ (kept _ _ e))
end
end L2

set_option maxHeartbeats 4000000
namespace L2
open PySem PySem.Spec PyProof.Rows Tl
theorem CP{X:Cx}{i:Nat}{x:Str}{es:List Expr}{vs:List V}{p1 p2 p4:Pos}(hN:X.N.Nodup)(hi:X.N[i]?=some x)(hx:Loc X.env.scope x)(hc:CL es vs)
  (hf:X.fn x=true\/X.env.scope.names.lookup x=some .local):PS X (.Assign [.Name x p1] (.List es p2) p4) (pZ (Ea (tVs vs)) (bE i)):=
 ay (i:=i) hN hi hx (bi (ue hc))
section
variable {X:Cx}{fx c:Str}{st:Stmt}{ps:List Str}{f T:Addr}{fd:Gn}{dv:F9}{k i:Nat}{n:Str}{sp:Sp}{e:Expr}{es:List Expr}{t:TA}{th:TS}{pf cpos apos np hpos pos:Pos}{b₀:Stmt}{suite:List Stmt}
end
section
variable {α β:Type}{P P':α->β->Prop}{as as':List α}{bs bs':List β}
end
abbrev Wd0:=List Nat
def En:Wd0:=[124]
def Eo:Wd0:=[93]
abbrev Mn:=List Wd0×DD×List Addr
def mF(xs:List Mn):List Addr:=(xs.map λx=>x.2.2).flatten
structure Fr where
 t:Addr
 A:Addr
 N:Addr
 n:Wd0
 als:List Addr
 wss:List Mn
 vs:List V
 wn:List Mn
section
variable {H0 H H':Hp}{pl cur c2 A t p:Addr}{fs:List Fr}{f:Fr}{vs:List V}{wn:List Mn}
end
end L2

set_option maxHeartbeats 4000000
namespace PySem
open Sem (wp)
open AutoSeq1 (wpAny_loadPart')
section
variable {prog:GE}{w:GF}{A:G_}{E:F9->Gb->Prop}{s:Gb}
end
end PySem
namespace L2
open PySem PySem.Spec PyProof.Rows Tl
section
variable {X:Cx}{elts:List Expr}{k1:Nat}{tp:Pos}
end
mutual
theorem Rep.mono{K:PySem.W.Frag}{H H':Hp}(s:aj H H'):∀{d:DD} {v:V},Rep K H d v->Rep K H' d v
 |.bl _,v,h=>by unfold Rep at h⊢;exact h
 |.int _,v,h=>by unfold Rep at h⊢;exact h
 |.str _,v,h=>by unfold Rep at h⊢;exact h
 |.tup l,v,h=>by
  unfold Rep at h⊢;obtain⟨a,xs,h1,h2,h3,h4⟩:=h;exact⟨a,xs,h1,s.tup h2,h3,cF.mono s h4⟩
 |.lst l,v,h=>by
  unfold Rep at h⊢;obtain⟨a,xs,h1,h2,h3,h4⟩:=h;exact⟨a,xs,h1,s.seq h2,h3,cF.mono s h4⟩
theorem cF.mono{K:PySem.W.Frag}{H H':Hp}(s:aj H H'):∀{l:List DD} {xs:List V},cF K H l xs->cF K H' l xs
 |[],xs,h=>by unfold cF at h⊢;exact h
 |d::l,xs,h=>by
  unfold cF at h⊢;obtain⟨x,r,h1,h2,h3⟩:=h;exact⟨x,r,h1,Rep.mono s h2,cF.mono s h3⟩
end
section
variable {K:PySem.W.Frag}{H:Hp}
end
structure Sh where
 n:Wd0
 c:Nat
 ns:List DD
 r:List Int
 k:Int
section
variable {S:List Sh}{d j:Nat}{n:Wd0}{as:List (List DD)}{w:Wd0}{k:Nat}{s:Sh}
end
structure Gf where
 t:Addr
 D:Addr
 N:Addr
 n:Wd0
 m:Nat
 Dv:List V
 ds:List (List DD)
 vs:List V
 xs:List DD
section
variable {K:PySem.W.Frag}{H0 H H':Hp}{pf t D N:Addr}{gs r:List Gf}{g:Gf}{v:V}{x:DD}{n:Wd0}{m:Nat}
end
end L2

namespace L2
open PySem PySem.Spec PyProof.Rows

structure cU(K:PySem.W.Frag)(C:Addr)(m qual:Str)(st:Stmt)(ps:List Str)(f:Addr)(fd:Gn):Prop where
 fn:Fun K m qual st f fd
 bd:gR K fd ps []
 me:zd K C m f
structure mt(K:PySem.W.Frag)(mg:Str->Option F9)(c:Str)(C:Addr):Prop where
 mg:mg c=some (.ref C)
 cl:Cls K C
 mks:PySem.W.makesIn K C=true
 kp:PySem.W.keepIn K (.ref C)=true
theorem mt.made{K:PySem.W.Frag}{mg:Str->Option F9}{c qual:Str}{C f:Addr}{st:Stmt}{ps:List Str}{fd:Gn}(L:mt K mg c C)(D:cU K C "__init__" qual st ps f fd):Mk K C f:=⟨L.mks,D.me.at_,D.me.fn,L.kp⟩
theorem B8{K:PySem.W.Frag}{C f:Addr}{x q:Str}{st:Stmt}{ps:List Str}{od an:Option Addr}{sl:Array (Option F9)}{oc kV dc pm cd ct:F9}(a:PySem.W.findIn K (.ref C) x=some (some (.ref f)))(fn:PySem.W.isFn K (.ref f)=true)
  (l:K.lookup f=some ⟨oc,od,.func (PySem.W.fnOf x q (cI st) (cm st) (au st) .none kV dc pm an cd ct),sl⟩)(c:PySem.W.codeIn K cd q=true)(k:PySem.W.keepIn K (.ref f)=true)
  (b:∀(kV doc pm:F9) (an:Option Addr) (cdv ct:F9) (us:List F9),us.length=ps.length->JT (PySem.W.fnOf x q (cI st) (cm st) (au st) .none kV doc pm an cdv ct) ⟨us,[]⟩=pure (ps.zip us)) :
  cU K C x q st ps f (PySem.W.fnOf x q (cI st) (cm st) (au st) .none kV dc pm an cd ct):=
 ⟨t_ l c k,(t_ l c k).binds b,a,fn,k⟩
section
variable {X:Cx}{CX:CXT}{E:XK}{c m qual:Str}{st:Stmt}{ps:List Str}{C f:Addr}{fd:Gn}{k:Nat}{sp:Sp}{o e:Expr}{es:List Expr}{ta:TE}{t:TA}{p pos apos:Pos}
theorem dA{pl:Sem Bool}(hx:fL CX X E)(L:mt X.K X.mg c C)(D:cU X.K C m qual st ps f fd)(G:aX X.prog X.w X.K X.mg X.base CX k f fd ps sp)(hr:cE k X.A)(he:PE X o ta)(ha:PA X (e::es) t)
  (hst:GG (e::es) X.env=(false,eval e X.env)::GG es X.env:=by rfl)(hpl:(HR pos (GG es X.env)).any (·.1)=false:=by rfl)
  (ht:eval (.Call (.Attribute o m apos) (e :: es) [] pos) X.env=(do
   let ov<-eval o X.env
   Kq apos.atName
   let(f,first)<-Jy [ov] (JS ov m pl)
   KJ pos f first (HR pos (GG (e::es) X.env)) (J9 pos (Jl [] X.env))):=by rfl) :
  PE X (.Call (.Attribute o m apos) (e::es) [] pos) (vX C m sp [] E ta t):=C_ he L.cl D.me G hr D.bd .nil hx ha hst hpl ht
theorem xl{pl:Sem Bool}(hx:fL CX X E)(L:mt X.K X.mg c C)(D:cU X.K C m qual st ps f fd)(G:aX X.prog X.w X.K X.mg X.base CX k f fd ps sp)(hr:cE k X.A)(he:PE X o ta)
  (ht:eval (.Call (.Attribute o m apos) [] [] pos) X.env=(do
   let ov<-eval o X.env
   Kq apos.atName
   let(f,first)<-Jy [ov] (JS ov m pl)
   KJ pos f first (HR pos (GG [] X.env)) (J9 pos (Jl [] X.env))):=by rfl) :
  PE X (.Call (.Attribute o m apos) [] [] pos) (vX C m sp [] E ta ux):=BP he L.cl D.me G hr D.bd .nil hx ht
theorem Ep(hx:fL CX X E)(L:mt X.K X.mg c C)(D:cU X.K C "__init__" qual st ps f fd)(G:aX X.prog X.w X.K X.mg X.base CX k f fd ps sp)(hr:cE (k+1) X.A)(hg:Gl X c)(ha:PA X (e::es) t)(hd:(c==("__debug__" : Str))=false:=by decide)
  (he:GG (e::es) X.env=(false,eval e X.env)::GG es X.env:=by rfl)(hpl:(HR pos (GG es X.env)).any (·.1)=false:=by rfl) :
  PE X (.Call (.Name c p) (e::es) [] pos) (vY C sp [] E t):=Da (L.made D) G hr hg L.mg D.bd .nil hx ha hd he hpl
theorem Dp(hx:fL CX X E)(L:mt X.K X.mg c C)(D:cU X.K C "__init__" qual st ps f fd)(G:aX X.prog X.w X.K X.mg X.base CX k f fd ps sp)(hr:cE (k+1) X.A)(hg:Gl X c)(hd:(c==("__debug__" : Str))=false:=by decide) :
  PE X (.Call (.Name c p) [] [] pos) (vY C sp [] E ux):=BQ (L.made D) G hr hg L.mg D.bd .nil hx hd
end

section
variable {X:Cx}{k:Nat}{f T C:Addr}{fd:Gn}{ps:List Str}{sp:Sp}{cn qual c:Str}{st:Stmt}{e:Expr}{es:List Expr}{t:TA}{b₀:Stmt}{suite:List Stmt}{th:TS}{np pf cpos apos hpos pos:Pos}
end
end L2

namespace L2
open PySem PySem.Spec PyProof.Rows PySem.W

theorem Dq{P:GE}{w:GF}{k:Key}{v:F9}(h:(bB P w).is k v=true):bq (kV k) v:=by
 rcases di (show mh k v=true from h)with⟨i,t,rfl,rfl⟩|⟨x,t,rfl,rfl⟩
 .exact⟨t,rfl⟩
 .exact⟨t,rfl⟩
section
variable {X:Cx}
end
section
variable {prog:GE}{w:GF}{A:G_}{E:F9->Gb->Prop}{s:Gb}{T:String}{r d:Addr}{n:Nat}{P:Nat->F9->Prop}{OK:Heap->Prop}
end
section
variable {X:Cx}
end

def Hz(X:Cx)(a:Addr):Prop:=∀o u,X.H₀ a≠some (.frz o u)
section
variable {X:Cx}{pins:List (Addr×Obj)}{σ:St}{H:Hp}{s:Gb}{a:Addr}{kvs:List (Key×V)}
theorem Inv.hz(I:Inv X pins σ H s)(e:H a=some (.dK kvs)):Hz X a:=λo u z=>by
 have:=I.base.frzs a o u z;rw[e]at this;cases this
theorem sy{P:GE}{w:GF}{h:Heap}{u v:HO}(ok:HOk P w H h)(e:H a=some u)(hu:∀b,u≠.own b)(ht:∀xs,u≠.tup xs)(new:cj P w (upd H a v) h a v):HOk P w (upd H a v) h:=λb o q=>by
 by_cases eb:b=a
 .rw[eb,ae]at q;cases q;rw[eb];exact new
 .rw[ak eb]at q;refine(ok b o q).stay (λ_ _ _ z=>z) (λc z=>?_) λc xs z=>?_
  .rw[ak (λy=>hu b (by rw[y,e]at z;exact GU z))];exact z
  .rw[ak (λy=>ht xs (by rw[y,e]at z;exact GU z))];exact z
theorem uh{P:GE}{w:GF}{h:Heap}{H':Hp}(x:cj P w H h a (.dK kvs)):cj P w H' h a (.dK kvs):=x
theorem Inv.freeze(I:Inv X pins σ H s)(e:H a=some (.dK kvs)):∃o,s.heap.get? a=some o/\Inv X pins σ (upd H a (.frz o (.dK kvs))) s:=by
 have x:cj X.prog X.w H s.heap a (.dK kvs):=I.hok a _ e;obtain⟨_,_,vs,_,o,es,ep,ho,_⟩:=id x;refine⟨o,ho,?_⟩;have:=I.step (h':=s.heap) (H':=upd H a (.frz o (.dK kvs))) (g':=s.gens) (d':=s.drawn) (t':=s.toks) (ch:=[]) (λ_ z=>nomatch z) (λb o _ _ _ z _=>z) (λb o _ _ _ z _=>⟨o.slots,z⟩)
  (λb o' _ _ n=>by rw[ak (λy=>by rw[y,e]at n;cases n)];exact n) (λb o _ z=>⟨o,z⟩) (λb xs z=>by rw[ak (λy=>by rw[y,e]at z;cases z)];exact z)
  (λb o u z=>by rw[ak (λy=>by rw[y,e]at z;cases z)];exact z) (λb ps z=>⟨#[],by rw[ak (λy=>by rw[y,e]at z;cases z),z];simp⟩) (λm hm=>hm)
  (sy I.hok e (λb z=>by cases z) (λxs z=>by cases z) ⟨ho,uh x⟩) I.bare
 exact this
theorem Inv.thaw{o:Obj}(I:Inv X pins σ H s)(hz:Hz X a)(e:H a=some (.frz o (.dK kvs))):Inv X pins σ (upd H a (.dK kvs)) s:=by
 have x:cj X.prog X.w H s.heap a (.frz o (.dK kvs)):=I.hok a _ e;have free:∀b,H b=none->upd H a (.dK kvs) b=none:=λb n=>by rw[ak (λy=>by rw[y,e]at n;cases n)];exact n
 refine⟨I.ok,I.os,I.bare,⟨I.base.keep,I.base.slot,λb o' q n hx=>free b (I.base.free b o' q n hx),I.base.there,λb xs q=>?_,λb o' u q=>?_,λb ps q=>?_⟩,I.loc,I.cell,free _ I.free,λy c q=>free _ (I.freeC y c q),λp hp=>?_,?_,I.len⟩
 .have z:=I.base.tups b xs q;rw[ak (λy=>by rw[y,e]at z;cases z)];exact z
 .have z:=I.base.frzs b o' u q;rw[ak (λy=>hz o' u (by rw[<-y];exact q))];exact z
 .obtain⟨m1,z⟩:=I.base.tbls b ps q;exact⟨m1,by rw[ak (λy=>by rw[y,e]at z;cases z)];exact z⟩
 .obtain⟨z1,z2,z3⟩:=I.pin p hp;exact⟨z1,free _ z2,z3⟩
 .exact sy I.hok e (λb z=>by cases z) (λxs z=>by cases z) (uh x.2)
end
def epO(o:Obj):Nat:=match o.data with
 |.dict _ ep=>ep
 |_=>0
theorem jL{P:GE}{w:GF}{H:Hp}{h:Heap}{a:Addr}{o:Obj}{kvs:List (Key×V)}(ok:HOk P w H h)(e:H a=some (.frz o (.dK kvs))):(a==HD)=false/\∃vs,KV kvs vs/\h.DictAt (bB P w) a vs (epO o):=by
 obtain⟨ho,_,hs,vs,rel,o',es,ep,ho',hx,hd,r⟩:=(show cj P w H h a (.frz o (.dK kvs))from ok a _ e);rw[ho]at ho';cases ho';refine⟨hs,vs,rel,o,es,ho,hx,?_,r⟩;unfold epO;rw[hd]
def vZ(X:Cx)(P:Hp->Prop):Hp->Prop:=λH=>∃a kvs o,Hz X a/\H a=some (.frz o (.dK kvs))/\P (upd H a (.dK kvs))
def fz(X:Cx)(D:eV):eV:={ nx:=λσ=>vZ X (D.nx σ),bk:=λσ=>vZ X (D.bk σ),ct:=λσ=>vZ X (D.ct σ),rt:=λv=>vZ X (D.rt v) }
section
variable {X:Cx}{tg:Expr}
theorem SP.thaw{pins:List (Addr×Obj)}{D:eV}{f:Flow}{s':Gb}(h:SP X pins (fz X D) f s'):SP X pins D f s':=by
 cases f with
 |next=>obtain⟨σ',H',I,a,kvs,o,hz,e,q⟩:=h;exact⟨σ',_,I.thaw hz e,q⟩
 |brk=>obtain⟨σ',H',I,a,kvs,o,hz,e,q⟩:=h;exact⟨σ',_,I.thaw hz e,q⟩
 |cont=>obtain⟨σ',H',I,a,kvs,o,hz,e,q⟩:=h;exact⟨σ',_,I.thaw hz e,q⟩
 |ret u=>obtain⟨v,σ',H',I,r,a,kvs,o,hz,e,q⟩:=h;exact⟨v,σ',_,I.thaw hz e,r,q⟩
end
def B9(K:PySem.W.Frag)(C T:Addr):Prop:=PySem.W.exmOne K (.ref C) (.ref T)=some false
def HT(K:PySem.W.Frag):List (Addr×TS)->Addr->eV->St->Hp->Prop
 |[],_,_,_,_=>False
 |(T,th)::r,C,D,σ,H=>(uc K C T/\th D σ H)\/(B9 K C T/\HT K r C D σ H)
section
variable {X:Cx}
section
variable {k:Nat}{f C:Addr}{fd:Gn}{ps:List Str}{sp:Sp}{m qual cn:Str}{st:Stmt}{o e:Expr}{es:List Expr}{ta:TE}{t:TA}{apos pos:Pos}{W:F9->Gb->Prop}{pins:List (Addr×Obj)}{σ:St}{H:Hp}{s:Gb}{Q:VK}{E:XK}
end
end

theorem AU{X:Cx}:gQ X (.builtin "isinstance") (λxs H Q=>∃a kvs,xs=[.ref a,.ty "dict"]/\H a=some (.dK kvs)/\Q (.bl true) H):=by
 intro pins s σ H xs us Q I r h;obtain⟨a,kvs,rfl,ha,q⟩:=h;obtain⟨u,w',rfl,r1,r2⟩:=vW r;cases r2;exact At I r1 (.dK ha) (by rfl) λtk=>⟨.bl true,H,I.tok _,rfl,q⟩

section
variable {X:Cx}{e:Expr}
def Dr:TT:=λ_ _ _=>False
theorem B_:PT X e Dr:=λ_ _ _ _ _ _ h=>h.elim
end
theorem yO{kvs:List (Key×V)}{vs:List (Key×F9)}(r:KV kvs vs):∀{i:Nat} {p:Key×V},kvs[i]?=some p->∃x,vs[i]?=some (p.1,x)/\bq p.2 x:=by
 unfold KV at r;induction r with
 |nil=>intro i p h;cases h
 |@cons p q ps qs hq t ih =>
  intro i p' h;cases i with
  |zero=>cases h;exact⟨q.2,(by show some q=_;rw[hq.1]),hq.2⟩
  |succ i=>exact ih h
def Itv(a:Addr)(o:Obj)(kvs:List (Key×V)):It:=
 ⟨λi H=>H a=some (.frz o (.dK kvs))/\i<kvs.length,λi H x H'=>H'=H/\∃p,kvs[i]?=some p/\x=p.2,λi H=>H a=some (.frz o (.dK kvs))/\kvs.length<=i⟩
theorem AV{P:GE}{w:GF}{K:PySem.W.Frag}{tg:Expr}(a it:Addr)(o:Obj)(kvs:List (Key×V))(hne:a≠it):qb P w K tg (Itv a o kvs) [it] it (λi h=>h.IsValIter it a i kvs.length (epO o)) where
 mem:=by simp
 obj:=λi h st b hb=>by
  have e:b=it:=by simpa using hb
  subst e;obtain⟨o,e,c,d⟩:=st;exact⟨o,e,λv z=>by rw[d]at z;cases z⟩
 keep:=λi h h' st k=>st.at λo e=>k it (by simp) o e
 item:=by
  intro X hP hw hK hc i pins s σ H E I hf st hg;subst hP hw hK;obtain⟨he,hi⟩:=hg;obtain⟨hs,vs,rel,da⟩:=jL I.hok he;obtain⟨x,hx,rx⟩:=yO rel (Ga hi);obtain⟨f0,f1,f2,f3,f4,f5⟩:=hf it (by simp);rw[show kvs.length=vs.length from rel.length]at st;refine wpAny_pyNext_values_item st da hx λh' st' sb=>?_;have I1:Inv X pins σ H { s with heap:=h' }:=I.turned (t':=s.toks) (λb o hb e=>(sb.2 b hb).trans e) f0 f1 f3 f4 f5;rw[<-show kvs.length=vs.length from rel.length]at st';obtain⟨oi,e,c,d⟩:=id st';exact⟨x,rfl,vU (s:={ s with heap:=h' }) e c d (by decide) ⟨kvs[i].2,H,I1,rx,⟨rfl,kvs[i],Ga hi,rfl⟩,st',λb hb=>(hf b hb).1⟩⟩
 done:=by
  intro X hP hw hK hc i pins s σ H E I hf st hg;subst hP hw hK;obtain⟨he,hi⟩:=hg;obtain⟨hs,vs,rel,da⟩:=jL I.hok he;obtain⟨f0,f1,f2,f3,f4,f5⟩:=hf it (by simp);rw[show kvs.length=vs.length from rel.length]at st;exact wpAny_pyNext_values_end (I.ok.hd hc) st da (Ja (by rw[<-rel.length];exact hi)) λh' eb=>⟨rfl,I.turned (t':=s.toks) (λb o hb e=>eb b o hb e) f0 f1 f3 f4 f5⟩
 self:=λ_ _ _ _ _ st h=>wpAny_pyIter_valiter st h
theorem xm:entryFor table "dict_itemiterator.__iter__" = some Kx.«dict_keyiterator.__iter__»:=entryFor_alias (id' := "dict_keyiterator.__iter__") (id (Eq.refl (fastTable "dict_itemiterator.__iter__"))) rfl (by
  show Manifest.canonical (String.map _ "dict_itemiterator.__iter__")++"" = _;decide +kernel) (id (Eq.refl (fastTable "dict_keyiterator.__iter__")))
theorem pL{prog:GE}{w:GF}{A:G_}{E:F9->Gb->Prop}{s:Gb}{it d:Addr}{i n ep:Nat}{ok ov:F9}{Q:F9->Gb->Prop}(st:IsItemIter s.heap it d i n ep ok ov)(h:Q (.ref it) s):GI (GK prog w) A (KH (.ref it)) Q E s:=by
 have hT:s.TypeIs (.ref it) "dict_itemiterator":=⟨_,st,rfl⟩;refine wpAny_pyIter_slot hT F.slot_dict_itemiterator_iter (wpAny_call_entry F.slot_dict_itemiterator_iter hT xm ?_ (F.args_dict_itemiterator_iter_1 _));show GI _ _ (pure _) _ _ _;exact Hc ⟨.ref it,rfl,"dict_itemiterator",.builtin "dict_itemiterator.__next__",hT,F.slot_dict_itemiterator_next.lookup,h⟩
def Itp(a:Addr)(o:Obj)(kvs:List (Key×V)):It:=
 ⟨λi H=>H a=some (.frz o (.dK kvs))/\i<kvs.length,λi H x H'=>∃p q,H p=none/\x=.ref p/\kvs[i]?=some q/\H'=upd H p (.tup [kV q.1,q.2]),λi H=>H a=some (.frz o (.dK kvs))/\kvs.length<=i⟩
theorem zw{P:GE}{w:GF}{K:PySem.W.Frag}{elts:List Expr}{k1}{tp:Pos}(a it:Addr)(o:Obj)(kvs:List (Key×V))(hne:a≠it):qb P w K (.Tuple elts k1 tp) (Itp a o kvs) [it] it (λi h=>∃ok ov,IsItemIter h it a i kvs.length (epO o) ok ov) where
 mem:=by simp
 obj:=λi h st b hb=>by
  have e:b=it:=by simpa using hb
  subst e;obtain⟨ok,ov,e⟩:=st;exact⟨_,e,λv z=>by cases z⟩
 keep:=λi h h' st k=>by
  obtain⟨ok,ov,e⟩:=st;exact⟨ok,ov,k it (by simp) _ e⟩
 item:=by
  intro X hP hw hK hc i pins s σ H E I hf st hg;subst hP hw hK;obtain⟨he,hi⟩:=hg;obtain⟨hs,vs,rel,da⟩:=jL I.hok he;obtain⟨x,hx,rx⟩:=yO rel (Ga hi);obtain⟨f0,f1,f2,f3,f4,f5⟩:=hf it (by simp);obtain⟨ok,ov,st⟩:=st;rw[show kvs.length=vs.length from rel.length]at st;refine wpAny_pyNext_items_item st da hx λkey h' hk st' hpair hsz hkeep=>?_;have I1:Inv X pins σ H { s with heap:=h' }:=I.turned (t':=s.toks) (λb o hb e=>hkeep b o hb e) f0 f1 f3 f4 f5;rw[<-show kvs.length=vs.length from rel.length]at st';have hTn:H s.heap.objs.size=none:=I.fresh;have zlt:it<s.heap.objs.size:=Gq st;have I2:Inv X pins σ (upd H s.heap.objs.size (.tup [kV kvs[i].1,kvs[i].2])) { s with heap:=h',toks:=s.toks }:=by
   refine I1.track hTn I.sz (HK I.lt) (λy c q=>?_) (λp hp=>?_) ⟨by show 2<=Gr;decide,[key,x],.cons (Dq hk) (.cons rx .nil),⟨_,hpair,rfl,_,rfl⟩⟩
   .obtain⟨v,q2⟩:=I.cell y c q;exact Gw q2.lt
   .exact Gw (Gq (I.pin p hp).1)
  refine⟨_,rfl,wpAny_letOwnedTupleGo_items (s:={ s with heap:=h',toks:=s.toks }) st' λh'' st'' hs''=>?_⟩;have I3:Inv X pins σ (upd H s.heap.objs.size (.tup [kV kvs[i].1,kvs[i].2])) { s with heap:=h'',toks:=s.toks }:=Inv.turned (s:={ s with heap:=h',toks:=s.toks }) (h':=h'') (t':=s.toks) (it:=it) I2 (λc o hb q=>(hs''.2 c hb).trans q) (by rw[ak (Gw zlt)];exact f0) f1 f3 f4 f5;refine⟨.ref s.heap.objs.size,_,I3,rfl,⟨_,kvs[i],hTn,rfl,Ga hi,rfl⟩,⟨_,_,st''⟩,λb hb=>?_⟩;have e:b=it:=by simpa using hb
  subst e;rw[ak (Gw zlt)];exact f0
 done:=by
  intro X hP hw hK hc i pins s σ H E I hf st hg;subst hP hw hK;obtain⟨he,hi⟩:=hg;obtain⟨hs,vs,rel,da⟩:=jL I.hok he;obtain⟨f0,f1,f2,f3,f4,f5⟩:=hf it (by simp);obtain⟨ok,ov,st⟩:=st;rw[show kvs.length=vs.length from rel.length]at st;exact wpAny_pyNext_items_end (I.ok.hd hc) st da (Ja (by rw[<-rel.length];exact hi)) λh' eb=>⟨rfl,I.turned (t':=s.toks) (λb o hb e=>eb b o hb e) f0 f1 f3 f4 f5⟩
 self:=λ_ _ _ _ _ st h=>by
  obtain⟨ok,ov,st⟩:=st;exact pL st h
def iVw(J:Addr->Obj->List (Key×V)->It)(X:Cx)(tl:TE):TI:=λσ H R=>tl σ H λx H1=>∃a kvs,x=.ref a/\H1 a=some (.dK kvs)/\(Hz X a->∀o,R (J a o kvs) (upd H1 a (.frz o (.dK kvs))))
section
variable {X:Cx}{tg:Expr}
theorem Ds{l:Expr}{tl:TE}{apos cpos:Pos}(hl:PE X l tl)(hbase:IF l "values" X.env (eval l X.env)=eval l X.env:=by rfl)(hline:(apos.endLine==cpos.line)=true:=by rfl):PI X tg (.Call (.Attribute l "values" apos) [] [] cpos) (iVw Itv X tl):=by
 intro pins s σ H R I h;refine wpAny_Call_method0_late hbase hline (thn (hl pins s σ H _ I h) λv s1 ⟨x,H1,I1,r1,q1⟩=>?_);obtain⟨a,kvs,e,ha,q⟩:=q1;subst e;cases r1;have ad:H1 a=some (.dK kvs):=ha;obtain⟨t1,t2,_⟩:=AA I1 (.inl ⟨kvs,.inl ha⟩);refine⟨"dict","dict.values",PySem.F.plainAttrs_dict,PySem.F.slot_dict_values,PySem.F.type_dict_values,t1,t2,Ig rfl (PySem.evalArgs_none ?_)⟩;obtain⟨o,ho,I2⟩:=I1.freeze ha;have hf:=q (I1.hz ha) o;have he:upd H1 a (.frz o (.dK kvs)) a=some (.frz o (.dK kvs)):=ae;generalize upd H1 a (.frz o (.dK kvs))=H2 at I2 hf he;obtain⟨hs,vs,rel,da⟩:=jL I2.hok he;have dof:s1.heap.DictOf (bB X.prog X.w) a vs:=by obtain⟨o,es,r⟩:=da;exact⟨o,es,_,r⟩
 refine call_meetsIn PySem.F.slot_dict_values dof.typeIs PySem.F.entry_dict_values (PySem.F.args_dict_values_1 _) (meets_dict_values (bB X.prog X.w) a hs) ⟨⟨vs,dof⟩,?_⟩;refine wpAny_pyIter_values (knd:=bB X.prog X.w) (d:=a) (kvs:=vs) (ep:=epO o) ⟨_,GH _ rfl,rfl,rfl⟩ (da.at' λo e=>Gk _ e) ?_;have I3:=I2.kept (t':=s1.toks) (h':=s1.heap.push { cls:=Ir "dict_values",data:=IS #[GW a] }) λb o e=>Gk _ e;refine⟨_,[_],_,_,H2,rfl,I3.kept (t':=s1.toks) λb o e=>Gk _ e,AV a _ o kvs (λz=>?_),⟨_,GH _ rfl,rfl,?_⟩,λb hb=>?_,hf⟩
 .have:=Gq ho;rw[z,size_push']at this;exact absurd this (Nat.not_lt.mpr (HN _))
 .rw[rel.length];rfl
 .have e:b=(s1.heap.push { cls:=Ir "dict_values",data:=IS #[GW a] }).objs.size:=by simpa using hb
  subst e;exact I3.fpOk (Gh _) (I3.hok.fresh (Gh _))
theorem Ca{l:Expr}{tl:TE}{apos cpos:Pos}{elts:List Expr}{k1}{tp:Pos}(hl:PE X l tl)(hbase:IF l "items" X.env (eval l X.env)=eval l X.env:=by rfl)(hline:(apos.endLine==cpos.line)=true:=by rfl):PI X (.Tuple elts k1 tp) (.Call (.Attribute l "items" apos) [] [] cpos) (iVw Itp X tl):=by
 intro pins s σ H R I h;refine wpAny_Call_method0_late hbase hline (thn (hl pins s σ H _ I h) λv s1 ⟨x,H1,I1,r1,q1⟩=>?_);obtain⟨a,kvs,e,ha,q⟩:=q1;subst e;cases r1;obtain⟨t1,t2,_⟩:=AA I1 (.inl ⟨kvs,.inl ha⟩);refine⟨"dict","dict.items",PySem.F.plainAttrs_dict,PySem.F.slot_dict_items,PySem.F.type_dict_items,t1,t2,Ig rfl (PySem.evalArgs_none ?_)⟩;obtain⟨o,ho,I2⟩:=I1.freeze ha;have hf:=q (I1.hz ha) o;have he:upd H1 a (.frz o (.dK kvs)) a=some (.frz o (.dK kvs)):=ae;generalize upd H1 a (.frz o (.dK kvs))=H2 at I2 hf he;obtain⟨hs,vs,rel,da⟩:=jL I2.hok he;have dof:s1.heap.DictOf (bB X.prog X.w) a vs:=by obtain⟨o,es,r⟩:=da;exact⟨o,es,_,r⟩
 refine call_meetsIn PySem.F.slot_dict_items dof.typeIs PySem.F.entry_dict_items (PySem.F.args_dict_items_1 _) (meets_dict_items (bB X.prog X.w) a hs) ⟨⟨vs,dof⟩,?_⟩;refine wpAny_pyIter_items (knd:=bB X.prog X.w) (d:=a) (kvs:=vs) (ep:=epO o) ⟨_,GH _ rfl,rfl,rfl⟩ (da.at' λo e=>Gk _ e) ?_;have I3:=I2.kept (t':=s1.toks) (h':=s1.heap.push { cls:=Ir "dict_items",data:=IS #[GW a] }) λb o e=>Gk _ e;refine⟨_,[_],_,_,H2,rfl,I3.kept (t':=s1.toks) λb o e=>Gk _ e,zw a _ o kvs (λz=>?_),⟨.none,.none,?_⟩,λb hb=>?_,hf⟩
 .have:=Gq ho;rw[z,size_push']at this;exact absurd this (Nat.not_lt.mpr (HN _))
 .have:=GH (s1.heap.push { cls:=Ir "dict_items",data:=IS #[GW a] }) (o:={ cls:=Ir "dict_itemiterator",data:=IS #[IL,JV false,GW a,IQ 0 0,IQ (↑vs.length) 0,IQ (↑(epO o)) 0,IL,IL] }) rfl;rw[rel.length];exact this
 .have e:b=(s1.heap.push { cls:=Ir "dict_items",data:=IS #[GW a] }).objs.size:=by simpa using hb
  subst e;exact I3.fpOk (Gh _) (I3.hok.fresh (Gh _))
def Ff(J:Addr->Obj->List (Key×V)->It)(X:Cx)(tl:TE)(g:TG)(tb:TS):TS:=λD σ H=>D6 (iVw J X tl) g tb (fz X D) σ H
theorem yP{iter:Expr}{J:Addr->Obj->List (Key×V)->It}{body:List Stmt}{tl:TE}{g:TG}{tb:TS}{pos:Pos}(hp:PassesOwn (GK X.prog X.w) X.A X.env X.xe)(hc:X.calm=true)(hi:PI X tg iter (iVw J X tl))(hg:PG X tg g)(hb:PSs X body tb)
  (hs:∀x,Hy iter X.env x=pure x:=by intro _;rfl):PS X (.For tg iter body [] pos) (Ff J X tl g tb):=by
 intro pins s σ H D I h;exact He (cc hp hc hi hg hb hs pins s σ H (fz X D) I h) (λ_ _ z=>z.thaw) λ_ _ z=>z
end
theorem Cb{X:Cx}{a:Addr}{o:Obj}{kvs:List (Key×V)}{g:TG}{tb:TS}{D:eV}{σ:St}{H:Hp}(hz:Hz X a)(Pv:Nat->St->Hp->Prop)(fr:∀i σ H,Pv i σ H->H a=some (.frz o (.dK kvs)))(h0:Pv 0 σ H)
  (hs:∀i p σ H,kvs[i]?=some p->Pv i σ H->g p.2 σ H λσ2 H2=>tb { fz X D with nx:=Pv (i+1),ct:=Pv (i+1),bk:=(fz X D).nx } σ2 H2)(hd:∀σ H,Pv kvs.length σ H->D.nx σ (upd H a (.dK kvs))) :
  ∃W:Nat->Nat->St->Hp->Prop,(∃m,W 0 m σ H)/\∀i m σ H,W i m σ H->
   ((Itv a o kvs).stop i H/\(fz X D).nx σ H)\/((Itv a o kvs).go i H/\∃N:St->Hp->Prop,(∀σ' H',N σ' H'->∃m',m'<m/\W (i+1) m' σ' H')/\∀x H',(Itv a o kvs).yld i H x H'->g x σ H' λσ2 H2=>tb { fz X D with nx:=N,ct:=N,bk:=(fz X D).nx } σ2 H2):=by
 refine⟨λi m σ H'=>m=kvs.length-i/\i<=kvs.length/\Pv i σ H',⟨kvs.length,by simp,GV _,h0⟩,?_⟩;rintro i m σ H' ⟨rfl,hi,p⟩;by_cases hlt:i<kvs.length
 .refine .inr ⟨⟨fr i σ H' p,hlt⟩,Pv (i+1),λσ' H' p'=>⟨kvs.length-(i+1),by omega,rfl,hlt,p'⟩,λx H'' y=>?_⟩;obtain⟨rfl,p',hp',rfl⟩:=y;exact hs i p' σ _ hp' p
 .have e:i=kvs.length:=by omega
  subst e;exact .inl ⟨⟨fr _ σ H' p,Gh _⟩,a,kvs,o,hz,fr _ σ H' p,hd σ H' p⟩
theorem AW{X:Cx}{a:Addr}{o:Obj}{kvs:List (Key×V)}{g:TG}{tb:TS}{D:eV}{σ:St}{H:Hp}(hz:Hz X a)(Pv:Nat->St->Hp->Prop)(fr:∀i σ H,Pv i σ H->H a=some (.frz o (.dK kvs)))(h0:Pv 0 σ H)
  (hs:∀i q p σ H,kvs[i]?=some q->Pv i σ H->H p=none->g (.ref p) σ (upd H p (.tup [kV q.1,q.2])) λσ2 H2=>tb { fz X D with nx:=Pv (i+1),ct:=Pv (i+1),bk:=(fz X D).nx } σ2 H2)(hd:∀σ H,Pv kvs.length σ H->D.nx σ (upd H a (.dK kvs))) :
  ∃W:Nat->Nat->St->Hp->Prop,(∃m,W 0 m σ H)/\∀i m σ H,W i m σ H->
   ((Itp a o kvs).stop i H/\(fz X D).nx σ H)\/((Itp a o kvs).go i H/\∃N:St->Hp->Prop,(∀σ' H',N σ' H'->∃m',m'<m/\W (i+1) m' σ' H')/\∀x H',(Itp a o kvs).yld i H x H'->g x σ H' λσ2 H2=>tb { fz X D with nx:=N,ct:=N,bk:=(fz X D).nx } σ2 H2):=by
 refine⟨λi m σ H'=>m=kvs.length-i/\i<=kvs.length/\Pv i σ H',⟨kvs.length,by simp,GV _,h0⟩,?_⟩;rintro i m σ H' ⟨rfl,hi,p⟩;by_cases hlt:i<kvs.length
 .refine .inr ⟨⟨fr i σ H' p,hlt⟩,Pv (i+1),λσ' H' p'=>⟨kvs.length-(i+1),by omega,rfl,hlt,p'⟩,λx H'' y=>?_⟩;obtain⟨p1,q,hp1,rfl,hq,rfl⟩:=y;exact hs i q p1 σ _ hq p hp1
 .have e:i=kvs.length:=by omega
  subst e;exact .inl ⟨⟨fr _ σ H' p,Gh _⟩,a,kvs,o,hz,fr _ σ H' p,hd σ H' p⟩
section
variable {X:Cx}{o:Expr}
end
section
variable {X:Cx}{a b c o:Expr}{rest:List Expr}{ta tb to:TE}{tA tB':TT}{pos:Pos}
def PT1(X:Cx)(e:Expr)(t:TT):Prop:=
 ∀(pins:List (Addr×Obj)) (s:Gb) (σ:St) (H:Hp) (Q:Bool->Hp->Prop),Inv X pins σ H s->t σ H Q->GI (GK X.prog X.w) X.A (isTrue e X.env (eval e X.env)) (λd s'=>1<=s'.toks/\TP X pins σ Q d s') X.xe s
def PE1(X:Cx)(e:Expr)(t:TE):Prop:=
 ∀(pins:List (Addr×Obj)) (s:Gb) (σ:St) (H:Hp) (Q:VK),1<=s.toks->Inv X pins σ H s->t σ H Q->GI (GK X.prog X.w) X.A (eval e X.env) (EP X pins σ Q) X.xe s
def Er(X:Cx)(st:List Stmt)(t:TS):Prop:=
 ∀(pins:List (Addr×Obj)) (s:Gb) (σ:St) (H:Hp) (D:eV),1<=s.toks->Inv X pins σ H s->t D σ H->GI (GK X.prog X.w) X.A (execs st X.env) (SP X pins D) X.xe s
theorem zx{α:Type}{M:Model}{A:G_}{s:Gb}{t:Sem α}{Q:α->Gb->Prop}{E:F9->Gb->Prop}(h:1<=s.toks)(w:GI M A t Q E s):GI M A t (λa s'=>1<=s'.toks/\Q a s') E s:=
 wpAny_with_toks h (He w (λ_ _ q z=>⟨z,q⟩) λ_ _ q _=>q)
theorem Dt{op:CmpOp}{r:R2}{i:Int}{j:Nat}{p2:Pos}(ho:OpR X (Hv op) r)(ha:PE X a ta)(hm:Ji op (.Constant (.int i) j p2)=false):PT1 X (.Compare a [op] [.Constant (.int i) j p2] pos) (CK (tOp r ta (tC (.int i)))):=by
 intro pins s σ H Q I h;refine wpAny_isTrue_Compare1 (thn (ha pins s σ H _ I h) λv s1 ⟨x,H1,I1,r1,q1⟩=>wpAny_Constant_int ?_) hm;refine thn (zx (Nat.succ_le_succ (GV _)) (ho pins _ σ H1 x (.int i) v _ _ (I1.tok _) r1 ⟨_,rfl⟩ q1)) λc s3 ⟨tk,z,H3,I3,r3,k,e,q3⟩=>?_;subst e;cases r3;exact HH ⟨tk,H3,I3,q3⟩
theorem Du(ha:PT1 X a tA)(hb:PW X (.BoolOp .And (b::rest) pos) tB'):PT1 X (.BoolOp .And (a::b::rest) pos) (D2 tA tB'):=by
 intro pins s σ H Q I h;refine KG (thn (ha pins s σ H _ I h) λc s1 ⟨tk,H1,I1,q1⟩=>?_);cases c with
 |true=>exact zx tk (hb _ pins s1 σ H1 Q I1 q1)
 |false=>exact⟨tk,H1,I1,q1⟩
theorem Es{a b:List Stmt}{tc:TT}{t u:TS}(hc:PT1 X c tc)(ha:Er X a t)(hb:PSs X b u):PS X (.If c a b pos) (D4 tc t u):=by
 intro pins s σ H D I h;refine wpAny_If (thn (hc pins s σ H _ I h) λd s1 ⟨tk,H1,I1,q1⟩=>?_);cases d with
 |true=>exact ha pins s1 σ H1 D tk I1 q1
 |false=>exact hb pins s1 σ H1 D I1 q1
theorem Cc{i:Nat}{x:Str}{e:Expr}{te:TE}{pos':Pos}(hN:X.N.Nodup)(hi:X.N[i]?=some x)(hx:Loc X.env.scope x)(he:PE1 X e te)(hs:IR e (some (.Name x pos')) pos.line X.env=pure false:=by rfl)(hf:X.fn x=true\/X.env.scope.names.lookup x=some .local:=by first|exact .inl rfl|exact .inr rfl|assumption) :
  Er X [.Assign [.Name x pos'] e pos] (pZ te (bE i)):=by
 intro pins s σ H D tk I h;refine Jd (JK (thn (he pins s σ H _ tk I h) λv s1 ⟨y,H1,I1,r1,q1⟩=>?_) hs);exact oj I1 hN hi hx r1 (λs2 I2=>Ij ⟨_,H1,I2,q1⟩) hf
def Fg(y z:Str)(to:TE):TE:=λσ H Q=>to σ H λx H1=>∃u:Str,x=.str u/\u.length<=1048576/\Q (.str (Txt.replace u y z)) H1
theorem yj{y z:Str}{j1 j2:Nat}{p1 p2 apos cpos:Pos}(ho:PE X o to)(hyz:(y==z)=false)(hz:z.length<=14)
  (hbase:IF o "replace" X.env (eval o X.env)=eval o X.env:=by rfl)
  (hfew:((HR cpos (GG [.Constant (.str y) j1 p1,.Constant (.str z) j2 p2] X.env)).all (fun x=>!x.1) && (J9 cpos (Jl [] X.env)).all (fun x=>x.1.isSome)
   && decide (([.Constant (.str y) j1 p1,.Constant (.str z) j2 p2]:List Expr).length+([]:List KC).length+(if([]:List KC).isEmpty then 0 else 1)<30))=true:=by rfl)
  (hline:(apos.endLine==cpos.line)=true:=by rfl) (ht:HR cpos (GG [.Constant (.str y) j1 p1,.Constant (.str z) j2 p2] X.env)=[(false,eval (.Constant (.str y) j1 p1) X.env),(false,eval (.Constant (.str z) j2 p2) X.env)]:=by rfl) :
  PE1 X (.Call (.Attribute o "replace" apos) [.Constant (.str y) j1 p1,.Constant (.str z) j2 p2] [] cpos) (Fg y z to):=by
 intro pins s σ H Q tk I h;refine wpAny_Call_method_late hbase hfew hline ht (thn (zx tk (ho pins s σ H _ I h)) λv s1 ⟨tk1,x,H1,I1,r1,u,e,hu,q⟩=>?_);subst e;obtain⟨t,rfl⟩:=(show ∃t,v=HP u t from r1);refine⟨"str","str.replace",PySem.F.plainAttrs_str,PySem.F.slot_str_replace,PySem.F.type_str_replace,rfl,(λb z=>by cases z),Ig rfl (Jm (JE (IM (JE (IM (Calls.spliced_nil ?_))))))⟩;refine SC.replaceW (HK tk1) (HK (Nat.succ_pos _)) (Gw (Ic _)) hyz hu hz λt' k=>⟨.str _,H1,I1.tok _,⟨_,rfl⟩,q⟩
end
end L2

set_option maxHeartbeats 4000000

namespace Tl
open PySem PySem.Spec L2
inductive Kw where
 |plain|mark|number|page|row|foot|entry
 deriving DecidableEq
def Kw.s:Kw->Str
 |.plain=>"plain" | .mark=>"mark" | .number=>"number" | .page=>"page" | .row=>"row" | .foot=>"foot" | .entry=>"entry"
theorem Kw.inj:∀{a b:Kw},a.s=b.s->a=b:=by
 intro a b h;cases a<;>cases b<;>first|rfl|exact absurd h (by decide +kernel)
theorem Kw.beq(a b:Kw):(a.s==b.s)=decide (a=b):=by
 cases a<;>cases b<;>decide +kernel
abbrev Wk:=Kw×V
inductive Tg where
 |page|odd|lst|head (n:Nat) (ws:List Wk)|par (ws:List Wk)
def WkA(F:Hp)(v:V)(w:Wk):Prop:=∃a,v=.ref a/\F a=some (.tup [.str w.1.s,w.2])
def aL{α:Type}(P:V->α->Prop):List V->List α->Prop
 |[],[]=>True
 |v::r,w::s=>P v w/\aL P r s
 |_,_=>False
section
variable {α:Type}{P Q:V->α->Prop}
theorem aL.len:∀{vs:List V} {ws:List α},aL P vs ws->vs.length=ws.length
 |[],[],_=>rfl
 |_::_,_::_,h=>congrArg (·+1) (aL.len h.2)
theorem aL.imp(m:∀v w,P v w->Q v w):∀{vs:List V} {ws:List α},aL P vs ws->aL Q vs ws
 |[],[],_=>trivial
 |_::_,_::_,h=>⟨m _ _ h.1,h.2.imp m⟩
theorem aL.app:∀{vs vs':List V} {ws ws':List α},aL P vs ws->aL P vs' ws'->aL P (vs++vs') (ws++ws')
 |[],_,[],_,_,h=>h
 |_::_,_,_::_,_,h,h'=>⟨h.1,h.2.app h'⟩
theorem aL.one{v:V}{w:α}(h:P v w):aL P [v] [w]:=⟨h,trivial⟩
theorem aL.snoc{v:V}{w:α}{vs:List V}{ws:List α}(h:aL P vs ws)(h':P v w):aL P (vs++[v]) (ws++[w]):=h.app (.one h')
theorem aL.getL:∀{vs:List V} {ws:List α} {i:Nat} {v:V},aL P vs ws->vs[i]?=some v->∃w,ws[i]?=some w/\P v w
 |v::_,w::_,0,x,h,e=>by cases e;exact⟨w,rfl,h.1⟩
 |_::_,_::_,i+1,x,h,e=>aL.getL (i:=i) h.2 (by simpa using e)
 |[],[],_,_,_,e=>by simp at e
theorem aL.getR:∀{vs:List V} {ws:List α} {i:Nat} {w:α},aL P vs ws->ws[i]?=some w->∃v,vs[i]?=some v/\P v w
 |v::_,w::_,0,x,h,e=>by cases e;exact⟨v,rfl,h.1⟩
 |_::_,_::_,i+1,x,h,e=>aL.getR (i:=i) h.2 (by simpa using e)
 |[],[],_,_,_,e=>by simp at e
end
abbrev b_(F:Hp):List V->List Wk->Prop:=aL (WkA F)
theorem WkA.mono{F F':Hp}(s:aj F F'){v:V}{w:Wk}(h:WkA F v w):WkA F' v w:=by
 obtain⟨a,e,h⟩:=h;exact⟨a,e,s _ _ h⟩
theorem b_.mono{F F':Hp}(s:aj F F'){vs:List V}{ws:List Wk}(h:b_ F vs ws):b_ F' vs ws:=h.imp λ_ _=>WkA.mono s
def cQ(F:Hp)(l:Addr)(ws:List Wk):Prop:=∃vs,F l=some (.lst vs)/\b_ F vs ws
theorem cQ.mono{F F':Hp}(s:aj F F'){l:Addr}{ws:List Wk}(h:cQ F l ws):cQ F' l ws:=by
 obtain⟨vs,e,h⟩:=h;exact⟨vs,s _ _ e,b_.mono s h⟩
def TgA(F:Hp)(v:V):Tg->Prop
 |.page=>∃a,v=.ref a/\F a=some (.tup [.str "page"])
 |.odd=>∃a,v=.ref a/\F a=some (.tup [.str "odd"])
 |.lst=>∃a,v=.ref a/\F a=some (.tup [.str "list"])
 |.head n ws=>∃a l,v=.ref a/\F a=some (.tup [.str "head",.int n,.ref l])/\cQ F l ws
 |.par ws=>∃a l,v=.ref a/\F a=some (.tup [.str "paragraph",.ref l])/\cQ F l ws
theorem TgA.mono{F F':Hp}(s:aj F F'){v:V}{t:Tg}(h:TgA F v t):TgA F' v t:=by
 cases t with
 |page=>obtain⟨a,e,h⟩:=h;exact⟨a,e,s _ _ h⟩
 |odd=>obtain⟨a,e,h⟩:=h;exact⟨a,e,s _ _ h⟩
 |lst=>obtain⟨a,e,h⟩:=h;exact⟨a,e,s _ _ h⟩
 |head n ws=>obtain⟨a,l,e,h,h2⟩:=h;exact⟨a,l,e,s _ _ h,h2.mono s⟩
 |par ws=>obtain⟨a,l,e,h,h2⟩:=h;exact⟨a,l,e,s _ _ h,h2.mono s⟩
abbrev fP(F:Hp):List V->List Tg->Prop:=aL (TgA F)
theorem fP.mono{F F':Hp}(s:aj F F'){vs:List V}{ws:List Tg}(h:fP F vs ws):fP F' vs ws:=h.imp λ_ _=>TgA.mono s
def FtE(F:Hp)(p:Key×V)(q:Str×List Wk):Prop:=p.1=.inr q.1/\∃l,p.2=.ref l/\cQ F l q.2
def FtA(F:Hp):List (Key×V)->List (Str×List Wk)->Prop
 |[],[]=>True
 |v::r,w::s=>FtE F v w/\FtA F r s
 |_,_=>False
theorem FtA.mono{F F':Hp}(s:aj F F'):∀{vs:List (Key×V)} {ws:List (Str×List Wk)},FtA F vs ws->FtA F' vs ws
 |[],[],_=>trivial
 |_::_,_::_,⟨⟨h1,l,h2,h3⟩,h⟩=>⟨⟨h1,l,h2,h3.mono s⟩,h.mono s⟩
theorem FtA.len{F:Hp}:∀{vs:List (Key×V)} {ws:List (Str×List Wk)},FtA F vs ws->vs.length=ws.length
 |[],[],_=>rfl
 |_::_,_::_,h=>congrArg (·+1) (FtA.len h.2)
theorem FtA.app{F:Hp}{p:Key×V}{q:Str×List Wk}(e:FtE F p q):∀{vs:List (Key×V)} {ws:List (Str×List Wk)},FtA F vs ws->FtA F (vs++[p]) (ws++[q])
 |[],[],_=>⟨e,trivial⟩
 |_::_,_::_,h=>⟨h.1,h.2.app e⟩
def lkS{β:Type}(n:Str):List (Str×β)->Option β
 |[]=>none
 |p::r=>if p.1=n then some p.2 else lkS n r
theorem FtA.val{F:Hp}{n:Str}:∀{vs:List (Key×V)} {ws:List (Str×List Wk)},FtA F vs ws->(lkS n ws=none->cW vs (.inr n)=none)/\∀f,lkS n ws=some f->∃l,cW vs (.inr n)=some (.ref l)/\cQ F l f
 |[],[],_=>⟨λ_=>rfl,λf h=>by cases h⟩
 |(k,v)::r,(m,g)::s,⟨⟨h1,l,h2,h3⟩,h⟩=>by
  have ih:=FtA.val (n:=n) h;obtain rfl:k=.inr m:=h1;obtain rfl:v=.ref l:=h2;by_cases c:m=n
  .subst c;have e:cW ((IH m,V.ref l)::r) (.inr m)=some (.ref l):=by unfold cW;simp
   refine⟨λz=>?_,λf z=>?_⟩
   .unfold lkS at z;simp at z
   .unfold lkS at z;simp at z;subst z;exact⟨l,e,h3⟩
  .have e:cW ((IH m,V.ref l)::r) (.inr n)=cW r (.inr n):=by
    unfold cW;have:¬ ((IH m:Key)=.inr n):=λz=>c (by cases z;rfl);simp[this]
   have e2:lkS n ((m,g)::s)=lkS n s:=by unfold lkS;rw[if_neg c];cases s<;>rfl
   rw[e,e2];exact ih
def hid(os:List Addr)(H:Hp):Hp:=λb=>if b∈os then none else H b
theorem jt{os:List Addr}{H:Hp}{b:Addr}{o:HO}:hid os H b=some o↔b∉os/\H b=some o:=by
 unfold hid;by_cases c:b∈os
 .rw[if_pos c];exact⟨(λz=>by cases z),λz=>absurd c z.1⟩
 .rw[if_neg c];exact⟨λz=>⟨c,z⟩,λz=>z.2⟩
theorem bn{os:List Addr}{H:Hp}{b:Addr}{o:HO}(c:b∉os)(h:H b=some o):hid os H b=some o:=jt.mpr ⟨c,h⟩
theorem bN{os:List Addr}{H:Hp}:aj (hid os H) H:=λ_ _ h=>(jt.mp h).2
theorem bw{os:List Addr}{H:Hp}{p:Addr}{o:HO}(h:p∈os):hid os (upd H p o)=hid os H:=by
 funext b
 unfold hid;by_cases c:b∈os
 .rw[if_pos c,if_pos c]
 .have n:b≠p:=λe=>c (by rw[e];exact h);rw[if_neg c,if_neg c,ak n]
theorem bb{os:List Addr}{H H':Hp}(s:aj H H'):aj (hid os H) (hid os H'):=λb u z=>by
 obtain⟨c,z⟩:=jt.mp z;exact bn c (s _ _ z)
theorem jm{os:List Addr}{G H:Hp}(s:aj G H)(n:∀b∈os,G b=none):aj G (hid os H):=λb u z=>bn (λc=>by rw[n b c]at z;cases z) (s _ _ z)
theorem aW{G H:Hp}{p:Addr}{o:HO}(s:aj G H)(h:G p=none):aj G (upd H p o):=λb u z=>by
 rw[ak (λe=>by rw[e,h]at z;cases z)];exact s _ _ z
structure Rs where
 things:List Tg
 feet:List (Str×List Wk)
 g:Bool
inductive Rw where
 |empty|foot (n:Str) (ws:List Wk)|page|odd|lst|head (n:Nat) (ws:List Wk)|par (ws:List Wk)
def bY(ws:List Wk):List Tg->List Tg
 |[]=>[.par ws]
 |[.par vs]=>[.par (vs++ws)]
 |t::r=>t::bY ws r
theorem sA(ws vs:List Wk):∀l:List Tg,bY ws (l++[.par vs])=l++[.par (vs++ws)]
 |[]=>rfl
 |[t]=>by cases t<;>rfl
 |t::u::r=>by
  have:=sA ws vs (u::r);cases t<;>exact congrArg _ this
def bT(s:Rs):Rw->Rs
 |.empty=>{ s with g:=false }
 |.foot n ws=>{ s with feet:=s.feet++[(n,ws)] }
 |.page=>{ s with things:=s.things++[.page],g:=false }
 |.odd=>{ s with things:=s.things++[.odd],g:=false }
 |.lst=>{ s with things:=s.things++[.lst],g:=false }
 |.head n ws=>{ s with things:=s.things++[.head n ws],g:=false }
 |.par ws=>if s.g then{ s with things:=bY ws s.things }else{ s with things:=s.things++[.par ws],g:=true }
def aR:Rs->List Rw->Rs
 |s,[]=>s
 |s,r::l=>aR (bT s r) l
theorem AX(l l':List Rw):∀s:Rs,aR s (l++l')=aR (aR s l) l':=by
 induction l with
 |nil=>intro s;rfl
 |cons a l ih=>intro s;exact ih _
inductive Xc where
 |twice|nofoot|toolong|nomark
 deriving DecidableEq
structure Sc where
 nums:List Str
 titles:List (List Wk)
 feet:List (Str×List Wk)
structure Wt where
 lead:Int
 kept:Bool
 w:Wk
 foot:List Wk
structure Ss where
 fs:Nat
 ws:List Wt
 ms:List (Str×Nat)
 hs:List (Str×Nat)
 lp:Int
 bh:Bool
def rest:V->Str
 |.str n=>n
 |_=>Hk
def d7(s:Ss)(n:Str):Except Xc Ss:=if(lkS n s.ms).isSome then .error .twice else .ok { s with ms:=s.ms++[(n,s.ws.length)] }
def gS(s:Ss)(lead:Int)(w:Wk)(foot:List Wk):Except Xc Ss:=
 if s.ws.length=400 then .error .toolong
 else .ok { s with lp:=if 0<s.lp then 0 else s.lp,ws:=s.ws++[⟨if 0<s.lp then s.lp else lead,s.bh&&decide ((if 0<s.lp then s.lp else lead)<=2),w,foot⟩] }
def lx(k:Nat):Str := "("++tx (aT k)++")"
def i7(c:Sc)(s:Ss)(n:Str):Except Xc (Ss×List Wk):=
 match lkS n c.feet with
 |none=>.error .nofoot
 |some f=>.ok ({ s with fs:=s.fs+1 },(.plain,.str (lx (s.fs+1)))::f)
def cM(c:Sc)(s:Ss)(lead:Int)(w:Wk):Except Xc Ss:=
 if w.1=.foot then
  match i7 c s (rest w.2)with
  |.error x=>.error x
  |.ok (s',f)=>gS s' lead (f.headD w) f
 else gS s lead w []
def ca(c:Sc)(s:Ss)(lead:Int)(byh:Bool):List Wk->Except Xc Ss
 |[]=>.ok s
 |w::r =>
  if w.1=.mark then
   match d7 s (rest w.2)with
   |.error x=>.error x
   |.ok s'=>ca c s' lead byh r
  else
   match cM c s lead w with
   |.error x=>.error x
   |.ok s'=>ca c { s' with bh:=byh } 0 byh r
def qq(c:Sc)(s:Ss)(k:Nat):Except Xc Ss:=
 ca c { s with hs:=s.hs++[(c.nums.getD k Hk,s.ws.length)] } 2 true ((.plain,.str (c.nums.getD k Hk))::c.titles.getD k [])
def bU(ws:List Wk):List Wk:=ws.filter λw=>!decide (w.1=.mark)
def du(c:Sc)(k:Nat)(n:Str):List Wk:=(.plain,.str n)::(bU (c.titles.getD k [])++[(.entry,.int k)])
def gi(c:Sc)(s:Ss)(lead:Int)(k:Nat):List Str->Except Xc Ss
 |[]=>.ok s
 |n::r =>
  match ca c s lead false (du c k n)with
  |.error x=>.error x
  |.ok s'=>gi c s' 1 (k+1) r
def jn(c:Sc)(s:Ss):Tg->Except Xc Ss
 |.page=>.ok { s with lp:=if s.lp<3 then 3 else s.lp }
 |.odd=>.ok { s with lp:=if s.lp<4 then 4 else s.lp }
 |.head _ _=>qq c s s.hs.length
 |.lst=>gi c s 2 0 c.nums
 |.par ws=>ca c s (if s.bh then 1 else 2) false ws
def ju(c:Sc):Ss->List Tg->Except Xc Ss
 |s,[]=>.ok s
 |s,t::r =>
  match jn c s t with
  |.error x=>.error x
  |.ok s'=>ju c s' r
def fZ(k:Kw):Bool:=k=.number||k=.page||k=.row
def jv(s:Ss)(w:Wk):Bool:=fZ w.1&&(lkS (rest w.2) s.ms).isNone
def eG(c:Sc)(s:Ss):Option Xc:=
 if s.ms.any (λm=>m.2=s.ws.length)then some .nomark
 else if(s.ws.map (·.w)++c.feet.flatMap (·.2)).any (jv s)then some .nomark
 else none
def f7(k:Nat):Str->List (Str×Nat)->Str
 |n,[]=>n
 |n,(t,at_)::r=>f7 k (if at_<=k then t else n) r
def jw(s:Ss)(n:Str):Nat:=(lkS n s.ms).getD 0
def qr(s:Ss)(w:Wk):DD:=
 match w.1 with
 |.plain=>.tup [.str "text",.str (rest w.2)]
 |.entry=>.tup [.str "page",.int (match w.2 with|.int k=>((s.hs.getD k.toNat (Hk,0)).2:Nat)|_=>0)]
 |.number=>.tup [.str "text",.str (f7 (jw s (rest w.2)) "0" s.hs)]
 |k=>.tup [.str k.s,.int (jw s (rest w.2))]
def aG:List Tg->List (Nat×List Wk)
 |[]=>[]
 |.head n ws::r=>(n,ws)::aG r
 |_::r=>aG r
def ss0:Ss:=⟨0,[],[],[],0,false⟩

def fsR(sa fa ta:Addr)(g:Bool):List (Str×V):=[("shorts",.ref sa),("feet",.ref fa),("things",.ref ta),("going_on",.bl g)]
section
variable {sa fa ta:Addr}{g:Bool}
theorem AY:GP ("shorts" : Str) (fsR sa fa ta g)=some (.ref sa):=rfl
theorem uD:GP ("feet" : Str) (fsR sa fa ta g)=some (.ref fa):=by
 have e:(("feet" : Str) == "shorts")=false:=by decide +kernel
 simp[fsR,GP,e]
theorem qt:GP ("things" : Str) (fsR sa fa ta g)=some (.ref ta):=by
 have e:(("things" : Str) == "shorts")=false:=by decide +kernel
 have e2:(("things" : Str) == "feet")=false:=by decide +kernel
 simp[fsR,GP,e,e2]
theorem yk:GP ("going_on" : Str) (fsR sa fa ta g)=some (.bl g):=by
 have e:(("going_on" : Str) == "shorts")=false:=by decide +kernel
 have e2:(("going_on" : Str) == "feet")=false:=by decide +kernel
 have e3:(("going_on" : Str) == "things")=false:=by decide +kernel
 simp[fsR,GP,e,e2,e3]
theorem mJ{m:Str}(h:((m == "shorts")||(m == "feet")||(m == "things")||(m == "going_on"))=false):(fsR sa fa ta g).lookup m=none:=by
 simp only[Jn]at h;simp[fsR,GP,h.1.1.1,h.1.1.2,h.1.2,h.2]
theorem qu{b:Bool}:bQ "going_on" (.bl b) (fsR sa fa ta g)=fsR sa fa ta b:=by
 have e:¬ (("shorts" : Str) = "going_on"):=by decide +kernel
 have e2:¬ (("feet" : Str) = "going_on"):=by decide +kernel
 have e3:¬ (("things" : Str) = "going_on"):=by decide +kernel
 simp[fsR,bQ,e,e2,e3]
theorem uE:(fsR sa fa ta g).length<1000:=by show 4<1000;decide
end
theorem Dw{sa fa ta sa' fa' ta':Addr}{g g':Bool}(h:fsR sa fa ta g=fsR sa' fa' ta' g'):sa=sa'/\fa=fa'/\ta=ta'/\g=g':=by
 simpa[fsR]using h
structure RdA(C:Addr)(H0 H:Hp)(r:Addr)(s:Rs):Prop where
 old:aj H0 H
 mid:∃dx sa fa ta la kvs vs,H r=some (.ins C dx (fsR sa fa ta s.g))/\hid [r,fa,ta,la] H sa=some (.lst [])/\H fa=some (.dK kvs)/\H ta=some (.lst vs)/\
  (H0 r=none/\H0 fa=none/\H0 ta=none/\H0 la=none)/\FtA (hid [r,fa,ta,la] H) kvs s.feet/\
  ((s.g=false/\la=ta/\fP (hid [r,fa,ta,la] H) vs s.things)\/
    (s.g=true/\la≠ta/\∃vi a wvs ini ws,vs=vi++[.ref a]/\s.things=ini++[.par ws]/\hid [r,fa,ta,la] H a=some (.tup [.str "paragraph",.ref la])/\H la=some (.lst wvs)/\b_ (hid [r,fa,ta,la] H) wvs ws/\fP (hid [r,fa,ta,la] H) vi ini))
theorem RdA.same{C:Addr}{H0 H H':Hp}{r:Addr}{s:Rs}(R:RdA C H0 H r s)(m:aj H H'):RdA C H0 H' r s:=by
 obtain⟨old,dx,sa,fa,ta,la,kvs,vs,h1,h2,h3,h4,h5,h6,h7⟩:=R;refine⟨old.trans m,dx,sa,fa,ta,la,kvs,vs,m _ _ h1,bb m _ _ h2,m _ _ h3,m _ _ h4,h5,h6.mono (bb m),?_⟩;rcases h7 with⟨e1,e2,h⟩|⟨e1,e2,vi,a,wvs,ini,ws,q1,q2,q3,q4,q5,q6⟩
 .exact .inl ⟨e1,e2,fP.mono (bb m) h⟩
 .exact .inr ⟨e1,e2,vi,a,wvs,ini,ws,q1,q2,bb m _ _ q3,m _ _ q4,b_.mono (bb m) q5,fP.mono (bb m) q6⟩
theorem nR{os:List Addr}{H:Hp}(n:∀b∈os,∀us,H b≠some (.tup us)){vs:List V}{ws:List Wk}(h:b_ H vs ws):b_ (hid os H) vs ws:=h.imp λv w ⟨a,e,h⟩=>⟨a,e,bn (λc=>n a c _ h) h⟩
def TgN(F H:Hp)(v:V):Tg->Prop
 |.page=>∃a,v=.ref a/\H a=some (.tup [.str "page"])
 |.odd=>∃a,v=.ref a/\H a=some (.tup [.str "odd"])
 |.lst=>∃a,v=.ref a/\H a=some (.tup [.str "list"])
 |.head n ws=>∃a l,v=.ref a/\H a=some (.tup [.str "head",.int n,.ref l])/\F l=none/\cQ H l ws
 |.par ws=>∃a l,v=.ref a/\H a=some (.tup [.str "paragraph",.ref l])/\F l=none/\cQ H l ws
theorem TgN.hid{F H:Hp}{os:List Addr}{v:V}{t:Tg}(n:∀b∈os,∀us,H b≠some (.tup us))(f:∀b∈os,F b≠none)(h:TgN F H v t):TgA (hid os H) v t:=by
 have ls:∀{l:Addr} {ws:List Wk},F l=none->cQ H l ws->cQ (Tl.hid os H) l ws:=λe ⟨vs,h1,h2⟩=>⟨vs,bn (λc=>f _ c e) h1,nR n h2⟩;cases t with
 |page=>obtain⟨a,e,h⟩:=h;exact⟨a,e,bn (λc=>n a c _ h) h⟩
 |odd=>obtain⟨a,e,h⟩:=h;exact⟨a,e,bn (λc=>n a c _ h) h⟩
 |lst=>obtain⟨a,e,h⟩:=h;exact⟨a,e,bn (λc=>n a c _ h) h⟩
 |head k ws=>obtain⟨a,l,e,h,h1,h2⟩:=h;exact⟨a,l,e,bn (λc=>n a c _ h) h,ls h1 h2⟩
 |par ws=>obtain⟨a,l,e,h,h1,h2⟩:=h;exact⟨a,l,e,bn (λc=>n a c _ h) h,ls h1 h2⟩
theorem gj{H:Hp}{a:Addr}{o:HO}(h:H a=some o)(n:∀us,o≠.tup us):∀us,H a≠some (.tup us):=λus z=>by
 rw[h]at z;exact n us (GU z)
theorem rY{H:Hp}{a:Addr}{o:HO}(h:H a=some o):H a≠none:=λz=>by rw[h]at z;cases z
theorem RdA.use{C:Addr}{H0 H:Hp}{r:Addr}{s:Rs}(R:RdA C H0 H r s):∃dx sa fa ta kvs vs,H r=some (.ins C dx (fsR sa fa ta s.g))/\H sa=some (.lst [])/\H fa=some (.dK kvs)/\H ta=some (.lst vs)/\vs.length=s.things.length/\kvs.length=s.feet.length/\(∀n,lkS n s.feet=none->cW kvs (.inr n)=none)/\
  (∀H' v t,aj H H'->TgN H H' v t->RdA C H0 (upd (upd H' ta (.lst (vs++[v]))) r (.ins C dx (fsR sa fa ta false))) r { s with things:=s.things++[t],g:=false })/\
  (∀H',aj H H'->RdA C H0 (upd H' r (.ins C dx (fsR sa fa ta false))) r { s with g:=false })/\
  (∀H' n l ws,aj H H'->H l=none->cQ H' l ws->RdA C H0 (upd H' fa (.dK (kvs++[(.inr n,.ref l)]))) r { s with feet:=s.feet++[(n,ws)] })/\
  (s.g=true->∃vi a la wvs ini ws,vs=vi++[.ref a]/\H a=some (.tup [.str "paragraph",.ref la])/\H la=some (.lst wvs)/\s.things=ini++[.par ws]/\wvs.length=ws.length/\∀H' us ws',aj H H'->b_ H' us ws'->RdA C H0 (upd H' la (.lst (wvs++us))) r { s with things:=bY ws' s.things })/\
  (∀H' a l ws,aj H H'->H' a=some (.tup [.str "paragraph",.ref l])->H l=none->cQ H' l ws->RdA C H0 (upd (upd (upd H' ta (.lst (vs++[.ref a]))) r (.ins C dx (fsR sa fa ta false))) r (.ins C dx (fsR sa fa ta true))) r { s with things:=s.things++[.par ws],g:=true })/\
  FtA H kvs s.feet/\fP H vs s.things/\H0 fa=none/\H0 ta=none:=by
 obtain⟨old,dx,sa,fa,ta,la,kvs,vs,h1,h2,h3,h4,h5,h6,h7⟩:=R;have n1:r≠fa:=λz=>by rw[z,h3]at h1;cases h1
 have n2:r≠ta:=λz=>by rw[z,h4]at h1;cases h1
 have n3:fa≠ta:=λz=>by rw[z,h4]at h3;cases h3
 have hla:∃us,H la=some (.lst us):=by
  rcases h7 with⟨e1,e2,h⟩|⟨e1,e2,vi,a,wvs,ini,ws,q1,q2,q3,q4,q5,q6⟩
  .rw[e2];exact⟨_,h4⟩
  .exact⟨_,q4⟩
 obtain⟨us0,hla⟩:=hla;have n4:la≠r:=λz=>by rw[z,h1]at hla;cases hla
 have n5:la≠fa:=λz=>by rw[z,h3]at hla;cases hla
 have nt:∀{H':Hp},aj H H'->∀b∈[r,fa,ta,la],∀us,H' b≠some (.tup us):=λ{H'} m b hb=>by
  simp only[Hd,GZ,or_false]at hb;rcases hb with rfl|rfl|rfl|rfl
  .exact gj (m _ _ h1) (λus z=>by cases z)
  .exact gj (m _ _ h3) (λus z=>by cases z)
  .exact gj (m _ _ h4) (λus z=>by cases z)
  .exact gj (m _ _ hla) (λus z=>by cases z)
 have nn:∀b∈[r,fa,ta,la],H b≠none:=λb hb=>by
  simp only[Hd,GZ,or_false]at hb;rcases hb with rfl|rfl|rfl|rfl
  .exact rY h1
  .exact rY h3
  .exact rY h4
  .exact rY hla
 have sub:∀b∈[r,fa,ta,ta],b∈[r,fa,ta,la]:=λb hb=>by
  simp only[Hd,GZ,or_false]at hb⊢;rcases hb with h|h|h|h<;>simp[h]
 have m0:∀{H':Hp},aj H H'->aj (hid [r,fa,ta,la] H) (hid [r,fa,ta,ta] H'):=λ{H'} m b o z=>by
  obtain⟨c,z⟩:=jt.mp z;exact bn (λw=>c (sub b w)) (m _ _ z)
 have cl:∀{H':Hp},aj H H'->fP (hid [r,fa,ta,ta] H') vs s.things:=λ{H'} m=>by
  rcases h7 with⟨e1,e2,h⟩|⟨e1,e2,vi,a,wvs,ini,ws,q1,q2,q3,q4,q5,q6⟩
  .exact fP.mono (m0 m) h
  .rw[q1,q2];exact(fP.mono (m0 m) q6).snoc ⟨a,la,rfl,m0 m _ _ q3,wvs,bn (by simp[n4,n5,e2]) (m _ _ q4),b_.mono (m0 m) q5⟩
 refine⟨dx,sa,fa,ta,kvs,vs,h1,bN _ _ h2,h3,h4,(cl (aj.refl _)).len,h6.len,λn hn=>(h6.val).1 hn,?_,?_,?_,?_,?_,h6.mono bN,fP.mono bN (cl (aj.refl _)),h5.2.1,h5.2.2.1⟩
 .intro H' v t m tn;have e:hid [r,fa,ta,ta] (upd (upd H' ta (.lst (vs++[v]))) r (.ins C dx (fsR sa fa ta false)))=hid [r,fa,ta,ta] H':=by
   rw[bw (by simp),bw (by simp)]
  refine⟨?_,dx,sa,fa,ta,ta,kvs,vs++[v],ae,?_,?_,?_,⟨h5.1,h5.2.1,h5.2.2.1,h5.2.2.1⟩,?_,.inl ⟨rfl,rfl,?_⟩⟩
  .exact aW (aW (old.trans m) h5.2.2.1) h5.1
  .rw[e];exact m0 m _ _ h2
  .rw[ak (GX n1),ak n3];exact m _ _ h3
  .rw[ak (GX n2)];exact ae
  .rw[e];exact h6.mono (m0 m)
  .rw[e];exact(cl m).snoc (tn.hid (λb hb=>nt m b (sub b hb)) (λb hb=>nn b (sub b hb)))
 .intro H' m;have e:hid [r,fa,ta,ta] (upd H' r (.ins C dx (fsR sa fa ta false)))=hid [r,fa,ta,ta] H':=bw (by simp);refine⟨aW (old.trans m) h5.1,dx,sa,fa,ta,ta,kvs,vs,ae,?_,?_,?_,⟨h5.1,h5.2.1,h5.2.2.1,h5.2.2.1⟩,?_,.inl ⟨rfl,rfl,?_⟩⟩
  .rw[e];exact m0 m _ _ h2
  .rw[ak (GX n1)];exact m _ _ h3
  .rw[ak (GX n2)];exact m _ _ h4
  .rw[e];exact h6.mono (m0 m)
  .rw[e];exact cl m
 .intro H' n l ws m hl lw;have e:hid [r,fa,ta,la] (upd H' fa (.dK (kvs++[(.inr n,.ref l)])))=hid [r,fa,ta,la] H':=bw (by simp);have hm:=bb (os:=[r,fa,ta,la]) m;refine⟨aW (old.trans m) h5.2.1,dx,sa,fa,ta,la,kvs++[(.inr n,.ref l)],vs,?_,?_,ae,?_,h5,?_,?_⟩
  .rw[ak n1];exact m _ _ h1
  .rw[e];exact hm _ _ h2
  .rw[ak (GX n3)];exact m _ _ h4
  .rw[e];obtain⟨us,l1,l2⟩:=lw;exact(h6.mono hm).app ⟨rfl,l,rfl,us,bn (λc=>nn _ c hl) l1,nR (nt m) l2⟩
  .rw[e];rcases h7 with⟨e1,e2,h⟩|⟨e1,e2,vi,a,wvs,ini,ws,q1,q2,q3,q4,q5,q6⟩
   .exact .inl ⟨e1,e2,fP.mono hm h⟩
   .exact .inr ⟨e1,e2,vi,a,wvs,ini,ws,q1,q2,hm _ _ q3,by rw[ak n5];exact m _ _ q4,b_.mono hm q5,fP.mono hm q6⟩
 .intro hg;rcases h7 with⟨e1,e2,h⟩|⟨e1,e2,vi,a,wvs,ini,ws,q1,q2,q3,q4,q5,q6⟩
  .rw[hg]at e1;cases e1
  refine⟨vi,a,la,wvs,ini,ws,q1,bN _ _ q3,q4,q2,q5.len,λH' us ws' m al=>?_⟩;have e:hid [r,fa,ta,la] (upd H' la (.lst (wvs++us)))=hid [r,fa,ta,la] H':=bw (by simp);have hm:=bb (os:=[r,fa,ta,la]) m;refine⟨aW (old.trans m) h5.2.2.2,dx,sa,fa,ta,la,kvs,vs,?_,?_,?_,?_,h5,?_,.inr ⟨e1,e2,vi,a,wvs++us,ini,ws++ws',q1,?_,?_,ae,?_,?_⟩⟩
  .rw[ak (GX n4)];exact m _ _ h1
  .rw[e];exact hm _ _ h2
  .rw[ak (GX n5)];exact m _ _ h3
  .rw[ak (GX e2)];exact m _ _ h4
  .rw[e];exact h6.mono hm
  .show bY ws' s.things=_;rw[q2,sA]
  .rw[e];exact hm _ _ q3
  .rw[e];exact(b_.mono hm q5).app (nR (nt m) al)
  .rw[e];exact fP.mono hm q6
 .intro H' a l ws m ha hl lw;have lr:l≠r:=λz=>by rw[z,h1]at hl;cases hl
  have lfa:l≠fa:=λz=>by rw[z,h3]at hl;cases hl
  have lta:l≠ta:=λz=>by rw[z,h4]at hl;cases hl
  have lla:l≠la:=λz=>by rw[z,hla]at hl;cases hl
  obtain⟨us,l1,l2⟩:=lw;have nt':∀b∈[r,fa,ta,l],∀us,H' b≠some (.tup us):=λb hb=>by
   simp only[Hd,GZ,or_false]at hb;rcases hb with rfl|rfl|rfl|rfl
   .exact gj (m _ _ h1) (λus z=>by cases z)
   .exact gj (m _ _ h3) (λus z=>by cases z)
   .exact gj (m _ _ h4) (λus z=>by cases z)
   .exact gj l1 (λus z=>by cases z)
  have e:hid [r,fa,ta,l] (upd (upd (upd H' ta (.lst (vs++[.ref a]))) r (.ins C dx (fsR sa fa ta false))) r (.ins C dx (fsR sa fa ta true)))=hid [r,fa,ta,l] H':=by
   rw[bw (by simp),bw (by simp),bw (by simp)]
  have mm:aj (hid [r,fa,ta,ta] H) (hid [r,fa,ta,l] H'):=λb o z=>by
   obtain⟨c,z⟩:=jt.mp z;refine bn (λw=>?_) (m _ _ z);simp only[Hd,GZ,or_false]at w c;rcases w with w|w|w|w
   .exact c (.inl w)
   .exact c (.inr (.inl w))
   .exact c (.inr (.inr (.inl w)))
   .rw[w,hl]at z;cases z
  refine⟨aW (aW (aW (old.trans m) h5.2.2.1) h5.1) h5.1,dx,sa,fa,ta,l,kvs,vs++[.ref a],ae,?_,?_,?_,⟨h5.1,h5.2.1,h5.2.2.1,old.free hl⟩,?_,.inr ⟨rfl,lta,vs,a,us,s.things,ws,rfl,rfl,?_,?_,?_,?_⟩⟩
  .rw[e];exact mm _ _ (m0 (aj.refl _) _ _ h2)
  .rw[ak (GX n1),ak (GX n1),ak n3];exact m _ _ h3
  .rw[ak (GX n2),ak (GX n2)];exact ae
  .rw[e];exact h6.mono ((m0 (aj.refl _)).trans mm)
  .rw[e];exact bn (λc=>nt' a c _ ha) ha
  .rw[ak lr,ak lr,ak lta];exact l1
  .rw[e];exact nR nt' l2
  .rw[e];exact fP.mono mm (cl (aj.refl _))
def tgN:Tg->Nat
 |.head _ ws=>ws.length
 |.par ws=>ws.length
 |_=>0
def rwN:Rw->Nat
 |.foot _ ws=>ws.length
 |.head _ ws=>ws.length
 |.par ws=>ws.length
 |_=>0
def tgS(l:List Tg):Nat:=(l.map tgN).sum
theorem xn(ws:List Wk):∀l:List Tg,tgS (bY ws l)=tgS l+ws.length/\(bY ws l).length<=l.length+1
 |[]=>by simp[bY,tgS,tgN]
 |[t]=>by
  cases t<;>simp[bY,tgS,tgN]
 |t::u::r=>by
  have ih:=xn ws (u::r);have e:bY ws (t::u::r)=t::bY ws (u::r):=by cases t<;>rfl
  rw[e];unfold tgS at ih⊢;simp only[Gi,Ho,F8]at ih⊢;omega
theorem Dx(s:Rs)(w:Rw):tgS (bT s w).things<=tgS s.things+rwN w/\(bT s w).things.length<=s.things.length+1/\(bT s w).feet.length<=s.feet.length+1:=by
 have snoc:∀(l:List Tg) (t:Tg),tgS (l++[t])=tgS l+tgN t:=λl t=>by simp[tgS]
 cases w with
 |empty=>exact⟨Gh _,HN _,HN _⟩
 |foot n ws=>exact⟨IB _ _,HN _,by simp[bT]⟩
 |page=>simp[bT,snoc,tgN,rwN]
 |odd=>simp[bT,snoc,tgN,rwN]
 |lst=>simp[bT,snoc,tgN,rwN]
 |head n ws=>simp[bT,snoc,tgN,rwN]
 |par ws =>
  unfold bT;by_cases g:s.g=true
  .simp only[g,if_true];have:=xn ws s.things;exact⟨by rw[this.1];exact Gh _,this.2,HN _⟩
  .simp only[Hq]at g;simp[g,snoc,tgN,rwN]
theorem uF:∀(l:List Rw) (s:Rs),tgS (aR s l).things<=tgS s.things+(l.map rwN).sum/\(aR s l).things.length<=s.things.length+l.length/\(aR s l).feet.length<=s.feet.length+l.length
 |[],s=>by simp[aR]
 |w::l,s=>by
  have h:=Dx s w;have ih:=uF l (bT s w);have e:aR s (w::l)=aR (bT s w) l:=rfl;rw[e];simp only[Gi,Ho,F8];omega
theorem sC(f:Rw->Nat):∀(l:List Rw) (k:Nat),((l.take k).map f).sum<=(l.map f).sum
 |[],k=>by simp
 |a::l,0=>by simp
 |a::l,k+1=>by
  have:=sC f l k;simp only[List.take_succ_cons,Gi,Ho];omega
def rs0:Rs:=⟨[],[],false⟩
theorem Dy{ini:List Tg}{ws:List Wk}:ws.length<=tgS (ini++[.par ws]):=by simp[tgS,tgN]
def FrX(H H':Hp)(x:Addr):Prop:=∀b u,b≠x->H b=some u->H' b=some u
theorem FrX.refl{H:Hp}{x:Addr}:FrX H H x:=λ_ _ _ h=>h
theorem FrX.same{H H1 H':Hp}{x:Addr}(f:FrX H H1 x)(s:aj H1 H'):FrX H H' x:=λb u n h=>s _ _ (f b u n h)
theorem FrX.at{H H':Hp}{x:Addr}{o:HO}(f:FrX H H' x):FrX H (upd H' x o) x:=λb u n h=>by
 rw[ak n];exact f b u n h
theorem FrX.free{H H':Hp}{x p:Addr}{o:HO}(f:FrX H H' x)(hx:H' x=some o)(hp:H' p=none):H p=none:=by
 cases z:H p with
 |none=>rfl
 |some u =>
  by_cases e:p=x
  .rw[e,hx]at hp;cases hp
  .rw[f p u e z]at hp;cases hp
theorem FrX.old{G H H':Hp}{x:Addr}(f:FrX H H' x)(s:aj G H)(hx:G x=none):aj G H':=λb u h=>f b u (λz=>by rw[z,hx]at h;cases h) (s _ _ h)
end Tl

set_option maxHeartbeats 4000000

namespace Tl
open PySem PySem.Spec L2
structure Sad where
 x:Addr
 dx:Addr
 na:Addr
 ta:Addr
 fa:Addr
 wa:Addr
 ma:Addr
 ha:Addr
def Sad.os(A:Sad):List Addr:=[A.x,A.wa,A.ma,A.ha]
def fsS(A:Sad)(fs lp:Int)(bh:Bool):List (Str×V):=[("numbers",.ref A.na),("titles",.ref A.ta),("feet",.ref A.fa),("feet_set",.int fs),("words",.ref A.wa),("marks",.ref A.ma),("heads",.ref A.ha),("leap",.int lp),("behind_head",.bl bh)]
section
variable {A:Sad}{fs lp:Int}{bh:Bool}
theorem ui:GP ("numbers" : Str) (fsS A fs lp bh)=some (.ref A.na):=by
 rfl
theorem vf:GP ("titles" : Str) (fsS A fs lp bh)=some (.ref A.ta):=by
 have e0:(("titles" : Str) == "numbers")=false:=by decide +kernel
 simp[fsS,GP,e0]
theorem uG:GP ("feet" : Str) (fsS A fs lp bh)=some (.ref A.fa):=by
 have e0:(("feet" : Str) == "numbers")=false:=by decide +kernel
 have e1:(("feet" : Str) == "titles")=false:=by decide +kernel
 simp[fsS,GP,e0,e1]
theorem sD:GP ("feet_set" : Str) (fsS A fs lp bh)=some (.int fs):=by
 have e0:(("feet_set" : Str) == "numbers")=false:=by decide +kernel
 have e1:(("feet_set" : Str) == "titles")=false:=by decide +kernel
 have e2:(("feet_set" : Str) == "feet")=false:=by decide +kernel
 simp[fsS,GP,e0,e1,e2]
theorem jf:GP ("words" : Str) (fsS A fs lp bh)=some (.ref A.wa):=by
 have e0:(("words" : Str) == "numbers")=false:=by decide +kernel
 have e1:(("words" : Str) == "titles")=false:=by decide +kernel
 have e2:(("words" : Str) == "feet")=false:=by decide +kernel
 have e3:(("words" : Str) == "feet_set")=false:=by decide +kernel
 simp[fsS,GP,e0,e1,e2,e3]
theorem jg:GP ("marks" : Str) (fsS A fs lp bh)=some (.ref A.ma):=by
 have e0:(("marks" : Str) == "numbers")=false:=by decide +kernel
 have e1:(("marks" : Str) == "titles")=false:=by decide +kernel
 have e2:(("marks" : Str) == "feet")=false:=by decide +kernel
 have e3:(("marks" : Str) == "feet_set")=false:=by decide +kernel
 have e4:(("marks" : Str) == "words")=false:=by decide +kernel
 simp[fsS,GP,e0,e1,e2,e3,e4]
theorem lA:GP ("heads" : Str) (fsS A fs lp bh)=some (.ref A.ha):=by
 have e0:(("heads" : Str) == "numbers")=false:=by decide +kernel
 have e1:(("heads" : Str) == "titles")=false:=by decide +kernel
 have e2:(("heads" : Str) == "feet")=false:=by decide +kernel
 have e3:(("heads" : Str) == "feet_set")=false:=by decide +kernel
 have e4:(("heads" : Str) == "words")=false:=by decide +kernel
 have e5:(("heads" : Str) == "marks")=false:=by decide +kernel
 simp[fsS,GP,e0,e1,e2,e3,e4,e5]
theorem rZ:GP ("leap" : Str) (fsS A fs lp bh)=some (.int lp):=by
 have e0:(("leap" : Str) == "numbers")=false:=by decide +kernel
 have e1:(("leap" : Str) == "titles")=false:=by decide +kernel
 have e2:(("leap" : Str) == "feet")=false:=by decide +kernel
 have e3:(("leap" : Str) == "feet_set")=false:=by decide +kernel
 have e4:(("leap" : Str) == "words")=false:=by decide +kernel
 have e5:(("leap" : Str) == "marks")=false:=by decide +kernel
 have e6:(("leap" : Str) == "heads")=false:=by decide +kernel
 simp[fsS,GP,e0,e1,e2,e3,e4,e5,e6]
theorem nS:GP ("behind_head" : Str) (fsS A fs lp bh)=some (.bl bh):=by
 have e0:(("behind_head" : Str) == "numbers")=false:=by decide +kernel
 have e1:(("behind_head" : Str) == "titles")=false:=by decide +kernel
 have e2:(("behind_head" : Str) == "feet")=false:=by decide +kernel
 have e3:(("behind_head" : Str) == "feet_set")=false:=by decide +kernel
 have e4:(("behind_head" : Str) == "words")=false:=by decide +kernel
 have e5:(("behind_head" : Str) == "marks")=false:=by decide +kernel
 have e6:(("behind_head" : Str) == "heads")=false:=by decide +kernel
 have e7:(("behind_head" : Str) == "leap")=false:=by decide +kernel
 simp[fsS,GP,e0,e1,e2,e3,e4,e5,e6,e7]
theorem vE{fs':Int}:bQ "feet_set" (.int fs') (fsS A fs lp bh)=fsS A fs' lp bh:=by
 have e0:¬ (("numbers" : Str) = "feet_set"):=by decide +kernel
 have e1:¬ (("titles" : Str) = "feet_set"):=by decide +kernel
 have e2:¬ (("feet" : Str) = "feet_set"):=by decide +kernel
 simp[fsS,bQ,e0,e1,e2]
theorem qw{lp':Int}:bQ "leap" (.int lp') (fsS A fs lp bh)=fsS A fs lp' bh:=by
 have e0:¬ (("numbers" : Str) = "leap"):=by decide +kernel
 have e1:¬ (("titles" : Str) = "leap"):=by decide +kernel
 have e2:¬ (("feet" : Str) = "leap"):=by decide +kernel
 have e3:¬ (("feet_set" : Str) = "leap"):=by decide +kernel
 have e4:¬ (("words" : Str) = "leap"):=by decide +kernel
 have e5:¬ (("marks" : Str) = "leap"):=by decide +kernel
 have e6:¬ (("heads" : Str) = "leap"):=by decide +kernel
 simp[fsS,bQ,e0,e1,e2,e3,e4,e5,e6]
theorem sQ{bh':Bool}:bQ "behind_head" (.bl bh') (fsS A fs lp bh)=fsS A fs lp bh':=by
 have e0:¬ (("numbers" : Str) = "behind_head"):=by decide +kernel
 have e1:¬ (("titles" : Str) = "behind_head"):=by decide +kernel
 have e2:¬ (("feet" : Str) = "behind_head"):=by decide +kernel
 have e3:¬ (("feet_set" : Str) = "behind_head"):=by decide +kernel
 have e4:¬ (("words" : Str) = "behind_head"):=by decide +kernel
 have e5:¬ (("marks" : Str) = "behind_head"):=by decide +kernel
 have e6:¬ (("heads" : Str) = "behind_head"):=by decide +kernel
 have e7:¬ (("leap" : Str) = "behind_head"):=by decide +kernel
 simp[fsS,bQ,e0,e1,e2,e3,e4,e5,e6,e7]

theorem jh{m:Str}(h:[("numbers" : Str),("titles" : Str),("feet" : Str),("feet_set" : Str),("words" : Str),("marks" : Str),("heads" : Str),("leap" : Str),("behind_head" : Str)].all (λn=>!(m==n))=true):(fsS A fs lp bh).lookup m=none:=by
 simp only[IG,List.all_nil,Kj,HF,Bool.not_eq_true']at h;obtain⟨h1,h2,h3,h4,h5,h6,h7,h8,h9⟩:=h;simp[fsS,GP,h1,h2,h3,h4,h5,h6,h7,h8,h9]
theorem nT:(fsS A fs lp bh).length<1000:=by show 9<1000;decide
end
theorem xo{n:Str}{v:V}:∀{l:List (Str×V)},(bQ n v l).length<=l.length+1
 |[]=>Gh _
 |(m,x)::r=>by
  by_cases e:m=n
  .simp[bQ,e]
  .have:=xo (n:=n) (v:=v) (l:=r);simp[bQ,e];exact this
theorem iG{n:Str}{v:V}:∀{l:List (Str×V)},(l.map Prod.fst).all (λm=>m != n)=true->bQ n v l=l++[(n,v)]
 |[],_=>rfl
 |(m,x)::r,h=>by
  rw[Gi,IG,HF]at h;have e:¬ (m=n):=by simpa using h.1
  have ih:=iG (n:=n) (v:=v) h.2;simp[bQ,e]at ih⊢;exact ih
theorem Dz(A:Sad):(bQ "behind_head" (.bl false) (bQ "leap" (.int 0) (bQ "heads" (.ref A.ha) (bQ "marks" (.ref A.ma) (bQ "words" (.ref A.wa) (bQ "feet_set" (.int 0) (bQ "feet" (.ref A.fa) (bQ "titles" (.ref A.ta) (bQ "numbers" (.ref A.na) [])))))))))=fsS A 0 0 false:=by
 rw[show bQ "numbers" (.ref A.na) []=([("numbers",.ref A.na)]:List (Str×V))from rfl];rw[iG (n := "titles") (by show(["numbers"]:List Str).all (λm=>m != "titles")=true;decide +kernel)];rw[iG (n := "feet") (by show(["numbers","titles"]:List Str).all (λm=>m != "feet")=true;decide +kernel)];rw[iG (n := "feet_set") (by show(["numbers","titles","feet"]:List Str).all (λm=>m != "feet_set")=true;decide +kernel)];rw[iG (n := "words") (by show(["numbers","titles","feet","feet_set"]:List Str).all (λm=>m != "words")=true;decide +kernel)];rw[iG (n := "marks") (by show(["numbers","titles","feet","feet_set","words"]:List Str).all (λm=>m != "marks")=true;decide +kernel)];rw[iG (n := "heads") (by show(["numbers","titles","feet","feet_set","words","marks"]:List Str).all (λm=>m != "heads")=true;decide +kernel)];rw[iG (n := "leap") (by show(["numbers","titles","feet","feet_set","words","marks","heads"]:List Str).all (λm=>m != "leap")=true;decide +kernel)];rw[iG (n := "behind_head") (by show(["numbers","titles","feet","feet_set","words","marks","heads","leap"]:List Str).all (λm=>m != "behind_head")=true;decide +kernel)];rfl
def WtA(F:Hp)(v:V)(t:Wt):Prop:=∃a w f,v=.ref a/\F a=some (.tup [.int t.lead,.bl t.kept,.ref w,.ref f])/\WkA F (.ref w) t.w/\cQ F f t.foot
def HdA(F:Hp)(v:V)(h:Str×Nat):Prop:=∃a,v=.ref a/\F a=some (.tup [.str h.1,.int (h.2:Int)])
def TlA(F:Hp)(v:V)(ws:List Wk):Prop:=∃l,v=.ref l/\cQ F l ws
def mkV(ms:List (Str×Nat)):List (Key×V):=ms.map λm=>(.inr m.1,.int (m.2:Int))
theorem jM{n:Str}:∀ms:List (Str×Nat),cW (mkV ms) (.inr n)=(lkS n ms).map λ(k:Nat)=>V.int (k:Int)
 |[]=>rfl
 |(m,k)::r=>by
  have ih:=jM (n:=n) r;by_cases c:m=n
  .subst c;have e:lkS m ((m,k)::r)=some k:=by unfold lkS;simp
   rw[e];unfold mkV;rw[Gi,lj rfl];rfl
  .have e:lkS n ((m,k)::r)=lkS n r:=by
    show(if m=n then some k else lkS n r)=lkS n r;exact if_neg c
   rw[e,<-ih];unfold mkV;rw[Gi,dW (λz=>c (by injection z))]
theorem Cd(ms:List (Str×Nat))(n:Str)(k:Nat):mkV (ms++[(n,k)])=mkV ms++[(.inr n,.int (k:Int))]:=by simp[mkV]
theorem uH(ms:List (Str×Nat)):(mkV ms).length=ms.length:=by unfold mkV;rw[F6]
theorem WtA.mono{F F':Hp}(s:aj F F'){v:V}{t:Wt}(h:WtA F v t):WtA F' v t:=by
 obtain⟨a,w,f,e,h1,h2,h3⟩:=h;exact⟨a,w,f,e,s _ _ h1,h2.mono s,h3.mono s⟩
theorem HdA.mono{F F':Hp}(s:aj F F'){v:V}{h:Str×Nat}(z:HdA F v h):HdA F' v h:=by
 obtain⟨a,e,h1⟩:=z;exact⟨a,e,s _ _ h1⟩
theorem TlA.mono{F F':Hp}(s:aj F F'){v:V}{ws:List Wk}(z:TlA F v ws):TlA F' v ws:=by
 obtain⟨a,e,h1⟩:=z;exact⟨a,e,h1.mono s⟩
structure ScA(G:Hp)(A:Sad)(c:Sc):Prop where
 nums:G A.na=some (.lst (c.nums.map V.str))
 titles:∃tvs,G A.ta=some (.lst tvs)/\aL (TlA G) tvs c.titles
 feet:∃kvs,G A.fa=some (.dK kvs)/\FtA G kvs c.feet
theorem ScA.mono{G G':Hp}(s:aj G G'){A:Sad}{c:Sc}(S:ScA G A c):ScA G' A c:=by
 obtain⟨h1,⟨tvs,h2,h3⟩,⟨kvs,h4,h5⟩⟩:=S;exact⟨s _ _ h1,⟨tvs,s _ _ h2,h3.imp λ_ _=>TlA.mono s⟩,⟨kvs,s _ _ h4,h5.mono s⟩⟩
structure StA(C:Addr)(G H:Hp)(A:Sad)(c:Sc)(σ:Ss):Prop where
 old:aj G H
 ins:H A.x=some (.ins C A.dx (fsS A (σ.fs:Int) σ.lp σ.bh))
 cl:ScA G A c
 fr:∀b∈A.os,G b=none
 ne:A.wa≠A.ha
 words:∃wvs,H A.wa=some (.lst wvs)/\aL (WtA (hid A.os H)) wvs σ.ws
 marks:H A.ma=some (.dK (mkV σ.ms))
 heads:∃hvs,H A.ha=some (.lst hvs)/\aL (HdA (hid A.os H)) hvs σ.hs
section
variable {C:Addr}{G H H':Hp}{A:Sad}{c:Sc}{σ:Ss}
theorem StA.same(S:StA C G H A c σ)(m:aj H H'):StA C G H' A c σ:=by
 obtain⟨w1,w2,w3⟩:=S.words;obtain⟨h1,h2,h3⟩:=S.heads;exact⟨S.old.trans m,m _ _ S.ins,S.cl,S.fr,S.ne,⟨w1,m _ _ w2,w3.imp λ_ _=>WtA.mono (bb m)⟩,m _ _ S.marks,⟨h1,m _ _ h2,h3.imp λ_ _=>HdA.mono (bb m)⟩⟩
theorem StA.nt(S:StA C G H A c σ):∀b∈A.os,∀us,H b≠some (.tup us):=λb hb=>by
 obtain⟨w1,w2,w3⟩:=S.words;obtain⟨h1,h2,h3⟩:=S.heads;simp only[Sad.os,Hd,GZ,or_false]at hb;rcases hb with rfl|rfl|rfl|rfl
 .exact gj S.ins (λus z=>by cases z)
 .exact gj w2 (λus z=>by cases z)
 .exact gj S.marks (λus z=>by cases z)
 .exact gj h2 (λus z=>by cases z)
theorem StA.nes(S:StA C G H A c σ):A.x≠A.wa/\A.x≠A.ma/\A.x≠A.ha/\A.wa≠A.ma/\A.ma≠A.ha:=by
 obtain⟨w1,w2,w3⟩:=S.words;obtain⟨h1,h2,h3⟩:=S.heads;have i:=S.ins;have k:=S.marks;refine⟨λz=>?_,λz=>?_,λz=>?_,λz=>?_,λz=>?_⟩
 .rw[z,w2]at i;cases i
 .rw[z,k]at i;cases i
 .rw[z,h2]at i;cases i
 .rw[z,k]at w2;cases w2
 .rw[z,h2]at k;cases k
theorem Ce:A.x∈A.os:=by simp[Sad.os]
theorem CQ:A.wa∈A.os:=by simp[Sad.os]
theorem v_:A.ma∈A.os:=by simp[Sad.os]
theorem zy:A.ha∈A.os:=by simp[Sad.os]
theorem StA.flds(S:StA C G H A c σ)(fs':Nat)(lp':Int)(bh':Bool):StA C G (upd H A.x (.ins C A.dx (fsS A (fs':Int) lp' bh'))) A c { σ with fs:=fs',lp:=lp',bh:=bh' }:=by
 obtain⟨w1,w2,w3⟩:=S.words;obtain⟨h1,h2,h3⟩:=S.heads;obtain⟨n1,n2,n3,n4,n5⟩:=S.nes;have e:hid A.os (upd H A.x (.ins C A.dx (fsS A (fs':Int) lp' bh')))=hid A.os H:=bw Ce;refine⟨aW S.old (S.fr _ Ce),ae,S.cl,S.fr,S.ne,⟨w1,?_,?_⟩,?_,⟨h1,?_,?_⟩⟩
 .rw[ak (GX n1)];exact w2
 .rw[e];exact w3
 .rw[ak (GX n2)];exact S.marks
 .rw[ak (GX n3)];exact h2
 .rw[e];exact h3
theorem StA.mark(S:StA C G H A c σ)(n:Str)(k:Nat):StA C G (upd H A.ma (.dK (mkV (σ.ms++[(n,k)])))) A c { σ with ms:=σ.ms++[(n,k)] }:=by
 obtain⟨w1,w2,w3⟩:=S.words;obtain⟨h1,h2,h3⟩:=S.heads;obtain⟨n1,n2,n3,n4,n5⟩:=S.nes;have e:hid A.os (upd H A.ma (.dK (mkV (σ.ms++[(n,k)]))))=hid A.os H:=bw v_;refine⟨aW S.old (S.fr _ v_),?_,S.cl,S.fr,S.ne,⟨w1,?_,?_⟩,ae,⟨h1,?_,?_⟩⟩
 .rw[ak n2];exact S.ins
 .rw[ak n4];exact w2
 .rw[e];exact w3
 .rw[ak (GX n5)];exact h2
 .rw[e];exact h3
theorem uI{os:List Addr}(nt:∀b∈os,∀us,H b≠some (.tup us)){l:Addr}{ws:List Wk}(n:l∉os)(h:cQ H l ws):cQ (hid os H) l ws:=by
 obtain⟨vs,h1,h2⟩:=h;exact⟨vs,bn n h1,nR nt h2⟩
theorem uJ{os:List Addr}(nt:∀b∈os,∀us,H b≠some (.tup us)){a:Addr}{us:List V}(h:H a=some (.tup us)):hid os H a=some (.tup us):=bn (λz=>nt a z us h) h
theorem StA.word(S:StA C G H A c σ){wvs:List V}(hw:H A.wa=some (.lst wvs)){v:V}{t:Wt}{a w f:Addr}(e1:v=.ref a)(h1:H a=some (.tup [.int t.lead,.bl t.kept,.ref w,.ref f]))(h2:WkA H (.ref w) t.w)(h3:cQ H f t.foot)(n1:f≠A.wa)(n2:f≠A.ha):StA C G (upd H A.wa (.lst (wvs++[v]))) A c { σ with ws:=σ.ws++[t] }:=by
 obtain⟨w1,w2,w3⟩:=S.words;obtain⟨hv,hh2,hh3⟩:=S.heads;obtain⟨m1,m2,m3,m4,m5⟩:=S.nes;rw[hw]at w2;injection w2 with w2;injection w2 with w2;subst w2;have e:hid A.os (upd H A.wa (.lst (wvs++[v])))=hid A.os H:=bw CQ;have nf:f∉A.os:=λz=>by
  obtain⟨fv,hf,_⟩:=h3;simp only[Sad.os,Hd,GZ,or_false]at z;rcases z with z|z|z|z
  .rw[z,S.ins]at hf;cases hf
  .exact n1 z
  .rw[z,S.marks]at hf;cases hf
  .exact n2 z
 refine⟨aW S.old (S.fr _ CQ),?_,S.cl,S.fr,S.ne,⟨wvs++[v],ae,?_⟩,?_,⟨hv,?_,?_⟩⟩
 .rw[ak m1];exact S.ins
 .rw[e];obtain⟨b,z1,z2⟩:=h2;exact w3.snoc ⟨a,w,f,e1,uJ S.nt h1,⟨b,z1,uJ S.nt z2⟩,uI S.nt nf h3⟩
 .rw[ak (GX m4)];exact S.marks
 .rw[ak (GX S.ne)];exact hh2
 .rw[e];exact hh3
theorem StA.headp(S:StA C G H A c σ){hvs:List V}(hw:H A.ha=some (.lst hvs)){a:Addr}{n:Str}{k:Nat}(h1:H a=some (.tup [.str n,.int (k:Int)])):StA C G (upd H A.ha (.lst (hvs++[.ref a]))) A c { σ with hs:=σ.hs++[(n,k)] }:=by
 obtain⟨w1,w2,w3⟩:=S.words;obtain⟨hv,hh2,hh3⟩:=S.heads;obtain⟨m1,m2,m3,m4,m5⟩:=S.nes;rw[hw]at hh2;injection hh2 with hh2;injection hh2 with hh2;subst hh2;have e:hid A.os (upd H A.ha (.lst (hvs++[.ref a])))=hid A.os H:=bw zy;refine⟨aW S.old (S.fr _ zy),?_,S.cl,S.fr,S.ne,⟨w1,?_,?_⟩,?_,⟨hvs++[.ref a],ae,?_⟩⟩
 .rw[ak m3];exact S.ins
 .rw[ak S.ne];exact w2
 .rw[e];exact w3
 .rw[ak m5];exact S.marks
 .rw[e];exact hh3.snoc ⟨a,rfl,uJ S.nt h1⟩
theorem StA.re(S:StA C G H A c σ):StA C (hid A.os H) H A c σ:=
 ⟨bN,S.ins,S.cl.mono (jm S.old S.fr),(λb hb=>by unfold hid;rw[if_pos hb]),S.ne,S.words,S.marks,S.heads⟩
theorem StA.base{G':Hp}(S:StA C G' H A c σ)(m:aj G G')(cl:ScA G A c):StA C G H A c σ:=
 ⟨m.trans S.old,S.ins,cl,(λb hb=>m.free (S.fr b hb)),S.ne,S.words,S.marks,S.heads⟩
theorem StA.fresh(S:StA C G H A c σ){p:Addr}(hp:H p=none):p∉A.os:=λz=>by
 obtain⟨w1,w2,w3⟩:=S.words;obtain⟨h1,h2,h3⟩:=S.heads;simp only[Sad.os,Hd,GZ,or_false]at z;rcases z with rfl|rfl|rfl|rfl
 .rw[S.ins]at hp;cases hp
 .rw[w2]at hp;cases hp
 .rw[S.marks]at hp;cases hp
 .rw[h2]at hp;cases hp
theorem StA.out(S:StA C G H A c σ):aj G (hid A.os H):=jm S.old S.fr
end
theorem r9{β:Type}{n:Str}{v:β}:∀{l:List (Str×β)},lkS n l=some v->(n,v)∈l
 |[],h=>by cases h
 |(m,k)::r,h=>by
  by_cases c:m=n
  .have e:lkS n ((m,k)::r)=some k:=if_pos c;rw[e]at h;cases h;rw[c];exact Gd
  .have e:lkS n ((m,k)::r)=lkS n r:=if_neg c;rw[e]at h;exact Gc _ (r9 h)
def oz(tw nf tl nm:Addr):Xc->Addr
 |.twice=>tw
 |.nofoot=>nf
 |.toolong=>tl
 |.nomark=>nm
structure Bd(σ:Ss)(n:Nat):Prop where
 ws:σ.ws.length<=400
 fs:σ.fs<=σ.ws.length
 ms:σ.ms.length+n<=1000000
theorem xp{σ σ':Ss}{ld:Int}{w:Wk}{f:List Wk}(h:gS σ ld w f=.ok σ'):σ.ws.length≠400/\σ'.ws.length=σ.ws.length+1/\σ'.fs=σ.fs/\σ'.ms=σ.ms/\σ'.hs=σ.hs:=by
 unfold gS at h;by_cases c:σ.ws.length=400
 .rw[if_pos c]at h;cases h
 .rw[if_neg c]at h;cases h;exact⟨c,by simp,rfl,rfl,rfl⟩
theorem vg{c:Sc}{σ σ':Ss}{ld:Int}{w:Wk}(h:cM c σ ld w=.ok σ'):σ.ws.length≠400/\σ'.ws.length=σ.ws.length+1/\σ'.fs<=σ.fs+1/\σ'.ms=σ.ms:=by
 unfold cM at h;by_cases k:w.1=.foot
 .rw[if_pos k]at h;unfold i7 at h;cases hv:lkS (rest w.2) c.feet with
  |none=>rw[hv]at h;cases h
  |some g =>
   rw[hv]at h;obtain⟨h1,h2,h3,h4,h5⟩:=xp h;exact⟨h1,h2,by rw[h3];exact Gh _,h4⟩
 .rw[if_neg k]at h;obtain⟨h1,h2,h3,h4,h5⟩:=xp h;exact⟨h1,h2,by rw[h3];exact HN _,h4⟩
theorem sR{c:Sc}{byh:Bool}:∀{ws:List Wk} {σ σ':Ss} {ld:Int} (hm:∀w∈ws,w.1≠.mark),ca c σ ld byh ws=.ok σ'->(σ.ws.length<=400->σ'.ws.length<=400)/\(σ.fs<=σ.ws.length->σ'.fs<=σ'.ws.length)/\σ'.ms=σ.ms
 |[],σ,σ',ld,_,h=>by cases h;exact⟨id,id,rfl⟩
 |w::r,σ,σ',ld,hm,h=>by
  have h:(if w.1=.mark then(match d7 σ (rest w.2)with|.error x=>.error x|.ok s'=>ca c s' ld byh r)else(match cM c σ ld w with|.error x=>.error x|.ok s'=>ca c { s' with bh:=byh } 0 byh r))=Except.ok σ':=h
  rw[if_neg (hm w Gd)]at h;cases e:cM c σ ld w with
  |error x=>rw[e]at h;cases h
  |ok s' =>
   rw[e]at h;obtain⟨b1,b2,b3,b4⟩:=vg e;obtain⟨i1,i2,i3⟩:=sR (λw hw=>hm w (Gc _ hw)) h;exact⟨λz=>i1 (by show s'.ws.length<=400;omega),λz=>i2 (by show s'.fs<=s'.ws.length;omega),i3.trans b4⟩
def GWk(w:Wk):Prop:=(w.1≠.entry/\∃n:List Nat,n.length<=200/\(∀d∈n,d<127)/\w.2=.str (tx n))\/(w.1=.entry/\∃k:Nat,w.2=.int (k:Int))
structure kj(c:Sc):Prop where
 few:c.nums.length<=200
 tl:c.titles.length=c.nums.length
 tw:∀t∈c.titles,t.length<=130/\∀w∈t,GWk w
 fl:c.feet.length<=200
 fw:∀p∈c.feet,p.2.length<=39/\∀w∈p.2,GWk w/\w.1≠.mark/\w.1≠.foot
 nl:∀n∈c.nums,∃l:List Nat,n=tx l/\l.length<=100
 nc:∀l:List Nat,tx l∈c.nums->∀d∈l,d<127
def qx(c:Sc)(w:Wk):Prop:=(w.1=.plain/\∃n:List Nat,w.2=.str (tx n))\/(w.1=.entry/\∃k:Nat,w.2=.int (k:Int)/\k<c.nums.length)\/(fZ w.1=true/\∃n:List Nat,n.length<=200/\(∀d∈n,d<127)/\w.2=.str (tx n))
structure sS(c:Sc)(σ:Ss):Prop where
 ws:∀t∈σ.ws,qx c t.w/\t.foot.length<=40/\∀w∈t.foot,qx c w/\(w.1=.plain\/∃p∈c.feet,w∈p.2)
 ms:∀m∈σ.ms,∃l:List Nat,m.1=tx l/\l.length<=200/\∀d∈l,d<127
theorem FtA.get{F:Hp}:∀{vs:List (Key×V)} {ws:List (Str×List Wk)} {i:Nat} {p:Key×V},FtA F vs ws->vs[i]?=some p->∃q,ws[i]?=some q/\FtE F p q
 |v::_,w::_,0,x,h,e=>by cases e;exact⟨w,rfl,h.1⟩
 |_::_,_::_,i+1,x,h,e=>FtA.get (i:=i) h.2 (by simpa using e)
 |[],[],_,_,_,e=>by simp at e
theorem AZ{H:Hp}{a:Addr}{o o':HO}:upd (upd H a o) a o'=upd H a o':=by
 funext b
 by_cases e:b=a
 .subst e;rw[ae,ae]
 .rw[ak e,ak e,ak e]
theorem Cf{H:Hp}{a:Addr}{o:HO}(h:H a=some o):upd H a o=H:=by
 funext b
 by_cases e:b=a
 .subst e;rw[ae,h]
 .rw[ak e]
theorem A1{H H2:Hp}{a:Addr}{o:Obj}{kvs:List (Key×V)}(h:H a=some (.dK kvs))(s:aj (upd H a (.frz o (.dK kvs))) H2):aj H (upd H2 a (.dK kvs)):=λb u z=>by
 by_cases e:b=a
 .subst e;rw[ae];rw[h]at z;exact z
 .rw[ak e];exact s _ _ (by rw[ak e];exact z)
theorem Fh(k:Kw):inV (.str k.s) [.str (PySem.Str.ofString "number"),.str (PySem.Str.ofString "page"),.str (PySem.Str.ofString "row")]=fZ k:=by
 cases k<;>decide +kernel
def lB(s:Ss)(w:Wk):V×V:=
 match w.1 with
 |.plain=>(.str "text",.str (rest w.2))
 |.entry=>(.str "page",.int (match w.2 with|.int k=>((s.hs.getD k.toNat (Hk,0)).2:Nat)|_=>0))
 |.number=>(.str "text",.str (f7 (jw s (rest w.2)) "0" s.hs))
 |k=>(.str k.s,.int (jw s (rest w.2):Nat))
def SyA(F:Hp)(v:V)(s:V×V):Prop:=∃a,v=.ref a/\F a=some (.tup [s.1,s.2])
theorem SyA.mono{F F':Hp}(m:aj F F'){v:V}{s:V×V}(h:SyA F v s):SyA F' v s:=by
 obtain⟨a,e,h⟩:=h;exact⟨a,e,m _ _ h⟩
def TwA(σ:Ss)(F:Hp)(v:V)(t:Wt×Addr):Prop:=∃a s us,v=.ref a/\F a=some (.tup [.int t.1.lead,.bl t.1.kept,.ref s,.ref t.2])/\SyA F (.ref s) (lB σ t.1.w)/\F t.2=some (.lst us)/\aL (SyA F) us (t.1.foot.map (lB σ))
theorem TwA.mono{σ:Ss}{F F':Hp}(m:aj F F'){v:V}{t:Wt×Addr}(h:TwA σ F v t):TwA σ F' v t:=by
 obtain⟨a,s,us,e,h1,h2,h3,h4⟩:=h;exact⟨a,s,us,e,m _ _ h1,h2.mono m,m _ _ h3,h4.imp λ_ _=>SyA.mono m⟩
def kQ(σ:Ss)(w:Wk):Prop:=(w.1=.plain/\∃n:List Nat,w.2=.str (tx n))\/(w.1=.entry/\∃k:Nat,w.2=.int (k:Int)/\k<σ.hs.length)\/(fZ w.1=true/\∃(n:List Nat) (k:Nat),w.2=.str (tx n)/\lkS (tx n) σ.ms=some k)
def CS(σ:Ss):Prop:=∀t∈σ.ws,kQ σ t.w/\t.foot.length<=40/\∀w∈t.foot,kQ σ w
structure kR(H F:Hp)(σ:Ss)(p:Addr)(vs:List V)(fs:List Addr):Prop where
 at_:F p=some (.lst vs)
 new:H p=none
 len:fs.length=σ.ws.length
 nd:fs.Nodup
 fr:∀f∈fs,H f=none/\f≠p
 all:aL (TwA σ (hid [p] F)) vs (σ.ws.zip fs)
theorem ftX{F F':Hp}(m:∀l ws,cQ F l ws->cQ F' l ws):∀{vs:List (Key×V)} {ws:List (Str×List Wk)},FtA F vs ws->FtA F' vs ws
 |[],[],_=>trivial
 |_::_,_::_,⟨⟨h1,l,h2,h3⟩,h⟩=>⟨⟨h1,l,h2,m _ _ h3⟩,ftX m h⟩
theorem FrX.get{H H':Hp}{x b:Addr}{u:HO}(f:FrX H H' x)(h:H b=some u)(n:b≠x):H' b=some u:=f b u n h
def RnW(c:Sc)(w:Wk):Prop:=GWk w/\(w.1=.entry->∃k:Nat,w.2=.int (k:Int)/\k<c.nums.length)
theorem RnW.ws{c:Sc}{w:Wk}(h:RnW c w)(n1:w.1≠.mark)(n2:w.1≠.foot):qx c w:=by
 obtain⟨g,en⟩:=h;rcases g with⟨ne,n,l1,l2,e⟩|⟨e,_⟩
 .cases hk:w.1 with
  |plain=>exact .inl ⟨hk,n,e⟩
  |entry=>exact absurd hk ne
  |mark=>exact absurd hk n1
  |foot=>exact absurd hk n2
  |number=>exact .inr (.inr ⟨by rw[hk];rfl,n,l1,l2,e⟩)
  |page=>exact .inr (.inr ⟨by rw[hk];rfl,n,l1,l2,e⟩)
  |row=>exact .inr (.inr ⟨by rw[hk];rfl,n,l1,l2,e⟩)
 .exact .inr (.inl ⟨e,en e⟩)
structure uK(c:Sc):Prop where
 fw:∀p∈c.feet,p.2.length<=39/\∀w∈p.2,qx c w
structure StB(c:Sc)(σ σ':Ss)(n:Nat):Prop where
 ok:sS c σ->sS c σ'
 ms:σ'.ms.length<=σ.ms.length+n
 ws:σ.ws.length<=400->σ'.ws.length<=400
 fs:σ.fs<=σ.ws.length->σ'.fs<=σ'.ws.length
theorem StB.refl{c:Sc}{σ:Ss}{n:Nat}:StB c σ σ n:=⟨id,IB _ _,id,id⟩
theorem StB.trans{c:Sc}{σ σ1 σ2:Ss}{n m:Nat}(a:StB c σ σ1 n)(b:StB c σ1 σ2 m):StB c σ σ2 (n+m):=⟨λh=>b.ok (a.ok h),by have:=a.ms;have:=b.ms;omega,λh=>b.ws (a.ws h),λh=>b.fs (a.fs h)⟩
theorem StB.more{c:Sc}{σ σ1:Ss}{n m:Nat}(a:StB c σ σ1 n)(h:n<=m):StB c σ σ1 m:=⟨a.ok,by have:=a.ms;omega,a.ws,a.fs⟩
theorem yQ{c:Sc}{σ σ':Ss}{ld:Int}{w:Wk}{f:List Wk}(h:gS σ ld w f=.ok σ')(hw:qx c w)(hf:f.length<=40/\∀w∈f,qx c w/\(w.1=.plain\/∃p∈c.feet,w∈p.2)):(sS c σ->sS c σ')/\σ'.ms=σ.ms/\σ'.hs=σ.hs/\σ'.fs=σ.fs/\σ'.ws.length=σ.ws.length+1/\σ.ws.length≠400:=by
 unfold gS at h;by_cases e:σ.ws.length=400
 .rw[if_pos e]at h;cases h
 .rw[if_neg e]at h;cases h;refine⟨λs=>⟨?_,s.ms⟩,rfl,rfl,rfl,by simp,e⟩;intro t ht;rcases List.mem_append.mp ht with ht|ht
  .exact s.ws t ht
  .rw[List.mem_singleton.mp ht];exact⟨hw,hf⟩
theorem Cg{c:Sc}(fo:uK c){σ σ':Ss}{ld:Int}{w:Wk}(h:cM c σ ld w=.ok σ')(hw:RnW c w)(nm:w.1≠.mark):StB c σ σ' 0/\σ'.hs=σ.hs:=by
 unfold cM at h;by_cases k:w.1=.foot
 .rw[if_pos k]at h;unfold i7 at h;cases hv:lkS (rest w.2) c.feet with
  |none=>rw[hv]at h;cases h
  |some g =>
   rw[hv]at h;have gm:=fo.fw _ (r9 hv);have pl:qx c (.plain,.str (lx (σ.fs+1))):=.inl ⟨rfl,(lx (σ.fs+1)).cps.toList,by rw[<-zp]⟩;obtain⟨h1,h2,h3,h4,h5,h6⟩:=yQ (c:=c) h pl ⟨by simp only[F8];have:=gm.1;dsimp only at this;omega,λx hx=>by
    rcases List.mem_cons.mp hx with rfl|hx
    .exact⟨pl,.inl rfl⟩
    .exact⟨gm.2 x hx,.inr ⟨_,r9 hv,hx⟩⟩⟩
   refine⟨⟨λs=>h1 ⟨s.ws,s.ms⟩,by rw[h2];exact Gh _,λz=>?_,λz=>?_⟩,h3⟩
   .have:σ.ws.length≠400:=h6;have:σ'.ws.length=σ.ws.length+1:=h5;omega
   .have:σ'.ws.length=σ.ws.length+1:=h5;have:σ'.fs=σ.fs+1:=h4;omega
 .rw[if_neg k]at h;obtain⟨h1,h2,h3,h4,h5,h6⟩:=yQ (c:=c) h (hw.ws nm k) ⟨by simp,by simp⟩;exact⟨⟨h1,by rw[h2];exact Gh _,λz=>by omega,λz=>by omega⟩,h3⟩
theorem oA{c:Sc}{σ:Ss}{ld:Int}{byh:Bool}{w:Wk}{r:List Wk}:ca c σ ld byh (w::r)=(if w.1=.mark then(match d7 σ (rest w.2)with|.error x=>.error x|.ok s'=>ca c s' ld byh r)else(match cM c σ ld w with|.error x=>.error x|.ok s'=>ca c { s' with bh:=byh } 0 byh r)):=rfl
theorem nU{c:Sc}(fo:uK c){byh:Bool}:∀{ws:List Wk} {σ σ':Ss} {ld:Int},(∀w∈ws,RnW c w)->ca c σ ld byh ws=.ok σ'->StB c σ σ' ws.length/\σ'.hs=σ.hs
 |[],σ,σ',ld,_,h=>by cases h;exact⟨.refl,rfl⟩
 |w::r,σ,σ',ld,hw,h=>by
  rw[oA]at h;have hr:∀x∈r,RnW c x:=λx hx=>hw x (Gc _ hx);have h0:=hw w Gd;by_cases k:w.1=.mark
  .rw[if_pos k]at h;cases e:d7 σ (rest w.2)with
   |error x=>rw[e]at h;cases h
   |ok s' =>
    rw[e]at h;obtain⟨b,hs⟩:=nU fo hr h;unfold d7 at e;by_cases z:(lkS (rest w.2) σ.ms).isSome=true
    .rw[if_pos z]at e;cases e
    .rw[if_neg z]at e;cases e;have b0:StB c σ { σ with ms:=σ.ms++[(rest w.2,σ.ws.length)] } 1:=⟨λs=>⟨s.ws,λm hm=>by
      rcases List.mem_append.mp hm with hm|hm
      .exact s.ms m hm
      .rw[List.mem_singleton.mp hm];rcases h0.1 with⟨_,n,l1,l2,e⟩|⟨e,_⟩
       .exact⟨n,by rw[e];rfl,l1,l2⟩
       .rw[k]at e;cases e⟩,by simp,id,id⟩
     exact⟨(b0.trans b).more (by simp only[F8];omega),hs⟩
  .rw[if_neg k]at h;cases e:cM c σ ld w with
   |error x=>rw[e]at h;cases h
   |ok s' =>
    rw[e]at h;obtain⟨b1,h1⟩:=Cg fo e h0 k;obtain⟨b2,h2⟩:=nU fo hr h;have b3:StB c s' { s' with bh:=byh } 0:=⟨λs=>⟨s.ws,s.ms⟩,Gh _,id,id⟩;exact⟨((b1.trans b3).trans b2).more (by simp only[F8];omega),h2.trans h1⟩
def RdW(w:Wk):Prop:=GWk w/\w.1≠.entry
def TgG:Tg->Prop
 |.head n ws=>1<=n/\n<=3/\ws.length<=130/\∀w∈ws,RdW w
 |.par ws=>ws.length<=600/\∀w∈ws,RdW w
 |_=>True
def FtG(feet:List (Str×List Wk)):Prop:=feet.length<=200/\∀p∈feet,p.2.length<=39/\∀w∈p.2,RdW w/\w.1≠.mark/\w.1≠.foot
def gZ(c:Sc)(things:List Tg):Except Xc Ss:=
 match ju c ss0 things with
 |.error e=>.error e
 |.ok σ=>match eG c σ with
  |some e=>.error e
  |none=>.ok σ
theorem RdW.run{c:Sc}{w:Wk}(h:RdW w):RnW c w:=⟨h.1,λz=>absurd z h.2⟩
theorem kj.run{c:Sc}(so:kj c)(st:∀t∈c.titles,∀w∈t,RdW w){k:Nat}(hk:k<c.nums.length):(∀w∈((.plain,.str (c.nums.getD k Hk))::c.titles.getD k []:List Wk),RnW c w)/\(∀w∈du c k (c.nums.getD k Hk),RnW c w)/\(c.titles.getD k []).length<=130:=by
 have hn:c.nums[k]?=some (c.nums.getD k Hk):=by rw[Gu,Ga hk];rfl
 have ht:c.titles[k]?=some (c.titles.getD k []):=by rw[Gu,Ga (by rw[so.tl];exact hk)];rfl
 obtain⟨l,e,ll⟩:=so.nl _ (Ge hn);have p:RnW c (.plain,.str (c.nums.getD k Hk)):=⟨.inl ⟨by show Kw.plain≠Kw.entry;decide,l,by omega,so.nc l (by rw[<-e];exact Ge hn),by rw[e]⟩,λz=>by cases z⟩;have tw:=so.tw _ (Ge ht);have tr:=st _ (Ge ht);refine⟨λw hw=>?_,λw hw=>?_,tw.1⟩
 .rcases List.mem_cons.mp hw with rfl|hw
  .exact p
  .exact(tr w hw).run
 .unfold du at hw;rcases List.mem_cons.mp hw with rfl|hw
  .exact p
  .rcases List.mem_append.mp hw with hw|hw
   .exact(tr w (List.mem_filter.mp hw).1).run
   .rw[List.mem_singleton.mp hw];exact⟨.inr ⟨rfl,k,rfl⟩,λ_=>⟨k,rfl,hk⟩⟩
theorem xq{c:Sc}(so:kj c)(fo:uK c)(st:∀t∈c.titles,∀w∈t,RdW w):∀{ns:List Str} {σ σ':Ss} {ld:Int} {k:Nat},c.nums.drop k=ns->gi c σ ld k ns=.ok σ'->StB c σ σ' 0/\σ'.hs=σ.hs
 |[],σ,σ',ld,k,_,h=>by cases h;exact⟨.refl,rfl⟩
 |n::r,σ,σ',ld,k,hd,h=>by
  have hk:k<c.nums.length:=by
   by_cases z:k<c.nums.length
   .exact z
   .rw[Ih (by omega)]at hd;cases hd
  have e0:c.nums.getD k Hk=n:=by
   rw[GT hk]at hd;injection hd with hd _;rw[Gu,Ga hk,hd];rfl
  have hd2:c.nums.drop (k+1)=r:=by
   rw[GT hk]at hd;injection hd
  have h:(match ca c σ ld false (du c k n)with|.error x=>.error x|.ok s'=>gi c s' 1 (k+1) r)=Except.ok σ':=h
  cases e:ca c σ ld false (du c k n)with
  |error x=>rw[e]at h;cases h
  |ok s' =>
   rw[e]at h;have rn:=(so.run st hk).2.1;rw[e0]at rn;obtain⟨b1,h1⟩:=nU fo rn e;obtain⟨b2,h2⟩:=xq so fo st hd2 h;have nm:=sR (λw hw=>?_) e
   .exact⟨⟨λs=>b2.ok (b1.ok s),by have:=b2.ms;rw[nm.2.2]at this;exact this,λz=>b2.ws (b1.ws z),λz=>b2.fs (b1.fs z)⟩,h2.trans h1⟩
   .unfold du at hw;rcases List.mem_cons.mp hw with rfl|hw
    .show Kw.plain≠Kw.mark;decide
    .rcases List.mem_append.mp hw with hw|hw
     .simpa using(List.mem_filter.mp hw).2
     .rw[List.mem_singleton.mp hw];show Kw.entry≠Kw.mark;decide
def b9:Tg->Nat
 |.head _ _=>1
 |_=>0
theorem A2{c:Sc}(so:kj c)(fo:uK c)(st:∀t∈c.titles,∀w∈t,RdW w){σ σ':Ss}{t:Tg}(h:jn c σ t=.ok σ')(tg:TgG t)(hk:b9 t=1->σ.hs.length<c.nums.length):StB c σ σ' 600/\σ'.hs.length=σ.hs.length+b9 t:=by
 cases t with
 |page=>cases h;exact⟨⟨λs=>⟨s.ws,s.ms⟩,IB _ _,id,id⟩,rfl⟩
 |odd=>cases h;exact⟨⟨λs=>⟨s.ws,s.ms⟩,IB _ _,id,id⟩,rfl⟩
 |lst =>
  obtain⟨b,e⟩:=xq so fo st (k:=0) rfl h;exact⟨b.more (by omega),by rw[e];rfl⟩
 |par ws =>
  obtain⟨b,e⟩:=nU fo (λw hw=>(tg.2 w hw).run) h;exact⟨b.more tg.1,by rw[e];rfl⟩
 |head n ws =>
  have hk:=hk rfl;obtain⟨r1,r2,r3⟩:=so.run st hk;obtain⟨b,e⟩:=nU fo r1 h;have b0:StB c σ { σ with hs:=σ.hs++[(c.nums.getD σ.hs.length Hk,σ.ws.length)] } 0:=⟨λs=>⟨s.ws,s.ms⟩,Gh _,id,id⟩;exact⟨(b0.trans b).more (by simp only[F8];omega),by rw[e];simp[b9]⟩
theorem Et{c:Sc}{σ:Ss}(ss:sS c σ)(fo:uK c)(hl:σ.hs.length=c.nums.length)(ck:eG c σ=none):CS σ:=by
 have nb:∀w∈σ.ws.map (·.w)++c.feet.flatMap (·.2),jv σ w=false:=by
  unfold eG at ck;by_cases a:(σ.ms.any λm=>m.2=σ.ws.length)=true
  .rw[if_pos a]at ck;cases ck
  rw[if_neg a]at ck;by_cases b:((σ.ws.map (·.w)++c.feet.flatMap (·.2)).any (jv σ))=true
  .rw[if_pos b]at ck;cases ck
  rw[Hq,HW]at b;intro w hw;exact Bool.eq_false_iff.mpr (b w hw)
 have one:∀w,qx c w->(fZ w.1=true->jv σ w=false)->kQ σ w:=λw h z=>by
  rcases h with h|⟨h,k,e,kl⟩|⟨h,n,l1,l2,e⟩
  .exact .inl h
  .exact .inr (.inl ⟨h,k,e,by rw[hl];exact kl⟩)
  .have z:=z h;unfold jv at z;rw[h,e]at z;change (true&&(lkS (tx n) σ.ms).isNone)=false at z;cases hv:lkS (tx n) σ.ms with
   |none=>rw[hv]at z;cases z
   |some k=>exact .inr (.inr ⟨h,n,k,e,hv⟩)
 intro t ht;obtain⟨h1,h2,h3⟩:=ss.ws t ht;refine⟨one _ h1 λ_=>nb _ (HC _ (Ib ht)),h2,λw hw=>one _ (h3 w hw).1 λz=>?_⟩;rcases(h3 w hw).2 with e|⟨p,hp,hw⟩
 .rw[e]at z;cases z
 .exact nb _ (GN _ (List.mem_flatMap.mpr ⟨p,hp,hw⟩))
theorem kR.base{G H F:Hp}{σ:Ss}{p:Addr}{vs:List V}{fs:List Addr}(T:kR H F σ p vs fs)(s:aj G H):kR G F σ p vs fs:=⟨T.at_,s.free T.new,T.len,T.nd,λf hf=>⟨s.free (T.fr f hf).1,(T.fr f hf).2⟩,T.all⟩
theorem kR.same{H F F':Hp}{σ:Ss}{p:Addr}{vs:List V}{fs:List Addr}(T:kR H F σ p vs fs)(s:aj F F'):kR H F' σ p vs fs:=⟨s _ _ T.at_,T.new,T.len,T.nd,T.fr,T.all.imp λ_ _=>TwA.mono (bb s)⟩
end Tl

namespace L2
open PySem PySem.Spec PyProof.Rows Tl
theorem Ch{X:Cx}{K:PySem.W.Frag}{tg l:Expr}{tl:TE}(hK:X.K=K)(hl:PE X l tl):PI X tg l (CJ K tl):=by
 subst hK;exact bj hl
theorem oB{K:PySem.W.Frag}{a:Addr}{xs:List V}{cv:St}{tc:TT}{te:TE}{Fin:List V->Hp->Prop}{H1:Hp}(Pv:Nat->List V->Hp->Prop)(h0:Pv 0 [] H1)(hl:∀i ys H,i<=xs.length->Pv i ys H->SqL K H a xs)(hz:∀i ys H,i<xs.length->Pv i ys H->ys.length<Gr)
  (hs:∀i x ys H,xs[i]?=some x->Pv i ys H->∃b u v,x=.ref b/\SqT K H b [u,v]/\tc (some u::some v::cv) H λb H3=>if b=true then te (some u::some v::cv) H3 λy H4=>Pv (i+1) (ys++[y]) H4 else Pv (i+1) ys H3)
  (hd:∀ys H,Pv xs.length ys H->Fin ys H):gLC (Itl K a) (g2 K) tc te 2 cv Fin H1:=by
 refine⟨λi m ys H=>m=xs.length-i/\i<=xs.length/\Pv i ys H,⟨xs.length,by simp,GV _,h0⟩,?_⟩;rintro i m ys H ⟨rfl,hi,p⟩;have q:=hl i ys H hi p;by_cases hlt:i<xs.length
 .refine .inr ⟨⟨xs,xs[i],q,by simp[hlt]⟩,hz i ys H hlt p,Pv (i+1),λys' H' p'=>⟨xs.length-(i+1),by omega,rfl,hlt,p'⟩,λv H' y own ho=>?_⟩;obtain⟨e,y⟩:=y;subst e;obtain⟨b,u,w,rfl,hb,h⟩:=hs i v ys _ (y xs q) p
  match own,ho with
  |[o1,o2],_=>exact⟨b,_,rfl,hb,rfl,_,_,rfl,_,_,rfl,rfl,⟨[some u,some w],rfl,rfl⟩,h⟩
 .have e:i=xs.length:=by omega
  subst e;exact .inl ⟨⟨xs,q,Gh _⟩,hd ys H p⟩
section
variable {X:Cx}{elt iter:Expr}{ifs:List Expr}{scope:Scope}{cl:List (Str×Addr)}{pos px py pz' tp:Pos}{k1:Nat}{x y z:Str}{caps:List Str}{js:List Nat}{tc:TT}{te:TE}{wi:TI}
def g3(K:PySem.W.Frag):TG:=BJ K 3 (rQ (bE 0) (rQ (bE 1) (rQ (bE 2) BI)))
theorem Eu(hc:X.calm=true)(L:oq X scope cl [x,y,z] caps js)(hi:PI X (.Tuple [.Name x px,.Name y py,.Name z pz'] k1 tp) iter wi)
  (ht:∀s H C ex,PTs (X.blk (x::y::z::caps) s H scope cl C ex) ifs tc)(he:∀s H C ex,PE (X.blk (x::y::z::caps) s H scope cl C ex) elt te)
  (hN:(x::y::z::caps).Nodup:=by decide +kernel)(hx:(Ia scope X.env).names.lookup x=some .local:=by with_unfolding_all rfl)(hy:(Ia scope X.env).names.lookup y=some .local:=by with_unfolding_all rfl)(hz:(Ia scope X.env).names.lookup z=some .local:=by with_unfolding_all rfl)
  (hs:∀x,Hy iter X.env x=pure x:=by intro _;rfl):PE X (.ListComp elt [⟨.Tuple [.Name x px,.Name y py,.Name z pz'] k1 tp,iter,ifs,0⟩] scope pos) (uB wi (g3 X.K) tc te 3 js):=
 xc (own:=[x,y,z]) (g:=g3 X.K) hc L hi (λs H C ex=>dZ hc (a7 (aM (i:=0) hN rfl (.inl hx) (.inr hx)) (a7 (aM (i:=1) hN rfl (.inl hy) (.inr hy)) (a7 (aM (i:=2) hN rfl (.inl hz) (.inr hz)) dt)))) ht he hs
end
theorem A3{X:Cx}{elt iter:Expr}{ifs:List Expr}{scope:Scope}{cl:List (Str×Addr)}{pos px py tp:Pos}{k1:Nat}{x y:Str}{caps:List Str}{js:List Nat}{tc:TT}{te:TE}{wi:TI}{k:Nat}{v:Str}{pv' spos:Pos}(hc:X.calm=true)(L:oq X scope cl [x,y] caps js)(hi:PI X (.Tuple [.Name x px,.Name y py] k1 tp) iter wi)
  (ht:∀s H C ex,PTs (X.blk (x::y::caps) s H scope cl C ex) ifs tc)(he:∀s H C ex,PE (X.blk (x::y::caps) s H scope cl C ex) elt te)
  (hXN:X.N.Nodup)(hk:X.N[k]?=some v)(hv:X.env.scope.names.lookup v=some .local)(hN:(x::y::caps).Nodup:=by decide +kernel)(hx:(Ia scope X.env).names.lookup x=some .local:=by with_unfolding_all rfl)(hy:(Ia scope X.env).names.lookup y=some .local:=by with_unfolding_all rfl)
  (hsw:IR (.ListComp elt [⟨.Tuple [.Name x px,.Name y py] k1 tp,iter,ifs,0⟩] scope pos) (some (.Name v pv')) spos.line X.env=pure true:=by rfl)
  (hs:∀x,Hy iter X.env x=pure x:=by intro _;rfl):PS X (.Assign [.Name v pv'] (.ListComp elt [⟨.Tuple [.Name x px,.Name y py] k1 tp,iter,ifs,0⟩] scope pos) spos) (pZ (uB wi (g2 X.K) tc te 2 js) (bE k)):=
 AE (own:=[x,y]) (g:=g2 X.K) hc L hi (λs H C ex=>dZ hc (a7 (aM (i:=0) hN rfl (.inl hx) (.inr hx)) (a7 (aM (i:=1) hN rfl (.inl hy) (.inr hy)) dt))) ht he hXN hk hv hsw hs
theorem Ci{K:PySem.W.Frag}{a:Addr}{xs:List V}{cv:St}{tc:TT}{te:TE}{Fin:List V->Hp->Prop}{H1:Hp}(Pv:Nat->List V->Hp->Prop)(h0:Pv 0 [] H1)(hl:∀i ys H,i<=xs.length->Pv i ys H->SqL K H a xs)(hz:∀i ys H,i<xs.length->Pv i ys H->ys.length<Gr)
  (hs:∀i x ys H,xs[i]?=some x->Pv i ys H->∃b u v w,x=.ref b/\SqT K H b [u,v,w]/\tc (some u::some v::some w::cv) H λb H3=>if b=true then te (some u::some v::some w::cv) H3 λy H4=>Pv (i+1) (ys++[y]) H4 else Pv (i+1) ys H3)
  (hd:∀ys H,Pv xs.length ys H->Fin ys H):gLC (Itl K a) (g3 K) tc te 3 cv Fin H1:=by
 refine⟨λi m ys H=>m=xs.length-i/\i<=xs.length/\Pv i ys H,⟨xs.length,by simp,GV _,h0⟩,?_⟩;rintro i m ys H ⟨rfl,hi,p⟩;have q:=hl i ys H hi p;by_cases hlt:i<xs.length
 .refine .inr ⟨⟨xs,xs[i],q,by simp[hlt]⟩,hz i ys H hlt p,Pv (i+1),λys' H' p'=>⟨xs.length-(i+1),by omega,rfl,hlt,p'⟩,λv H' y own ho=>?_⟩;obtain⟨e,y⟩:=y;subst e;obtain⟨b,u,w,z,rfl,hb,h⟩:=hs i v ys _ (y xs q) p
  match own,ho with
  |[o1,o2,o3],_=>exact⟨b,_,rfl,hb,rfl,_,_,rfl,_,_,rfl,_,_,rfl,rfl,⟨[some u,some w,some z],rfl,rfl⟩,h⟩
 .have e:i=xs.length:=by omega
  subst e;exact .inl ⟨⟨xs,q,Gh _⟩,hd ys H p⟩
end L2

namespace K58
open PySem PySem.Spec L2 Tl

def neW(ps:List (List Nat)):List (List Nat):=ps.filter λw=>!w.isEmpty
def c_(l:List Nat):List (List Nat):=neW (bx 32 l)
theorem uj(c:Nat):∀l:List Nat,((bx c l).map (·.length)).sum+(bx c l).length=l.length+1
 |[]=>rfl
 |x::r=>by
  have ih:=uj c r;rw[gq];by_cases hx:x=c
  .rw[if_pos hx,Gi,Ho,F8,F8];simp only[Gj];omega
  .rw[if_neg hx];cases e:bx c r with
   |nil=>exact absurd e (vc c r)
   |cons q qs =>
    rw[e]at ih;simp only[Gi,Ho,F8]at ih⊢;omega
theorem lC{ls:List (List Nat)}{i:Nat}{y:V}(h:((ls.map tx).map V.str)[i]?=some y):∃w,ls[i]?=some w/\y=V.str (tx w):=by
 rw[GA,GA]at h;cases e:ls[i]? with
 |none=>rw[e]at h;cases h
 |some w=>rw[e]at h;exact⟨w,rfl,(GU h).symm⟩
theorem Cj(ps:List (List Nat))(w:List Nat):neW (ps++[w])=if w=[]then neW ps else neW ps++[w]:=by
 unfold neW;rw[GY];cases w with
 |nil=>simp
 |cons a r=>simp

def isL(c:Nat):Bool:=decide (97<=c/\c<=122)
def isF(c:Nat):Bool:=decide (48<=c/\c<=57)
def LL:List Nat:=[97,98,99,100,101,102,103,104,105,106,107,108,109,110,111,112,113,114,115,116,117,118,119,120,121,122]
def FF:List Nat:=[48,49,50,51,52,53,54,55,56,57]
theorem FQ:(PySem.Str.ofString "abcdefghijklmnopqrstuvwxyz")=tx LL:=by decide +kernel
theorem FR:(PySem.Str.ofString "0123456789")=tx FF:=by decide +kernel
theorem Fi:(PySem.Str.ofString "abcdefghijklmnopqrstuvwxyz0123456789")=tx (LL++FF):=by decide +kernel
theorem A4(c:Nat):decide (c∈LL)=isL c:=by
 by_cases h:c<123
 .have:∀c<123,decide (c∈LL)=isL c:=by decide +kernel
  exact this c h
 .have h1:c∉LL:=λhm=>h ((show ∀x∈LL,x<123 by decide) c hm);unfold isL;rw[decide_eq_false h1,decide_eq_false (by omega)]
theorem A5(c:Nat):decide (c∈FF)=isF c:=by
 by_cases h:c<123
 .have:∀c<123,decide (c∈FF)=isF c:=by decide +kernel
  exact this c h
 .have h1:c∉FF:=λhm=>h ((show ∀x∈FF,x<123 by decide) c hm);unfold isF;rw[decide_eq_false h1,decide_eq_false (by omega)]
theorem A6(c:Nat):(!(Hl (PySem.Str.ofString "abcdefghijklmnopqrstuvwxyz") ⟨#[c]⟩ 0 (PySem.Str.ofString "abcdefghijklmnopqrstuvwxyz").length 1).isEmpty)=isL c:=by rw[FQ,ua,A4]
theorem A7(c:Nat):(!(Hl (PySem.Str.ofString "0123456789") ⟨#[c]⟩ 0 (PySem.Str.ofString "0123456789").length 1).isEmpty)=isF c:=by rw[FR,ua,A5]
theorem DA(c:Nat):(!(Hl (PySem.Str.ofString "abcdefghijklmnopqrstuvwxyz0123456789") ⟨#[c]⟩ 0 (PySem.Str.ofString "abcdefghijklmnopqrstuvwxyz0123456789").length 1).isEmpty)=(isL c||isF c):=by
 rw[Fi,ua,<-A4,<-A5];by_cases h1:c∈LL
 .rw[decide_eq_true (HC _ h1),decide_eq_true h1];rfl
 .by_cases h2:c∈FF
  .rw[decide_eq_true (GN _ h2),decide_eq_true h2,Bool.or_true]
  .rw[decide_eq_false h1,decide_eq_false h2,decide_eq_false (λh=>(List.mem_append.mp h).elim h1 h2)];rfl
theorem DB{c:Nat}(h:isL c=true):isF c=false:=by
 unfold isL at h;have:=of_decide_eq_true h;exact decide_eq_false (by omega)
def bO:List Nat->Bool
 |[]=>false
 |c::r=>decide ((c::r).length<=12)&&(isL c&&(c::r).all λd=>isL d||isF d)
theorem vh{c:Nat}{r:List Nat}(h:¬ (c::r).length<=12):bO (c::r)=false:=by
 show(decide _&&_)=false;rw[decide_eq_false h,JD]
theorem oC{c:Nat}{r:List Nat}(h:(c::r).length<=12):bO (c::r)=(isL c&&(c::r).all λd=>isL d||isF d):=by
 show(decide _&&_)=_;rw[decide_eq_true h,Jk]
theorem ce:(PySem.Str.ofString "")=tx []:=by decide +kernel
theorem xr(c:Nat)(r:List Nat):decide (V.str (tx (c::r))=V.str (PySem.Str.ofString ""))=false:=by
 refine decide_eq_false λh=>?_;have h2:=V.str.inj h;rw[ce]at h2;have h3:=i6 h2;cases h3
theorem xu:decide (V.str (tx [])=V.str (PySem.Str.ofString ""))=true:=decide_eq_true (by rw[ce])
theorem FS(c:Nat)(r:List Nat):Txt.slice (tx (c::r)) none (some 1)=tx [c]:=by
 rw[show(some (1:Int))=some ((1:Nat):Int)from rfl,fB,cut_to];rfl
theorem FT(c:Nat)(r:List Nat):Txt.slice (tx (c::r)) (some 1) none=tx r:=by
 rw[show(some (1:Int))=some ((1:Nat):Int)from rfl,fB,cut_from];rfl
theorem c33:(PySem.Str.ofString "!")=tx [33]:=by decide +kernel
theorem Fj(c:Nat):decide (V.str (tx [c])=V.str (PySem.Str.ofString "!"))=decide (c=33):=by
 rw[c33];by_cases h:c=33
 .subst h;rw[decide_eq_true rfl,decide_eq_true rfl]
 .rw[decide_eq_false h];refine decide_eq_false λe=>h ?_;have:=i6 (V.str.inj e);simpa using this
theorem Ev(l:List Nat)(f:Nat->Bool):((l.map f).all id)=l.all f:=by rw[List.all_map];rfl

def opn:List Nat->Bool
 |c::r=>decide (c=91)&&bO r
 |[]=>false
section
variable {cn:Option Nat}{w:List Nat}{t:List (List Nat)}{m:Nat}
end
theorem cu{s:Str}{l:List Nat}(h:s=tx l)(w:List Nat):decide (V.str (tx w)=V.str s)=decide (w=l):=by
 rw[h];by_cases e:w=l
 .rw[decide_eq_true e,e];exact decide_eq_true rfl
 .rw[decide_eq_false e];exact decide_eq_false λz=>e (i6 (V.str.inj z))
theorem c91:(PySem.Str.ofString "[")=tx [91]:=by decide +kernel
theorem FU:(PySem.Str.ofString "|")=tx En:=by decide +kernel
theorem Ew:(PySem.Str.ofString "]")=tx Eo:=by decide +kernel
def NdA(F:Hp)(v:V)(t:List Nat):Prop:=∃b,v=.ref b/\F b=some (.tup [.str "word",.str (tx t)])
theorem NdA.mono{F F':Hp}(s:aj F F'){v:V}{t:List Nat}(h:NdA F v t):NdA F' v t:=by
 obtain⟨b,e,h⟩:=h;exact⟨b,e,s _ _ h⟩
theorem NdsA.mono{F F':Hp}(s:aj F F'){vs:List V}{ts:List (List Nat)}(h:aL (NdA F) vs ts):aL (NdA F') vs ts:=h.imp λ_ _=>NdA.mono s
theorem aV{α:Type}{l:List α}{i:Nat}{x:α}(h:l[i]?=some x):l.take (i+1)=l.take i++[x]:=by
 obtain⟨hi,e⟩:=List.getElem?_eq_some_iff.mp h;rw[HA,h];rfl

def kS:List (Key×V):=[(.inr (PySem.Str.ofString "#"),.str (PySem.Str.ofString "mark")),(.inr (PySem.Str.ofString "@"),.str (PySem.Str.ofString "number")),(.inr (PySem.Str.ofString "&"),.str (PySem.Str.ofString "page")),(.inr (PySem.Str.ofString "^"),.str (PySem.Str.ofString "row")),(.inr (PySem.Str.ofString "~"),.str (PySem.Str.ofString "foot"))]
inductive nX (w:GF):List Hb->List (Key×V)->Prop
 |nil:nX w [] []
 |cons {e:Hb} {k:Key} {v:V} {es:List Hb} {kvs:List (Key×V)}:mh k e.key=true->e.hash=DW w k->bq v e.val->nX w es kvs->nX w (e::es) ((k,v)::kvs)
def xv(w:GF)(es:Array Hb)(kvs:List (Key×V)):Prop:=nX w es.toList kvs/\(kvs.map (·.1)).Nodup
theorem A8{P:GE}{w:GF}{es:List Hb}{kvs:List (Key×V)}(h:nX w es kvs):∃vs,KV kvs vs/\Pairs (bB P w) es vs/\vs.map (·.1)=kvs.map (·.1)/\∀e∈es,∃k,(bB P w).is k e.key=true/\e.hash=(bB P w).hash k:=by
 induction h with
 |nil=>exact⟨[],.nil,.nil,rfl,λe he=>nomatch he⟩
 |@cons e k v es kvs h1 h2 h3 _ ih =>
  obtain⟨vs,a,b,c,d⟩:=ih;refine⟨(k,e.val)::vs,.cons ⟨rfl,h3⟩ a,.cons h1 rfl b,by rw[Gi,Gi,c],λx hx=>?_⟩;rcases List.mem_cons.mp hx with rfl|hx
  .exact⟨k,h1,h2⟩
  .exact d x hx
theorem yR{P:GE}{w:GF}{K:PySem.W.Frag}{a:Addr}{oc:F9}{od:Option Addr}{es:Array Hb}{ep:Nat}{sl:Array (Option F9)}{kvs:List (Key×V)}(b:(a==HD)=false)
  (l:K.lookup a=some ⟨oc,od,.dict es ep,sl⟩)(c:(⟨oc,od,.dict es ep,sl⟩:Obj).ExactDict)(e:xv w es kvs):uC P w K a kvs:=by
 obtain⟨vs,h1,h2,h3,h4⟩:=A8 (P:=P) e.1;exact⟨b,_,vs,l,h1,es,ep,c,rfl,λx hx=>h4 x (by simpa using hx),h2,by rw[h3];exact e.2⟩
def mk(c:Nat):Option String:=if c=35 then some "mark" else if c=64 then some "number" else if c=38 then some "page" else if c=94 then some "row" else if c=126 then some "foot" else none
def kT:List Nat->String×List Nat
 |[]=>("plain",[])
 |c::r=>match mk c,bO r with
  |some s,true=>(s,r)
  |_,_=>if c=33/\r≠[]then("plain",r)else("plain",c::r)
theorem Ck(c:Nat)(h:mk c=none):cW kS (.inr ⟨#[c]⟩)=none:=by
 unfold mk at h
 split at h
 .cases h
 split at h
 .cases h
 split at h
 .cases h
 split at h
 .cases h
 split at h
 .cases h
 rename_i h1 h2 h3 h4 h5
 have key:∀d:Nat,c≠d->¬ ((IH (tx [d]):Key)=IH (tx [c])):=λd hd e=>hd (by
  have e2:=i6 (Sum.inr.inj e);have e3:d=c:=by simpa using e2
  exact e3.symm)
 unfold kS;rw[show(PySem.Str.ofString "#")=tx [35] by decide +kernel,show(PySem.Str.ofString "@")=tx [64] by decide +kernel,show(PySem.Str.ofString "&")=tx [38] by decide +kernel,show(PySem.Str.ofString "^")=tx [94] by decide +kernel,show(PySem.Str.ofString "~")=tx [126] by decide +kernel];show cW _ (IH (tx [c]))=none;rw[dW (key 35 h1),dW (key 64 h2),dW (key 38 h3),dW (key 94 h4),dW (key 126 h5)];rfl
theorem Cl(c:Nat)(s:String)(h:mk c=some s):cW kS (.inr ⟨#[c]⟩)=some (.str (PySem.Str.ofString s)):=by
 have hc:c=35\/c=64\/c=38\/c=94\/c=126:=by
  unfold mk at h
  split at h
  .omega
  split at h
  .omega
  split at h
  .omega
  split at h
  .omega
  split at h
  .omega
  cases h
 rcases hc with rfl|rfl|rfl|rfl|rfl
 all_goals
  have e:=GU h;subst e;decide +kernel

def plL(c:Nat)(r:List Nat):Kw×List Nat:=if c=33/\r≠[]then(.plain,r)else(.plain,c::r)
def kwC(c:Nat)(r:List Nat):Kw×List Nat:=if bO r=true then(if c=35 then(.mark,r)else if c=64 then(.number,r)else if c=38 then(.page,r)else if c=94 then(.row,r)else if c=126 then(.foot,r)else plL c r)else plL c r
def kwL:List Nat->Kw×List Nat
 |[]=>(.plain,[])
 |c::r=>kwC c r
theorem DC:∀t:List Nat,PySem.Str.ofString (kT t).1=(kwL t).1.s/\(kT t).2=(kwL t).2
 |[]=>⟨rfl,rfl⟩
 |c::r=>by
  have pl:∀q:String×List Nat,q=(if c=33/\r≠[]then("plain",r)else("plain",c::r))->PySem.Str.ofString q.1=(plL c r).1.s/\q.2=(plL c r).2:=λq e=>by
   rw[e];unfold plL;by_cases h:c=33/\r≠[]
   .rw[if_pos h,if_pos h];exact⟨rfl,rfl⟩
   .rw[if_neg h,if_neg h];exact⟨rfl,rfl⟩
  have hk:kT (c::r)=match mk c,bO r with
   |some s,true=>(s,r)
   |_,_=>if c=33/\r≠[]then("plain",r)else("plain",c::r):=rfl
  show PySem.Str.ofString (kT (c::r)).1=(kwC c r).1.s/\(kT (c::r)).2=(kwC c r).2;rw[hk];unfold kwC mk;cases hn:bO r with
  |false =>
   rw[if_neg (show ¬ (false=true) by decide)];refine pl _ ?_
   split
   .rename_i h;cases h
   .rfl
  |true =>
   rw[if_pos rfl];by_cases h1:c=35
   .simp[h1,Kw.s]
   by_cases h2:c=64
   .simp[h2,Kw.s]
   by_cases h3:c=38
   .simp[h3,Kw.s]
   by_cases h4:c=94
   .simp[h4,Kw.s]
   by_cases h5:c=126
   .simp[h5,Kw.s]
   simp only[h1,h2,h3,h4,h5,if_false];exact pl _ rfl
def wkL(t:List Nat):Wk:=((kwL t).1,.str (tx (kwL t).2))
structure oE(t:List Nat):Prop where
 ne:t≠[]
 len:t.length<=61
 opn:opn t=false
 pl:(kwL t).1=.plain->(kwL t).2.length<=60
 sg:∀d∈t,d<127
def gT:List (Key×V):=[(.inr (PySem.Str.ofString "page"),.int 3),(.inr (PySem.Str.ofString "odd"),.int 4)]
def kwV(k:Kw):V:=.str k.s
theorem sE{k:Kw}:∀{bs:List Kw},k∉bs->inV (kwV k) (bs.map kwV)=false
 |[],_=>rfl
 |b::r,h=>by
  have e:¬ (b=k):=λz=>h (by rw[z];exact Gd);have ih:=sE (bs:=r) λz=>h (Gc _ z);unfold inV at ih⊢;rw[Gi,Il,ih,Bool.or_false];show(b.s==k.s)=false;rw[Kw.beq,decide_eq_false e]
theorem xw:∀bs:List Kw,(bs.map kwV).all ja=true
 |[]=>rfl
 |_::r=>by rw[Gi,IG,xw r];rfl

theorem c32:(PySem.Str.ofString " ")=tx [32]:=by decide +kernel
def ef:List Nat:=[46,102,111,111,116]
def r_:List Nat:=[46,112,97,103,101]
def uL:List Nat:=[46,111,100,100]
def fh:List Nat:=[46,108,105,115,116]
def FV:List Nat:=[46,108,101,116]
theorem kU:(PySem.Str.ofString ".foot")=tx ef:=by decide +kernel
theorem zA:(PySem.Str.ofString ".let")=tx FV:=by decide +kernel
theorem zB:(PySem.Str.ofString ".page")=tx r_:=by decide +kernel
theorem Cm:(PySem.Str.ofString ".odd")=tx uL:=by decide +kernel
theorem wc:(PySem.Str.ofString ".list")=tx fh:=by decide +kernel
theorem cH1:(PySem.Str.ofString "=")=tx [61]:=by decide +kernel
theorem cH2:(PySem.Str.ofString "==")=tx [61,61]:=by decide +kernel
theorem cH3:(PySem.Str.ofString "===")=tx [61,61,61]:=by decide +kernel
theorem FW:(PySem.Str.ofString ".")=tx [46]:=by decide +kernel
def CT(w:List Nat)(r:Rw):Prop:=(w=r_/\r=.page)\/(w=uL/\r=.odd)\/(w=fh/\r=.lst)
inductive jx:List (List Nat)->Rw->Prop
 |empty:jx [] .empty
 |foot {n:List Nat} {ts:List (List Nat)}:bO n=true->n.length<=12->ts.length<=39->(∀t∈ts,oE t/\(kwL t).1∉[Kw.mark,Kw.foot])->jx (ef::n::ts) (.foot (tx n) (ts.map wkL))
 |alone {w:List Nat} {r:Rw}:CT w r->jx [w] r
 |head {k:Nat} {ts:List (List Nat)}:k<3->ts.length<=129->(∀t∈ts,oE t/\(kwL t).1∉[Kw.foot])->jx (Gp (k+1) 61::ts) (.head (k+1) (ts.map wkL))
 |par {c:Nat} {u:List Nat} {ts:List (List Nat)}:c≠46->(c::u)∉[[61],[61,61],[61,61,61]]->ts.length<=129->(∀t∈(c::u)::ts,oE t)->jx ((c::u)::ts) (.par (((c::u)::ts).map wkL))
def Cn(s:Rs):Rw->Prop
 |.foot n _=>lkS n s.feet=none
 |_=>True
def mv:Rs->List Rw->Prop
 |_,[]=>True
 |s,r::l=>Cn s r/\mv (bT s r) l
theorem mv.at:∀{l:List Rw} {s:Rs} {k:Nat} {r:Rw},mv s l->l[k]?=some r->Cn (aR s (l.take k)) r
 |x::l,s,0,r,h,e=>by cases e;exact h.1
 |x::l,s,k+1,r,h,e=>mv.at (l:=l) (k:=k) h.2 (by simpa using e)
 |[],_,_,_,_,e=>by simp at e
theorem qy{w:List Nat}:∀(ls:List (List Nat)),inV (.str (tx w)) (ls.map λl=>.str (tx l))=decide (w∈ls)
 |[]=>rfl
 |l::r=>by
  have ih:=qy (w:=w) r;unfold inV at ih⊢;rw[Gi,Il,ih];show((tx l==tx w)||_)=_;by_cases e:w=l
  .subst e;simp
  .have:(tx l==tx w)=false:=by
    rw[beq_eq_false_iff_ne];exact λz=>e (i6 z.symm)
   rw[this,Ki];simp[e]
theorem oF{n:Str}{v:V}:∀{l:List (Str×V)},(l.map Prod.fst).all (λm=>m != n)=true->bQ n v l=l++[(n,v)]
 |[],_=>rfl
 |(m,x)::r,h=>by
  rw[Gi,IG,HF]at h;have e:¬ (m=n):=by simpa using h.1
  have ih:=oF (n:=n) (v:=v) h.2;simp[bQ,e]at ih⊢;exact ih

def Ex(l:List Nat)(r:Rw):Prop:=l.length<=20000/\jx (c_ l) r
def mK:List (List Nat)->List Rw->Prop
 |[],[]=>True
 |l::ls,r::rs=>Ex l r/\mK ls rs
 |_,_=>False
theorem mK.len:∀{ls:List (List Nat)} {rs:List Rw},mK ls rs->ls.length=rs.length
 |[],[],_=>rfl
 |_::_,_::_,h=>congrArg (·+1) (mK.len h.2)
theorem mK.get:∀{ls:List (List Nat)} {rs:List Rw} {i:Nat} {l:List Nat},mK ls rs->ls[i]?=some l->∃r,rs[i]?=some r/\Ex l r
 |l::_,r::_,0,x,h,e=>by cases e;exact⟨r,rfl,h.1⟩
 |_::_,_::_,i+1,x,h,e=>mK.get (i:=i) h.2 (by simpa using e)
 |[],[],_,_,_,e=>by simp at e
def al(b:Nat):Nat:=(LL++FF).getD b 0
theorem DE:∀k:Nat,k<36->atI (PySem.Str.ofString "abcdefghijklmnopqrstuvwxyz0123456789").cps.toList (k:Int)=some (al k):=by decide +kernel
theorem Ey:∀b:Nat,b<36->∀c:Nat,c<36->al b=al c->b=c:=by decide +kernel
theorem Ez:∀b:Nat,b<26->isL (al b)=true:=by decide +kernel
theorem EA:∀b:Nat,b<36->(isL (al b)||isF (al b))=true:=by decide +kernel
structure Ix(xs:List Nat):Prop where
 ne:xs≠[]
 len:xs.length<=12
 fst:∀b,xs.head?=some b->b<26
 all:∀b∈xs,b<36
theorem Ix.name{xs:List Nat}(h:Ix xs):bO (xs.map al)=true:=by
 cases xs with
 |nil=>exact absurd rfl h.ne
 |cons b r =>
  have hl:(al b::r.map al).length<=12:=by have:=h.len;simp at this⊢;omega
  show bO (al b::r.map al)=true;rw[oC hl,Ez b (h.fst b rfl),Jk];refine List.all_eq_true.mpr λd hd=>?_;obtain⟨b',hb',rfl⟩:=List.mem_map.mp (show d∈(b::r).map al from hd);exact EA b' (h.all b' hb')
theorem xx:∀cs:List Nat,cG [] (cs.map λc=>[c])=cs
 |[]=>rfl
 |[c]=>rfl
 |c::d::r=>by
  show[c]++[]++cG [] ((d::r).map λc=>[c])=_;rw[xx (d::r)];rfl
theorem uM:∀cs:List Nat,((cs.map λc=>tx [c]).map (·.length)).sum=cs.length
 |[]=>rfl
 |c::r=>by
  rw[Gi,Gi,Ho,uM r,aZ];simp only[F8,Gj];omega

theorem oG:(PySem.Str.ofString "")=tx []:=by decide +kernel
theorem ej1(cs:List Nat):Txt.join (PySem.Str.ofString "") (cs.map λd=>tx [d])=tx cs:=by
 rw[oG,show(cs.map λd=>tx [d])=((cs.map λd=>[d]).map tx) by rw[Hw];rfl,jI,xx]
def nmB(bs:List Nat)(a j:Nat):List Nat:=bs.take a++[j/36%36]++[j%36]++bs.drop a
structure sT(bs:List Nat)(a:Nat):Prop where
 len:bs.length<=10
 fst:∀b,bs.head?=some b->b<26
 all:∀b∈bs,b<36
 lo:1<=a
 hi:a<=bs.length
theorem sT.ix{bs:List Nat}{a:Nat}(h:sT bs a)(j:Nat):Ix (nmB bs a j):=by
 have l1:=h.lo;have l2:=h.hi;have l3:=h.len
 match bs,h with
 |[],h=>simp at l2;omega
 |b::r,h =>
 obtain⟨a',rfl⟩:∃a',a=a'+1:=⟨a-1,by omega⟩;refine⟨by simp[nmB],?_,?_,?_⟩
 .have e1:(List.take (a'+1) (b::r)).length=a'+1:=by rw[GD];omega
  have e2:(List.drop (a'+1) (b::r)).length=(b::r).length-(a'+1):=by rw[Iw]
  unfold nmB;simp only[F7,e1,e2,F8,Gj]at l2 l3⊢;omega
 .intro x hx;have:x=b:=by simpa[nmB]using hx.symm
  rw[this];exact h.fst b rfl
 .intro x hx;simp only[nmB,List.mem_append,List.mem_singleton]at hx;rcases hx with((hx|hx)|hx)|hx
  .exact h.all x (List.mem_of_mem_take hx)
  .rw[hx];exact J1 _ (by decide)
  .rw[hx];exact J1 _ (by decide)
  .exact h.all x (List.mem_of_mem_drop hx)
theorem uk:∀{xs ys:List Nat},(∀x∈xs,x<36)->(∀y∈ys,y<36)->xs.map al=ys.map al->xs=ys
 |[],[],_,_,_=>rfl
 |x::xs,y::ys,h1,h2,e=>by
  rw[Gi,Gi]at e;injection e with e1 e2;rw[Ey x (h1 x Gd) y (h2 y Gd) e1,uk (λz hz=>h1 z (Gc _ hz)) (λz hz=>h2 z (Gc _ hz)) e2]
theorem sT.inj{bs:List Nat}{a:Nat}(h:sT bs a){i j:Nat}(hi:i<1296)(hj:j<1296)(e:(nmB bs a i).map al=(nmB bs a j).map al):i=j:=by
 have e:=uk (h.ix i).all (h.ix j).all e;unfold nmB at e;rw[Gs,Gs,Gs,Gs]at e;have e:=List.append_cancel_left e;simp only[List.singleton_append,List.cons.injEq]at e;omega
structure NmF(nm:Nat->List Nat):Prop where
 name:∀j,bO (nm j)=true
 len:∀j,(nm j).length<=12
 sg:∀j,∀d∈nm j,33<=d/\d<127
 inj:∀i j,i<1296->j<1296->nm i=nm j->i=j
theorem Fk:∀b:Nat,b<36->33<=al b/\al b<127:=by decide +kernel
theorem sT.nmF{bs:List Nat}{a:Nat}(h:sT bs a):NmF λj=>(nmB bs a j).map al:=
 ⟨fun j=>(h.ix j).name,fun j=>by rw [F6]; exact (h.ix j).len,fun j d hd=>by
  obtain⟨b,hb,rfl⟩:=List.mem_map.mp hd;exact Fk b ((h.ix j).all b hb),λi j hi hj e=>h.inj hi hj e⟩
abbrev NWd:=Kw×List Nat
structure Co(l:List Nat):Prop where
 ne:l≠[]
 len:l.length<=60
 sg:∀d∈l,33<=d/\d<127
def gk(k:Kw)(marks feet:Nat):Nat:=if k=.foot then feet else marks
def WdG(nm:Nat->List Nat)(k:Kw)(at_ marks feet:Nat)(w:NWd):Prop:=
 (k=.mark/\w=(.mark,nm at_))\/(k≠.mark/\w.1=.plain/\Co w.2/\(k≠.plain->gk k marks feet=0))\/(k≠.mark/\k≠.plain/\w.1=k/\∃j,j<gk k marks feet/\w.2=nm j)
def sgK:Kw->Nat
 |.mark=>35|.number=>64|.page=>38|.row=>94|.foot=>126|_=>33
def sU(w:NWd):Prop:=w.1≠.entry/\(∀d∈w.2,33<=d/\d<127)/\((w.1=.plain/\w.2≠[]/\w.2.length<=60)\/(w.1≠.plain/\bO w.2=true/\w.2.length<=12))
theorem WdG.ok{nm:Nat->List Nat}(hn:NmF nm){k:Kw}{at_ marks feet:Nat}{w:NWd}(ke:k≠.entry)(h:WdG nm k at_ marks feet w):sU w:=by
 rcases h with⟨_,rfl⟩|⟨_,h1,h2,_⟩|⟨_,h0,h1,j,_,h2⟩
 .exact⟨by show Kw.mark≠Kw.entry;decide,hn.sg _,.inr ⟨by show Kw.mark≠Kw.plain;decide,hn.name _,hn.len _⟩⟩
 .exact⟨by rw[h1];decide,h2.sg,.inl ⟨h1,h2.ne,h2.len⟩⟩
 .exact⟨by rw[h1];exact ke,by rw[h2];exact hn.sg _,.inr ⟨by rw[h1];exact h0,by rw[h2];exact hn.name _,by rw[h2];exact hn.len _⟩⟩
def isM(c:Nat):Bool:=decide (c∈[35,64,38,94,126])
def kW(tight:Bool):List Nat->Bool
 |[]=>false
 |c::r=>decide (c∈[46,33,91])||(if tight then decide (c=61)else decide ((c::r)∈[[61],[61,61],[61,61,61]]))||(isM c&&bO r)
theorem vk(tight:Bool)(c:Nat)(r:List Nat):kW tight (c::r)=(decide (c∈[46,33,91])||(if tight then decide (c=61)else decide ((c::r)∈[[61],[61,61],[61,61,61]]))||(isM c&&bO r)):=rfl
def wrW(tight:Bool)(w:NWd):List Nat:=if w.1=.plain then(if kW tight w.2=true then 33::w.2 else w.2)else sgK w.1::w.2
structure EB(t:List Nat)(w:NWd):Prop where
 good:oE t
 back:kwL t=w
 nb:32∉t
 dot:t.head?≠some 46
 hd:t∉[[61],[61,61],[61,61,61]]
theorem Cp{k:Kw}{r:List Nat}(hk:k≠.plain)(he:k≠.entry)(hn:bO r=true):kwC (sgK k) r=(k,r):=by
 unfold kwC;rw[if_pos hn];cases k<;>first|rfl|exact absurd rfl hk|exact absurd rfl he
theorem Cq{r:List Nat}(h:r≠[]):kwC 33 r=(.plain,r):=by
 have p:plL 33 r=(.plain,r):=by unfold plL;rw[if_pos ⟨rfl,h⟩]
 unfold kwC;by_cases hn:bO r=true
 .rw[if_pos hn];exact p
 .rw[if_neg hn];exact p
theorem A9{c:Nat}{r:List Nat}(h1:c≠33)(h2:(isM c&&bO r)=false):kwC c r=(.plain,c::r):=by
 have p:plL c r=(.plain,c::r):=by unfold plL;rw[if_neg (λz=>h1 z.1)]
 unfold kwC;by_cases hn:bO r=true
 .rw[hn,Kj]at h2;have m:=of_decide_eq_false h2;simp only[Hd,GZ,or_false,not_or]at m;rw[if_pos hn,if_neg m.1,if_neg m.2.1,if_neg m.2.2.1,if_neg m.2.2.2.1,if_neg m.2.2.2.2];exact p
 .rw[if_neg hn];exact p
theorem zC(tight:Bool){w:NWd}(h:sU w):EB (wrW tight w) w:=by
 obtain⟨k,r⟩:=w;obtain⟨he,sg,h⟩:=h;dsimp only at he sg h;have n32:∀l:List Nat,(∀d∈l,33<=d/\d<127)->32∉l:=λl hl z=>by have:=hl 32 z;omega
 rcases h with⟨hk,hne,hl⟩|⟨hk,hn,hl⟩
 .subst hk;unfold wrW;rw[if_pos rfl];by_cases b:kW tight r=true
  .rw[if_pos b];have kb:kwL (33::r)=(.plain,r):=Cq hne;have sg':∀d∈33::r,33<=d/\d<127:=λd hd=>by
    rcases List.mem_cons.mp hd with rfl|hd
    .exact⟨by decide,by decide⟩
    .exact sg d hd
   refine⟨⟨by simp,by simp only[F8];omega,rfl,λ_=>by rw[kb];exact hl,λd hd=>(sg' d hd).2⟩,kb,n32 _ sg',by simp,by simp⟩
  .rw[if_neg b];rw[Hq]at b
   match r,hne,b with
   |c::u,_,b =>
   unfold kW at b;simp only[Jn]at b;obtain⟨⟨b1,b2⟩,b3⟩:=b;have b1:=of_decide_eq_false b1;simp only[Hd,GZ,or_false,not_or]at b1;have kb:kwL (c::u)=(.plain,c::u):=A9 b1.2.1 b3;have op:opn (c::u)=false:=by show(decide (c=91)&&bO u)=false;rw[decide_eq_false b1.2.2];rfl
   refine⟨⟨by simp,(by show(c::u).length<=61;omega),op,λ_=>by rw[kb];exact hl,λd hd=>(sg d hd).2⟩,kb,n32 _ sg,by simp;exact b1.1,?_⟩;cases tight with
   |true =>
    have b2:¬ (c=61):=of_decide_eq_false b2;simp[b2]
   |false=>exact of_decide_eq_false b2
 .unfold wrW;rw[if_neg hk];have kb:kwL (sgK k::r)=(k,r):=Cp hk he hn;have s1:33<=sgK k/\sgK k<127/\sgK k≠91/\sgK k≠46/\sgK k≠61:=by cases k<;>decide
  have sg':∀d∈sgK k::r,33<=d/\d<127:=λd hd=>by
   rcases List.mem_cons.mp hd with rfl|hd
   .exact⟨s1.1,s1.2.1⟩
   .exact sg d hd
  have op:opn (sgK k::r)=false:=by show(decide (sgK k=91)&&bO r)=false;rw[decide_eq_false s1.2.2.1];rfl
  refine⟨⟨by simp,by simp only[F8];omega,op,λz=>by rw[kb]at z;exact absurd z hk,λd hd=>(sg' d hd).2⟩,kb,n32 _ sg',by simp;exact s1.2.2.2.1,by simp[s1.2.2.2.2]⟩
inductive Wy where
 |words|empty|h1|h2|h3|page|odd|lst|foot
 deriving DecidableEq
def Wy.t:Wy->List Nat
 |.words=>[119,111,114,100,115]|.empty=>[]|.h1=>[61]|.h2=>[61,61]|.h3=>[61,61,61]
 |.page=>r_|.odd=>uL|.lst=>fh|.foot=>ef
def Wy.hd:Wy->Bool
 |.h1=>true|.h2=>true|.h3=>true|_=>false
def Wy.bare:Wy->Bool
 |.empty=>true|.page=>true|.odd=>true|.lst=>true|_=>false
theorem Wy.inj:∀{a b:Wy},a.t=b.t->a=b:=by
 intro a b h;cases a<;>cases b<;>first|rfl|exact absurd h (by decide)
abbrev cX:=Wy×List (Kw×Int)
structure zD(kds:List Kw)(r:cX):Prop where
 bare:r.1.bare=true->r.2=[]
 len:r.2.length<=6
 head:r.1.hd=true->∀w∈r.2,w.1≠.foot
 foot:r.1=.foot->∀w∈r.2,w.1≠.mark/\w.1≠.foot
 kds:∀w∈r.2,w.1∈kds\/w.1=.plain
abbrev bM:=Wy×List Nat×List NWd
structure ko(r:bM):Prop where
 bare:r.1.bare=true->r.2.2=[]
 len:r.2.2.length<=129
 words:r.1=.words->r.2.2≠[]
 head:r.1.hd=true->∀w∈r.2.2,w.1≠.foot
 foot:r.1=.foot->bO r.2.1=true/\r.2.1.length<=12/\(∀d∈r.2.1,33<=d/\d<127)/\r.2.2.length<=39/\∀w∈r.2.2,w.1≠.mark/\w.1≠.foot
 ok:∀w∈r.2.2,sU w
def sV(w:NWd):Wk:=(w.1,.str (tx w.2))
def wkS(ws:List NWd):List Wk:=ws.map sV
def eX(tight:Bool)(r:bM):List (List Nat):=(if r.1=.empty\/r.1=.words then[]else[r.1.t])++(if r.1=.foot then[r.2.1]else[])++r.2.2.map (wrW tight)
def bg(r:bM):Rw:=
 match r.1 with
 |.words=>.par (wkS r.2.2)
 |.empty=>.empty
 |.h1=>.head 1 (wkS r.2.2)
 |.h2=>.head 2 (wkS r.2.2)
 |.h3=>.head 3 (wkS r.2.2)
 |.page=>.page
 |.odd=>.odd
 |.lst=>.lst
 |.foot=>.foot (tx r.2.1) (wkS r.2.2)
theorem DF{tight:Bool}{ws:List NWd}(h:∀w∈ws,sU w):(ws.map (wrW tight)).map wkL=wkS ws:=by
 rw[Hw];refine Jw λw hw=>?_;show wkL (wrW tight w)=sV w;unfold wkL sV;rw[(zC tight (h w hw)).back]
theorem EC(tight:Bool){r:bM}(h:ko r):jx (eX tight r) (bg r):=by
 obtain⟨wy,n,ws⟩:=r;have g:∀t∈ws.map (wrW tight),∃w∈ws,EB t w:=λt ht=>by
  obtain⟨w,hw,rfl⟩:=List.mem_map.mp ht;exact⟨w,hw,zC tight (h.ok w hw)⟩
 have bk:=DF (tight:=tight) h.ok;have ln:=h.len;dsimp only at bk ln;have hd:∀k,k<3->(∀w∈ws,w.1≠.foot)->jx (Gp (k+1) 61::ws.map (wrW tight)) (.head (k+1) (wkS ws)):=λk hk hf=>by
  rw[<-bk];refine .head hk (by rw[F6];exact ln) λt ht=>?_;obtain⟨w,hw,o⟩:=g t ht;exact⟨o.good,by rw[o.back];simpa using hf w hw⟩
 cases wy with
 |words =>
  show jx (ws.map (wrW tight)) (.par (wkS ws));rw[<-bk];have ne:=h.words rfl
  match ws,ne,g,ln with
  |w::r,_,g,ln =>
  obtain⟨w',_,o⟩:=g (wrW tight w) Gd;rw[Gi];cases e:wrW tight w with
  |nil=>exact absurd e o.good.ne
  |cons c u =>
   rw[e]at o;refine .par (λz=>o.dot (by rw[z];rfl)) o.hd (by rw[F6];simp only[F8]at ln;omega) λt ht=>?_;rw[<-e,<-Gi]at ht;obtain⟨_,_,o'⟩:=g t ht;exact o'.good
 |empty =>
  have e:ws=[]:=h.bare rfl;subst e;exact .empty
 |h1=>exact hd 0 (by decide) (h.head rfl)
 |h2=>exact hd 1 (by decide) (h.head rfl)
 |h3=>exact hd 2 (by decide) (h.head rfl)
 |page =>
  have e:ws=[]:=h.bare rfl;subst e;exact .alone (.inl ⟨rfl,rfl⟩)
 |odd =>
  have e:ws=[]:=h.bare rfl;subst e;exact .alone (.inr (.inl ⟨rfl,rfl⟩))
 |lst =>
  have e:ws=[]:=h.bare rfl;subst e;exact .alone (.inr (.inr ⟨rfl,rfl⟩))
 |foot =>
  obtain⟨f1,f2,f3,f4,f5⟩:=h.foot rfl;show jx (ef::n::ws.map (wrW tight)) (.foot (tx n) (wkS ws));rw[<-bk];refine .foot f1 f2 (by rw[F6];exact f4) λt ht=>?_;obtain⟨w,hw,o⟩:=g t ht;exact⟨o.good,by rw[o.back];simpa using f5 w hw⟩
theorem mw(tight:Bool){r:bM}(h:ko r):∀t∈eX tight r,32∉t/\t≠[]/\t.length<=61:=λt ht=>by
 unfold eX at ht;rcases List.mem_append.mp ht with ht|ht
 .rcases List.mem_append.mp ht with ht|ht
  .by_cases c:r.1=.empty\/r.1=.words
   .rw[if_pos c]at ht;cases ht
   .rw[if_neg c]at ht;rw[List.mem_singleton.mp ht];revert c;cases r.1<;>decide
  .by_cases c:r.1=.foot
   .rw[if_pos c]at ht;rw[List.mem_singleton.mp ht];obtain⟨f1,f2,f3,_⟩:=h.foot c;exact⟨λz=>(by have:=f3 32 z;omega),(λz=>by rw[z]at f1;cases f1),(by omega)⟩
   .rw[if_neg c]at ht;cases ht
 .obtain⟨w,hw,rfl⟩:=List.mem_map.mp ht;have o:=zC tight (h.ok w hw);exact⟨o.nb,o.good.ne,o.good.len⟩
theorem yS(tight:Bool){r:bM}(h:ko r):(eX tight r).length<=131:=by
 have:=h.len;unfold eX;simp only[F7,F6];have a:(if r.1=.empty\/r.1=.words then([]:List (List Nat))else[r.1.t]).length<=1:=by split<;>simp
 have b:(if r.1=.foot then[r.2.1]else([]:List (List Nat))).length<=1:=by split<;>simp
 omega
abbrev mL(l:List Nat):List Nat:=PySem.StrLaws.dbl 32 l
def mx(a b:Nat)(d:Bool)(l:List Nat):List Nat:=Gp a 32++(if d then mL l else l)++Gp b 32
theorem sW(c:Nat):∀n:Nat,ox [c] n=Gp n c
 |0=>rfl
 |n+1=>by
  rw[mq,sW c n,Hr];rfl
theorem lD:∀(l:List (List Nat)),(∀t∈l,t.length<=61)->((l.map tx).map (·.length)).sum<=61*l.length
 |[],_=>Gh _
 |x::r,h=>by
  have h1:=lD r λt ht=>h t (Gc _ ht);have h2:=h x Gd;rw[Gi,Gi,Ho,aZ,F8];omega
theorem um(n:Nat):Txt.mul (PySem.Str.ofString " ") (n:Int)=tx (Gp n 32):=by
 rw[show(PySem.Str.ofString " ")=tx [32] by decide +kernel,AJ,sW]
theorem yT{n:Nat}(h:n<=10):MulOk (PySem.Str.ofString " ") (n:Int):=by
 rw[show(PySem.Str.ofString " ")=tx [32] by decide +kernel];exact su (by omega) (by simp)
def oH:List (List Nat)->List (List Nat)->Prop
 |[],[]=>True
 |r::rs,s::ss=>(∃a b d,a<=10/\b<=10/\s=mx a b d r)/\oH rs ss
 |_,_=>False
theorem Cr(l:List Nat):∃h r,bx 32 l=h::r:=by
 cases e:bx 32 l with
 |nil=>exact absurd e (vc 32 l)
 |cons h r=>exact⟨h,r,rfl⟩
theorem se{c:Nat}{l h:List Nat}{r:List (List Nat)}(e:bx 32 l=h::r)(n:c≠32):bx 32 (c::l)=(c::h)::r:=by
 rw[gq,if_neg n,e]
theorem lg(l:List Nat):bx 32 (32::l)=[]::bx 32 l:=by rw[gq,if_pos rfl]
theorem yU(r:List (List Nat)):neW ([]::r)=neW r:=rfl
theorem A_(l:List Nat):c_ (mL l)=c_ l:=by
 have key:∀l:List Nat,∃h r r',bx 32 l=h::r/\bx 32 (mL l)=h::r'/\neW r=neW r':=λl=>by
  induction l with
  |nil=>exact⟨[],[],[],rfl,rfl,rfl⟩
  |cons c l ih =>
   obtain⟨h,r,r',e1,e2,e3⟩:=ih;by_cases hc:c=32
   .subst hc;refine⟨[],h::r,[]::h::r',by rw[lg,e1],?_,?_⟩
    .show bx 32 (PySem.StrLaws.dbl 32 (32::l))=_;rw[show PySem.StrLaws.dbl 32 (32::l)=32::32::mL l from by simp[PySem.StrLaws.dbl],lg,lg,e2]
    .rw[yU];unfold neW at e3⊢;rw[Ie,Ie,e3]
   .refine⟨c::h,r,r',se e1 hc,?_,e3⟩;show bx 32 (PySem.StrLaws.dbl 32 (c::l))=_;rw[show PySem.StrLaws.dbl 32 (c::l)=c::mL l from by simp[PySem.StrLaws.dbl,hc]];exact se e2 hc
 obtain⟨h,r,r',e1,e2,e3⟩:=key l;unfold c_;rw[e1,e2];unfold neW at e3⊢;rw[Ie,Ie,e3]
theorem uo(l:List Nat):∀a:Nat,c_ (Gp a 32++l)=c_ l
 |0=>rfl
 |a+1=>by
  rw[Hr,Jf];unfold c_;rw[lg,yU];exact uo l a
theorem zE(l:List Nat):c_ (l++[32])=c_ l:=by
 have key:∀l:List Nat,bx 32 (l++[32])=bx 32 l++[[]]:=λl=>by
  induction l with
  |nil=>rfl
  |cons c l ih =>
   rw[Jf];by_cases hc:c=32
   .subst hc;rw[lg,lg,ih];rfl
   .obtain⟨h,r,e⟩:=Cr l;rw[se (by rw[ih,e];rfl) hc,se e hc];rfl
 unfold c_;rw[key];unfold neW;rw[GY];simp
theorem vm(l:List Nat):∀b:Nat,c_ (l++Gp b 32)=c_ l
 |0=>by rw[List.replicate_zero,GL]
 |b+1=>by
  rw[List.replicate_succ',<-Gs,zE];exact vm l b
theorem xy{ws:List (List Nat)}(h:∀t∈ws,32∉t/\t≠[]):c_ (cG [32] ws)=ws:=by
 by_cases e:ws=[]
 .subst e;rfl
 .unfold c_;rw[sx 32 ws e λp hp=>(h p hp).1];unfold neW;refine List.filter_eq_self.mpr λw hw=>?_;have:=(h w hw).2;cases w with
  |nil=>exact absurd rfl this
  |cons _ _=>rfl
abbrev ED:=@mx
theorem Ba(a b:Nat)(d:Bool)(l:List Nat):c_ (ED a b d l)=c_ l:=by
 show c_ (mx a b d l)=_;unfold mx;rw[vm,uo];cases d with
 |true=>exact A_ l
 |false=>rfl
theorem yV(l:List Nat):(mL l).length<=2*l.length:=by
 induction l with
 |nil=>exact Gh _
 |cons c l ih =>
  by_cases hc:c=32
  .subst hc;show(PySem.StrLaws.dbl 32 (32::l)).length<=_;rw[show PySem.StrLaws.dbl 32 (32::l)=32::32::mL l from by simp[PySem.StrLaws.dbl]];simp only[F8];omega
  .show(PySem.StrLaws.dbl 32 (c::l)).length<=_;rw[show PySem.StrLaws.dbl 32 (c::l)=c::mL l from by simp[PySem.StrLaws.dbl,hc]];simp only[F8];omega
theorem Bb{b:Nat}:∀(l:List (List Nat)),(∀t∈l,t.length<=b)->(cG [32] l).length<=l.length*(b+1)
 |[],_=>by simp[cG]
 |[a],h=>by
  have:=h a Gd;simp[cG];omega
 |a::c::r,h=>by
  have h1:=h a Gd;have h2:=Bb (c::r) λt ht=>h t (Gc _ ht);show(a++[32]++cG [32] (c::r)).length<=_;rw[F7,F7];simp only[F8,Gj]at h2⊢;have:(r.length+1+1)*(b+1)=(r.length+1)*(b+1)+(b+1):=by rw[Nat.add_mul (r.length+1) 1,Nat.one_mul]
  omega
theorem qz(tight:Bool){r:bM}(h:ko r):(cG [32] (eX tight r)).length<=8200:=by
 have h1:=Bb (b:=61) (eX tight r) λt ht=>(mw tight h t ht).2.2;have h2:=yS tight h;omega
structure SpR(tight:Bool)(l:List Nat)(r:bM):Prop where
 len:l.length<=20000
 ws:c_ l=eX tight r
theorem SpR.of(tight:Bool){r:bM}(h:ko r)(a b:Nat)(d:Bool)(ha:a<=10)(hb:b<=10):SpR tight (ED a b d (cG [32] (eX tight r))) r:=by
 refine⟨?_,?_⟩
 .have h1:=qz tight h;have h2:=yV (cG [32] (eX tight r));show(mx a b d _).length<=_;unfold mx;simp only[F7,Ha]
  split<;>omega
 .rw[Ba,xy λt ht=>⟨(mw tight h t ht).1,(mw tight h t ht).2.1⟩]
def we(tight:Bool):List (List Nat)->List bM->Prop
 |[],[]=>True
 |l::ls,r::rs=>SpR tight l r/\we tight ls rs
 |_,_=>False
theorem oH.snoc{r s:List Nat}(h:∃a b d,a<=10/\b<=10/\s=mx a b d r):∀{rs ss:List (List Nat)},oH rs ss->oH (rs++[r]) (ss++[s])
 |[],[],_=>⟨h,trivial⟩
 |_::_,_::_,z=>⟨z.1,z.2.snoc h⟩
theorem oH.all{tight:Bool}:∀{ns:List bM} {ss:List (List Nat)},(∀r∈ns,ko r)->oH (ns.map λr=>cG [32] (eX tight r)) ss->we tight ss ns
 |[],[],_,_=>trivial
 |r::ns,s::ss,h,z=>by
  obtain⟨⟨a,b,d,ha,hb,rfl⟩,z2⟩:=z;exact⟨SpR.of tight (h r Gd) a b d ha hb,oH.all (λx hx=>h x (Gc _ hx)) z2⟩
 |[],_::_,_,z=>z.elim
 |_::_,[],_,z=>z.elim
theorem we.rows{tight:Bool}:∀{ls:List (List Nat)} {rs:List bM},we tight ls rs->(∀r∈rs,ko r)->mK ls (rs.map bg)
 |[],[],_,_=>trivial
 |l::_,r::_,a,h=>⟨⟨a.1.len,by rw[a.1.ws];exact EC tight (h r Gd)⟩,a.2.rows λx hx=>h x (Gc _ hx)⟩

def KcA(F:Hp)(v:V)(w:Kw×Int):Prop:=∃a,v=.ref a/\F a=some (.tup [.str w.1.s,.int w.2])
def RrA(F:Hp)(v:V)(r:cX):Prop:=∃a l us,v=.ref a/\F a=some (.tup [.str (tx r.1.t),.ref l])/\F l=some (.lst us)/\aL (KcA F) us r.2
theorem KcA.mono{F F':Hp}(s:aj F F'){v:V}{w:Kw×Int}(h:KcA F v w):KcA F' v w:=by
 obtain⟨a,e,h⟩:=h;exact⟨a,e,s _ _ h⟩
theorem RrA.mono{F F':Hp}(s:aj F F'){v:V}{r:cX}(h:RrA F v r):RrA F' v r:=by
 obtain⟨a,l,us,e,h1,h2,h3⟩:=h;exact⟨a,l,us,e,s _ _ h1,s _ _ h2,h3.imp λ_ _=>KcA.mono s⟩
structure iI(H G:Hp)(p:Addr)(rows:List cX):Prop where
 old:aj H G
 fr:H p=none
 st:∃vs lo,G p=some (.lst vs)/\H lo=none/\vs.length=rows.length/\
  ((rows=[]/\lo=p)\/∃vi a us ini w ws,vs=vi++[.ref a]/\rows=ini++[(w,ws)]/\lo≠p/\hid [p,lo] G a=some (.tup [.str (tx w.t),.ref lo])/\G lo=some (.lst us)/\aL (KcA (hid [p,lo] G)) us ws/\aL (RrA (hid [p,lo] G)) vi ini)
theorem iI.same{H G G':Hp}{p:Addr}{rows:List cX}(R:iI H G p rows)(m:aj G G'):iI H G' p rows:=by
 obtain⟨old,fr,vs,lo,h1,h2,h3,h4⟩:=R;refine⟨old.trans m,fr,vs,lo,m _ _ h1,h2,h3,?_⟩;rcases h4 with h4|⟨vi,a,us,ini,w,ws,e1,e2,e3,e4,e5,e6,e7⟩
 .exact .inl h4
 .exact .inr ⟨vi,a,us,ini,w,ws,e1,e2,e3,bb m _ _ e4,m _ _ e5,e6.imp λ_ _=>KcA.mono (bb m),e7.imp λ_ _=>RrA.mono (bb m)⟩
theorem iI.all{H G:Hp}{p:Addr}{rows:List cX}(R:iI H G p rows):∃vs,G p=some (.lst vs)/\vs.length=rows.length/\aL (RrA (hid [p] G)) vs rows:=by
 obtain⟨old,fr,vs,lo,h1,h2,h3,h4⟩:=R;refine⟨vs,h1,h3,?_⟩;rcases h4 with⟨rfl,_⟩|⟨vi,a,us,ini,w,ws,rfl,rfl,e3,e4,e5,e6,e7⟩
 .match vs,h3 with
  |[],_=>trivial
 .have m:aj (hid [p,lo] G) (hid [p] G):=λb o z=>by
   obtain⟨c,z⟩:=jt.mp z;exact bn (λw=>c (by simp at w⊢;exact .inl w)) z
  exact(e7.imp λ_ _=>RrA.mono m).snoc ⟨a,lo,us,rfl,m _ _ e4,bn (by simpa using e3) e5,e6.imp λ_ _=>KcA.mono m⟩
theorem iI.add{H G G':Hp}{p pl pt:Addr}{rows:List cX}{w:Wy}{vs:List V}(R:iI H G p rows)(m:aj G G')(n1:G pl=none)(k1:G' pl=some (.lst []))(n2:G pt=none)(k2:G' pt=some (.tup [.str (tx w.t),.ref pl]))(hv:G' p=some (.lst vs)):iI H (upd G' p (.lst (vs++[.ref pt]))) p (rows++[(w,[])]):=by
 obtain⟨vs',h1,h2,h3⟩:=R.all;obtain⟨old,fr,_⟩:=R;rw[m _ _ h1]at hv;injection hv with hv;injection hv with hv;subst hv;have npl:pl≠p:=λz=>by rw[z,h1]at n1;cases n1
 have npt:pt≠p:=λz=>by rw[z,h1]at n2;cases n2
 have ntl:pt≠pl:=λz=>by rw[z,k1]at k2;cases k2
 have e:hid [p,pl] (upd G' p (.lst (vs'++[.ref pt])))=hid [p,pl] G':=bw (by simp);have mm:aj (hid [p] G) (hid [p,pl] G'):=λb o z=>by
  obtain⟨c,z⟩:=jt.mp z;refine bn (λw=>?_) (m _ _ z);simp only[Hd,GZ,or_false]at w c;rcases w with w|w
  .exact c w
  .rw[w,n1]at z;cases z
 refine⟨aW (old.trans m) fr,fr,vs'++[.ref pt],pl,ae,old.free n1,by simp[h2],.inr ⟨vs',pt,[],rows,w,[],rfl,rfl,npl,?_,?_,trivial,?_⟩⟩
 .rw[e];exact bn (by simp[npt,ntl]) k2
 .rw[ak npl];exact k1
 .rw[e];exact h3.imp λ_ _=>RrA.mono mm
theorem iI.last{H G:Hp}{p:Addr}{ini:List cX}{w:Wy}{ws:List (Kw×Int)}(R:iI H G p (ini++[(w,ws)])):∃vi a lo us,G p=some (.lst (vi++[.ref a]))/\G a=some (.tup [.str (tx w.t),.ref lo])/\G lo=some (.lst us)/\us.length=ws.length/\∀G' pk kc,aj G G'->G pk=none->G' pk=some (.tup [.str kc.1.s,.int kc.2])->iI H (upd G' lo (.lst (us++[.ref pk]))) p (ini++[(w,ws++[kc])]):=by
 obtain⟨old,fr,vs,lo,h1,h2,h3,h4⟩:=R;rcases h4 with⟨e,_⟩|⟨vi,a,us,ini',w',ws',e1,e2,e3,e4,e5,e6,e7⟩
 .simp at e
 .have e2':=List.append_inj' e2 rfl;obtain⟨rfl,e2'⟩:=e2';injection e2' with e2' _;injection e2' with e2a e2b;subst e2a;subst e2b;subst e1;refine⟨vi,a,lo,us,h1,bN _ _ e4,e5,e6.len,λG' pk kc m nk kk=>?_⟩;have e:hid [p,lo] (upd G' lo (.lst (us++[.ref pk])))=hid [p,lo] G':=bw (by simp);have n1:pk≠p:=λz=>by rw[z,h1]at nk;cases nk
  have n2:pk≠lo:=λz=>by rw[z,e5]at nk;cases nk
  refine⟨aW (old.trans m) h2,fr,vi++[.ref a],lo,?_,h2,by simpa using h3,.inr ⟨vi,a,us++[.ref pk],ini,w,ws++[kc],rfl,rfl,e3,?_,ae,?_,?_⟩⟩
  .rw[ak (GX e3)];exact m _ _ h1
  .rw[e];exact bb m _ _ e4
  .rw[e];exact(e6.imp λ_ _=>KcA.mono (bb m)).snoc ⟨pk,rfl,bn (by simp[n1,n2]) kk⟩
  .rw[e];exact e7.imp λ_ _=>RrA.mono (bb m)
inductive WyD where
 |word|eq|way (w:Wy)
def WyD.t:WyD->List Nat
 |.word=>[119,111,114,100]|.eq=>[61]|.way w=>w.t
def zF(wys:List WyD)(w:Wy):Prop:=w=.words\/.way w∈wys\/(w.hd=true/\.eq∈wys)
structure lE(wys:List WyD)(kds:List Kw)(n:Nat)(rows:List cX):Prop where
 len:rows.length<=n
 sum:(rows.map (·.2.length)).sum<=n
 ok:∀r∈rows,zD kds r/\zF wys r.1
theorem lE.add{wys:List WyD}{kds:List Kw}{n:Nat}{rows:List cX}(h:lE wys kds n rows){w:Wy}(hw:zF wys w):lE wys kds (n+1) (rows++[(w,[])]):=by
 refine⟨by rw[F7];have:=h.len;simp only[F8,Gj];omega,by rw[Gg,IJ];have:=h.sum;simp;omega,λr hr=>?_⟩;rcases List.mem_append.mp hr with hr|hr
 .exact h.ok r hr
 .rw[List.mem_singleton.mp hr];exact⟨⟨λ_=>rfl,by simp,(λ_ x hx=>by cases hx),(λ_ x hx=>by cases hx),(λx hx=>by cases hx)⟩,hw⟩
theorem Bc:(PySem.Str.ofString "word")=tx [119,111,114,100]:=by decide +kernel
theorem lF:(PySem.Str.ofString "words")=tx [119,111,114,100,115]:=by decide +kernel
theorem at3:∀k:Nat,k<3->∃w:Wy,w.hd=true/\atI [V.str (PySem.Str.ofString "="),V.str (PySem.Str.ofString "=="),V.str (PySem.Str.ofString "===")] (k:Int)=some (.str (tx w.t))
 |0,_=>⟨.h1,rfl,congrArg (λz=>some (V.str z)) cH1⟩
 |1,_=>⟨.h2,rfl,congrArg (λz=>some (V.str z)) cH2⟩
 |2,_=>⟨.h3,rfl,congrArg (λz=>some (V.str z)) cH3⟩
theorem EE(w:Wy):inV (.str (tx w.t)) [V.str (PySem.Str.ofString ""),V.str (PySem.Str.ofString ".page"),V.str (PySem.Str.ofString ".odd"),V.str (PySem.Str.ofString ".list")]=w.bare:=by
 rw[oG,zB,Cm,wc];refine(qy [[],r_,uL,fh]).trans ?_;cases w<;>decide
theorem FX(k:Kw):inV (.str k.s) [V.str (PySem.Str.ofString "mark"),V.str (PySem.Str.ofString "foot")]=(decide (k=.mark)||decide (k=.foot)):=by
 cases k<;>decide +kernel
theorem Fl{w:Wy}(h:w.bare=false):∃c u,w.t=c::u/\(decide (c=61)=w.hd):=by
 cases w<;>first|exact⟨_,_,rfl,rfl⟩|cases h

def mkN(ws:List (Kw×Int)):Nat:=(ws.filter λw=>decide (w.1=.mark)).length
def cr(rows:List cX):Nat:=(rows.map λr=>mkN r.2).sum
def ftN(rows:List cX):Nat:=(rows.filter λr=>decide (r.1=.foot)).length
theorem CU{v:V}{i:Nat}{u:TS}{D:eV}{σ:St}{H:Hp}(h:u D (σ.set i (some v)) H):BG (pZ (tC v) (bE i)) u D σ H:=h
def b1(b:Bool):Nat:=if b then 1 else 0
theorem xz(ws:List (Kw×Int))(w:Kw×Int):mkN (ws++[w])=mkN ws+b1 (decide (w.1=.mark)):=by
 unfold mkN;rw[GY,F7];cases h:decide (w.1=.mark)<;>simp[Jo,h,b1]
theorem Be(rows:List cX)(r:cX):cr (rows++[r])=cr rows+mkN r.2:=by unfold cr;simp
theorem xA(rows:List cX)(r:cX):ftN (rows++[r])=ftN rows+b1 (decide (r.1=.foot)):=by
 unfold ftN;rw[GY,F7];cases h:decide (r.1=.foot)<;>simp[Jo,h,b1]
theorem xB:∀rows:List cX,(rows.map λr=>((mkN r.2:Nat):Int)).sum=((cr rows:Nat):Int)
 |[]=>rfl
 |r::rs=>by
  have:=xB rs;unfold cr at this⊢;rw[Gi,Ho,this,Gi,Ho];omega
def WsR(nm:Nat->List Nat)(M F:Nat):Nat->List (Kw×Int)->List NWd->Prop
 |_,[],[]=>True
 |at_,k::r,w::s=>WdG nm k.1 at_ M F w/\WsR nm M F (at_+b1 (decide (k.1=.mark))) r s
 |_,_,_=>False
theorem WsR.snoc{nm:Nat->List Nat}{M F:Nat}{k:Kw×Int}{w:NWd}:∀{ws:List (Kw×Int)} {ds:List NWd} {at_:Nat},WsR nm M F at_ ws ds->WdG nm k.1 (at_+mkN ws) M F w->WsR nm M F at_ (ws++[k]) (ds++[w])
 |[],[],_,_,h=>⟨h,trivial⟩
 |x::ws,d::ds,at_,h,h2=>⟨h.1,WsR.snoc (ws:=ws) h.2 (by
  have:at_+mkN (x::ws)=at_+b1 (decide (x.1=.mark))+mkN ws:=by
   unfold mkN;cases e:decide (x.1=.mark)<;>simp[Jo,e,b1]<;>omega
  rw[this]at h2;exact h2)⟩
def xC(nm:Nat->List Nat)(M F at_ hung:Nat)(r:cX)(n:bM):Prop:=n.1=(if r.1=.words/\r.2=[]then .empty else r.1)/\n.2.1=(if r.1=.foot then nm hung else[])/\WsR nm M F at_ r.2 n.2.2
def fH(nm:Nat->List Nat)(M F:Nat):Nat->Nat->List cX->List bM->Prop
 |_,_,[],[]=>True
 |at_,hung,r::rs,n::ns=>xC nm M F at_ hung r n/\fH nm M F (at_+mkN r.2) (hung+b1 (decide (r.1=.foot))) rs ns
 |_,_,_,_=>False
theorem fH.snoc{nm:Nat->List Nat}{M F:Nat}{r:cX}{n:bM}:∀{rs:List cX} {ns:List bM} {at_ hung:Nat},fH nm M F at_ hung rs ns->xC nm M F (at_+cr rs) (hung+ftN rs) r n->fH nm M F at_ hung (rs++[r]) (ns++[n])
 |[],[],_,_,_,h=>⟨h,trivial⟩
 |x::rs,y::ns,at_,hung,h,h2=>⟨h.1,fH.snoc (rs:=rs) h.2 (by
  have e1:at_+cr (x::rs)=at_+mkN x.2+cr rs:=by unfold cr;simp;omega
  have e2:hung+ftN (x::rs)=hung+b1 (decide (x.1=.foot))+ftN rs:=by
   unfold ftN;cases e:decide (x.1=.foot)<;>simp[Jo,e,b1]<;>omega
  rw[e1,e2]at h2;exact h2)⟩
def NnA(F:Hp)(v:V)(n:bM):Prop:=∃a l,v=.ref a/\F a=some (.tup [.str (tx n.1.t),.str (tx n.2.1),.ref l])/\cQ F l (wkS n.2.2)
theorem NnA.mono{F F':Hp}(s:aj F F'){v:V}{n:bM}(h:NnA F v n):NnA F' v n:=by
 obtain⟨a,l,e,h1,h2⟩:=h;exact⟨a,l,e,s _ _ h1,h2.mono s⟩
def aU:List bM:=[(.empty,[],[]),(.words,[],[(.plain,[101,110,100])])]
theorem Fm:(PySem.Str.ofString "end")=tx [101,110,100]:=by decide +kernel

inductive Sw where
 |w (x:NWd)|head (k:Nat)|entry (k:Nat)|goal (k:Nat)
def Sw.k:Sw->Str
 |.w x=>x.1.s|.head _=>"head" | .entry _=>"entry" | .goal _=>"goal"
def Sw.v:Sw->V
 |.w x=>.str (tx x.2)|.head k=>.int (k:Int)|.entry k=>.int (k:Int)|.goal k=>.int (k:Int)
def SwA(F:Hp)(v:V)(s:Sw):Prop:=∃a,v=.ref a/\F a=some (.tup [.str s.k,s.v])
theorem SwA.mono{F F':Hp}(m:aj F F'){v:V}{s:Sw}(h:SwA F v s):SwA F' v s:=by
 obtain⟨a,e,h⟩:=h;exact⟨a,e,m _ _ h⟩
def Sw.isM:Sw->Bool
 |.w x=>decide (x.1=.mark)
 |_=>false
abbrev Ttl:=List Nat×List NWd
def TtA(F:Hp)(v:V)(t:Ttl):Prop:=∃a l,v=.ref a/\F a=some (.tup [.str (tx t.1),.ref l])/\cQ F l (wkS t.2)
theorem TtA.mono{F F':Hp}(m:aj F F'){v:V}{t:Ttl}(h:TtA F v t):TtA F' v t:=by
 obtain⟨a,l,e,h1,h2⟩:=h;exact⟨a,l,e,m _ _ h1,h2.mono m⟩
def swN(ss:List Sw):Nat:=(ss.filter λs=>!s.isM).length
def cA(tt:List Ttl):List Sw->Nat->List (Str×Nat)
 |[],_=>[]
 |.head k::r,n=>(tx (tt.getD k ([],[])).1,n)::cA tt r (n+1)
 |s::r,n=>cA tt r (n+(if s.isM then 0 else 1))
def hB(b:Bool):Nat:=if b then 1 else 0
def ttW(t:Ttl):List Sw:=(t.2.filter λx=>!decide (x.1=.mark)).map .w
def kX(tt:List Ttl)(k:Nat):List Sw:=.entry k::(ttW (tt.getD k ([],[]))++[.goal k])
def eO(tt:List Ttl)(n:Nat):List Sw:=(HQ n).flatMap (kX tt)
def dq(tt:List Ttl)(h:Nat)(r:bM):List Sw:=if r.1=.words then r.2.2.map .w else if r.1.hd=true then .head h::r.2.2.map .w else if r.1=.lst then eO tt tt.length else[]
def bC(tt:List Ttl):Nat->List bM->List Sw
 |_,[]=>[]
 |h,r::rs=>dq tt h r++bC tt (h+hB r.1.hd) rs
theorem CV{F:Hp}:∀{ws:List NWd} {vs:List V},b_ F vs (wkS ws)->aL (SwA F) vs (ws.map .w)
 |[],[],_=>trivial
 |_::_,_::_,h=>⟨h.1,CV h.2⟩
theorem Sw.head_k{s:Sw}:s.k=(PySem.Str.ofString "head")↔∃k,s=.head k:=by
 constructor
 .intro h;cases s with
  |head k=>exact⟨k,rfl⟩
  |w x=>exact absurd h (by cases hx:x.1<;>(show ¬ (x.1.s=_);rw[hx];decide +kernel))
  |entry k=>exact absurd h (by show ¬ (("entry" : Str)=_);decide +kernel)
  |goal k=>exact absurd h (by show ¬ (("goal" : Str)=_);decide +kernel)
 .rintro⟨k,rfl⟩;rfl
theorem Sw.mark_k{s:Sw}:s.k=(PySem.Str.ofString "mark")↔s.isM=true:=by
 cases s with
 |head k=>exact⟨λh=>absurd h (by show ¬ (("head" : Str)=_);decide +kernel),λh=>by cases h⟩
 |entry k=>exact⟨λh=>absurd h (by show ¬ (("entry" : Str)=_);decide +kernel),λh=>by cases h⟩
 |goal k=>exact⟨λh=>absurd h (by show ¬ (("goal" : Str)=_);decide +kernel),λh=>by cases h⟩
 |w x =>
  show x.1.s=Kw.mark.s↔decide (x.1=.mark)=true;rw[decide_eq_true_iff];exact⟨λh=>Kw.inj h,λh=>by rw[h]⟩
def bR(tt:List Ttl):Sw->Wk
 |.w x=>sV x
 |.head k=>(.plain,.str (tx (tt.getD k ([],[])).1))
 |.entry k=>(.plain,.str (tx (tt.getD k ([],[])).1))
 |.goal k=>(.entry,.int (k:Int))
theorem jo(tt:List Ttl)(s:Sw):(bR tt s).1=.mark↔s.isM=true:=by
 cases s with
 |w x=>show x.1=.mark↔decide (x.1=.mark)=true;rw[decide_eq_true_iff]
 |head k=>exact⟨λz=>(by cases z),λz=>(by cases z)⟩
 |entry k=>exact⟨λz=>(by cases z),λz=>(by cases z)⟩
 |goal k=>exact⟨λz=>(by cases z),λz=>(by cases z)⟩
def bD(c:Nat×Nat×Nat)(l:Int):Nat×Nat×Nat:=if l=1 then(c.1+1,0,0)else if l=2 then(c.1,c.2.1+1,0)else(c.1,c.2.1,c.2.2+1)
def ctr(ls:List Int):Nat×Nat×Nat:=ls.foldl bD (0,0,0)
def uN(c:Nat×Nat×Nat):List V:=[V.int (c.1:Int),V.int (c.2.1:Int),V.int (c.2.2:Int)]
def eg(c:Nat×Nat×Nat)(l:Int):List Nat:=if l=1 then aT c.1 else if l=2 then aT c.1++[46]++aT c.2.1 else aT c.1++[46]++(aT c.2.1++[46]++aT c.2.2)
def fQ(ls:List Int)(i:Nat):List (List Nat):=(HQ i).map λk=>eg (ctr (ls.take (k+1))) (ls.getD k 0)
def nV(n:Nat):V:=V.int (n:Int)
def Cs(ls:List Int):Prop:=∀l∈ls,l=1\/l=2\/l=3
theorem DG{c:Nat×Nat×Nat}{n:Nat}(l:Int)(a:c.1<=n)(b:c.2.1<=n)(d:c.2.2<=n):(bD c l).1<=n+1/\(bD c l).2.1<=n+1/\(bD c l).2.2<=n+1:=by
 obtain⟨x,y,z⟩:=c;dsimp only at a b d;unfold bD;by_cases h:l=1
 .rw[if_pos h];refine⟨?_,?_,?_⟩<;>dsimp only<;>omega
 .rw[if_neg h];by_cases h:l=2
  .rw[if_pos h];refine⟨?_,?_,?_⟩<;>dsimp only<;>omega
  .rw[if_neg h];refine⟨?_,?_,?_⟩<;>dsimp only<;>omega
theorem yW:∀(ls:List Int) (c:Nat×Nat×Nat) (n:Nat),c.1<=n->c.2.1<=n->c.2.2<=n->(ls.foldl bD c).1<=n+ls.length/\(ls.foldl bD c).2.1<=n+ls.length/\(ls.foldl bD c).2.2<=n+ls.length
 |[],c,n,a,b,d=>⟨a,b,d⟩
 |l::r,c,n,a,b,d=>by
  obtain⟨s1,s2,s3⟩:=DG l a b d;have:=yW r (bD c l) (n+1) s1 s2 s3;rw[J5,F8];omega
theorem lev{z:Int}(h:z=1\/z=2\/z=3)(c:Nat×Nat×Nat){m:Nat}(b1:(bD c z).1<=m)(b2:(bD c z).2.1<=m)(b3:(bD c z).2.2<=m):∃(pre:List V) (k:Int) (cs:List Nat),gX (uN c) none (some (z-1))=pre/\atI (uN c) (z-1)=some (V.int k)/\pre++[V.int (k+1)]++(Gp (3-z).toNat [V.int 0]).flatten=uN (bD c z)/\pre.length<=2/\(3-z).toNat<=2/\0<=3-z/\3-z<=2/\gX (uN (bD c z)) none (some z)=cs.map nV/\cs.length<=3/\(∀n∈cs,n<=m)/\cG [46] (cs.map aT)=eg (bD c z) z:=by
 obtain⟨x,y,w⟩:=c;rcases h with rfl|rfl|rfl
 .refine⟨[],x,[x+1],rfl,rfl,rfl,by simp,by decide,by decide,by decide,rfl,by simp,?_,rfl⟩;intro n hn;simp at hn;subst hn;exact b1
 .refine⟨[nV x],y,[x,y+1],rfl,rfl,rfl,by simp,by decide,by decide,by decide,rfl,by simp,?_,rfl⟩;intro n hn;simp at hn;rcases hn with rfl|rfl
  .exact b1
  .exact b2
 .refine⟨[nV x,nV y],w,[x,y,w+1],rfl,rfl,rfl,by simp,by decide,by decide,by decide,rfl,by simp,?_,rfl⟩;intro n hn;simp at hn;rcases hn with rfl|rfl|rfl
  .exact b1
  .exact b2
  .exact b3
theorem Bf(ls:List Int):(ctr ls).1<=ls.length/\(ctr ls).2.1<=ls.length/\(ctr ls).2.2<=ls.length:=by
 have:=yW ls (0,0,0) 0 (Gh _) (Gh _) (Gh _);rw[HB]at this;exact this
theorem Ct{ls:List Int}{i:Nat}{z:Int}(h:ls[i]?=some z):ctr (ls.take (i+1))=bD (ctr (ls.take i)) z:=by
 unfold ctr;rw[aV h,JP];rfl
theorem Bg{ls:List Int}{i:Nat}{z:Int}(h:ls[i]?=some z):fQ ls (i+1)=fQ ls i++[eg (ctr (ls.take (i+1))) z]:=by
 unfold fQ;rw[Jv,Gg,JI,Gu,h];rfl
theorem oI(ls:List Int)(i:Nat):(fQ ls i).length=i:=by unfold fQ;rw[F6,Hj]
theorem FY:(PySem.Str.ofString ".")=tx [46]:=by decide +kernel
theorem wj{n:Nat}(h:n<=63):(aT n).length<=3:=jJ 2 n (by omega)
theorem FZ{n:Nat}(h:n<=63):n<10^100:=Go h (by decide +kernel)
theorem DI{cs:List Int}{i:Nat}{y:V}(h:(cs.map V.int)[i]?=some y):∃n,y=V.int n/\cs[i]?=some n:=by
 rw[GA]at h;cases e:cs[i]? with
 |none=>rw[e]at h;cases h
 |some w=>rw[e]at h;exact⟨w,(GU h).symm,rfl⟩
theorem EF{cs:List Nat}{i:Nat}{y:V}(h:(cs.map nV)[i]?=some y):∃n:Nat,y=V.int (n:Int)/\cs[i]?=some n:=by
 rw[GA]at h;cases e:cs[i]? with
 |none=>rw[e]at h;cases h
 |some w=>rw[e]at h;exact⟨w,(GU h).symm,rfl⟩
theorem xD:∀(cs:List Nat),(∀n∈cs,n<=63)->(((cs.map aT).map tx).map (·.length)).sum<=3*cs.length
 |[],_=>Gh _
 |n::r,h=>by
  have h1:=xD r (λm hm=>h m (Gc _ hm));have h2:=wj (h n Gd);rw[Gi,Gi,Gi,Ho,aZ,F8];omega
end K58
namespace K58
open PySem PySem.Spec L2 Tl

theorem lts{t:TS}{D:eV}{σ:St}{H:Hp}(k:let D':=D;let s':=σ;t D' s' H):t D σ H:=k
local macro_rules | `(tactic| refine ⟨$a,$as,*⟩)=>`(tactic| ((try (refine lts ?_; intro _ _)); refine (⟨$a,$as,*⟩)))
local macro_rules | `(tactic| exact ⟨$a,$as,*⟩)=>`(tactic| ((try (refine lts ?_; intro _ _)); exact (⟨$a,$as,*⟩)))
local macro_rules | `(tactic| walk_at "c")=>`(tactic| exact (⟨rfl,rfl,rfl,by decide +kernel,rfl,by decide +kernel,by decide +kernel⟩))
noncomputable abbrev qA:Stmt:=top 59
noncomputable abbrev mM:Stmt:=top 57
noncomputable abbrev sX:Stmt:=top 58
noncomputable abbrev sY:Stmt:=top 62
noncomputable abbrev qB:Stmt:=top 72
noncomputable abbrev oJ:Stmt:=top 74
noncomputable abbrev sZ:Stmt:=top 63
noncomputable abbrev mO:Stmt:=top 60
noncomputable abbrev lG:Stmt:=top 64
noncomputable abbrev s_:Stmt:=top 66
noncomputable abbrev qC:Stmt:=top 68
noncomputable abbrev tf:Stmt:=top 67
noncomputable abbrev tj:Stmt:=top 73
noncomputable abbrev qD:Stmt:=top 75
noncomputable abbrev oK:Stmt:=top 76
noncomputable abbrev oM:Stmt:=top 71
noncomputable abbrev mP:Stmt:=top 61
noncomputable abbrev mQ:Stmt:=top 65
noncomputable abbrev tm:Stmt:=top 69
noncomputable abbrev oN:Stmt:=top 70
noncomputable abbrev lH:Stmt:=top 20
noncomputable abbrev lI:Stmt:=top 23
noncomputable abbrev ku:Stmt:=bz 55 0
noncomputable abbrev f8:Stmt:=bz 55 8
noncomputable abbrev iJ:Stmt:=bz 55 5
noncomputable abbrev g9:Stmt:=bz 55 7
noncomputable abbrev iK:Stmt:=bz 55 6
noncomputable abbrev ji:Stmt:=bz 55 4
noncomputable abbrev iL:Stmt:=bz 55 2
noncomputable abbrev iM:Stmt:=bz 55 3
noncomputable abbrev g_:Stmt:=bz 55 1
noncomputable abbrev hJ:Stmt:=bz 55 11
noncomputable abbrev hU:Stmt:=bz 55 10
noncomputable abbrev gu:Stmt:=bz 55 9
noncomputable abbrev kx:Stmt:=bz 49 0
noncomputable abbrev hV:Stmt:=bz 49 6
noncomputable abbrev gv:Stmt:=bz 49 4
noncomputable abbrev qE:Stmt:=top 19
noncomputable abbrev qF:Stmt:=top 21
noncomputable abbrev qG:Stmt:=top 39
noncomputable abbrev lJ:Stmt:=top 41
noncomputable abbrev mR:Stmt:=top 43
noncomputable abbrev qH:Stmt:=top 38
noncomputable abbrev qI:Stmt:=top 30
noncomputable abbrev lK:Stmt:=top 28
noncomputable abbrev qJ:Stmt:=top 26
noncomputable abbrev hX:Stmt:=bz 49 7
noncomputable abbrev hZ:Stmt:=bz 49 3
noncomputable abbrev gx:Stmt:=bz 49 5
noncomputable abbrev iN:Stmt:=bz 49 1
noncomputable abbrev oO:Stmt:=top 18
noncomputable abbrev mS:Stmt:=top 48
noncomputable abbrev mT:Stmt:=top 54
noncomputable abbrev zG:Stmt:=top 77
set_option genInjectivity false in
structure AdD where
 (mD:Addr)(k_:Gn)(ng:Addr)(lZ:Gn)(tJ:Addr)(rH:Gn)(tK:Addr)(rJ:Gn)(rB:Addr)(pE:Gn)(o_:Addr)(nA:Gn)(tL:Addr)(rK:Gn)(nj:Addr)(l7:Gn)(lV:Addr)(kI:Gn)(tP:Addr)(rO:Gn)(rC:Addr)(pF:Gn)(tM:Addr)(rL:Gn)(tN:Addr)(rM:Gn)(rD:Addr)(pG:Gn)(pe:Addr)(nC:Gn)(pi:Addr)(nD:Gn)(ni:Addr)(l0:Gn)(nq:Addr)(l8:Gn)(tO:Addr)(rN:Gn)(pp:Addr)(nE:Gn)(lU:Addr)(kH:Gn)(lW:Addr)(kJ:Gn)(kG:Addr)(jR:Gn)(gb:Addr)(fS:Gn)(iY:Addr)(iz:Gn)(im:Addr)(gM:Gn)(iZ:Addr)(iA:Gn)(jj:Addr)(i4:Gn)(iW:Addr)(iu:Gn)(iX:Addr)(iy:Gn)(iq:Addr)(gP:Gn)(io:Addr)(gN:Gn)(ip:Addr)(gO:Gn)(gI:Addr)(gf:Gn)(kE:Addr)(jQ:Gn)(ij:Addr)(gJ:Gn)(gG:Addr)(gc:Gn)(rz:Addr)(pB:Gn)(rA:Addr)(pC:Gn)(rq:Addr)(pA:Gn)(lY:Addr)(kL:Gn)(nz:Addr)(md:Gn)(rF:Addr)(pI:Gn)(rE:Addr)(pH:Gn)(lX:Addr)(kK:Gn)(rG:Addr)(pJ:Gn)(il:Addr)(gL:Gn)(ik:Addr)(gK:Gn)(gH:Addr)(ge:Gn)(iV:Addr)(ir:Gn)(pz:Addr)(nF:Gn)(nu:Addr)(l9:Gn)(ny:Addr)(l_:Gn)(z9:Addr)(uw:Gn)(bJ:Addr)(aH:Addr)
set_option genInjectivity false in
structure Adr extends AdD where
 (jq jr e9 de fj cY cZ b7 dH:Addr)
structure TxD(K:PySem.W.Frag)(mg:Str->Option F9)(a:AdD):Prop where
 bG:mt K mg "Reader" a.bJ
 jk:dj K a.bJ "shorts"
 fV:dj K a.bJ "feet"
 eP:dj K a.bJ "things"
 df:dj K a.bJ "going_on"
 aB:mt K mg "Setter" a.aH
 fJ:dj K a.aH "numbers"
 gg:dj K a.aH "titles"
 fW:dj K a.aH "feet"
 dQ:dj K a.aH "feet_set"
 cC:dj K a.aH "words"
 cB:dj K a.aH "marks"
 dr:dj K a.aH "heads"
 cK:dj K a.aH "leap"
 dg:dj K a.aH "behind_head"
 fA:bS K mg "_law_alike" qA ["found","due"] a.mD a.k_
 mV:bS K mg "_law_cell_at" mM ["script","k"] a.ng a.lZ
 bW:bS K mg "_law_draw" sX ["cell","k","many"] a.tJ a.rH
 tE:bS K mg "_law_form" sY ["cell"] a.tK a.rJ
 rc:bS K mg "_law_heads" qB ["stream","titles"] a.rB a.pE
 o5:bS K mg "_law_marked" oJ ["stream","marks"] a.o_ a.nA
 lP:bS K mg "_law_name" sZ ["cell","j"] a.tL a.rK
 jS:bS K mg "_law_sign_by" mO ["cell","k"] a.nj a.l7
 lQ:bS K mg "_law_plain_by" lG ["cell"] a.lV a.kI
 tI:bS K mg "_law_word" s_ ["first","kind","cell","at","marks","feet"] a.tP a.rO
 rh:bS K mg "_law_named" qC ["rows","first"] a.rC a.pF
 tF:bS K mg "_law_rows" tf ["script","ways","kinds"] a.tM a.rL
 tG:bS K mg "_law_said" tj ["kind","rest","marks","heads"] a.tN a.rM
 rj:bS K mg "_law_shape" qD ["found","form"] a.rD a.pG
 o6:bS K mg "_law_spaced" oK ["rows","first"] a.pe a.nC
 o7:bS K mg "_law_stream" oM ["named","titles"] a.pi a.nD
 mW:bS K mg "_law_is_name" mP ["word"] a.ni a.l0
 mX:bS K mg "_law_written" mQ ["kind","rest"] a.nq a.l8
 tH:bS K mg "_law_text" tm ["way","name","words"] a.tO a.rN
 o8:bS K mg "_law_titles" oN ["named"] a.pp a.nE
 jB:bS K mg "figures_of" lH ["number"] a.lU a.kH
 lR:bS K mg "numbers_of" lI ["levels"] a.lW a.kJ
 kD:cU K a.aH "__init__" "Setter.__init__" ku ["self","all_heads","feet"] a.kG a.jR
 ga:cU K a.aH "check_marks" "Setter.check_marks" f8 ["self"] a.gb a.fS
 iT:cU K a.aH "set_mark" "Setter.set_mark" iJ ["self","name"] a.iY a.iz
 ie:cU K a.aH "next_foot" "Setter.next_foot" g9 ["self","name"] a.im a.gM
 iU:cU K a.aH "set_word" "Setter.set_word" iK ["self","lead","word"] a.iZ a.iA
 dI:cU K a.aH "set_run" "Setter.set_run" ji ["self","lead","words","by_head"] a.jj a.i4
 iR:cU K a.aH "set_head" "Setter.set_head" iL ["self","k"] a.iW a.iu
 iS:cU K a.aH "set_list" "Setter.set_list" iM ["self"] a.iX a.iy
 ii:cU K a.aH "set_thing" "Setter.set_thing" g_ ["self","thing"] a.iq a.gP
 ig:cU K a.aH "number_at" "Setter.number_at" hJ ["self","k"] a.io a.gN
 fq:cU K a.aH "saying_of" "Setter.saying_of" hU ["self","word"] a.ip a.gO
 gF:cU K a.aH "words_told" "Setter.words_told" gu ["self"] a.gI a.gf
 kC:cU K a.bJ "__init__" "Reader.__init__" kx ["self"] a.kE a.jQ
 dN:cU K a.bJ "add_thing" "Reader.add_thing" hV ["self","thing"] a.ij a.gJ
 gD:cU K a.bJ "read_alone" "Reader.read_alone" gv ["self","words"] a.gG a.gc
 j_:bS K mg "is_name" qE ["word"] a.rz a.pB
 rb:bS K mg "kind_of" qF ["word"] a.rA a.pC
 q_:bS K mg "by_name" qG ["shorts"] a.rq a.pA
 lT:bS K mg "size_among" lJ ["named","nodes","count"] a.lY a.kL
 m_:bS K mg "words_out" mR ["named","nodes","arguments"] a.nz a.md
 rm:bS K mg "put_out" qH ["shorts","nodes"] a.rF a.pI
 rk:bS K mg "node_of" qI ["word","count"] a.rE a.pH
 lS:bS K mg "opens_call" lK ["word"] a.lX a.kK
 rp:xj K mg "tree_of" qJ ["words","count"] a.rG a.pJ .none
 dO:cU K a.bJ "words_out" "Reader.words_out" hX ["self","words","barred"] a.il a.gL
 ic:cU K a.bJ "read_foot" "Reader.read_foot" hZ ["self","words"] a.ik a.gK
 gE:cU K a.bJ "read_words" "Reader.read_words" gx ["self","words"] a.gH a.ge
 iQ:cU K a.bJ "read_row" "Reader.read_row" iN ["self","words"] a.iV a.ir
 o9:bS K mg "words_in" oO ["row"] a.pz a.nF
 mY:bS K mg "read_rows" mS ["rows"] a.nu a.l9
 mZ:bS K mg "set_words" mT ["rows","form"] a.ny a.l_
 wq:bS K mg "law" zG ["script"] a.z9 a.uw
structure Txt(P:GE)(w:GF)(K:PySem.W.Frag)(mg:Str->Option F9)(a:Adr):Prop extends TxD K mg a.toAdD where
 sh:mg "all" = none
 i8:mg "bool" = none
 mf:mg "dict" = none
 fF:mg "enumerate" = none
 jT:mg "int" = none
 a9:mg "isinstance" = none
 bK:mg "len" = none
 iB:mg "list" = none
 mE:mg "max" = none
 eJ:mg "range" = none
 jC:mg "str" = none
 si:mg "sum" = none
 e_:mg "tuple" = none
 ye:rW K mg "NoFoot" a.cY
 tQ:rW K mg "NoMark" a.cZ
 rP:rW K mg "TooLong" a.b7
 za:rW K mg "Twice" a.dH
 dy:uc K a.b7 a.b7
 gr:mg "ALONE" = some (.ref a.jq)/\∀H,SqT K H a.jq [.str (PySem.Str.ofString ".page"),.str (PySem.Str.ofString ".odd"),.str (PySem.Str.ofString ".list")]
 eC:∃t,mg "FIGURES" = some (.str (PySem.Str.ofString "0123456789") t)
 gt:mg "HEADS" = some (.ref a.jr)/\∀H,SqT K H a.jr [.str (PySem.Str.ofString "="),.str (PySem.Str.ofString "=="),.str (PySem.Str.ofString "===")]
 fT:mg "KINDS" = some (.ref a.e9)/\uC P w K a.e9 kS
 fU:mg "LEAPS" = some (.ref a.de)/\uC P w K a.de gT
 dP:∃t,mg "LETTERS" = some (.str (PySem.Str.ofString "abcdefghijklmnopqrstuvwxyz") t)
 cw:∃t,mg "LONGEST_NAME" = some (.int 12 t)
 cx:∃t,mg "LONGEST_TEXT" = some (.int 60 t)
 cS:∃t,mg "MOST_CALLS" = some (.int 400 t)
 bX:∃t,mg "MOST_FOOT_WORDS" = some (.int 39 t)
 bH:∃t,mg "MOST_WORDS_books" = some (.int 400 t)
 bI:∃t,mg "MOST_WORDS_shorts" = some (.int 400 t)
 dL:mg "POINTING" = some (.ref a.fj)/\∀H,SqT K H a.fj [.str (PySem.Str.ofString "number"),.str (PySem.Str.ofString "page"),.str (PySem.Str.ofString "row")]
section
variable {P:GE}{w:GF}{K:PySem.W.Frag}{mg:Str->Option F9}{base:Heap}{a:Adr}


theorem uq:aK ["found","due","k"] ["found","due"] (au qA):=by walk_at "c"
theorem qK(T:Txt P w K mg a):∀n:Nat,aX P w K mg base CX0 n a.mD a.k_ ["found","due"] (xg K n)
 |0=>⟨λvs H Q E h=>(by obtain⟨d,x,y,_,h0,_⟩:=h;exact absurd h0 (IK _)),λA outer s H args us vs Q E _ _ _ _ h=>(by obtain⟨d,x,y,_,h0,_⟩:=h;exact absurd h0 (IK _))⟩
 |n+1=>by
  have g_l_alike:=qK T n;have fA:=T.fA;have i8:=T.i8;have jT:=T.jT;have a9:=T.a9;have bK:=T.bK;have iB:=T.iB;have eJ:=T.eJ;have jC:=T.jC;have e_:=T.e_

  refine T.fA.fn.ok uq (λvs H Q E h=>?_) (λcdv A outer s H vs Q E hr h=>?_)
  .obtain⟨d,x,y,rfl,_⟩:=h;rfl
  obtain⟨d,x,y,rfl,hd,rx,ry,q⟩:=h;refine⟨_,(af (aI (cz (aF cN rfl a9 Gz (aa (pv 1) (aa (c7 (v:=.ty "bool") rfl i8 IZ rfl) ac))) (λ_=>rfl)) (ai (aJ (jV (aF cN rfl a9 Gz (aa (pv 0) (aa (c7 (v:=.ty "bool") rfl i8 IZ rfl) ac))) (jU (fK br (pv 0) (pv 1) (nomark _)))))) aE)
   (af (aI (cz (aF cN rfl a9 Gz (aa (pv 1) (aa (c7 (v:=.ty "int") rfl jT Jb rfl) ac))) (λ_=>rfl)) (ai (aJ (jV (aF cN rfl a9 Gz (aa (pv 0) (aa (c7 (v:=.ty "int") rfl jT Jb rfl) ac))) (jV (D3 (aF cN rfl a9 Gz (aa (pv 0) (aa (c7 (v:=.ty "bool") rfl i8 IZ rfl) ac)))) (jU (fK br (pv 0) (pv 1) (nomark _))))))) aE)
   (af (aI (cz (aF cN rfl a9 Gz (aa (pv 1) (aa (c7 (v:=.ty "str") rfl jC Io rfl) ac))) (λ_=>rfl)) (ai (aJ (jV (aF cN rfl a9 Gz (aa (pv 0) (aa (c7 (v:=.ty "str") rfl jC Io rfl) ac))) (jU (fK br (pv 0) (pv 1) (nomark _)))))) aE)
   (af (aI (cz (aF cN rfl a9 Gz (aa (pv 1) (aa (c7 (v:=.ty "tuple") rfl e_ HI rfl) ac))) (λ_=>rfl)) (ai (aI (fc (cz (aF cN rfl a9 Gz (aa (pv 0) (aa (c7 (v:=.ty "tuple") rfl e_ HI rfl) ac))) (λ_=>rfl))) (ai (aJ dh)) aE)) (ai (aI (fc (cz (aF cN rfl a9 Gz (aa (pv 0) (aa (c7 (v:=.ty "list") rfl iB Ii rfl) ac))) (λ_=>rfl))) (ai (aJ dh)) aE)))
   (af (aI (aq eQ (aF om rfl bK PySem.boot_len (aa (pv 0) ac)) (aF om rfl bK PySem.boot_len (aa (pv 1) ac)) (nomark _)) (ai (aJ dh)) aE)
   (af (cc GS rfl (mi rfl eJ (aa (aF om rfl bK PySem.boot_len (aa (pv 1) ac)) ac)) (aM (i:=2) uq.nd rfl (Gm rfl)) (ai (aI (fc (cz (aD fA g_l_alike hr rfl (aa (aC Av (pv 0) (pv 2) (λ_ _=>rfl)) (aa (aC Av (pv 1) (pv 2) (λ_ _=>rfl)) ac))) (λ_=>rfl))) (ai (aJ dh)) aE)))
   (ai (aJ dh)))))))),?_⟩
  cases d with
  |bl b =>
   unfold Rep at rx ry;subst rx ry;refine⟨_,rfl,_,"bool",true,rfl,by decide,rfl,_,rfl,?_⟩;refine aN ?_;refine⟨_,rfl,_,"bool",true,rfl,by decide,rfl,_,rfl,?_⟩;refine aN ?_;refine⟨_,rfl,_,rfl,rfl,?_⟩;rw[decide_eq_true rfl];exact q
  |int i =>
   unfold Rep at rx ry;subst rx ry;refine⟨_,rfl,_,"bool",false,rfl,by decide,rfl,_,rfl,?_⟩;refine av ?_;refine⟨_,rfl,_,"int",true,rfl,by decide,rfl,_,rfl,?_⟩;refine aN ?_;refine⟨_,rfl,_,"int",true,rfl,by decide,rfl,_,rfl,?_⟩;refine aN ?_;refine⟨_,rfl,_,"bool",false,rfl,by decide,rfl,_,rfl,_,rfl,?_⟩;refine aN ?_;refine⟨_,rfl,_,rfl,rfl,?_⟩;rw[decide_eq_true rfl];exact q
  |str i =>
   unfold Rep at rx ry;subst rx ry;refine⟨_,rfl,_,"bool",false,rfl,by decide,rfl,_,rfl,?_⟩;refine av ?_;refine⟨_,rfl,_,"int",false,rfl,by decide,rfl,_,rfl,?_⟩;refine av ?_;refine⟨_,rfl,_,"str",true,rfl,by decide,rfl,_,rfl,?_⟩;refine aN ?_;refine⟨_,rfl,_,"str",true,rfl,by decide,rfl,_,rfl,?_⟩;refine aN ?_;refine⟨_,rfl,_,rfl,rfl,?_⟩;rw[decide_eq_true rfl];exact q
  |lst l =>
   unfold Rep at rx ry;unfold DD.deep at hd;obtain⟨a1,xs,rfl,s1,hl,r1⟩:=rx;obtain⟨a2,ys,rfl,s2,_,r2⟩:=ry;have l1:=r1.len;have l2:=r2.len;refine⟨_,rfl,_,"bool",false,rfl,by decide,.inl ⟨⟨_,s2⟩,rfl⟩,_,rfl,?_⟩;refine av ?_;refine⟨_,rfl,_,"int",false,rfl,by decide,.inl ⟨⟨_,s2⟩,rfl⟩,_,rfl,?_⟩;refine av ?_;refine⟨_,rfl,_,"str",false,rfl,by decide,.inl ⟨⟨_,s2⟩,rfl⟩,_,rfl,?_⟩;refine av ?_;refine⟨_,rfl,_,"tuple",false,rfl,by decide,.inl ⟨⟨_,s2⟩,rfl⟩,_,rfl,?_⟩;refine av ?_;refine⟨_,rfl,_,"list",true,rfl,by decide,.inl ⟨⟨_,s1⟩,rfl⟩,_,rfl,?_⟩;refine av ?_;refine⟨_,rfl,_,_,rfl,.inl ⟨_,s1,rfl⟩,_,rfl,_,_,rfl,.inl ⟨_,s2,rfl⟩,rfl,_,rfl,?_⟩;refine CO (by rw[l1,l2]) ?_;refine⟨_,rfl,_,_,rfl,.inl ⟨_,s2,rfl⟩,_,rfl,by omega,by omega,jl (λi σ H2=>H2=H/\∃v,σ=[some (.ref a1),some (.ref a2),v]) ⟨rfl,none,rfl⟩ ?_ ?_⟩
   .rintro i σ H2 hi ⟨rfl,v,rfl⟩;have hi2:i<l.length:=by simp at hi;omega
    obtain⟨x,ex,hx⟩:=r1.get (Ga hi2);obtain⟨y,ey,hy⟩:=r2.get (Ga hi2);have hdd:=ql (Ga hi2);have ix:∀{zs:List V} {z:V},zs[i]?=some z->atI zs (0+(i:Int))=some z:=λe=>by rw[JA];exact cp e
    refine⟨_,rfl,_,rfl,.inl ⟨_,_,_,_,rfl,rfl,s1,ix ex,_,rfl,_,rfl,.inl ⟨_,_,_,_,rfl,rfl,s2,ix ey,_,_,_,rfl,by omega,hx,hy,_,rfl,?_⟩⟩⟩;refine av ?_;exact⟨rfl,_,rfl⟩
   .rintro σ H2 ⟨rfl,v,rfl⟩;exact q
  |tup l =>
   unfold Rep at rx ry;unfold DD.deep at hd;obtain⟨a1,xs,rfl,s1,hl,r1⟩:=rx;obtain⟨a2,ys,rfl,s2,_,r2⟩:=ry;have l1:=r1.len;have l2:=r2.len;refine⟨_,rfl,_,"bool",false,rfl,by decide,.inr ⟨⟨_,s2⟩,rfl⟩,_,rfl,?_⟩;refine av ?_;refine⟨_,rfl,_,"int",false,rfl,by decide,.inr ⟨⟨_,s2⟩,rfl⟩,_,rfl,?_⟩;refine av ?_;refine⟨_,rfl,_,"str",false,rfl,by decide,.inr ⟨⟨_,s2⟩,rfl⟩,_,rfl,?_⟩;refine av ?_;refine⟨_,rfl,_,"tuple",true,rfl,by decide,.inr ⟨⟨_,s2⟩,rfl⟩,_,rfl,?_⟩;refine aN ?_;refine⟨_,rfl,_,"tuple",true,rfl,by decide,.inr ⟨⟨_,s1⟩,rfl⟩,_,rfl,?_⟩;refine av ?_;refine⟨_,rfl,_,_,rfl,.inr ⟨_,s1,rfl⟩,_,rfl,_,_,rfl,.inr ⟨_,s2,rfl⟩,rfl,_,rfl,?_⟩;refine CO (by rw[l1,l2]) ?_;refine⟨_,rfl,_,_,rfl,.inr ⟨_,s2,rfl⟩,_,rfl,by omega,by omega,jl (λi σ H2=>H2=H/\∃v,σ=[some (.ref a1),some (.ref a2),v]) ⟨rfl,none,rfl⟩ ?_ ?_⟩
   .rintro i σ H2 hi ⟨rfl,v,rfl⟩;have hi2:i<l.length:=by simp at hi;omega
    obtain⟨x,ex,hx⟩:=r1.get (Ga hi2);obtain⟨y,ey,hy⟩:=r2.get (Ga hi2);have hdd:=ql (Ga hi2);have ix:∀{zs:List V} {z:V},zs[i]?=some z->atI zs (0+(i:Int))=some z:=λe=>by rw[JA];exact cp e
    refine⟨_,rfl,_,rfl,.inr (.inl ⟨_,_,_,_,rfl,rfl,s1,ix ex,_,rfl,_,rfl,.inr (.inl ⟨_,_,_,_,rfl,rfl,s2,ix ey,_,_,_,rfl,by omega,hx,hy,_,rfl,?_⟩)⟩)⟩;refine av ?_;exact⟨rfl,_,rfl⟩
   .rintro σ H2 ⟨rfl,v,rfl⟩;exact q
theorem kY(T:Txt P w K mg a):aX P w K mg base CX0 5 a.mD a.k_ ["found","due"] (xg K 5):=qK T 5
def xE(K:PySem.W.Frag):Sp:=λvs H Q _=>∃(b:Addr) (ns:List Int) (k:Nat),vs=[.ref b,.int (k:Int)]/\SqL K H b (ns.map V.int)/\Q (.int (ns.getD k 0)) H
theorem xF:aK ["script","k"] ["script","k"] (au mM):=by walk_at "c"
theorem xG(T:Txt P w K mg a):aX P w K mg base CX0 1 a.ng a.lZ ["script","k"] (xE K):=by
 refine T.mV.fn.ok xF (λvs H Q E h=>?_) (λcdv A outer s H vs Q E hr h=>?_)
 .obtain⟨b,ns,k,rfl,_⟩:=h;rfl
 obtain⟨b,ns,k,rfl,hS,q⟩:=h;refine⟨_,(af (aI (aq vV (pv 1) (aF bA rfl T.bK PySem.boot_len (aa (pv 0) ac)) (nomark _)) (ai (aJ (aC bF (pv 0) (pv 1) (λ_ _=>rfl)))) aE)
   (ai (aJ ah))),?_⟩
 refine⟨_,rfl,_,rfl,_,_,rfl,.inl hS,_,_,rfl,rfl,_,rfl,?_⟩;refine dX (λc=>?_) (λc=>?_)
 .have hk:k<ns.length:=by
   have:=of_decide_eq_true c;rw[F6]at this;omega
  refine⟨_,rfl,_,rfl,_,_,_,_,rfl,rfl,hS,cp (j:=k) (v:=.int (ns.getD k 0)) ?_,q⟩;rw[GA,Ga hk,Gu,Ga hk];rfl
 .have hk:ns.length<=k:=by
   refine Iz λhk=>c (decide_eq_true ?_);rw[F6];omega
  have e:ns.getD k 0=0:=by rw[Gu,Ja hk];rfl
  rw[e]at q;exact q
def bV(c k m:Int):Int:=(c+1)*(48271+7919*k*k)%2147483647*((c+1)*(48271+7919*k*k)%2147483647)%2147483629/7%m
theorem dU(c k:Int){m:Int}(h:0<m):0<=bV c k m/\bV c k m<m:=⟨Int.emod_nonneg _ (by omega),Int.emod_lt_of_pos _ h⟩
theorem Fn{k:Int}(h0:0<=k)(h1:k<=100000):0<=7919*k*k/\7919*k*k<=79190000000000:=by
 have a:=Int.mul_nonneg h0 h0;have b:k*k<=100000*100000:=Int.mul_le_mul h1 h1 h0 (by decide);rw[Int.mul_assoc];omega
def Bh:Sp:=λvs H Q _=>∃c k m:Int,vs=[.int c,.int k,.int m]/\(0<=k/\k<=100000)/\0<m/\Q (.int (bV c k m)) H
theorem vn:aK ["cell","k","many","number"] ["cell","k","many"] (au sX):=by walk_at "c"
theorem bP(T:Txt P w K mg a):aX P w K mg base CX0 1 a.tJ a.rH ["cell","k","many"] Bh:=by
 refine T.bW.fn.ok vn (λvs H Q E h=>?_) (λcdv A outer s H vs Q E hr h=>?_)
 .obtain⟨c,k,m,rfl,_⟩:=h;rfl
 obtain⟨c,k,m,rfl,⟨h0,h1⟩,hm,q⟩:=h;refine⟨_,(af (ay (i:=3) vn.nd rfl (Gm rfl) (aP nI (aP tY (aP b8 (pv 0) ah) (aP b8 ah (aP tY (aP tY ah (pv 1)) (pv 1)))) ah))
   (ai (aJ (aP nI (aP yA (aP nI (aP tY (pv 3) (pv 3)) ah) ah) (pv 2))))),?_⟩
 have sq:=Fn h0 h1;refine⟨_,rfl,_,_,rfl,rfl,_,rfl,_,_,rfl,rfl,.inl ⟨by decide,by decide⟩,_,rfl,_,_,rfl,rfl,.inr ⟨by omega,by omega⟩,_,_,rfl,rfl,_,_,rfl,rfl,.inr ⟨by omega,by omega⟩,_,_,rfl,rfl,(by decide:(0:Int)<2147483647),?_⟩;refine⟨_,rfl,_,rfl,_,_,rfl,rfl,.inl ⟨by omega,by omega⟩,_,_,rfl,rfl,(by decide:(0:Int)<2147483629),_,_,rfl,rfl,⟨by decide,by decide⟩,_,rfl,_,_,rfl,rfl,hm,?_⟩;exact q
theorem jN(c k:Int){m:Nat}(h:0<m):∃d:Nat,bV c k (m:Int)=(d:Int)/\d<m:=by
 have:=dU c k (show(0:Int)<(m:Int) by omega);exact⟨(bV c k m).toNat,by omega,by omega⟩

theorem at4(a b c d:Int):∀k:Nat,k<4->∃w,atI [V.int a,V.int b,V.int c,V.int d] (k:Int)=some (V.int w)
 |0,_=>⟨a,rfl⟩
 |1,_=>⟨b,rfl⟩
 |2,_=>⟨c,rfl⟩
 |3,_=>⟨d,rfl⟩

def Bi:Sp:=λvs H Q _=>∃c:Int,vs=[.int c]/\∀p H' (x y z u:Int),H p=none->aj H H'->H' p=some (.tup [.int x,.int y,.int z,.int u])->Q (.ref p) H'
theorem vo:aK ["cell","wide"] ["cell"] (au sY):=by walk_at "c"
theorem Bj(T:Txt P w K mg a):aX P w K mg base CX0 2 a.tK a.rJ ["cell"] Bi:=by
 refine T.tE.fn.ok vo (λvs H Q E h=>?_) (λcdv A outer s H vs Q E hr h=>?_)
 .obtain⟨c,rfl,_⟩:=h;rfl
 obtain⟨c,rfl,q⟩:=h;refine⟨_,(af (ay (i:=1) vo.nd rfl (Gm rfl) (aC bF (bi (aa (aP b8 ah (aD T.bW (bP T) (hr.mono (by decide)) rfl (aa (pv 0) (aa ah (aa ah ac))))) (aa ah (aa ah (aa (aP b8 ah (aD T.bW (bP T) (hr.mono (by decide)) rfl (aa (pv 0) (aa ah (aa ah ac))))) ac))))) (aD T.bW (bP T) (hr.mono (by decide)) rfl (aa (pv 0) (aa ah (aa ah ac)))) (λ_ _=>rfl)))
   (ai (aJ (aY (aa (pv 1) (aa (aP b8 ah (aD T.bW (bP T) (hr.mono (by decide)) rfl (aa (pv 0) (aa ah (aa ah ac))))) (aa (aP nI (pv 0) (aP b8 (aP D8 ah ah) ah)) (aa (aP b8 ah (aD T.bW (bP T) (hr.mono (by decide)) rfl (aa (pv 0) (aa ah (aa ah ac))))) ac)))))))),?_⟩
 obtain⟨n,en,hn⟩:=jN c 77 (show 0<4 by decide);have en:bV c 77 4=(n:Int):=en;refine⟨_,rfl,_,75,200,rfl,⟨by decide,by decide⟩,by decide,_,_,rfl,rfl,_,rfl,_,76,30,rfl,⟨by decide,by decide⟩,by decide,_,_,rfl,rfl,le4,λp1 hp1=>?_⟩;obtain⟨w,hw⟩:=at4 (1+bV c 75 200) 1 200 (1+bV c 76 30) n hn;refine⟨_,rfl,_,77,4,rfl,⟨by decide,by decide⟩,by decide,_,_,_,_,rfl,rfl,SqL.of ae,(by rw[en];exact hw),?_⟩;refine⟨_,rfl,_,rfl,_,78,60,rfl,⟨by decide,by decide⟩,by decide,_,_,rfl,rfl,_,rfl,_,_,rfl,rfl,⟨by decide,by decide,by decide⟩,_,_,rfl,rfl,_,_,rfl,rfl,(by show(0:Int)<10^HV 60+1;decide),_,rfl,_,79,60,rfl,⟨by decide,by decide⟩,by decide,_,_,rfl,rfl,le4,λp2 hp2=>?_⟩;exact q p2 _ _ _ _ _ ((ag hp1 _).free hp2) ((ag hp1 _).trans (ag hp2 _)) ae
def zH(K:PySem.W.Frag):Sp:=λvs H Q _=>∃(sa ta:Addr) (sv tv:List V) (ss:List Sw) (tt:List Ttl),vs=[.ref sa,.ref ta]/\H sa=some (.lst sv)/\aL (SwA H) sv ss/\H ta=some (.lst tv)/\aL (TtA H) tv tt/\(∀k,.head k∈ss->k<tt.length)/\ss.length<=1000000/\∀p H' us,H p=none->aj H H'->H' p=some (.lst us)->aL (HdA H') us (cA tt ss 0)->Q (.ref p) H'
theorem iH:aK ["stream","titles","heads","at","kind","rest"] ["stream","titles"] (au qB):=by walk_at "c"
theorem zI(T:Txt P w K mg a):aX P w K mg base CX0 1 a.rB a.pE ["stream","titles"] (zH K):=by
 refine T.rc.fn.ok iH (λvs H Q E h=>?_) (λcdv A outer s H vs Q E hr h=>?_)
 .obtain⟨sa,ta,sv,tv,ss,tt,rfl,_⟩:=h;rfl
 obtain⟨sa,ta,sv,tv,ss,tt,rfl,hsa,sal,hta,tal,hk,sl,q⟩:=h;refine⟨_,(af (ay (i:=2) iH.nd rfl (Gm rfl) (bi ac))
   (af (ay (i:=3) iH.nd rfl (Gm rfl) ah)
   (af (cc GS rfl (bj (pv 0)) (dZ rfl (a7 (aM (i:=4) iH.nd rfl (Gm rfl)) (a7 (aM (i:=5) iH.nd rfl (Gm rfl)) dt))) (af (aI (aq br (pv 4) ao (nomark _)) (ai (bf (cq PySem.F.plainAttrs_list PySem.F.slot_list_append PySem.F.type_list_append bZ (pv 2) (aa (aY (aa (aC aS (aC bF (pv 1) (pv 5) (λ_ _=>rfl)) ah (λ_ _=>rfl)) (aa (pv 3) ac))) ac)))) aE)
   (ai (aI (aq eQ (pv 4) ao (nomark _)) (ai (ay (i:=3) iH.nd rfl (Gm rfl) (aP b8 (pv 3) ah))) aE))))
   (ai (aJ (pv 2)))))),?_⟩
 have ls:=sal.len;refine⟨aQ (by simp),λp1 hp1=>?_⟩;have s1:=ag hp1 (.lst []);have k1:upd H p1 (.lst []) p1=some (.lst []):=ae;generalize upd H p1 (.lst [])=H1 at s1 k1⊢;refine⟨_,rfl,sa,rfl,⟨_,SqL.of (s1 _ _ hsa)⟩,cg (K:=K) (a:=sa) (xs:=sv) (λi σ' G=>∃(n:Nat) (v4 v5:Option V) (us:List V) (hs:List (Str×Nat)),σ'=[some (.ref sa),some (.ref ta),some (.ref p1),some (.int (n:Int)),v4,v5]/\aj H G/\G p1=some (.lst us)/\aL (HdA (hid [p1] G)) us hs/\cA tt ss 0=hs++cA tt (ss.drop i) n/\us.length<=i) ⟨0,none,none,[],[],rfl,s1,k1,trivial,rfl,GV _⟩ (λi σ' G _ g=>by obtain⟨_,_,_,_,_,_,m,_⟩:=g;exact SqL.of (m _ _ hsa)) ?_ ?_⟩
 .rintro i y σ' G hy ⟨n,v4,v5,us,hs,rfl,m,g1,hal,eh,ul⟩;obtain⟨s,hs',b,rfl,hb⟩:=sal.getL hy;have hi:=(List.getElem?_eq_some_iff.mp hy).1;have ed:ss.drop i=s::ss.drop (i+1):=by
   obtain⟨hi,e⟩:=List.getElem?_eq_some_iff.mp hs';rw[GT hi,e]
  rw[ed]at eh;refine⟨b,_,rfl,SqT.of (m _ _ hb),rfl,_,_,rfl,_,_,rfl,rfl,?_⟩;refine cO (λσ' G'=>∃(us:List V) (hs:List (Str×Nat)),σ'=[some (.ref sa),some (.ref ta),some (.ref p1),some (.int (n:Int)),some (.str s.k),some s.v]/\aj H G'/\G' p1=some (.lst us)/\aL (HdA (hid [p1] G')) us hs/\cA tt ss 0=hs++cA tt (ss.drop (i+1)) (n+(if s.isM then 0 else 1))/\us.length<=i+1) ?_ (λkey=>?_)
  .rintro σ' G2 ⟨us2,hs2,rfl,m2,g2,hal2,eh2,ul2⟩;refine⟨_,rfl,rfl,_,rfl,?_⟩;by_cases hm:s.isM=true
   .rw[decide_eq_true (show V.str s.k=V.str (PySem.Str.ofString "mark")from congrArg V.str (Sw.mark_k.mpr hm))];refine av ?_;rw[hm]at eh2;exact⟨n,_,_,us2,hs2,rfl,m2,g2,hal2,eh2,ul2⟩
   .rw[decide_eq_false (show ¬ (V.str s.k=V.str (PySem.Str.ofString "mark"))from λz=>hm (Sw.mark_k.mp (V.str.inj z)))];refine aN ?_;rw[if_neg hm]at eh2;exact⟨_,rfl,_,_,rfl,rfl,n+1,_,_,us2,hs2,rfl,m2,g2,hal2,eh2,ul2⟩
  .refine⟨_,rfl,rfl,_,rfl,?_⟩;by_cases hh:∃k,s=.head k
   .obtain⟨k,rfl⟩:=hh;rw[decide_eq_true (show V.str (Sw.head k).k=V.str (PySem.Str.ofString "head")from rfl)];refine aN ?_;have hkl:=hk k (Ge hs');obtain⟨t,ht⟩:∃t,tt[k]?=some t:=⟨tt[k],Ga hkl⟩;obtain⟨v,hv,tb,tl,rfl,htb,_⟩:=tal.getR ht;refine⟨_,rfl,.inl ⟨rfl,_,SqL.of g1⟩,_,rfl,_,rfl,_,_,_,_,rfl,rfl,SqL.of (m _ _ hta),cp hv,_,_,_,_,rfl,rfl,SqT.of (m _ _ htb),rfl,_,rfl,le2,λp2 hp2=>?_⟩;have m3:=ag hp2 (.tup [.str (tx t.1),.int (n:Int)]);have np:p2≠p1:=λz=>by rw[z,g1]at hp2;cases hp2
    refine⟨_,_,_,rfl,rfl,m3 _ _ g1,Go (show us.length<=1000000 by omega) (by decide),?_⟩;refine key _ _ ⟨us++[.ref p2],hs++[(tx t.1,n)],rfl,aW (m.trans m3) hp1,ae,?_,?_,by rw[F7];simp only[F8,Gj];omega⟩
    .rw[bw (by simp)];exact(hal.imp λ_ _=>HdA.mono (bb m3)).snoc ⟨p2,rfl,bn (by simpa using np) ae⟩
    .rw[eh];show hs++(tx (tt.getD k ([],[])).1,n)::cA tt _ (n+1)=_;rw[Gu,ht,Gs];rfl
   .rw[decide_eq_false (show ¬ (V.str s.k=V.str (PySem.Str.ofString "head"))from λz=>hh (Sw.head_k.mp (V.str.inj z)))];refine av ?_;refine key _ _ ⟨us,hs,rfl,m,g1,hal,?_,by omega⟩;rw[eh];cases s with
    |head k=>exact absurd ⟨k,rfl⟩ hh
    |w x=>rfl
    |entry k=>rfl
    |goal k=>rfl
 rintro σ' G ⟨n,v4,v5,us,hs,rfl,m,g1,hal,eh,ul⟩;rw[ls,HG]at eh;have eh:cA tt ss 0=hs:=by rw[eh];exact GL _
 exact⟨_,rfl,q p1 G us hp1 m g1 (by rw[eh];exact hal.imp λ_ _=>HdA.mono bN)⟩

def bo:List Wk->Nat->List (Str×Nat)
 |[],_=>[]
 |w::r,n=>if w.1=.mark then(rest w.2,n)::bo r n else bo r (n+1)
def bu(ws:List Wk):Nat:=(ws.filter λw=>!decide (w.1=.mark)).length
theorem h_:∀(a b:List Wk) (n:Nat),bo (a++b) n=bo a n++bo b (n+bu a)
 |[],b,n=>by simp[bo,bu]
 |w::r,b,n=>by
  by_cases h:w.1=.mark
  .have e:bu (w::r)=bu r:=by unfold bu;simp[h]
   rw[e];show(if w.1=.mark then _ else _)=(if w.1=.mark then _ else _)++_;rw[if_pos h,if_pos h];show(rest w.2,n)::bo (r++b) n=_;rw[h_ r b n];rfl
  .have e:bu (w::r)=bu r+1:=by unfold bu;simp[h]
   rw[e];show(if w.1=.mark then _ else bo (r++b) (n+1))=(if w.1=.mark then _ else bo r (n+1))++_;rw[if_neg h,if_neg h,h_ r b (n+1),show n+1+bu r=n+(bu r+1) by omega]
theorem Bk(ws:List Wk)(w:Wk):bu (ws++[w])=bu ws+(if w.1=.mark then 0 else 1):=by
 unfold bu;rw[GY,F7];by_cases h:w.1=.mark<;>simp[h]
theorem yX{β:Type}{n:Str}{k:β}:∀{l1 l2:List (Str×β)},n∉l1.map (·.1)->lkS n (l1++(n,k)::l2)=some k
 |[],_,_=>if_pos rfl
 |(m,j)::r,l2,h=>by
  have h1:m≠n:=λz=>h (by rw[z];exact Gd);show(if m=n then some j else lkS n (r++(n,k)::l2))=some k;rw[if_neg h1];exact yX λz=>h (Gc _ z)
theorem DJ{ws:List Wk}{i:Nat}{w:Wk}(hw:ws[i]?=some w)(hm:w.1=.mark)(nd:((bo ws 0).map (·.1)).Nodup):lkS (rest w.2) (bo ws 0)=some (bu (ws.take i)):=by
 obtain⟨hi,e⟩:=List.getElem?_eq_some_iff.mp hw;have es:ws=ws.take i++w::ws.drop (i+1):=by rw[<-e,<-GT hi,List.take_append_drop]
 have em:bo ws 0=bo (ws.take i) 0++(rest w.2,bu (ws.take i))::bo (ws.drop (i+1)) (bu (ws.take i)):=by
  conv=>lhs;rw[es]
  rw[h_,HB];show _++(if w.1=.mark then _ else _)=_;rw[if_pos hm]
 rw[em]at nd⊢;refine yX λz=>?_;rw[Gg,Iq]at nd;exact nd.2.2 _ z _ (by rw[Gi];exact Gd) rfl

def ym(K:PySem.W.Frag):Sp:=λvs H Q _=>∃(sa ma:Addr) (sv:List V) (ss:List Sw) (tt:List Ttl),vs=[.ref sa,.ref ma]/\H sa=some (.lst sv)/\aL (SwA H) sv ss/\H ma=some (.dK (mkV (bo (ss.map (bR tt)) 0)))/\((bo (ss.map (bR tt)) 0).map (·.1)).Nodup/\∀H',aj H H'->Q (.bl true) H'
theorem fC:aK ["stream","marks","at","many","kind","rest"] ["stream","marks"] (au oJ):=by walk_at "c"
theorem yn(T:Txt P w K mg a):aX P w K mg base CX0 6 a.o_ a.nA ["stream","marks"] (ym K):=by
 refine T.o5.fn.ok fC (λvs H Q E h=>?_) (λcdv A outer s H vs Q E hr h=>?_)
 .obtain⟨sa,ma,sv,ss,tt,rfl,_⟩:=h;rfl
 obtain⟨sa,ma,sv,ss,tt,rfl,hsa,sal,hma,nd,q⟩:=h;refine⟨_,(af (ay (i:=2) fC.nd rfl (Gm rfl) ah)
   (af (ay (i:=3) fC.nd rfl (Gm rfl) ah)
   (af (cc GS rfl (bj (pv 0)) (dZ rfl (a7 (aM (i:=4) fC.nd rfl (Gm rfl)) (a7 (aM (i:=5) fC.nd rfl (Gm rfl)) dt))) (ai (aI (aq eQ (pv 4) ao (nomark _)) (ai (ay (i:=2) fC.nd rfl (Gm rfl) (aP b8 (pv 2) ah))) (ai (aI (PW.pt (dR (aq (ki (fe hr)) (pv 5) (pv 1) (by with_unfolding_all rfl)) (fb (fc (cz (aD T.fA (kY T) (hr.mono (by decide)) rfl (aa (le (fe hr) (pv 1) (pv 5) (λ_ _=>rfl)) (aa (pv 2) ac))) (λ_=>rfl)))))) (ai (aJ dh)) (ai (ay (i:=3) fC.nd rfl (Gm rfl) (aP b8 (pv 3) ah))))))))
   (ai (aJ (fK br (aF AD rfl T.bK PySem.boot_len (aa (pv 1) ac)) (pv 3) (nomark _))))))),?_⟩
 have lu:=sal.len;have lw_:(ss.map (bR tt)).length=ss.length:=F6 _;generalize hws:ss.map (bR tt)=ws at *;refine⟨_,rfl,sa,rfl,⟨_,SqL.of hsa⟩,cg (K:=K) (a:=sa) (xs:=sv) (λi σ' G=>G=H/\∃(v4 v5:Option V),σ'=[some (.ref sa),some (.ref ma),some (.int ((bu (ws.take i):Nat):Int)),some (.int (((bo (ws.take i) 0).length:Nat):Int)),v4,v5]) ⟨rfl,none,none,rfl⟩ (λi σ' G _ g=>by rw[g.1];exact SqL.of hsa) ?_ ?_⟩
 .rintro i y σ' G hy ⟨rfl,v4,v5,rfl⟩;obtain⟨s,hs',b,rfl,hb⟩:=sal.getL hy;have hw:ws[i]?=some (bR tt s):=by rw[<-hws,GA,hs'];rfl
  obtain⟨w,hww⟩:∃w,w=bR tt s:=⟨_,rfl⟩;rw[<-hww]at hw;have hmm:w.1=.mark↔s.isM=true:=by rw[hww];exact jo tt s
  have ec:=Bk (ws.take i) w;have em:=h_ (ws.take i) [w] 0;rw[<-aV hw]at ec em;refine⟨b,_,rfl,SqT.of hb,rfl,_,_,rfl,_,_,rfl,rfl,?_⟩;refine⟨_,rfl,rfl,_,rfl,?_⟩;by_cases hm:w.1=.mark
  .rw[decide_eq_true (show V.str s.k=V.str (PySem.Str.ofString "mark")from congrArg V.str (Sw.mark_k.mpr (hmm.mp hm)))];refine av ?_;have at1:=DJ hw hm nd;obtain⟨n,hn,er⟩:∃n:List Nat,s.v=.str (tx n)/\rest w.2=tx n:=by
    cases s with
    |w x=>exact⟨x.2,rfl,by rw[hww];rfl⟩
    |head k=>exact absurd (hmm.mp hm) (show ¬ (false=true) by decide)
    |entry k=>exact absurd (hmm.mp hm) (show ¬ (false=true) by decide)
    |goal k=>exact absurd (hmm.mp hm) (show ¬ (false=true) by decide)
   rw[er]at at1;have hg:eW G ma (kV (.inr (tx n))) (some (.int ((bu (ws.take i):Nat):Int))):=by
    have:=eW.k (k:=.inr (tx n)) hma;rw[jM,at1]at this;exact this
   have hg':=hg;change eW G ma (.str (tx n)) _ at hg';rw[<-hn]at hg';refine⟨_,rfl,_,rfl,_,_,rfl,hg',_,rfl,?_⟩;refine av ?_;refine⟨_,rfl,_,rfl,_,_,rfl,hg',_,rfl,.int ((bu (ws.take i):Nat):Int),_,_,rfl,(by show 0<5;decide),rfl,rfl,_,rfl,?_⟩;refine av ?_;refine⟨_,rfl,_,_,rfl,rfl,rfl,some (.str s.k),some s.v,?_⟩;have e1:(bo (ws.take (i+1)) 0).length=(bo (ws.take i) 0).length+1:=by
    rw[em,F7];show _+(if w.1=.mark then _ else _:List (Str×Nat)).length=_;rw[if_pos hm];rfl
   rw[ec,e1,if_pos hm];rfl
  .rw[decide_eq_false (show ¬ (V.str s.k=V.str (PySem.Str.ofString "mark"))from λzz=>hm (hmm.mpr (Sw.mark_k.mp (V.str.inj zz))))];refine aN ?_;refine⟨_,rfl,_,_,rfl,rfl,rfl,some (.str s.k),some s.v,?_⟩;have e1:(bo (ws.take (i+1)) 0).length=(bo (ws.take i) 0).length:=by
    rw[em,F7];show _+(if w.1=.mark then _ else _:List (Str×Nat)).length=_;rw[if_neg hm];rfl
   rw[ec,e1,if_neg hm];rfl
 rintro σ' G ⟨rfl,v4,v5,rfl⟩;rw[lu,<-lw_,Gv];refine⟨_,rfl,_,_,rfl,hma,_,rfl,rfl,?_⟩;rw[uH,decide_eq_true rfl];exact q _ (aj.refl _)

def iO(c:Int):List Nat:=(bV c 60 26).toNat::(HQ (bV c 57 10).toNat).map λ(k:Nat)=>(bV c (61+(k:Int)) 36).toNat
def lL(c:Int):Nat:=1+(bV c 58 (1+bV c 57 10)).toNat
def f9(c:Int)(j:Nat):List Nat:=(nmB (iO c) (lL c) j).map al
theorem zJ(c:Int):sT (iO c) (lL c):=by
 have h1:=dU c 57 (show(0:Int)<10 by decide);have h2:=dU c 58 (show(0:Int)<1+bV c 57 10 by omega);have h3:=dU c 60 (show(0:Int)<26 by decide);refine⟨?_,?_,?_,?_,?_⟩
 .unfold iO;simp only[F8,F6,Hj];omega
 .intro b hb;have:b=(bV c 60 26).toNat:=by simpa[iO]using hb.symm
  omega
 .intro b hb;rcases List.mem_cons.mp hb with rfl|hb
  .omega
  .obtain⟨k,_,rfl⟩:=List.mem_map.mp hb;have:=dU c (61+(k:Int)) (show(0:Int)<36 by decide);omega
 .unfold lL;omega
 .unfold lL iO;simp only[F8,F6,Hj];omega
theorem Fo(c:Int):NmF (f9 c):=(zJ c).nmF

def Bl:Sp:=λvs H Q _=>∃(c:Int) (j:Nat),vs=[.int c,.int (j:Int)]/\∀H',aj H H'->Q (.str (tx (f9 c j))) H'
theorem j0:aK ["cell","j","some","size","base","at"] ["cell","j"] (au sZ):=by walk_at "c"
theorem qL(T:Txt P w K mg a):aX P w K mg base CX0 2 a.tL a.rK ["cell","j"] Bl:=by
 refine T.lP.fn.ok j0 (λvs H Q E h=>?_) (λcdv A outer s H vs Q E hr h=>?_)
 .obtain⟨c,j,rfl,_⟩:=h;rfl
 obtain⟨c,j,rfl,q⟩:=h;refine⟨_,(af (ay (i:=2) j0.nd rfl (Kn rfl) ao)
   (af (ay (i:=3) j0.nd rfl (Gm rfl) (aP b8 ah (aD T.bW (bP T) (hr.mono (by decide)) rfl (aa (pv 0) (aa ah (aa ah ac))))))
   (af (ay (i:=4) j0.nd rfl (Gm rfl) (aP dJ (aC eK (pv 2) (aD T.bW (bP T) (hr.mono (by decide)) rfl (aa (pv 0) (aa ah (aa ah ac)))) (λ_ _=>rfl)) (cq PySem.F.plainAttrs_str PySem.F.slot_str_join PySem.F.type_str_join nN ao (aa (fG rfl (d_ (caps:=["cell","some"]) (js:=[0,2]) (cap:=⟨⟨rfl,.inl rfl,rfl,.inl rfl⟩,⟨⟨rfl,.inl rfl,rfl,.inl rfl⟩,trivial⟩⟩)) (mi rfl T.eJ (aa (aP nH (pv 3) ah) ac)) (λ_ _ _ _=>dD) (λ_ _ _ _=>(aC eK (pv 2) (aD T.bW (bP T) (hr.mono (by decide)) rfl (aa (pv 1) (aa (aP b8 ah (pv 0)) (aa ah ac)))) (λ_ _=>rfl)))) ac))))
   (af (ay (i:=5) j0.nd rfl (Gm rfl) (aP b8 ah (aD T.bW (bP T) (hr.mono (by decide)) rfl (aa (pv 0) (aa ah (aa (pv 3) ac))))))
   (ai (aJ (aP dJ (aP dJ (aP dJ (dC jY (pv 4) eZ (dS (pv 5))) (aC eK (pv 2) (aP nI (aP yA (pv 1) ah) ah) (λ_ _=>rfl))) (aC eK (pv 2) (aP nI (pv 1) ah) (λ_ _=>rfl))) (dC jY (pv 4) (dS (pv 5)) eZ)))))))),?_⟩
 generalize hS:(PySem.Str.ofString "abcdefghijklmnopqrstuvwxyz0123456789")=S;have hat:∀k:Nat,k<36->atI S.cps.toList (k:Int)=some (al k):=hS▸DE;have hSl:S.length<=Gr:=hS▸aQ (by decide +kernel);have h1:=dU c 57 (show(0:Int)<10 by decide);have h2:=dU c 58 (show(0:Int)<1+bV c 57 10 by omega);have h3:=dU c 60 (show(0:Int)<26 by decide);refine⟨_,rfl,_,57,10,rfl,⟨by decide,by decide⟩,by decide,_,_,rfl,rfl,?_⟩;dsimp only[bE];have e60:bV c 60 26=((bV c 60 26).toNat:Int):=by omega
 refine⟨_,rfl,_,rfl,_,60,26,rfl,⟨by decide,by decide⟩,by decide,_,_,al (bV c 60 26).toNat,rfl,rfl,hSl,(by rw[e60];exact hat _ (by omega)),rfl,_,rfl,_,_,rfl,rfl,_,rfl,by omega,by omega,lm (λi ys G=>G=H/\ys=(((HQ i).map λ(k:Nat)=>al (bV c (61+(k:Int)) 36).toNat).map λd=>tx [d]).map V.str) ⟨rfl,rfl⟩ ?_ ?_ ?_⟩
 .rintro i ys G hi ⟨_,rfl⟩;simp only[F6,Hj];exact aA (by omega)
 .rintro i ys G hi ⟨rfl,rfl⟩;refine d3 ?_;have h4:=dU c (61+(i:Int)) (show(0:Int)<36 by decide);have e4:bV c (61+(i:Int)) 36=((bV c (61+(i:Int)) 36).toNat:Int):=by omega
  refine⟨_,rfl,_,rfl,_,rfl,_,_,rfl,rfl,c,61+(i:Int),36,(by rw[JA];rfl),⟨by omega,by omega⟩,by decide,_,_,al (bV c (61+(i:Int)) 36).toNat,rfl,rfl,hSl,(by rw[e4];exact hat _ (by omega)),rfl,?_⟩;rw[Jv,Gg,Gg,Gg];rfl
 rintro ys G ⟨rfl,rfl⟩ p hp;have en:(1+bV c 57 10-1).toNat=(bV c 57 10).toNat:=by omega
 rw[en];have hb:(al (bV c 60 26).toNat::((HQ (bV c 57 10).toNat).map λ(k:Nat)=>al (bV c (61+(k:Int)) 36).toNat))=(iO c).map al:=by
  unfold iO;rw[Gi,Hw];rfl
 have bl:(iO c).length=1+(bV c 57 10).toNat:=by unfold iO;simp only[F8,F6,Hj];omega
 refine⟨_,_,_,rfl,rfl,SqL.of ae,by decide,by simp only[uM,F6,Hj];omega,_,_,rfl,rfl,(by rw[ej1,aZ,aZ];simp only[F6,Hj,F8,Gj];exact GR (aA (by omega))),?_⟩;dsimp only[bE];rw[ej1,eN,List.singleton_append,hb];have s1:=ag hp (.lst ((((HQ (bV c 57 10).toNat).map λ(k:Nat)=>al (bV c (61+(k:Int)) 36).toNat).map λd=>tx [d]).map V.str));generalize upd G p _=G1 at s1⊢;refine⟨_,rfl,_,rfl,c,58,1+bV c 57 10,rfl,⟨by decide,by decide⟩,by omega,_,_,rfl,rfl,?_⟩;dsimp only[bE];have ea:1+bV c 58 (1+bV c 57 10)=((lL c:Nat):Int):=by unfold lL;omega
 rw[ea];have la:lL c<=(iO c).length:=(zJ c).hi;have l10:=(zJ c).len;have q1:(j:Int)/36%36=((j/36%36:Nat):Int):=by omega
 have q2:(j:Int)%36=((j%36:Nat):Int):=by omega
 have sl1:Txt.slice (tx ((iO c).map al)) none (some ((lL c:Nat):Int))=tx (((iO c).take (lL c)).map al):=by rw[fB,Tl.cut_to,List.map_take]
 have sl2:Txt.slice (tx ((iO c).map al)) (some ((lL c:Nat):Int)) none=tx (((iO c).drop (lL c)).map al):=by rw[fB,Tl.cut_from,List.map_drop]
 have hla:((iO c).map al).length<=10:=by rw[F6];exact l10
 have LN:(tx ((iO c).map al)).length<=Gr:=by rw[aZ];exact GR (aA (by omega))
 refine⟨_,rfl,_,rfl,_,rfl,_,rfl,LN,_,rfl,_,rfl,_,_,rfl,rfl,⟨by decide,by decide⟩,_,_,rfl,rfl,(by (first|decide|(show(0:Int)<_;first|decide|omega))),_,_,al (j/36%36),rfl,rfl,hSl,(by rw[q1];exact hat _ (J1 _ (by decide))),_,_,rfl,rfl,(by rw[sl1,aZ];simp only[F6,GD];exact GR (aA (by show min _ _+1<=1000;omega))),_,rfl,_,rfl,_,_,rfl,rfl,(by (first|decide|(show(0:Int)<_;first|decide|omega))),_,_,al (j%36),rfl,rfl,hSl,(by rw[q2];exact hat _ (J1 _ (by decide))),_,_,rfl,rfl,?_,_,rfl,_,rfl,_,rfl,_,rfl,LN,_,_,rfl,rfl,?_,?_⟩
 .rw[sl1];show(tx _++tx [_]).length+1<=_;rw[eN,aZ];simp only[F7,F6,GD,F8,Gj];exact GR (aA (by omega))
 .rw[sl1,sl2];show((tx _++tx [_])++tx [_]).length+_<=_;rw[eN,eN,aZ,aZ];simp only[F7,F6,GD,Iw,F8,Gj];exact GR (aA (by omega))
 .rw[sl1,sl2];show Q (.str (((tx _++tx [_])++tx [_])++tx _)) G1;rw[eN,eN,eN];have:=q G1 s1;unfold f9 nmB at this;rw[Gg,Gg,Gg]at this;exact this
def zK:List Nat:=[33,34,35,36,38,39,40,41,42,43,44,45,46,47,48,49,50,51,52,53,54,55,56,57,58,59,60,61,62,63,64,65,66,67,68,69,70,71,72,73,74,75,76,77,78,79,80,81,82,83,84,85,86,87,88,89,90,91,92,93,94,95,96,97,98,99,100,101,102,103,104,105,106,107,108,109,110,111,112,113,114,115,116,117,118,119,120,121,122,123,124,125,126]
def nY(c k:Int):Nat:=zK.getD (bV c k 93).toNat 0
theorem EG:∀k:Nat,k<93->32<zK.getD k 0/\zK.getD k 0<127:=by decide +kernel
theorem vp(c k:Int):32<nY c k/\nY c k<127:=by
 have:=dU c k (show(0:Int)<93 by decide);exact EG _ (by omega)
def xH:Sp:=λvs H Q _=>∃c k:Int,vs=[.int c,.int k]/\(0<=k/\k<=100000)/\Q (.str (tx [nY c k])) H
theorem qM:aK ["cell","k","some"] ["cell","k"] (au mO):=by walk_at "c"
theorem qN(T:Txt P w K mg a):aX P w K mg base CX0 2 a.nj a.l7 ["cell","k"] xH:=by
 refine T.jS.fn.ok qM (λvs H Q E h=>?_) (λcdv A outer s H vs Q E hr h=>?_)
 .obtain⟨c,k,rfl,_⟩:=h;rfl
 obtain⟨c,k,rfl,hk,q⟩:=h;refine⟨_,(af (ay (i:=2) qM.nd rfl (Gm rfl) ao)
   (ai (aJ (aC eK (pv 2) (aD T.bW (bP T) (hr.mono (by decide)) rfl (aa (pv 0) (aa (pv 1) (aa ah ac)))) (λ_ _=>rfl))))),?_⟩
 have b:=dU c k (show(0:Int)<93 by decide);obtain⟨d,hd⟩:=Int.eq_ofNat_of_zero_le b.1;have e:∀j:Nat,j<93->atI (PySem.Str.ofString "!\"#$&'()*+,-./0123456789:;<=>?@ABCDEFGHIJKLMNOPQRSTUVWXYZ[\\]^_`abcdefghijklmnopqrstuvwxyz{|}~").cps.toList (j:Int)=some (zK.getD j 0):=by decide +kernel
 refine⟨_,rfl,_,rfl,_,rfl,c,k,93,rfl,hk,by decide,_,_,nY c k,rfl,rfl,aQ (by decide +kernel),?_,q⟩;rw[hd];have:=e d (by omega);rw[this];unfold nY;rw[hd];rfl

def plP:List (List Nat):=[[46,112,97,103,101],[46,108,101,116],[61],[61,61],[61,61,61],[35,97,98],[38,120,49],[33],[33,33],[91,97,98],[124],[93],[36,49],[126,97],[64],[94,48]]
theorem EH:∀w∈plP,w≠[]/\w.length<=60/\∀d∈w,33<=d/\d<127:=by decide
theorem cP:[V.str (PySem.Str.ofString ".page"),V.str (PySem.Str.ofString ".let"),V.str (PySem.Str.ofString "="),V.str (PySem.Str.ofString "=="),V.str (PySem.Str.ofString "==="),V.str (PySem.Str.ofString "#ab"),V.str (PySem.Str.ofString "&x1"),V.str (PySem.Str.ofString "!"),V.str (PySem.Str.ofString "!!"),V.str (PySem.Str.ofString "[ab"),V.str (PySem.Str.ofString "|"),V.str (PySem.Str.ofString "]"),V.str (PySem.Str.ofString "$1"),V.str (PySem.Str.ofString "~a"),V.str (PySem.Str.ofString "@"),V.str (PySem.Str.ofString "^0")]=(plP.map tx).map V.str:=by decide +kernel
theorem Fp(c:Nat):Txt.mul (tx [c]) 60=tx (Gp 60 c):=(AJ [c] 60).trans (by rw[sW])
theorem DK(c:Nat):MulOk (tx [c]) 60:=su (n:=60) (by omega) (by simp)

def vF:Sp:=λvs H Q _=>∃c:Int,vs=[.int c]/\∀l H',Co l->aj H H'->Q (.str (tx l)) H'
theorem ky:aK ["cell","some","way"] ["cell"] (au lG):=by walk_at "c"
theorem vG(T:Txt P w K mg a):aX P w K mg base CX0 3 a.lV a.kI ["cell"] vF:=by
 refine T.lQ.fn.ok ky (λvs H Q E h=>?_) (λcdv A outer s H vs Q E hr h=>?_)
 .obtain⟨c,rfl,_⟩:=h;rfl
 obtain⟨c,rfl,q⟩:=h;refine⟨_,(@af _ _ _ _ _ (@CP _ 1 _ _ _ _ _ _ ky.nd rfl (Gm rfl) (CL.str (CL.str (CL.str (CL.str (CL.str (CL.str (CL.str (CL.str (CL.str (CL.str (CL.str (CL.str (CL.str (CL.str (CL.str (CL.str CL.nil)))))))))))))))) (by first|exact .inl rfl|exact .inr rfl))
   (@af _ _ _ _ _ (ay (i:=2) ky.nd rfl (Gm rfl) (aD T.bW (bP T) (hr.mono (by decide)) rfl (@aa _ _ _ _ _ (pv 0) (@aa _ _ _ _ _ ah (@aa _ _ _ _ _ ah ac (by rfl)) (by rfl)) (by rfl))))
   (@af _ _ _ _ _ (@aI _ _ _ _ _ _ _ _ (aq br (pv 2) ah (nomark _)) (@ai _ _ _ (@aJ _ _ _ _ (@aC _ _ _ _ _ _ _ bF (pv 1) (aD T.bW (bP T) (hr.mono (by decide)) rfl (@aa _ _ _ _ _ (pv 0) (@aa _ _ _ _ _ ah (@aa _ _ _ _ _ ah ac (by rfl)) (by rfl)) (by rfl))) (λ_ _=>rfl)))) aE)
   (@af _ _ _ _ _ (@aI _ _ _ _ _ _ _ _ (aq br (pv 2) ah (nomark _)) (@ai _ _ _ (@aJ _ _ _ _ (aP ou (aD T.jS (qN T) (hr.mono (by decide)) rfl (@aa _ _ _ _ _ (pv 0) (@aa _ _ _ _ _ ah ac (by rfl)) (by rfl))) ah))) aE)
   (@ai _ _ _ (@aJ _ _ _ _ (cq PySem.F.plainAttrs_str PySem.F.slot_str_join PySem.F.type_str_join nN ao (@aa _ _ _ _ _ (fG rfl (d_ (caps:=["cell"]) (js:=[0]) (cap:=⟨⟨rfl,.inl rfl,rfl,.inl rfl⟩,trivial⟩)) (mi rfl T.eJ (@aa _ _ _ _ _ (aP b8 ah (aD T.bW (bP T) (hr.mono (by decide)) rfl (@aa _ _ _ _ _ (pv 0) (@aa _ _ _ _ _ ah (@aa _ _ _ _ _ ah ac (by rfl)) (by rfl)) (by rfl)))) ac (by rfl))) (λ_ _ _ _=>dD) (λ_ _ _ _=>(aD T.jS (qN T) (hr.mono (by decide)) rfl (@aa _ _ _ _ _ (pv 1) (@aa _ _ _ _ _ (aP b8 ah (pv 0)) ac (by rfl)) (by rfl))))) ac (by rfl))))))))),?_⟩
 refine⟨aQ (by simp),λp1 hp1=>?_⟩;have s1:=ag hp1 (.lst [V.str (PySem.Str.ofString ".page"),V.str (PySem.Str.ofString ".let"),V.str (PySem.Str.ofString "="),V.str (PySem.Str.ofString "=="),V.str (PySem.Str.ofString "==="),V.str (PySem.Str.ofString "#ab"),V.str (PySem.Str.ofString "&x1"),V.str (PySem.Str.ofString "!"),V.str (PySem.Str.ofString "!!"),V.str (PySem.Str.ofString "[ab"),V.str (PySem.Str.ofString "|"),V.str (PySem.Str.ofString "]"),V.str (PySem.Str.ofString "$1"),V.str (PySem.Str.ofString "~a"),V.str (PySem.Str.ofString "@"),V.str (PySem.Str.ofString "^0")]);have k1:upd H p1 (.lst [V.str (PySem.Str.ofString ".page"),V.str (PySem.Str.ofString ".let"),V.str (PySem.Str.ofString "="),V.str (PySem.Str.ofString "=="),V.str (PySem.Str.ofString "==="),V.str (PySem.Str.ofString "#ab"),V.str (PySem.Str.ofString "&x1"),V.str (PySem.Str.ofString "!"),V.str (PySem.Str.ofString "!!"),V.str (PySem.Str.ofString "[ab"),V.str (PySem.Str.ofString "|"),V.str (PySem.Str.ofString "]"),V.str (PySem.Str.ofString "$1"),V.str (PySem.Str.ofString "~a"),V.str (PySem.Str.ofString "@"),V.str (PySem.Str.ofString "^0")]) p1=some (.lst ((plP.map tx).map V.str)):=by rw[ae,cP]
 generalize upd H p1 (.lst [V.str (PySem.Str.ofString ".page"),V.str (PySem.Str.ofString ".let"),V.str (PySem.Str.ofString "="),V.str (PySem.Str.ofString "=="),V.str (PySem.Str.ofString "==="),V.str (PySem.Str.ofString "#ab"),V.str (PySem.Str.ofString "&x1"),V.str (PySem.Str.ofString "!"),V.str (PySem.Str.ofString "!!"),V.str (PySem.Str.ofString "[ab"),V.str (PySem.Str.ofString "|"),V.str (PySem.Str.ofString "]"),V.str (PySem.Str.ofString "$1"),V.str (PySem.Str.ofString "~a"),V.str (PySem.Str.ofString "@"),V.str (PySem.Str.ofString "^0")])=H1 at s1 k1⊢;refine⟨_,rfl,_,3,10,rfl,⟨by decide,by decide⟩,by decide,?_⟩;refine⟨_,rfl,rfl,_,rfl,?_⟩;refine dX (λ_=>?_) (λ_=>?_)
 .obtain⟨n,en,hn⟩:=jN c 4 (show 0<16 by decide);have en:bV c 4 16=(n:Int):=en;obtain⟨w,hw⟩:∃w,plP[n]?=some w:=⟨plP[n],Ga hn⟩;obtain⟨o1,o2,o3⟩:=EH w (Ge hw);exact⟨_,rfl,_,rfl,_,4,16,rfl,⟨by decide,by decide⟩,by decide,_,_,_,_,rfl,rfl,SqL.of k1,(by rw[en];exact cp (by rw[GA,GA,hw];rfl)),q w _ ⟨o1,o2,o3⟩ s1⟩
 dsimp only[cT];refine⟨_,rfl,rfl,_,rfl,?_⟩;refine dX (λ_=>?_) (λ_=>?_)
 .have sg:=vp c 5;refine⟨_,rfl,c,5,rfl,⟨by decide,by decide⟩,_,_,rfl,rfl,DK _,?_⟩
  .rw[Fp];exact q _ _ ⟨by simp,by simp,λd hd=>by rw[List.eq_of_mem_replicate hd];omega⟩ s1
 dsimp only[cT];have h6:=dU c 6 (show(0:Int)<5 by decide);refine⟨rfl,_,rfl,_,6,5,rfl,⟨by decide,by decide⟩,by decide,_,_,rfl,rfl,_,rfl,by omega,by omega,lm (λi ys G=>G=H1/\ys=(((HQ i).map λ(k:Nat)=>nY c (10+(k:Int))).map λd=>tx [d]).map V.str) ⟨rfl,rfl⟩ ?_ ?_ ?_⟩
 .rintro i ys G hi ⟨_,rfl⟩;simp only[F6,Hj];exact aA (by omega)
 .rintro i ys G hi ⟨rfl,rfl⟩;refine d3 ?_;refine⟨_,rfl,_,rfl,_,_,rfl,rfl,c,10+(i:Int),(by rw[JA];rfl),⟨by omega,by omega⟩,rfl,?_⟩;rw[Jv,Gg,Gg,Gg];rfl
 rintro ys G ⟨rfl,rfl⟩ p hp;refine⟨_,_,_,rfl,rfl,SqL.of ae,by decide,by simp only[uM,F6,Hj];omega,?_⟩;rw[ej1];refine q _ _ ⟨?_,?_,?_⟩ (s1.trans (ag hp _))
 .intro z;have:=congrArg Ka z;simp only[F6,Hj,Gj]at this;omega
 .simp only[F6,Hj];omega
 .intro d hd;obtain⟨k,_,rfl⟩:=List.mem_map.mp hd;have:=vp c (10+(k:Int));omega
def Bm:Sp:=λvs H Q _=>∃(f cell:Int) (k:Kw) (at_ marks feet:Nat),vs=[.int f,.str k.s,.int cell,.int (at_:Int),.int (marks:Int),.int (feet:Int)]/\k≠.entry/\∀p H' w,H p=none->aj H H'->H' p=some (.tup [.str w.1.s,.str (tx w.2)])->WdG (f9 f) k at_ marks feet w->Q (.ref p) H'
theorem ia:aK ["first","kind","cell","at","marks","feet","many","rest"] ["first","kind","cell","at","marks","feet"] (au s_):=by walk_at "c"
theorem Bn(T:Txt P w K mg a):aX P w K mg base CX0 4 a.tP a.rO ["first","kind","cell","at","marks","feet"] Bm:=by
 refine T.tI.fn.ok ia (λvs H Q E h=>?_) (λcdv A outer s H vs Q E hr h=>?_)
 .obtain⟨f,cell,k,at_,marks,feet,rfl,_⟩:=h;rfl
 obtain⟨f,cell,k,at_,marks,feet,rfl,ke,q⟩:=h;refine⟨_,(af (ay (i:=6) ia.nd rfl (Gm rfl) (pv 4))
   (af (aI (aq br (pv 1) ao (nomark _)) (ai (ay (i:=6) ia.nd rfl (Gm rfl) (pv 5))) aE)
   (af (aI (aq br (pv 1) ao (nomark _)) (ai (ay (i:=7) ia.nd rfl (Gm rfl) (aD T.lP (qL T) (hr.mono (by decide)) rfl (aa (pv 0) (aa (pv 3) ac))))) (ai (aI (PW.pt (dR (aq br (pv 1) ao (nomark _)) (fb (aq br (pv 6) ah (nomark _))))) (af (ay (i:=1) ia.nd rfl (Gm rfl) ao)
   (ai (ay (i:=7) ia.nd rfl (Gm rfl) (aD T.lQ (vG T) (hr.mono (by decide)) rfl (aa (pv 2) ac))))) (ai (ay (i:=7) ia.nd rfl (Gm rfl) (aD T.lP (qL T) (hr.mono (by decide)) rfl (aa (pv 0) (aa (aD T.bW (bP T) (hr.mono (by decide)) rfl (aa (pv 2) (aa ah (aa (pv 6) ac)))) ac))))))))
   (ai (aJ (aY (aa (pv 1) (aa (pv 7) ac)))))))),?_⟩
 refine⟨_,rfl,?_⟩;dsimp only[bE];refine cO (λσ' H'=>σ'=[some (.int f),some (.str k.s),some (.int cell),some (.int (at_:Int)),some (.int (marks:Int)),some (.int (feet:Int)),some (.int ((gk k marks feet:Nat):Int)),none]/\H'=H) ?_ (λkey=>?_)
 .rintro σ' H' ⟨rfl,rfl⟩;refine cO (λσ' H2=>∃w:NWd,σ'=[some (.int f),some (.str w.1.s),some (.int cell),some (.int (at_:Int)),some (.int (marks:Int)),some (.int (feet:Int)),some (.int ((gk k marks feet:Nat):Int)),some (.str (tx w.2))]/\aj H' H2/\WdG (f9 f) k at_ marks feet w) ?_ (λkey=>?_)
  .rintro σ' H2 ⟨w,rfl,s,g⟩;exact⟨_,rfl,_,rfl,le2,λp1 hp1=>q p1 _ w (s.free hp1) (s.trans (ag hp1 _)) ae g⟩
  .refine⟨_,rfl,rfl,_,rfl,?_⟩;by_cases hm:k=.mark
   .subst hm;rw[decide_eq_true (show V.str Kw.mark.s=V.str "mark" from rfl)];refine aN ?_;exact⟨_,rfl,_,rfl,f,at_,rfl,λH2 s=>key _ _ ⟨(.mark,f9 f at_),rfl,s,.inl ⟨rfl,rfl⟩⟩⟩
   .rw[decide_eq_false (show ¬ (V.str k.s=V.str "mark")from λz=>hm (Kw.inj (b:=.mark) (V.str.inj z)))];refine av ?_;refine⟨_,rfl,rfl,_,rfl,?_⟩;have pl:(k≠.plain->gk k marks feet=0)->∀l H2,Co l->aj H' H2->_:=λz l H2 ol s=>key _ H2 ⟨(.plain,l),rfl,s,.inr (.inl ⟨hm,rfl,ol,z⟩)⟩;by_cases hp:k=.plain
    .rw[decide_eq_true (show V.str k.s=V.str "plain" by rw[hp];rfl)];refine aN ?_;refine aN ?_;exact⟨_,rfl,cell,rfl,λl H2 ol s=>pl (λz=>absurd hp z) l H2 ol s⟩
    .rw[decide_eq_false (show ¬ (V.str k.s=V.str "plain")from λz=>hp (Kw.inj (b:=.plain) (V.str.inj z)))];refine av ?_;refine⟨_,rfl,rfl,_,rfl,?_⟩;by_cases h0:gk k marks feet=0
     .rw[h0,decide_eq_true (show V.int ((0:Nat):Int)=V.int 0 from rfl)];refine aN ?_;have pl:=pl (λ_=>h0);rw[h0]at pl;exact⟨_,rfl,cell,rfl,λl H2 ol s=>pl l H2 ol s⟩
     .rw[decide_eq_false (show ¬ (V.int ((gk k marks feet:Nat):Int)=V.int 0)from λz=>h0 (by injection z with z;omega))];refine av ?_;obtain⟨j,ej,hj⟩:=jN cell 9 (show 0<gk k marks feet by omega);refine⟨_,rfl,_,rfl,_,rfl,cell,9,((gk k marks feet:Nat):Int),rfl,⟨by decide,by decide⟩,by omega,f,j,by rw[ej];rfl,λH2 s=>key _ _ ⟨(k,f9 f j),rfl,s,.inr (.inr ⟨hm,hp,rfl,j,hj,rfl⟩)⟩⟩
 .refine⟨_,rfl,rfl,_,rfl,?_⟩;by_cases hf:k=.foot
  .rw[decide_eq_true (show V.str k.s=V.str "foot" by rw[hf];rfl)];refine aN ?_;exact⟨_,rfl,key _ _ ⟨by unfold gk;rw[if_pos hf];rfl,rfl⟩⟩
  .rw[decide_eq_false (show ¬ (V.str k.s=V.str "foot")from λz=>hf (Kw.inj (b:=.foot) (V.str.inj z)))];refine av ?_;exact key _ _ ⟨by unfold gk;rw[if_neg hf];rfl,rfl⟩
def zL(K:PySem.W.Frag):Sp:=λvs H Q _=>∃(ra:Addr) (f:Int) (rows:List cX) (rv:List V),vs=[.ref ra,.int f]/\H ra=some (.lst rv)/\aL (RrA H) rv rows/\rows.length<=62/\(∀r∈rows,r.2.length<=6/\∀w∈r.2,w.1≠.entry)/\∀p H' ns us,H p=none->aj H H'->H' p=some (.lst us)->aL (NnA H') us (ns++aU)->fH (f9 f) (cr rows) (ftN rows) 0 0 rows ns->Q (.ref p) H'
theorem cb:aK ["rows","first","marks","feet","named","at","hung","way","words","done","kind","cell","name"] ["rows","first"] (au qC):=by walk_at "c"
theorem zM(T:Txt P w K mg a):aX P w K mg base CX0 5 a.rC a.pF ["rows","first"] (zL K):=by
 refine T.rh.fn.ok cb (λvs H Q E h=>?_) (λcdv A outer s H vs Q E hr h=>?_)
 .obtain⟨ra,f,rows,rv,rfl,_⟩:=h;rfl
 obtain⟨ra,f,rows,rv,rfl,hra,al,rl,rok,q⟩:=h;have hu:=I0 (fe hr);refine⟨_,(@af _ _ _ _ _ (ay (i:=2) cb.nd rfl (Gm rfl) (aF (B4 rfl) rfl T.si PyProof.Rows.boot_sum (aa (AR rfl (d_ (caps:=[]) (js:=[]) (cap:=trivial)) (bj (pv 0)) (λ_ _ _ _=>dD) (λ_ _ _ _=>(aF (r:=FO K) bA rfl T.bK PySem.boot_len (aa (fG rfl (d_ (caps:=[]) (js:=[]) (cap:=trivial)) (Ch (K:=K) rfl (pv 1)) (λ_ _ _ _=>(iD (aq br (aC (r:=jG K) aS (pv 0) ah (λ_ _=>rfl)) ao (nomark _)))) (λ_ _ _ _=>(pv 0))) ac)))) ac)))
   (@af _ _ _ _ _ (ay (i:=3) cb.nd rfl (Gm rfl) (aF bA rfl T.bK PySem.boot_len (aa (AR rfl (d_ (caps:=[]) (js:=[]) (cap:=trivial)) (bj (pv 0)) (λ_ _ _ _=>(iD (aq br (pv 0) ao (nomark _)))) (λ_ _ _ _=>(pv 0))) ac)))
   (@af _ _ _ _ _ (ay (i:=4) cb.nd rfl (Gm rfl) (bi ac))
   (@af _ _ _ _ _ (ay (i:=5) cb.nd rfl (Gm rfl) ah)
   (@af _ _ _ _ _ (ay (i:=6) cb.nd rfl (Gm rfl) ah)
   (@af _ _ _ _ _ (cc GS rfl (bj (pv 0)) (dZ rfl (a7 (aM (i:=7) cb.nd rfl (Gm rfl)) (a7 (aM (i:=8) cb.nd rfl (Gm rfl)) dt))) (@af _ _ _ _ _ (ay (i:=9) cb.nd rfl (Gm rfl) (bi ac))
   (@af _ _ _ _ _ (cc GS rfl (bj (pv 8)) (dZ rfl (a7 (aM (i:=10) cb.nd rfl (Gm rfl)) (a7 (aM (i:=11) cb.nd rfl (Gm rfl)) dt))) (@af _ _ _ _ _ (bf (cq PySem.F.plainAttrs_list PySem.F.slot_list_append PySem.F.type_list_append bZ (pv 9) (aa (aD T.tI (Bn T) (hr.mono (by decide)) rfl (aa (pv 1) (aa (pv 10) (aa (pv 11) (aa (pv 5) (aa (pv 2) (aa (pv 3) ac))))))) ac)))
   (ai (ay (i:=5) cb.nd rfl (Gm rfl) (aP b8 (pv 5) (mj Aq rfl T.jT Jb (aa (fK br (pv 10) ao (nomark _)) ac)))))))
   (@af _ _ _ _ _ (ay (i:=12) cb.nd rfl (Gm rfl) ao)
   (@af _ _ _ _ _ (aI (aq br (pv 7) ao (nomark _)) (@af _ _ _ _ _ (ay (i:=12) cb.nd rfl (Gm rfl) (aD T.lP (qL T) (hr.mono (by decide)) rfl (aa (pv 1) (aa (pv 6) ac))))
   (ai (ay (i:=6) cb.nd rfl (Gm rfl) (aP b8 (pv 6) ah)))) aE)
   (@af _ _ _ _ _ (aI (PW.pt (gh (aq br (pv 7) ao (nomark _)) (eD (aq (sN hu) (pv 8) (bi ac) (nomark _))))) (ai (ay (i:=7) cb.nd rfl (Gm rfl) ao)) aE)
   (ai (bf (cq PySem.F.plainAttrs_list PySem.F.slot_list_append PySem.F.type_list_append bZ (pv 4) (aa (aY (aa (pv 7) (aa (pv 12) (aa (pv 9) ac)))) ac))))))))))
   (ai (aJ (aP i5 (pv 4) (bi (aa (aY (aa ao (aa ao (aa (bi ac) ac)))) (aa (aY (aa ao (aa ao (aa (bi (aa (aY (aa ao (aa ao ac))) ac)) ac)))) ac)))))))))))),?_⟩
 have lr:=al.len;refine(⟨_,rfl,ra,rfl,⟨_,SqL.of hra⟩,oB (K:=K) (a:=ra) (xs:=rv) (λi ys G=>aj H G/\ys=((rows.take i).map λr=>((mkN r.2:Nat):Int)).map V.int) ⟨aj.refl _,rfl⟩ (λi ys G _ z=>SqL.of (z.1 _ _ hra)) ?_ ?_ ?_⟩)
 .rintro i ys G hi ⟨_,rfl⟩;simp only[F6,GD];exact aA (by omega)
 .rintro i y ys G hy ⟨m,rfl⟩;obtain⟨⟨wy,ws⟩,hw,b,l,us,rfl,hb,hl,kc⟩:=al.getL hy;have lu:=kc.len;have r6:=(rok _ (Ge hw)).1;dsimp only at lu r6 kc;refine(⟨b,_,_,rfl,SqT.of (m _ _ hb),d3 ?_⟩);refine(⟨_,rfl,l,rfl,⟨_,SqL.of (m _ _ hl)⟩,dF (K:=K) (a:=l) (xs:=us) (λj zs G'=>G=G'/\zs.length=mkN (ws.take j)) ⟨rfl,rfl⟩ (λj zs G' _ z=>by rw[<-z.1];exact SqL.of (m _ _ hl)) ?_ ?_ ?_⟩)
  .rintro j zs G' hj ⟨_,z⟩;have:mkN (ws.take j)<=(ws.take j).length:=Hs _ _;rw[GD]at this;exact aA (by omega)
  .rintro j x zs G' hx ⟨rfl,z⟩;obtain⟨w,hw2,c,rfl,hc⟩:=kc.getL hx;have en:mkN (ws.take (j+1))=mkN (ws.take j)+b1 (decide (w.1=.mark)):=by rw[aV hw2,xz]
   refine(⟨_,rfl,_,_,_,_,rfl,rfl,SqT.of (m _ _ hc),rfl,rfl,_,rfl,?_⟩);by_cases hm:w.1=.mark
   .rw[decide_eq_true (show V.str w.1.s=V.str "mark" by rw[hm];rfl)];refine aN ?_;refine(⟨_,rfl,rfl,?_⟩);rw[en,F7,z,decide_eq_true hm];rfl
   .rw[decide_eq_false (show ¬ (V.str w.1.s=V.str "mark")from λzz=>hm (Kw.inj (b:=.mark) (V.str.inj zz)))];refine av ?_;refine(⟨rfl,?_⟩);rw[en,z,decide_eq_false hm];rfl
  rintro zs G' ⟨rfl,z⟩ pz1 hpz1;rw[lu,Gv]at z;refine(⟨_,_,rfl,.inl (SqL.of ae),m.trans (ag hpz1 _),?_⟩);rw[aV hw,Gg,Gg,z];rfl
 rintro ys G ⟨m,rfl⟩ pa hpa;rw[lr,Gv];refine(⟨pa,_,rfl,SqL.of ae,?_⟩);have eM:(rows.map λr=>((mkN r.2:Nat):Int)).sum=((cr rows:Nat):Int):=xB rows;dsimp only[bE];rw[eM];have s1:=m.trans (ag hpa (.lst ((rows.map λr=>((mkN r.2:Nat):Int)).map V.int)));generalize upd G pa (.lst ((rows.map λr=>((mkN r.2:Nat):Int)).map V.int))=G1 at s1⊢;refine(⟨_,rfl,ra,rfl,⟨_,SqL.of (s1 _ _ hra)⟩,oB (K:=K) (a:=ra) (xs:=rv) (λi ys G=>G1=G/\ys.length=ftN (rows.take i)) ⟨rfl,rfl⟩ (λi ys G _ z=>by rw[<-z.1];exact SqL.of (s1 _ _ hra)) ?_ ?_ ?_⟩)
 .rintro i ys G hi ⟨_,z⟩;have:ftN (rows.take i)<=(rows.take i).length:=Hs _ _;rw[GD]at this;exact aA (by omega)
 .rintro i y ys G hy ⟨rfl,z⟩;obtain⟨⟨wy,ws⟩,hw,b,l,us,rfl,hb,hl,kc⟩:=al.getL hy;have en:ftN (rows.take (i+1))=ftN (rows.take i)+b1 (decide (wy=.foot)):=by rw[aV hw,xA]
  refine(⟨b,_,_,rfl,SqT.of (s1 _ _ hb),?_⟩);refine(⟨_,rfl,rfl,_,rfl,?_⟩);rw[cu kU];by_cases hm:wy=.foot
  .rw[decide_eq_true (show wy.t=ef by rw[hm];rfl)];refine aN ?_;refine(⟨_,rfl,rfl,?_⟩);rw[en,F7,z,decide_eq_true hm];rfl
  .rw[decide_eq_false (show ¬ (wy.t=ef)from λzz=>hm (Wy.inj (b:=.foot) zz))];refine av ?_;refine(⟨rfl,?_⟩);rw[en,z,decide_eq_false hm];rfl
 rintro ys G ⟨rfl,z⟩ pb hpb;rw[lr,Gv]at z;refine(⟨_,_,rfl,.inl (SqL.of ae),?_⟩);dsimp only[bE];rw[z];have s2:=s1.trans (ag hpb (.lst ys));generalize upd G1 pb (.lst ys)=G2 at s2⊢;generalize hM:cr rows=M at *;generalize hF:ftN rows=F at *;refine⟨aQ (by simp),λpn hpn=>?_⟩;have hHpn:=s2.free hpn;have s3:=s2.trans (ag hpn (.lst []));have k3:upd G2 pn (.lst []) pn=some (.lst []):=ae;generalize upd G2 pn (.lst [])=G3 at s3 k3⊢;refine⟨_,rfl,ra,rfl,⟨_,SqL.of (s3 _ _ hra)⟩,cg (K:=K) (a:=ra) (xs:=rv) (λi σ' G=>∃(v7 v8 v9 v10 v11 v12:Option V) (us:List V) (ns:List bM),σ'=[some (.ref ra),some (.int f),some (.int (M:Int)),some (.int (F:Int)),some (.ref pn),some (.int ((cr (rows.take i):Nat):Int)),some (.int ((ftN (rows.take i):Nat):Int)),v7,v8,v9,v10,v11,v12]/\aj H G/\G pn=some (.lst us)/\us.length=i/\aL (NnA (hid [pn] G)) us ns/\fH (f9 f) M F 0 0 (rows.take i) ns) ⟨none,none,none,none,none,none,[],[],rfl,s3,k3,rfl,trivial,trivial⟩ (λi σ' G _ g=>by obtain⟨_,_,_,_,_,_,_,_,_,m,_⟩:=g;exact SqL.of (m _ _ hra)) ?_ ?_⟩
 .rintro i y σ' G hy ⟨v7,v8,v9,v10,v11,v12,us,ns,rfl,m,gn,ul,nal,rr⟩;obtain⟨⟨wy,ws⟩,hw,b,l,cs,rfl,hb,hl,kc⟩:=al.getL hy;have hi:=(List.getElem?_eq_some_iff.mp hw).1;have lu:=kc.len;obtain⟨r6,rne⟩:=rok _ (Ge hw);dsimp only at lu r6 kc rne;refine⟨b,_,rfl,SqT.of (m _ _ hb),rfl,_,_,rfl,_,_,rfl,rfl,?_⟩;refine⟨aQ (by simp),λpd hpd=>?_⟩;have hHpd:=m.free hpd;have npd:pd≠pn:=λz=>by rw[z,gn]at hpd;cases hpd
  have m1:=m.trans (ag hpd (.lst []));have kd1:upd G pd (.lst []) pd=some (.lst []):=ae;have gn1:=ag hpd (.lst []) _ _ gn;have nal1:aL (NnA (hid [pn,pd] (upd G pd (.lst [])))) us ns:=nal.imp λ_ _=>NnA.mono (λb o z=>by
   obtain⟨c,z⟩:=jt.mp z;refine bn (λw=>?_) (ag hpd (.lst []) _ _ z);simp only[Hd,GZ,or_false]at w c;rcases w with w|w
   .exact c w
   .rw[w,hpd]at z;cases z)
  generalize upd G pd (.lst [])=G4 at m1 kd1 gn1 nal1⊢;refine⟨_,rfl,l,rfl,⟨_,SqL.of (m1 _ _ hl)⟩,cg (K:=K) (a:=l) (xs:=cs) (λj σ' G'=>∃(v10 v11:Option V) (ds:List V) (dn:List NWd),σ'=[some (.ref ra),some (.int f),some (.int (M:Int)),some (.int (F:Int)),some (.ref pn),some (.int ((cr (rows.take i)+mkN (ws.take j):Nat):Int)),some (.int ((ftN (rows.take i):Nat):Int)),some (.str (tx wy.t)),some (.ref l),some (.ref pd),v10,v11,v12]/\aj H G'/\G' pn=some (.lst us)/\G' pd=some (.lst ds)/\aL (NnA (hid [pn,pd] G')) us ns/\b_ (hid [pn,pd] G') ds (wkS dn)/\WsR (f9 f) M F (0+cr (rows.take i)) (ws.take j) dn/\ds.length=j) ⟨v10,v11,[],[],rfl,m1,gn1,kd1,nal1,trivial,trivial,rfl⟩ (λj σ' G' _ g=>by obtain⟨_,_,_,_,_,m,_⟩:=g;exact SqL.of (m _ _ hl)) ?_ ?_⟩
  .rintro j x σ' G5 hx ⟨w10,w11,ds,dn,rfl,m5,gn5,kd5,nal5,wal,wr,dl⟩;obtain⟨⟨kd,cell⟩,hw2,c,rfl,hc⟩:=kc.getL hx;have hj:=(List.getElem?_eq_some_iff.mp hw2).1;have ke:=rne _ (Ge hw2);refine⟨c,_,rfl,SqT.of (m5 _ _ hc),rfl,_,_,rfl,_,_,rfl,rfl,?_⟩;refine⟨_,rfl,.inl ⟨rfl,_,SqL.of kd5⟩,_,rfl,_,rfl,_,rfl,_,rfl,_,rfl,_,rfl,f,cell,kd,cr (rows.take i)+mkN (ws.take j),M,F,rfl,ke,λpw G6 w hpw m6 k6 wg=>?_⟩;have np1:pw≠pn:=λz=>by rw[z,gn5]at hpw;cases hpw
   have np2:pw≠pd:=λz=>by rw[z,kd5]at hpw;cases hpw
   refine⟨_,_,_,rfl,rfl,m6 _ _ kd5,aA (by omega),?_⟩;have e:hid [pn,pd] (upd G6 pd (.lst (ds++[.ref pw])))=hid [pn,pd] G6:=bw (by simp);refine⟨_,rfl,_,rfl,rfl,.inr ⟨_,rfl,_,_,rfl,rfl,?_⟩⟩;refine⟨some (.str kd.s),some (.int cell),ds++[.ref pw],dn++[w],?_,aW (m5.trans m6) hHpd,?_,ae,?_,?_,?_,by rw[F7,dl];rfl⟩
   .have en:mkN (ws.take (j+1))=mkN (ws.take j)+b1 (decide (kd=.mark)):=by rw[aV hw2,xz]
    have ev:(((cr (rows.take i)+mkN (ws.take j):Nat):Int)+(if decide (V.str kd.s=V.str (PySem.Str.ofString "mark"))=true then 1 else 0))=((cr (rows.take i)+mkN (ws.take (j+1)):Nat):Int):=by
     rw[en];by_cases hm:kd=.mark
     .rw[if_pos (decide_eq_true (show V.str kd.s=V.str (PySem.Str.ofString "mark") by rw[hm];rfl)),decide_eq_true hm];show _=((_+(_+1):Nat):Int);omega
     .rw[if_neg (show ¬ (decide (V.str kd.s=V.str (PySem.Str.ofString "mark"))=true)from λz=>hm (Kw.inj (b:=.mark) (V.str.inj (of_decide_eq_true z)))),decide_eq_false hm];show _=((_+(_+0):Nat):Int);omega
    rw[<-ev];rfl
   .rw[ak (GX npd)];exact m6 _ _ gn5
   .rw[e];exact nal5.imp λ_ _=>NnA.mono (bb m6)
   .rw[e];unfold wkS;rw[Gg];exact(b_.mono (bb m6) wal).snoc ⟨pw,rfl,bn (by simp[np1,np2]) k6⟩
   .rw[aV hw2];refine wr.snoc ?_;rw[HB];exact wg
  rintro σ' G5 ⟨w10,w11,ds,dn,rfl,m5,gn5,kd5,nal5,wal,wr,dl⟩;rw[lu]at dl;rw[lu,Gv]at wr;rw[lu,Gv];have m5':aj (hid [pn,pd] G5) (hid [pn] G5):=λb o z=>by
   obtain⟨c,z⟩:=jt.mp z;exact bn (λw=>c (by simp at w⊢;exact .inl w)) z
  have nal6:aL (NnA (hid [pn] G5)) us ns:=nal5.imp λ_ _=>NnA.mono m5';have lsd:cQ (hid [pn] G5) pd (wkS dn):=⟨ds,bn (by simpa using npd) kd5,b_.mono m5' wal⟩;have eH:ftN (rows.take (i+1))=ftN (rows.take i)+b1 (decide (wy=.foot)):=by rw[aV hw,xA]
  have eA:cr (rows.take (i+1))=cr (rows.take i)+mkN ws:=by rw[aV hw,Be]
  rw[<-eA];dsimp only;refine cO (λσ' G'=>σ'=[some (.ref ra),some (.int f),some (.int (M:Int)),some (.int (F:Int)),some (.ref pn),some (.int ((cr (rows.take (i+1)):Nat):Int)),some (.int ((ftN (rows.take i):Nat):Int)),some (.str (tx wy.t)),some (.ref l),some (.ref pd),w10,w11,some (.str (PySem.Str.ofString ""))]/\G5=G') ?_ (λkey=>key [some (.ref ra),some (.int f),some (.int (M:Int)),some (.int (F:Int)),some (.ref pn),some (.int ((cr (rows.take (i+1)):Nat):Int)),some (.int ((ftN (rows.take i):Nat):Int)),some (.str (tx wy.t)),some (.ref l),some (.ref pd),w10,w11,some (.str (PySem.Str.ofString ""))] G5 ⟨rfl,rfl⟩);rintro σ' G5' ⟨rfl,rfl⟩;refine cO (λσ' G'=>σ'=[some (.ref ra),some (.int f),some (.int (M:Int)),some (.int (F:Int)),some (.ref pn),some (.int ((cr (rows.take (i+1)):Nat):Int)),some (.int ((ftN (rows.take (i+1)):Nat):Int)),some (.str (tx wy.t)),some (.ref l),some (.ref pd),w10,w11,some (.str (tx (if wy=.foot then f9 f (ftN (rows.take i))else[])))]/\aj G5 G') ?_ (λkey=>?_)
  .rintro σ' G6 ⟨rfl,m6⟩;refine cO (λσ' G'=>σ'=[some (.ref ra),some (.int f),some (.int (M:Int)),some (.int (F:Int)),some (.ref pn),some (.int ((cr (rows.take (i+1)):Nat):Int)),some (.int ((ftN (rows.take (i+1)):Nat):Int)),some (.str (tx (if wy=.words/\ws=[]then Wy.empty else wy).t)),some (.ref l),some (.ref pd),w10,w11,some (.str (tx (if wy=.foot then f9 f (ftN (rows.take i))else[])))]/\aj G5 G') ?_ (λkey=>?_)
   .rintro σ' G7 ⟨rfl,m7⟩;refine⟨_,rfl,.inl ⟨rfl,_,SqL.of (m7 _ _ gn5)⟩,_,rfl,_,rfl,_,rfl,le3,λpt hpt=>?_⟩;have m8:=m7.trans (ag hpt (.tup [.str (tx (if wy=.words/\ws=[]then Wy.empty else wy).t),.str (tx (if wy=.foot then f9 f (ftN (rows.take i))else[])),.ref pd]));have npt:pt≠pn:=λz=>by rw[z,m7 _ _ gn5]at hpt;cases hpt
    refine⟨_,_,_,rfl,rfl,m8 _ _ gn5,aA (by omega),?_⟩;refine⟨_,_,_,_,_,_,us++[.ref pt],ns++[(if wy=.words/\ws=[]then Wy.empty else wy,if wy=.foot then f9 f (ftN (rows.take i))else[],dn)],rfl,aW (m5.trans m8) hHpn,ae,by rw[F7,ul];rfl,?_,?_⟩
    .rw[bw (by simp)];exact(nal6.imp λ_ _=>NnA.mono (bb m8)).snoc ⟨pt,pd,rfl,bn (by simpa using npt) ae,lsd.mono (bb m8)⟩
    .rw[aV hw];exact rr.snoc ⟨rfl,by rw[HB],wr⟩
   .refine⟨_,rfl,rfl,_,rfl,?_⟩;rw[cu lF];by_cases h1:wy=.words
    .rw[decide_eq_true (show wy.t=[119,111,114,100,115] by rw[h1];rfl)];refine aN ?_;refine⟨_,rfl,aQ (by simp),λp4 hp4=>?_⟩;have m7:=m6.trans (ag hp4 (.lst []));refine⟨_,_,_,rfl,rfl,SqL.of ((m5.trans m7) _ _ hl),SqL.of ae,_,rfl,?_⟩;refine dX (λc2=>?_) (λc2=>?_)
     .have e0:ws=[]:=by
       cases ws with
       |nil=>rfl
       |cons _ _=>cases cs with
        |nil=>cases lu
        |cons _ _=>cases c2
      exact key _ _ ⟨by rw[show(if wy=.words/\ws=[]then Wy.empty else wy)=.empty from if_pos ⟨h1,e0⟩];exact congrArg (λz=>[some (.ref ra),some (.int f),some (.int (M:Int)),some (.int (F:Int)),some (.ref pn),some (.int ((cr (rows.take (i+1)):Nat):Int)),some (.int ((ftN (rows.take (i+1)):Nat):Int)),some (V.str z),some (.ref l),some (.ref pd),w10,w11,some (.str (tx (if wy=.foot then f9 f (ftN (rows.take i))else[])))]) oG,m7⟩
     .have e0:ws≠[]:=λz=>by
       rw[z]at lu;rw[List.length_eq_zero_iff.mp lu]at c2;exact c2 rfl
      exact key _ _ ⟨by rw[show(if wy=.words/\ws=[]then Wy.empty else wy)=wy from if_neg (λz=>e0 z.2)],m7⟩
    .rw[decide_eq_false (show ¬ (wy.t=[119,111,114,100,115])from λz=>h1 (Wy.inj (b:=.words) z))];refine av ?_;refine av ?_;exact key _ _ ⟨by rw[show(if wy=.words/\ws=[]then Wy.empty else wy)=wy from if_neg (λz=>h1 z.1)],m6⟩
  .refine⟨_,rfl,rfl,_,rfl,?_⟩;rw[cu kU];by_cases hf:wy=.foot
   .rw[decide_eq_true (show wy.t=ef by rw[hf];rfl)];refine aN ?_;refine⟨_,rfl,_,rfl,f,ftN (rows.take i),rfl,λG6 m6=>?_⟩;refine⟨_,rfl,_,_,rfl,rfl,?_⟩;refine key _ _ ⟨?_,m6⟩;rw[eH,decide_eq_true hf,if_pos hf];rfl
   .rw[decide_eq_false (show ¬ (wy.t=ef)from λz=>hf (Wy.inj (b:=.foot) z))];refine av ?_;refine key _ _ ⟨?_,aj.refl _⟩;rw[eH,decide_eq_false hf,if_neg hf];exact congrArg (λz=>[some (.ref ra),some (.int f),some (.int (M:Int)),some (.int (F:Int)),some (.ref pn),some (.int ((cr (rows.take (i+1)):Nat):Int)),some (.int ((ftN (rows.take i):Nat):Int)),some (.str (tx wy.t)),some (.ref l),some (.ref pd),w10,w11,some (V.str z)]) oG
 rintro σ' G ⟨v7,v8,v9,v10,v11,v12,us,ns,rfl,m,gn,ul,nal,rr⟩;rw[lr,Gv]at rr;have nal':aL (NnA G) us ns:=nal.imp λ_ _=>NnA.mono bN;refine⟨_,rfl,aQ (by simp),λp5 hp5=>?_⟩;have t5:=ag hp5 (.lst []);have k5:upd G p5 (.lst []) p5=some (.lst []):=ae;generalize upd G p5 (.lst [])=G5 at t5 k5⊢;refine⟨le3,λp6 hp6=>?_⟩;have t6:=ag hp6 (.tup [.str (PySem.Str.ofString ""),.str (PySem.Str.ofString ""),.ref p5]);have k6:upd G5 p6 (.tup [.str (PySem.Str.ofString ""),.str (PySem.Str.ofString ""),.ref p5]) p6=some (.tup [.str (tx []),.str (tx []),.ref p5]):=by rw[ae,oG]
 generalize upd G5 p6 (.tup [.str (PySem.Str.ofString ""),.str (PySem.Str.ofString ""),.ref p5])=G6 at t6 k6⊢;refine⟨le2,λp7 hp7=>?_⟩;have t7:=ag hp7 (.tup [.str (PySem.Str.ofString "plain"),.str (PySem.Str.ofString "end")]);have k7:upd G6 p7 (.tup [.str (PySem.Str.ofString "plain"),.str (PySem.Str.ofString "end")]) p7=some (.tup [.str (Kw.plain).s,.str (tx [101,110,100])]):=by rw[ae,Fm];rfl
 generalize upd G6 p7 (.tup [.str (PySem.Str.ofString "plain"),.str (PySem.Str.ofString "end")])=G7 at t7 k7⊢;refine⟨le1,λp8 hp8=>?_⟩;have t8:=ag hp8 (.lst [.ref p7]);have k8:upd G7 p8 (.lst [.ref p7]) p8=some (.lst [.ref p7]):=ae;generalize upd G7 p8 (.lst [.ref p7])=G8 at t8 k8⊢;refine⟨le3,λp9 hp9=>?_⟩;have t9:=ag hp9 (.tup [.str (PySem.Str.ofString "words"),.str (PySem.Str.ofString ""),.ref p8]);have k9:upd G8 p9 (.tup [.str (PySem.Str.ofString "words"),.str (PySem.Str.ofString ""),.ref p8]) p9=some (.tup [.str (tx Wy.words.t),.str (tx []),.ref p8]):=by rw[ae,oG,lF];rfl
 generalize upd G8 p9 (.tup [.str (PySem.Str.ofString "words"),.str (PySem.Str.ofString ""),.ref p8])=G9 at t9 k9⊢;refine⟨le2,λp10 hp10=>?_⟩;have t10:=ag hp10 (.lst [.ref p6,.ref p9]);have k10:upd G9 p10 (.lst [.ref p6,.ref p9]) p10=some (.lst [.ref p6,.ref p9]):=ae;generalize upd G9 p10 (.lst [.ref p6,.ref p9])=G10 at t10 k10⊢;have t510:=t5.trans (t6.trans (t7.trans (t8.trans (t9.trans t10))));refine⟨_,_,_,_,rfl,rfl,t510 _ _ gn,k10,(by show us.length+2<=_;exact GR (aA (by omega))),λp11 hp11=>?_⟩;have t11:=ag hp11 (.lst (us++[.ref p6,.ref p9]));refine q p11 _ ns _ ((m.trans t510).free hp11) ((m.trans t510).trans t11) ae ?_ rr;refine(nal'.imp λ_ _=>NnA.mono (t510.trans t11)).app ⟨⟨p6,p5,rfl,?_,[],?_,trivial⟩,⟨p9,p8,rfl,?_,[.ref p7],?_,⟨p7,rfl,?_⟩,trivial⟩,trivial⟩
 .exact((t7.trans (t8.trans (t9.trans t10))).trans t11) _ _ k6
 .exact((t6.trans (t7.trans (t8.trans (t9.trans t10)))).trans t11) _ _ k5
 .exact(t10.trans t11) _ _ k9
 .exact((t9.trans t10).trans t11) _ _ k8
 .exact((t8.trans (t9.trans t10)).trans t11) _ _ k7
def Bo(K:PySem.W.Frag):Sp:=λvs H Q _=>∃(sa wa ka:Addr) (ns:List Int) (wys:List WyD) (kds:List Kw),vs=[.ref sa,.ref wa,.ref ka]/\SqL K H sa (ns.map V.int)/\ns.length<=63/\SqL K H wa ((wys.map λw=>tx w.t).map V.str)/\SqL K H ka (kds.map λk=>V.str k.s)/\0<wys.length/\0<kds.length/\wys.length<=900/\kds.length<=900/\(∀w,.way w∈wys->w.hd=false)/\∀p H' rows us,H p=none->aj H H'->H' p=some (.lst us)->aL (RrA (hid [p] H')) us rows->lE wys kds 62 rows->Q (.ref p) H'
theorem jp:aK ["script","ways","kinds","rows","cell","way","kind"] ["script","ways","kinds"] (au tf):=by walk_at "c"
theorem Bp(T:Txt P w K mg a):aX P w K mg base CX0 2 a.tM a.rL ["script","ways","kinds"] (Bo K):=by
 refine T.tF.fn.ok jp (λvs H Q E h=>?_) (λcdv A outer s H vs Q E hr h=>?_)
 .obtain⟨sa,wa,ka,ns,wys,kds,rfl,_⟩:=h;rfl
 obtain⟨sa,wa,ka,ns,wys,kds,rfl,hsa,h63,hwa,hka,w0,k0,w9,k9,wnh,q⟩:=h;have hu:=I0 (fe hr);refine⟨_,(af (ay (i:=3) jp.nd rfl (Gm rfl) (bi ac))
   (af (cc GS rfl (bj (dC nK (pv 0) (dS ah) (dS ah))) (aM (i:=4) jp.nd rfl (Gm rfl)) (af (ay (i:=5) jp.nd rfl (Gm rfl) (aC bF (pv 1) (aD T.bW (bP T) (hr.mono (by decide)) rfl (aa (pv 4) (aa ah (aa (aF bA rfl T.bK PySem.boot_len (aa (pv 1) ac)) ac)))) (λ_ _=>rfl)))
   (ai (aI (aq br (pv 5) ao (nomark _)) (ai (bf (cq PySem.F.plainAttrs_list PySem.F.slot_list_append PySem.F.type_list_append bZ (pv 3) (aa (aY (aa (aC bF (bi (aa ao (aa ao (aa ao ac)))) (aD T.bW (bP T) (hr.mono (by decide)) rfl (aa (pv 4) (aa ah (aa ah ac)))) (λ_ _=>rfl)) (aa (bi ac) ac))) ac)))) (ai (aI (aq eQ (pv 5) ao (nomark _)) (ai (bf (cq PySem.F.plainAttrs_list PySem.F.slot_list_append PySem.F.type_list_append bZ (pv 3) (aa (aY (aa (pv 5) (aa (bi ac) ac))) ac)))) (af (ay (i:=6) jp.nd rfl (Gm rfl) (aC bF (pv 2) (aD T.bW (bP T) (hr.mono (by decide)) rfl (aa (pv 4) (aa ah (aa (aF bA rfl T.bK PySem.boot_len (aa (pv 2) ac)) ac)))) (λ_ _=>rfl)))
   (af (aI (PW.pt (dR (aq (sN hu) (pv 3) (bi ac) (nomark _)) (dR (aq gY (aC aS (aC bF (pv 3) (rR nJ ah) (λ_ _=>rfl)) ah (λ_ _=>rfl)) (aY (aa ao (aa ao (aa ao (aa ao ac))))) (by with_unfolding_all rfl)) (fb (aq br (aF bA rfl T.bK PySem.boot_len (aa (aC aS (aC bF (pv 3) (rR nJ ah) (λ_ _=>rfl)) ah (λ_ _=>rfl)) ac)) ah (nomark _)))))) (ai (bf (cq PySem.F.plainAttrs_list PySem.F.slot_list_append PySem.F.type_list_append bZ (pv 3) (aa (aY (aa ao (aa (bi ac) ac))) ac)))) aE)
   (af (aI (PW.pt (dR (PW.pt (gh (aq br (aC eK (aC aS (aC bF (pv 3) (rR nJ ah) (λ_ _=>rfl)) ah (λ_ _=>rfl)) ah (λ_ _=>rfl)) ao (nomark _)) (eD (aq br (pv 6) ao (nomark _))))) (fb (PW.pt (gh (aq br (aC aS (aC bF (pv 3) (rR nJ ah) (λ_ _=>rfl)) ah (λ_ _=>rfl)) ao (nomark _)) (eD (aq gY (pv 6) (aY (aa ao (aa ao ac))) (by with_unfolding_all rfl)))))))) (ai (ay (i:=6) jp.nd rfl (Gm rfl) ao)) aE)
   (ai (bf (cq PySem.F.plainAttrs_list PySem.F.slot_list_append PySem.F.type_list_append bZ (aC aS (aC bF (pv 3) (rR nJ ah) (λ_ _=>rfl)) ah (λ_ _=>rfl)) (aa (aY (aa (pv 6) (aa (pv 4) ac))) ac)))))))))))))
   (ai (aJ (pv 3))))),?_⟩
 refine⟨aQ (by simp),λp1 hp1=>?_⟩;have s1:=ag hp1 (.lst []);have k1:upd H p1 (.lst []) p1=some (.lst []):=ae;generalize upd H p1 (.lst [])=H1 at s1 k1⊢;have R0:iI H H1 p1 []:=⟨s1,hp1,[],p1,k1,hp1,rfl,.inl ⟨rfl,rfl⟩⟩;refine⟨_,rfl,_,rfl,_,rfl,_,_,rfl,s1.seq hsa,λp2 hp2=>?_⟩;have s2:=ag hp2 (.lst (gX (ns.map V.int) (some 1) (some 130)));have k2:upd H1 p2 (.lst (gX (ns.map V.int) (some 1) (some 130))) p2=some (.lst ((jd ns (some 1) (some 130)).map V.int)):=by rw[ae,B5]
 have cl:(jd ns (some 1) (some 130)).length<=62:=by
  unfold jd HT.sIx;rw[GD,Iw];simp only[show ¬ ((1:Int)<0) by decide,show ¬ ((130:Int)<0) by decide,if_false];have:min (HV 1) ns.length=min 1 ns.length:=rfl;omega
 generalize jd ns (some 1) (some 130)=cs at k2 cl;generalize upd H1 p2 (.lst (gX (ns.map V.int) (some 1) (some 130)))=H2 at s2 k2⊢;have wl:((wys.map λw=>tx w.t).map V.str).length=wys.length:=by simp
 have kl:(kds.map λk=>V.str k.s).length=kds.length:=by simp
 have H2p:H p2=none:=s1.free hp2;have npp:p2≠p1:=λz=>by rw[z,k1]at hp2;cases hp2
 have B0:∃B:Hp,aj H B/\B p2=some (.lst (cs.map V.int))/\B p1=none/\aj B H2:=⟨hid [p1] H2,jm (s1.trans s2) (λb hb=>by rw[List.mem_singleton.mp hb];exact hp1),bn (by simpa using npp) k2,by unfold hid;simp,bN⟩;obtain⟨B,sB,kB,nB,sB2⟩:=B0;have R0:iI B H2 p1 []:=⟨sB2,nB,[],p1,s2 _ _ k1,nB,rfl,.inl ⟨rfl,rfl⟩⟩;have hwB:=sB.seq hwa;have hkB:=sB.seq hka;refine⟨p2,rfl,⟨_,SqL.of k2⟩,cg (K:=K) (a:=p2) (xs:=cs.map V.int) (λi σ' G=>∃(v4 v5 v6:Option V) (rows:List cX),σ'=[some (.ref sa),some (.ref wa),some (.ref ka),some (.ref p1),v4,v5,v6]/\iI B G p1 rows/\lE wys kds i rows) ⟨none,none,none,[],rfl,R0,⟨Gh _,Gh _,by simp⟩⟩ (λi σ' G _ g=>by obtain⟨_,_,_,_,_,R,_⟩:=g;exact SqL.of (R.old _ _ kB)) ?_ ?_⟩
 .rintro i y σ' G hy ⟨v4,v5,v6,rows,rfl,R,ok⟩;have hi:=(List.getElem?_eq_some_iff.mp hy).1;rw[F6]at hi;rw[GA]at hy;obtain⟨c,_,rfl⟩:=Option.map_eq_some_iff.mp hy;obtain⟨j,ej,hj⟩:=jN c 1 w0;obtain⟨wy,hwy⟩:∃wy,wys[j]?=some wy:=⟨wys[j],Ga hj⟩;have rl:=ok.len;obtain⟨us0,U1,U2,_⟩:=R.all;have addR:∀(w:Wy) (sw:Str) (G':Hp),sw=tx w.t->aj G G'->zF wys w->∀pl,G' pl=none->∀pt,(upd G' pl (.lst [])) pt=none->∃us,(upd (upd G' pl (.lst [])) pt (.tup [.str sw,.ref pl])) p1=some (.lst us)/\us.length<Gr/\iI B (upd (upd (upd G' pl (.lst [])) pt (.tup [.str sw,.ref pl])) p1 (.lst (us++[.ref pt]))) p1 (rows++[(w,[])])/\lE wys kds (i+1) (rows++[(w,[])]):=λw sw G' esw m hw pl hpl pt hpt=>by
   subst esw;have m1:=ag hpl (.lst []);have m2:=ag hpt (.tup [.str (tx w.t),.ref pl]);obtain⟨us,u1,u2,_⟩:=R.all;have m3:=m.trans (m1.trans m2);exact⟨us,m3 _ _ u1,aA (by omega),R.add m3 (m.free hpl) (m2 _ _ ae) ((m.trans m1).free hpt) ae (m3 _ _ u1),ok.add hw⟩
  refine⟨_,rfl,_,rfl,_,rfl,_,_,rfl,.inl (R.old.seq hwB),c,1,(wys.length:Int),(by rw[wl];rfl),⟨by decide,by decide⟩,by omega,_,_,_,_,rfl,rfl,R.old.seq hwB,(by rw[ej];exact cp (by rw[GA,GA,hwy];rfl)),?_⟩;refine⟨_,rfl,rfl,_,rfl,?_⟩;rw[cu cH1];have wm:=Ge hwy;cases wy with
  |eq =>
   rw[decide_eq_true (show WyD.t .eq=[61]from rfl)];refine aN ?_;refine⟨_,rfl,.inl ⟨rfl,_,SqL.of U1⟩,le3,λp3 hp3=>?_⟩;obtain⟨n3,e3,h3⟩:=jN c 2 (show 0<3 by decide);have e3:bV c 2 3=(n3:Int):=e3;obtain⟨w,hw,ew⟩:=at3 n3 h3;have m3:=ag hp3 (.lst [V.str (PySem.Str.ofString "="),V.str (PySem.Str.ofString "=="),V.str (PySem.Str.ofString "===")]);refine⟨_,rfl,c,2,3,rfl,⟨by decide,by decide⟩,by decide,_,_,_,_,rfl,rfl,SqL.of ae,(by rw[e3];exact ew),aQ (by simp),λpl hpl=>?_⟩;refine⟨le2,λpt hpt=>?_⟩;obtain⟨us,u1,u2,u3,u4⟩:=addR w _ _ rfl m3 (.inr (.inr ⟨hw,wm⟩)) pl hpl pt hpt;exact⟨_,_,_,rfl,rfl,u1,u2,_,_,_,_,rfl,u3,u4⟩
  |way w =>
   have nh:=wnh w wm;rw[decide_eq_false (show ¬ (WyD.t (.way w)=[61])from λz=>by have:w=.h1:=Wy.inj z;rw[this]at nh;cases nh)];refine av ?_;refine⟨_,rfl,rfl,_,rfl,?_⟩;rw[cu Bc,decide_eq_false (show ¬ (WyD.t (.way w)=[119,111,114,100])from λz=>by revert z;cases w<;>decide)]
   refine aN ?_;refine⟨_,rfl,.inl ⟨rfl,_,SqL.of U1⟩,_,rfl,aQ (by simp),λpl hpl=>?_⟩;refine⟨le2,λpt hpt=>?_⟩;obtain⟨us,u1,u2,u3,u4⟩:=addR w _ _ rfl (aj.refl _) (.inr (.inl wm)) pl hpl pt hpt;exact⟨_,_,_,rfl,rfl,u1,u2,_,_,_,_,rfl,u3,u4⟩
  |word =>
   rw[decide_eq_false (show ¬ (WyD.t .word=[61]) by decide)];refine av ?_;refine⟨_,rfl,rfl,_,rfl,?_⟩;rw[cu Bc,decide_eq_true (show WyD.t .word=[119,111,114,100]from rfl)];refine av ?_;obtain⟨j8,e8,h8⟩:=jN c 8 k0;obtain⟨kd,hkd⟩:∃kd,kds[j8]?=some kd:=⟨kds[j8],Ga h8⟩;refine⟨_,rfl,_,rfl,_,rfl,_,_,rfl,.inl (R.old.seq hkB),c,8,(kds.length:Int),(by rw[kl];rfl),⟨by decide,by decide⟩,by omega,_,_,_,_,rfl,rfl,R.old.seq hkB,(by rw[e8];exact cp (by rw[GA,hkd];rfl)),?_⟩;dsimp only[bE];have sumW:((rows++[((.words,[]):cX)]).map (·.2.length)).sum<=i:=by rw[Gg,IJ];have:=ok.sum;simp;omega
   refine cO (λσ' G'=>∃(ini:List cX) (w:Wy) (ws:List (Kw×Int)),σ'=[some (.ref sa),some (.ref wa),some (.ref ka),some (.ref p1),some (.int c),some (.str (tx (WyD.t .word))),some (.str kd.s)]/\iI B G' p1 (ini++[(w,ws)])/\w.bare=false/\ws.length<=5/\(ini++[(w,ws)]).length<=i+1/\((ini++[(w,ws)]).map (·.2.length)).sum<=i/\∀r∈ini++[(w,ws)],zD kds r/\zF wys r.1) ?_ (λkey=>?_)
   .rintro σ' G2 ⟨ini,w,ws,rfl,R2,nb,wl5,rl2,sm2,ok2⟩;obtain⟨vi,ra,lo,us,g1,g2,g3,g4,g5⟩:=R2.last;obtain⟨ch,u,ew,hw⟩:=Fl nb;have kin:kd∈kds\/kd=.plain:=.inl (Ge hkd);refine cO (λσ' G'=>∃kd':Kw,σ'=[some (.ref sa),some (.ref wa),some (.ref ka),some (.ref p1),some (.int c),some (.str (tx (WyD.t .word))),some (.str kd'.s)]/\aj G2 G'/\(w.hd=true->kd'≠.foot)/\(w=.foot->kd'≠.mark/\kd'≠.foot)/\(kd'∈kds\/kd'=.plain)) ?_ (λkey=>?_)
    .rintro σ' G3 ⟨kd',rfl,m3,c1,c2,c3⟩;refine⟨_,rfl,_,rfl,_,_,_,_,rfl,rfl,SqL.of (m3 _ _ g1),jK _ _,_,_,_,_,rfl,rfl,SqT.of (m3 _ _ g2),rfl,.inl ⟨rfl,_,SqL.of (m3 _ _ g3)⟩,_,rfl,_,rfl,le2,λpk hpk=>?_⟩;have m4:=ag hpk (.tup [.str kd'.s,.int c]);refine⟨_,_,_,rfl,rfl,m4 _ _ (m3 _ _ g3),aA (by omega),?_⟩;refine⟨_,_,_,ini++[(w,ws++[(kd',c)])],rfl,g5 _ pk (kd',c) (m3.trans m4) (m3.free hpk) ae,⟨?_,?_,λr hr=>?_⟩⟩
     .simpa using rl2
     .rw[Gg,IJ]at sm2⊢;simp at sm2⊢;omega
     .rcases List.mem_append.mp hr with hr|hr
      .exact ok2 r (HC _ hr)
      .rw[List.mem_singleton.mp hr];obtain⟨o1,o2⟩:=ok2 (w,ws) (GN _ Gd);have ap:∀{P:Kw×Int->Prop},(∀x∈ws,P x)->P (kd',c)->∀x∈ws++[(kd',c)],P x:=λh1 h2 x hx=>by
        rcases List.mem_append.mp hx with hx|hx
        .exact h1 x hx
        .rw[List.mem_singleton.mp hx];exact h2
       refine⟨⟨λz=>?_,?_,λz=>ap (o1.head z) (c1 z),λz=>ap (o1.foot z) (c2 z),ap o1.kds c3⟩,o2⟩
       .rw[show(w,ws++[(kd',c)]).1.bare=w.bare from rfl,nb]at z;cases z
       .show(ws++[(kd',c)]).length<=6;rw[F7];simp only[F8,Gj];omega
    .have m0:=aj.refl G2;have kpl:∀G',aj G2 G'->(∃kd':Kw,[some (V.ref sa),some (V.ref wa),some (V.ref ka),some (V.ref p1),some (V.int c),some (V.str (tx (WyD.t .word))),some (V.str (PySem.Str.ofString "plain"))]=[some (V.ref sa),some (V.ref wa),some (V.ref ka),some (V.ref p1),some (V.int c),some (V.str (tx (WyD.t .word))),some (V.str kd'.s)]/\aj G2 G'/\(w.hd=true->kd'≠.foot)/\(w=.foot->kd'≠.mark/\kd'≠.foot)/\(kd'∈kds\/kd'=.plain)):=λG' m=>⟨.plain,rfl,m,λ_=>(by decide),λ_=>⟨by decide,by decide⟩,.inr rfl⟩;refine⟨_,rfl,_,rfl,_,_,_,_,rfl,rfl,SqL.of (m0 _ _ g1),jK _ _,_,_,_,_,rfl,rfl,SqT.of (m0 _ _ g2),rfl,_,_,ch,rfl,rfl,(by rw[aZ];cases w<;>exact aQ (by decide)),(by rw[ew];exact iE _ _),rfl,_,rfl,?_⟩
     rw[cu cH1,show decide ([ch]=[61])=w.hd from by rw[<-hw];simp];cases hh:w.hd with
     |true =>
      have nf:w≠.foot:=λz=>by rw[z]at hh;cases hh
      refine aN ?_;refine⟨_,rfl,rfl,_,rfl,?_⟩;by_cases hf:kd=.foot
      .rw[decide_eq_true (show V.str kd.s=V.str "foot" by rw[hf];rfl)];refine aN ?_;refine aN ?_;exact key _ _ (kpl _ m0)
      .rw[decide_eq_false (show ¬ (V.str kd.s=V.str "foot")from λz=>hf (Kw.inj (b:=.foot) (V.str.inj z)))];refine av ?_;refine⟨_,rfl,_,rfl,_,_,_,_,rfl,rfl,SqL.of (m0 _ _ g1),jK _ _,_,_,_,_,rfl,rfl,SqT.of (m0 _ _ g2),rfl,rfl,_,rfl,?_⟩;rw[cu kU,decide_eq_false (show ¬ (w.t=ef)from λz=>nf (Wy.inj (b:=.foot) z))];refine av ?_;refine av ?_;exact key _ _ ⟨kd,rfl,m0,λ_=>hf,λz=>absurd z nf,kin⟩
     |false =>
      have nh:w.hd=true->kd≠.foot:=λz=>by rw[hh]at z;cases z
      refine av ?_;refine av ?_;refine⟨_,rfl,_,rfl,_,_,_,_,rfl,rfl,SqL.of (m0 _ _ g1),jK _ _,_,_,_,_,rfl,rfl,SqT.of (m0 _ _ g2),rfl,rfl,_,rfl,?_⟩;rw[cu kU];by_cases hw2:w=.foot
      .rw[decide_eq_true (show w.t=ef by rw[hw2];rfl)];refine aN ?_;refine⟨_,rfl,le2,λp9 hp9=>?_⟩;refine⟨_,_,rfl,.inr (SqT.of ae),rfl,rfl,_,rfl,?_⟩;refine dX (λc2=>?_) (λc2=>?_)
       .exact key _ _ (kpl _ (ag hp9 _))
       .have c3:(decide (kd=.mark)||decide (kd=.foot))=false:=(FX kd).symm.trans (Bool.eq_false_iff.mpr c2);simp only[Jn,decide_eq_false_iff_not]at c3;exact key _ _ ⟨kd,rfl,ag hp9 _,nh,λ_=>c3,kin⟩
      .rw[decide_eq_false (show ¬ (w.t=ef)from λz=>hw2 (Wy.inj (b:=.foot) z))];refine av ?_;refine av ?_;exact key _ _ ⟨kd,rfl,m0,nh,λz=>absurd z hw2,kin⟩
   .refine⟨_,rfl,aQ (by simp),λp10 hp10=>?_⟩;have m1:=ag hp10 (.lst []);refine⟨_,_,_,rfl,rfl,SqL.of (m1 _ _ U1),SqL.of ae,_,rfl,?_⟩;rcases List.eq_nil_or_concat rows with e0|⟨ini,⟨w,ws⟩,e0⟩
    .have hz:us0=[]:=by
      rw[e0]at U2;exact List.length_eq_zero_iff.mp U2
     refine dX (λc2=>?_) (λc2=>?_)
     .refine aN ?_;refine⟨_,rfl,.inl ⟨rfl,_,SqL.of ((m1) _ _ U1)⟩,aQ (by simp),λpl hpl=>?_⟩;refine⟨le2,λpt hpt=>?_⟩;obtain⟨us,u1,u2,u3,u4⟩:=addR .words _ _ lF (m1) (.inl rfl) pl hpl pt hpt;exact⟨_,_,_,rfl,rfl,u1,u2,key _ _ ⟨rows,.words,[],rfl,u3,rfl,by simp,u4.len,sumW,u4.ok⟩⟩
     .exact absurd (by rw[hz];rfl) c2
    .rw[List.concat_eq_append]at e0;have R':=R;rw[e0]at R';obtain⟨vi,ra,lo,us,g1,g2,g3,g4,g5⟩:=R'.last;have hz:us0=vi++[.ref ra]:=by
      rw[g1]at U1;injection U1 with U1;injection U1 with U1;exact U1.symm
     refine dX (λc2=>?_) (λc2=>?_)
     .rw[hz]at c2;exact absurd c2 (by cases vi<;>exact Gy)
     refine⟨_,rfl,_,rfl,_,_,_,_,rfl,rfl,SqL.of (m1 _ _ g1),jK _ _,_,_,_,_,rfl,rfl,SqT.of (m1 _ _ g2),rfl,le4,λp11 hp11=>?_⟩;have m12:=m1.trans (ag hp11 (.tup [V.str (PySem.Str.ofString ""),V.str (PySem.Str.ofString ".page"),V.str (PySem.Str.ofString ".odd"),V.str (PySem.Str.ofString ".list")]));refine⟨_,_,rfl,.inr (SqT.of ae),rfl,rfl,_,rfl,?_⟩;refine dX (λc2=>?_) (λc2=>?_)
     .refine aN ?_;refine⟨_,rfl,.inl ⟨rfl,_,SqL.of ((m12) _ _ U1)⟩,aQ (by simp),λpl hpl=>?_⟩;refine⟨le2,λpt hpt=>?_⟩;obtain⟨us,u1,u2,u3,u4⟩:=addR .words _ _ lF (m12) (.inl rfl) pl hpl pt hpt;exact⟨_,_,_,rfl,rfl,u1,u2,key _ _ ⟨rows,.words,[],rfl,u3,rfl,by simp,u4.len,sumW,u4.ok⟩⟩
     .have nb:w.bare=false:=(EE w).symm.trans (Bool.eq_false_iff.mpr c2);refine⟨_,rfl,_,rfl,_,_,_,_,rfl,rfl,SqL.of (m12 _ _ g1),jK _ _,_,_,_,_,rfl,rfl,SqT.of (m12 _ _ g2),rfl,_,_,rfl,.inl (SqL.of (m12 _ _ g3)),rfl,_,rfl,?_⟩;refine dX (λc3=>?_) (λc3=>?_)
      .refine⟨_,rfl,.inl ⟨rfl,_,SqL.of ((m12) _ _ U1)⟩,aQ (by simp),λpl hpl=>?_⟩;refine⟨le2,λpt hpt=>?_⟩;obtain⟨us,u1,u2,u3,u4⟩:=addR .words _ _ lF (m12) (.inl rfl) pl hpl pt hpt;exact⟨_,_,_,rfl,rfl,u1,u2,key _ _ ⟨rows,.words,[],rfl,u3,rfl,by simp,u4.len,sumW,u4.ok⟩⟩
      .have n6:us.length≠6:=λz=>c3 (decide_eq_true (by rw[z];rfl));have o:=(ok.ok (w,ws) (by rw[e0];exact GN _ Gd)).1.len;dsimp only at o;exact key _ _ ⟨ini,w,ws,rfl,R'.same m12,nb,by omega,by rw[<-e0];omega,by rw[<-e0];exact ok.sum,by rw[<-e0];exact ok.ok⟩
 rintro σ' G ⟨v4,v5,v6,rows,rfl,R,ok⟩;rw[F6]at ok;obtain⟨us,u1,u2,u3⟩:=R.all;exact⟨_,rfl,q p1 G rows us hp1 (sB.trans R.old) u1 u3 ⟨by have:=ok.len;omega,by have:=ok.sum;omega,ok.ok⟩⟩

theorem EI(k:Kw)(h:k≠.entry):inV (.str k.s) [V.str (PySem.Str.ofString "head"),V.str (PySem.Str.ofString "entry")]=false:=by
 cases k<;>first|exact absurd rfl h|decide +kernel
theorem Cu(k:Kw):¬ (V.str k.s=V.str (PySem.Str.ofString "goal")):=by
 intro z;have z:=V.str.inj z;revert z;cases k<;>decide +kernel

def Bq(K:PySem.W.Frag):Sp:=λvs H Q _=>∃(ma ha:Addr) (s:Sw) (tt:List Ttl) (σ:Ss) (hvs:List V),vs=[.str s.k,s.v,.ref ma,.ref ha]/\H ma=some (.dK (mkV σ.ms))/\H ha=some (.lst hvs)/\aL (HdA H) hvs σ.hs/\(∀x,s=.w x->x.1≠.entry)/\kQ σ (bR tt s)/\(∀k,s=.head k\/s=.entry k->∃n,σ.hs[k]?=some (tx (tt.getD k ([],[])).1,n))/\∀p H' x y,H p=none->aj H H'->H' p=some (.tup [x,y])->lB σ (bR tt s)=(x,y)->Q (.ref p) H'
theorem my:aK ["kind","rest","marks","heads","number","one"] ["kind","rest","marks","heads"] (au tj):=by walk_at "c"
theorem Br(T:Txt P w K mg a):aX P w K mg base CX0 1 a.tN a.rM ["kind","rest","marks","heads"] (Bq K):=by
 refine T.tG.fn.ok my (λvs H Q E h=>?_) (λcdv A outer s H vs Q E hr h=>?_)
 .obtain⟨ma,ha,s,tt,σ,hvs,rfl,_⟩:=h;rfl
 obtain⟨ma,ha,s,tt,σ,hvs,rfl,hma,hha,hal,kes,ok,hks,q⟩:=h;refine⟨_,(af (aI (aq br (pv 0) ao (nomark _)) (ai (aJ (aY (aa ao (aa (pv 1) ac))))) aE)
   (af (aI (aq gY (pv 0) (aY (aa ao (aa ao ac))) (by with_unfolding_all rfl)) (ai (aJ (aY (aa ao (aa (aC aS (aC bF (pv 3) (pv 1) (λ_ _=>rfl)) ah (λ_ _=>rfl)) ac))))) aE)
   (af (aI (aq br (pv 0) ao (nomark _)) (ai (aJ (aY (aa ao (aa (aC aS (aC bF (pv 3) (pv 1) (λ_ _=>rfl)) ah (λ_ _=>rfl)) ac))))) aE)
   (af (aI (aq eQ (pv 0) ao (nomark _)) (ai (aJ (aY (aa (pv 0) (aa (le (fe hr) (pv 2) (pv 1) (λ_ _=>rfl)) ac))))) aE)
   (af (ay (i:=4) my.nd rfl (Gm rfl) ao)
   (af (cc GS rfl (bj (pv 3)) (aM (i:=5) my.nd rfl (Gm rfl)) (ai (aI (aq zc (aC aS (pv 5) ah (λ_ _=>rfl)) (le (fe hr) (pv 2) (pv 1) (λ_ _=>rfl)) (nomark _)) (ai (ay (i:=4) my.nd rfl (Gm rfl) (aC aS (pv 5) ah (λ_ _=>rfl)))) aE)))
   (ai (aJ (aY (aa ao (aa (pv 4) ac))))))))))),?_⟩
 cases s with
 |w x =>
  obtain⟨k,r⟩:=x;have ke:k≠.entry:=kes _ rfl;have ok:kQ σ (k,.str (tx r)):=ok;have q:∀p H' x y,H p=none->aj H H'->H' p=some (.tup [x,y])->lB σ (k,.str (tx r))=(x,y)->Q (.ref p) H':=q;clear kes hks;dsimp only[Sw.k,Sw.v];refine⟨_,rfl,rfl,_,rfl,?_⟩;by_cases hp:k=.plain
  .subst hp;rw[decide_eq_true (show V.str Kw.plain.s=V.str "plain" from rfl)];refine aN ?_;exact⟨_,rfl,le2,λp1 hp1=>q p1 _ _ _ hp1 (ag hp1 _) ae rfl⟩
  rw[decide_eq_false (show ¬ (V.str k.s=V.str "plain")from λz=>hp (Kw.inj (b:=.plain) (V.str.inj z)))];refine av ?_;dsimp only[cT];obtain⟨z,_⟩|⟨z,_⟩|⟨hk,n,at_,hn,km⟩:=ok
  .exact absurd z hp
  .exact absurd z ke
  dsimp only at hk hn;have hn:r=n:=i6 (V.str.inj hn);subst hn;refine⟨_,rfl,le2,λp2 hp2=>?_⟩;have s2:=ag hp2 (.tup [V.str (PySem.Str.ofString "head"),V.str (PySem.Str.ofString "entry")]);refine⟨_,_,rfl,.inr (SqT.of ae),rfl,rfl,_,rfl,?_⟩;refine dX (λc2=>?_) (λc2=>?_)
  .exact absurd ((EI k ke).symm.trans c2) Gy
  generalize upd H p2 (.tup [V.str (PySem.Str.ofString "head"),V.str (PySem.Str.ofString "entry")])=H2 at s2⊢;dsimp only[cT];refine⟨_,rfl,rfl,_,rfl,?_⟩;rw[decide_eq_false (Cu k)];refine av ?_;dsimp only[cT];refine⟨_,rfl,rfl,_,rfl,?_⟩;have hg:eW H2 ma (kV (.inr (tx r))) (some (.int (at_:Int))):=by
   have:=eW.k (k:=.inr (tx r)) (s2 _ _ hma);rw[jM,km]at this;exact this
  have em:jw σ (rest (.str (tx r)))=at_:=by unfold jw;show(lkS (tx r) σ.ms).getD 0=at_;rw[km];rfl
  by_cases h3:k=.number
  .subst h3;rw[decide_eq_true (show V.str Kw.number.s=V.str "number" from rfl)];refine av ?_;dsimp only[cT];have lh:=hal.len;refine⟨_,rfl,ha,rfl,⟨_,SqL.of (s2 _ _ hha)⟩,cg (K:=K) (a:=ha) (xs:=hvs) (λi σ' G=>G=H2/\∃(n:Str) (v5:Option V),σ'=[some (.str Kw.number.s),some (.str (tx r)),some (.ref ma),some (.ref ha),some (.str n),v5]/\f7 at_ "0" σ.hs=f7 at_ n (σ.hs.drop i)) ⟨rfl,_,none,rfl,rfl⟩ (λi σ' G _ g=>by rw[g.1];exact SqL.of (s2 _ _ hha)) ?_ ?_⟩
   .rintro i y σ' G hy ⟨rfl,n,v5,rfl,en⟩;obtain⟨⟨t,at2⟩,hw,b,rfl,hb⟩:=hal.getL hy;have ed:σ.hs.drop i=(t,at2)::σ.hs.drop (i+1):=by
     obtain⟨hi,e⟩:=List.getElem?_eq_some_iff.mp hw;rw[GT hi,e]
    rw[ed]at en;have hb2:=s2 _ _ hb;refine⟨_,rfl,_,_,_,_,rfl,rfl,SqT.of hb2,rfl,_,rfl,_,rfl,_,_,rfl,hg,_,_,rfl,rfl,_,rfl,?_⟩;by_cases c1:at2<=at_
    .rw[decide_eq_true (show((at2:Nat):Int)<=(at_:Int) by omega)];refine aN ?_;refine⟨_,rfl,_,_,_,_,rfl,rfl,SqT.of hb2,rfl,rfl,_,_,rfl,?_⟩;rw[en];show f7 at_ (if at2<=at_ then t else n) _=_;rw[if_pos c1]
    .rw[decide_eq_false (show ¬ (((at2:Nat):Int)<=(at_:Int)) by omega)];refine av ?_;refine⟨rfl,_,_,rfl,?_⟩;rw[en];show f7 at_ (if at2<=at_ then t else n) _=_;rw[if_neg c1]
   rintro σ' G ⟨rfl,n,v5,rfl,en⟩;rw[lh,HG]at en;refine⟨_,rfl,le2,λp3 hp3=>q p3 _ _ _ (s2.free hp3) (s2.trans (ag hp3 _)) ae ?_⟩;show(V.str "text",V.str (f7 (jw σ (rest (.str (tx r)))) "0" σ.hs))=_;rw[em,en];rfl
  .rw[decide_eq_false (show ¬ (V.str k.s=V.str "number")from λz=>h3 (Kw.inj (b:=.number) (V.str.inj z)))];refine aN ?_;refine⟨_,rfl,_,rfl,_,rfl,_,_,rfl,hg,le2,λp4 hp4=>q p4 _ _ _ (s2.free hp4) (s2.trans (ag hp4 _)) ae ?_⟩;cases hk1:k with
   |page=>show(V.str "page",V.int ((jw σ (rest (.str (tx r))):Nat):Int))=_;rw[em];rfl
   |row=>show(V.str "row",V.int ((jw σ (rest (.str (tx r))):Nat):Int))=_;rw[em];rfl
   |number=>exact absurd hk1 h3
   |plain=>exact absurd hk1 hp
   |mark=>rw[hk1]at hk;cases hk
   |foot=>rw[hk1]at hk;cases hk
   |entry=>exact absurd hk1 ke
 |head k =>
  obtain⟨n,hn⟩:=hks k (.inl rfl);obtain⟨v,hv,b,rfl,hb⟩:=hal.getR hn;refine⟨_,rfl,rfl,_,rfl,?_⟩;rw[decide_eq_false (show ¬ (V.str (Sw.head k).k=V.str (PySem.Str.ofString "plain"))from λz=>absurd (V.str.inj z) (by show ¬ (("head" : Str)=_);decide +kernel))];refine av ?_;dsimp only[cT];refine⟨_,rfl,le2,λp2 hp2=>?_⟩;have s2:=ag hp2 (.tup [V.str (PySem.Str.ofString "head"),V.str (PySem.Str.ofString "entry")]);refine⟨_,_,rfl,.inr (SqT.of ae),rfl,rfl,_,rfl,?_⟩;refine dX (λc2=>?_) (λc2=>absurd (show inV (.str (Sw.head k).k) [V.str (PySem.Str.ofString "head"),V.str (PySem.Str.ofString "entry")]=true by show inV (.str (PySem.Str.ofString "head")) _=true;decide +kernel) c2);generalize upd H p2 (.tup [V.str (PySem.Str.ofString "head"),V.str (PySem.Str.ofString "entry")])=H2 at s2⊢;exact⟨_,rfl,_,rfl,_,_,_,_,rfl,rfl,SqL.of (s2 _ _ hha),cp hv,_,_,_,_,rfl,rfl,SqT.of (s2 _ _ hb),rfl,le2,λp3 hp3=>q p3 _ _ _ (s2.free hp3) (s2.trans (ag hp3 _)) ae rfl⟩
 |entry k =>
  obtain⟨n,hn⟩:=hks k (.inr rfl);obtain⟨v,hv,b,rfl,hb⟩:=hal.getR hn;refine⟨_,rfl,rfl,_,rfl,?_⟩;rw[decide_eq_false (show ¬ (V.str (Sw.entry k).k=V.str (PySem.Str.ofString "plain"))from λz=>absurd (V.str.inj z) (by show ¬ (("entry" : Str)=_);decide +kernel))];refine av ?_;dsimp only[cT];refine⟨_,rfl,le2,λp2 hp2=>?_⟩;have s2:=ag hp2 (.tup [V.str (PySem.Str.ofString "head"),V.str (PySem.Str.ofString "entry")]);refine⟨_,_,rfl,.inr (SqT.of ae),rfl,rfl,_,rfl,?_⟩;refine dX (λc2=>?_) (λc2=>absurd (show inV (.str (Sw.entry k).k) [V.str (PySem.Str.ofString "head"),V.str (PySem.Str.ofString "entry")]=true by show inV (.str (PySem.Str.ofString "entry")) _=true;decide +kernel) c2);generalize upd H p2 (.tup [V.str (PySem.Str.ofString "head"),V.str (PySem.Str.ofString "entry")])=H2 at s2⊢;exact⟨_,rfl,_,rfl,_,_,_,_,rfl,rfl,SqL.of (s2 _ _ hha),cp hv,_,_,_,_,rfl,rfl,SqT.of (s2 _ _ hb),rfl,le2,λp3 hp3=>q p3 _ _ _ (s2.free hp3) (s2.trans (ag hp3 _)) ae rfl⟩
 |goal k =>
  obtain⟨hk,hh⟩:k<σ.hs.length/\True:=by
   rcases ok with⟨z,_⟩|⟨_,k',e,h⟩|⟨z,_⟩
   .cases z
   .have e:(k:Int)=(k':Int):=V.int.inj e;exact⟨by omega,trivial⟩
   .cases z
  obtain⟨v,hv,b,rfl,hb⟩:=hal.getR (Ga hk);refine⟨_,rfl,rfl,_,rfl,?_⟩;rw[decide_eq_false (show ¬ (V.str (Sw.goal k).k=V.str (PySem.Str.ofString "plain"))from λz=>absurd (V.str.inj z) (by show ¬ (("goal" : Str)=_);decide +kernel))];refine av ?_;dsimp only[cT];refine⟨_,rfl,le2,λp2 hp2=>?_⟩;have s2:=ag hp2 (.tup [V.str (PySem.Str.ofString "head"),V.str (PySem.Str.ofString "entry")]);refine⟨_,_,rfl,.inr (SqT.of ae),rfl,rfl,_,rfl,?_⟩;refine dX (λc2=>?_) (λc2=>?_)
  .exact absurd ((show inV (.str (Sw.goal k).k) [V.str (PySem.Str.ofString "head"),V.str (PySem.Str.ofString "entry")]=false by show inV (.str (PySem.Str.ofString "goal")) _=false;decide +kernel).symm.trans c2) Gy
  generalize upd H p2 (.tup [V.str (PySem.Str.ofString "head"),V.str (PySem.Str.ofString "entry")])=H2 at s2⊢;dsimp only[cT];refine⟨_,rfl,rfl,_,rfl,?_⟩;rw[decide_eq_true (show V.str (Sw.goal k).k=V.str (PySem.Str.ofString "goal")from rfl)];refine aN ?_;refine⟨_,rfl,_,rfl,_,_,_,_,rfl,rfl,SqL.of (s2 _ _ hha),cp hv,_,_,_,_,rfl,rfl,SqT.of (s2 _ _ hb),rfl,le2,λp3 hp3=>q p3 _ _ _ (s2.free hp3) (s2.trans (ag hp3 _)) ae ?_⟩;show(V.str "page",V.int ((σ.hs.getD ((k:Nat):Int).toNat (Hk,0)).2:Nat))=_;rw[IW,Gu,Ga hk];rfl
def zN(K:PySem.W.Frag):Sp:=λvs H Q _=>∃(fd fo qa tp ma ha:Addr) (us hvs:List V) (fs:List Addr) (σ:Ss) (d:DD) (kvs:List (Key×V)),vs=[.ref fd,.ref fo]/\H fd=some (.tup [.ref qa,.ref ma,.ref ha])/\H qa=some (.tup [.ref fo,.ref tp])/\Rep K H d (.ref fo)/\d.deep<=2/\H tp=some (.lst us)/\aL (TwA σ H) us (σ.ws.zip fs)/\H ma=some (.dK kvs)/\H ha=some (.lst hvs)/\Q (.bl true) H
theorem ur:aK ["found","form","word"] ["found","form"] (au qD):=by walk_at "c"
theorem zO(T:Txt P w K mg a):aX P w K mg base CX0 6 a.rD a.pG ["found","form"] (zN K):=by
 refine T.rj.fn.ok ur (λvs H Q E h=>?_) (λcdv A outer s H vs Q E hr h=>?_)
 .obtain⟨fd,fo,qa,tp,ma,ha,us,hvs,fs,σ,d,kvs,rfl,_⟩:=h;rfl
 obtain⟨fd,fo,qa,tp,ma,ha,us,hvs,fs,σ,d,kvs,rfl,h1,h2,hr_,hd,h3,h4,h5,h6,q⟩:=h;refine⟨_,(af (aI (PW.pt (dR (fc (cz (aF cN rfl T.a9 Gz (aa (pv 0) (aa (c7 (v:=.ty "tuple") rfl T.e_ HI rfl) ac))) (λ_=>rfl))) (dR (aq eQ (aF bA rfl T.bK PySem.boot_len (aa (pv 0) ac)) ah (nomark _)) (dR (fc (cz (aF cN rfl T.a9 Gz (aa (aC aS (pv 0) ah (λ_ _=>rfl)) (aa (c7 (v:=.ty "tuple") rfl T.e_ HI rfl) ac))) (λ_=>rfl))) (fb (aq eQ (aF bA rfl T.bK PySem.boot_len (aa (aC aS (pv 0) ah (λ_ _=>rfl)) ac)) ah (nomark _))))))) (ai (aJ dh)) aE)
   (af (aI (PW.pt (dR (fc (cz (aD T.fA (kY T) (hr.mono (by decide)) rfl (aa (aC aS (aC aS (pv 0) ah (λ_ _=>rfl)) ah (λ_ _=>rfl)) (aa (pv 1) ac))) (λ_=>rfl))) (dR (fc (cz (aF cN rfl T.a9 Gz (aa (aC aS (aC aS (pv 0) ah (λ_ _=>rfl)) ah (λ_ _=>rfl)) (aa (c7 (v:=.ty "list") rfl T.iB Ii rfl) ac))) (λ_=>rfl))) (fb (fc (cz (aF AU rfl T.a9 Gz (aa (aC aS (pv 0) ah (λ_ _=>rfl)) (aa (c7 (v:=.ty "dict") rfl T.mf PyProof.Rows.boot_dict rfl) ac))) (λ_=>rfl))))))) (ai (aJ dh)) aE)
   (af (cc GS rfl (bj (aC aS (aC aS (pv 0) ah (λ_ _=>rfl)) ah (λ_ _=>rfl))) (aM (i:=2) ur.nd rfl (Gm rfl)) (ai (aI (PW.pt (dR (fc (cz (aF cN rfl T.a9 Gz (aa (pv 2) (aa (c7 (v:=.ty "tuple") rfl T.e_ HI rfl) ac))) (λ_=>rfl))) (dR (aq eQ (aF bA rfl T.bK PySem.boot_len (aa (pv 2) ac)) ah (nomark _)) (fb (fc (cz (aF cN rfl T.a9 Gz (aa (aC aS (pv 2) ah (λ_ _=>rfl)) (aa (c7 (v:=.ty "list") rfl T.iB Ii rfl) ac))) (λ_=>rfl))))))) (ai (aJ dh)) aE)))
   (ai (aJ (aF cN rfl T.a9 Gz (aa (aC aS (pv 0) ah (λ_ _=>rfl)) (aa (c7 (v:=.ty "list") rfl T.iB Ii rfl) ac)))))))),?_⟩
 have F:∀{i:Int} {v:V},atI [V.ref qa,V.ref ma,V.ref ha] i=some v->True:=λ_=>trivial;refine⟨_,rfl,_,"tuple",true,rfl,by decide,.inr ⟨⟨_,SqT.of h1⟩,rfl⟩,_,rfl,?_⟩;refine av ?_;refine⟨_,rfl,_,_,rfl,.inr (SqT.of h1),rfl,_,rfl,?_⟩;refine av ?_;refine⟨_,rfl,_,_,_,_,rfl,rfl,SqT.of h1,rfl,_,"tuple",true,rfl,by decide,.inr ⟨⟨_,SqT.of h2⟩,rfl⟩,_,rfl,?_⟩;refine av ?_;refine⟨_,rfl,_,_,_,_,rfl,rfl,SqT.of h1,rfl,_,_,rfl,.inr (SqT.of h2),rfl,_,rfl,?_⟩;refine av ?_;dsimp only[cT];refine⟨_,rfl,_,_,_,_,rfl,rfl,SqT.of h1,rfl,_,_,_,_,rfl,rfl,SqT.of h2,rfl,_,rfl,d,_,_,rfl,by omega,hr_,hr_,_,rfl,?_⟩;refine av ?_;refine⟨_,rfl,_,_,_,_,rfl,rfl,SqT.of h1,rfl,_,_,_,_,rfl,rfl,SqT.of h2,rfl,_,"list",true,rfl,by decide,.inl ⟨⟨_,SqL.of h3⟩,rfl⟩,_,rfl,?_⟩;refine av ?_;refine⟨_,rfl,_,_,_,_,rfl,rfl,SqT.of h1,rfl,_,_,rfl,h5,_,rfl,?_⟩;refine av ?_;dsimp only[cT];refine⟨_,rfl,_,_,_,_,rfl,rfl,SqT.of h1,rfl,_,_,_,_,rfl,rfl,SqT.of h2,rfl,tp,rfl,⟨_,SqL.of h3⟩,cg (K:=K) (a:=tp) (xs:=us) (λi σ' G=>G=H/\∃v,σ'=[some (.ref fd),some (.ref fo),v]) ⟨rfl,none,rfl⟩ (λi σ' G _ g=>by rw[g.1];exact SqL.of h3) ?_ ?_⟩
 .rintro i y σ' G hy ⟨rfl,v,rfl⟩;obtain⟨⟨t,f⟩,hw,b,s,vs,rfl,hb,_,hf,_⟩:=h4.getL hy;refine⟨_,rfl,_,"tuple",true,rfl,by decide,.inr ⟨⟨_,SqT.of hb⟩,rfl⟩,_,rfl,?_⟩;refine av ?_;refine⟨_,rfl,_,_,rfl,.inr (SqT.of hb),rfl,_,rfl,?_⟩;refine av ?_;refine⟨_,rfl,_,_,_,_,rfl,rfl,SqT.of hb,rfl,_,"list",true,rfl,by decide,.inl ⟨⟨_,SqL.of hf⟩,rfl⟩,_,rfl,?_⟩;refine av ?_;exact⟨rfl,_,rfl⟩
 rintro σ' G ⟨rfl,v,rfl⟩;exact⟨_,rfl,_,_,_,_,rfl,rfl,SqT.of h1,rfl,_,"list",true,rfl,by decide,.inl ⟨⟨_,SqL.of h6⟩,rfl⟩,q⟩
def yo(K:PySem.W.Frag):Sp:=λvs H Q _=>∃(ra:Addr) (f:Int) (rs:List (List Nat)),vs=[.ref ra,.int f]/\SqL K H ra ((rs.map tx).map V.str)/\rs.length<=200/\(∀r∈rs,r.length<=8200)/\∀p H' ss,H p=none->aj H H'->H' p=some (.lst ((ss.map tx).map V.str))->oH rs ss->ss.length=rs.length->Q (.ref p) H'
theorem fD:aK ["rows","first","spaced","k","row","ahead","end"] ["rows","first"] (au oK):=by walk_at "c"
theorem yp(T:Txt P w K mg a):aX P w K mg base CX0 2 a.pe a.nC ["rows","first"] (yo K):=by
 refine T.o6.fn.ok fD (λvs H Q E h=>?_) (λcdv A outer s H vs Q E hr h=>?_)
 .obtain⟨ra,f,rs,rfl,_⟩:=h;rfl
 obtain⟨ra,f,rs,rfl,hra,rl,rln,q⟩:=h;refine⟨_,(af (ay (i:=2) fD.nd rfl (Gm rfl) (bi ac))
   (af (cc GS rfl (yM rfl T.fF (pv 0)) (dZ rfl (a7 (aM (i:=3) fD.nd rfl (Gm rfl)) (a7 (aM (i:=4) fD.nd rfl (Gm rfl)) dt))) (af (Es (Du (Dt vV (aF om rfl T.bK PySem.boot_len (aa (pv 4) ac)) (nomark _)) (eD (aq br (aD T.bW (bP T) (hr.mono (by decide)) rfl (aa (aP b8 (pv 1) (pv 3)) (aa ah (aa ah ac)))) ah (nomark _)))) (Cc (i:=4) fD.nd rfl (Gm rfl) (yj (pv 4) (by decide +kernel) (by decide +kernel))) aE)
   (af (ay (i:=5) fD.nd rfl (Gm rfl) (aD T.bW (bP T) (hr.mono (by decide)) rfl (aa (aP b8 (pv 1) (pv 3)) (aa ah (aa ah ac)))))
   (af (ay (i:=6) fD.nd rfl (Gm rfl) (aD T.bW (bP T) (hr.mono (by decide)) rfl (aa (aP b8 (pv 1) (pv 3)) (aa ah (aa ah ac)))))
   (ai (bf (cq PySem.F.plainAttrs_list PySem.F.slot_list_append PySem.F.type_list_append bZ (pv 2) (aa (aP dJ (aP dJ (aP ou ao (aF (qf rfl) rfl T.mE Jc (aa ah (aa (aP nH (pv 5) ah) ac)))) (pv 4)) (aP ou ao (aF (qf rfl) rfl T.mE Jc (aa ah (aa (aP nH (pv 6) ah) ac))))) ac))))))))
   (ai (aJ (pv 2))))),?_⟩
 refine⟨aQ (by simp),λp1 hp1=>?_⟩;have s1:=ag hp1 (.lst []);have k1:upd H p1 (.lst []) p1=some (.lst []):=ae;generalize upd H p1 (.lst [])=H1 at s1 k1⊢;refine⟨_,rfl,ra,rfl,⟨_,s1.seq hra⟩,xi (K:=K) (a:=ra) (xs:=(rs.map tx).map V.str) (λi σ' G=>∃(v3 v4 v5 v6:Option V) (ss:List (List Nat)),σ'=[some (.ref ra),some (.int f),some (.ref p1),v3,v4,v5,v6]/\aj H G/\G p1=some (.lst ((ss.map tx).map V.str))/\oH (rs.take i) ss/\ss.length=i) ⟨none,none,none,none,[],rfl,s1,k1,trivial,rfl⟩ (λi σ' G _ g=>by obtain⟨_,_,_,_,_,_,m,_⟩:=g;exact m.seq hra) ?_ ?_⟩
 .rintro k y σ' G p0 hy ⟨v3,v4,v5,v6,ss,rfl,m,g1,sp,sl⟩ hp0;obtain⟨r,hr_,rfl⟩:=lC hy;have hk:=(List.getElem?_eq_some_iff.mp hr_).1;have rl2:=rln r (Ge hr_);have m1:=m.trans (ag hp0 (.tup [.int (k:Int),.str (tx r)]));have k0:upd G p0 (.tup [.int (k:Int),.str (tx r)]) p0=some (.tup [.int (k:Int),.str (tx r)]):=ae;have g2:=ag hp0 (.tup [.int (k:Int),.str (tx r)]) _ _ g1;generalize upd G p0 (.tup [.int (k:Int),.str (tx r)])=G1 at m1 k0 g2⊢;refine⟨p0,_,rfl,SqT.of k0,rfl,_,_,rfl,_,_,rfl,rfl,?_⟩;refine cO (λσ' G'=>∃d:Bool,σ'=[some (.ref ra),some (.int f),some (.ref p1),some (.int (k:Int)),some (.str (tx (if d then mL r else r))),v5,v6]/\G'=G1) ?_ (λkey=>?_)
  .rintro σ' G2 ⟨d,rfl,rfl⟩;have ha:=dU (f+(k:Int)) 84 (show(0:Int)<6 by decide);have hb:=dU (f+(k:Int)) 85 (show(0:Int)<6 by decide);have dl:(if d then mL r else r).length<=16400:=by have:=yV r;split<;>omega
   refine⟨_,rfl,_,rfl,_,_,rfl,rfl,_,84,6,rfl,⟨by decide,by decide⟩,by decide,?_⟩;refine⟨_,rfl,_,rfl,_,_,rfl,rfl,_,85,6,rfl,⟨by decide,by decide⟩,by decide,?_⟩;have ea:(if bV (f+(k:Int)) 84 6-2>0 then bV (f+(k:Int)) 84 6-2 else 0)=(((bV (f+(k:Int)) 84 6-2).toNat:Nat):Int):=by split<;>omega
   have eb:(if bV (f+(k:Int)) 85 6-3>0 then bV (f+(k:Int)) 85 6-3 else 0)=(((bV (f+(k:Int)) 85 6-3).toNat:Nat):Int):=by split<;>omega
   have a10:(bV (f+(k:Int)) 84 6-2).toNat<=10:=by omega
   have b10:(bV (f+(k:Int)) 85 6-3).toNat<=10:=by omega
   generalize (bV (f+(k:Int)) 84 6-2).toNat=na at ea a10;generalize (bV (f+(k:Int)) 85 6-3).toNat=nb at eb b10;refine⟨_,rfl,.inl ⟨rfl,_,SqL.of g2⟩,_,rfl,_,_,rfl,rfl,_,_,rfl,_,_,rfl,rfl,(by rw[ea];exact yT a10),_,rfl,_,_,rfl,rfl,?_,_,rfl,_,_,rfl,rfl,_,_,rfl,_,_,rfl,rfl,(by rw[eb];exact yT b10),_,_,rfl,rfl,?_,_,_,_,rfl,rfl,g2,aA (by simp only[F6];omega),?_⟩
   .rw[ea,um,aZ,aZ,Ha];exact GR (Go (show _<=20000 by omega) (by decide))
   .rw[ea,eb,um,um,eN,aZ,aZ,F7,Ha,Ha];exact GR (Go (show _<=20000 by omega) (by decide))
   .rw[ea,eb,um,um,eN,eN];refine⟨_,_,_,_,ss++[mx na nb d r],rfl,aW m1 hp1,?_,?_,by rw[F7,sl];rfl⟩
    .rw[ae,Gg,Gg];rfl
    .rw[aV hr_];exact sp.snoc ⟨na,nb,d,a10,b10,rfl⟩
  .refine⟨_,rfl,_,_,rfl,⟨(by rw[aZ];exact GR (Go rl2 (by decide))),rfl⟩,_,_,rfl,rfl,_,rfl,?_⟩;have kF:=key [some (.ref ra),some (.int f),some (.ref p1),some (.int (k:Int)),some (.str (tx r)),v5,v6] G1 ⟨false,rfl,rfl⟩;refine dX (λc1=>?_) (λc1=>?_)
   .refine⟨_,rfl,_,rfl,_,_,rfl,rfl,_,86,3,rfl,⟨by decide,by decide⟩,by decide,rfl,_,rfl,?_⟩;refine dX (λc2=>?_) (λc2=>?_)
    .refine⟨_,rfl,_,rfl,(by rw[aZ];omega),?_⟩;refine key _ G1 ⟨true,?_,rfl⟩;rw[PyProof.Rows.replace_dbl _ _ _ 32 (by decide +kernel) (by decide +kernel)];rfl
    .exact kF
   .refine av ?_;exact kF
 rintro σ' G ⟨v3,v4,v5,v6,ss,rfl,m,g1,sp,sl⟩;rw[F6,F6]at sl;rw[F6,F6,Gv]at sp;exact⟨_,rfl,q p1 G ss hp1 m g1 sp sl⟩
def yq(K:PySem.W.Frag):Sp:=λvs H Q _=>∃(na ta:Addr) (nv tv:List V) (named:List bM) (tt:List Ttl),vs=[.ref na,.ref ta]/\H na=some (.lst nv)/\aL (NnA H) nv named/\H ta=some (.lst tv)/\aL (TtA H) tv tt/\named.length<=200/\tt.length<=63/\(∀r∈named,r.2.2.length<=129)/\(∀t∈tt,t.2.length<=129)/\∀p H' us,H p=none->aj H H'->H' p=some (.lst us)->aL (SwA H') us (bC tt 0 named)->Q (.ref p) H'
theorem eo:aK ["named","titles","stream","heads","way","name","words","k"] ["named","titles"] (au oM):=by walk_at "c"
theorem yr(T:Txt P w K mg a):aX P w K mg base CX0 1 a.pi a.nD ["named","titles"] (yq K):=by
 refine T.o7.fn.ok eo (λvs H Q E h=>?_) (λcdv A outer s H vs Q E hr h=>?_)
 .obtain⟨na,ta,nv,tv,named,tt,rfl,_⟩:=h;rfl
 obtain⟨na,ta,nv,tv,named,tt,rfl,hna,nal,hta,tal,nl,tl,nw,tw,q⟩:=h;refine⟨_,(af (ay (i:=2) eo.nd rfl (Gm rfl) (bi ac))
   (af (ay (i:=3) eo.nd rfl (Gm rfl) ah)
   (af (cc GS rfl (bj (pv 0)) (dZ rfl (a7 (aM (i:=4) eo.nd rfl (Gm rfl)) (a7 (aM (i:=5) eo.nd rfl (Gm rfl)) (a7 (aM (i:=6) eo.nd rfl (Gm rfl)) dt)))) (af (aI (aq br (pv 4) ao (nomark _)) (ai (bf (cq PySem.F.plainAttrs_list PySem.F.slot_list_extend PySem.F.type_list_extend jX (pv 2) (aa (pv 6) ac)))) aE)
   (af (aI (PW.pt (gh (aq eQ (pv 4) ao (nomark _)) (eD (aq br (aC eK (pv 4) ah (λ_ _=>rfl)) ao (nomark _))))) (af (bf (cq PySem.F.plainAttrs_list PySem.F.slot_list_append PySem.F.type_list_append bZ (pv 2) (aa (aY (aa ao (aa (pv 3) ac))) ac)))
   (af (bf (cq PySem.F.plainAttrs_list PySem.F.slot_list_extend PySem.F.type_list_extend jX (pv 2) (aa (pv 6) ac)))
   (ai (ay (i:=3) eo.nd rfl (Gm rfl) (aP b8 (pv 3) ah))))) aE)
   (ai (aI (aq br (pv 4) ao (nomark _)) (ai (cc GS rfl (mi rfl T.eJ (aa (aF bA rfl T.bK PySem.boot_len (aa (pv 1) ac)) ac)) (aM (i:=7) eo.nd rfl (Gm rfl)) (af (bf (cq PySem.F.plainAttrs_list PySem.F.slot_list_append PySem.F.type_list_append bZ (pv 2) (aa (aY (aa ao (aa (pv 7) ac))) ac)))
   (af (bf (cq PySem.F.plainAttrs_list PySem.F.slot_list_extend PySem.F.type_list_extend jX (pv 2) (aa (fG rfl (d_ (caps:=[]) (js:=[]) (cap:=trivial)) (bj (aC aS (aC bF (pv 1) (pv 7) (λ_ _=>rfl)) ah (λ_ _=>rfl))) (λ_ _ _ _=>(iD (aq eQ (aC (r:=jG K) aS (pv 0) ah (λ_ _=>rfl)) ao (nomark _)))) (λ_ _ _ _=>(pv 0))) ac)))
   (ai (bf (cq PySem.F.plainAttrs_list PySem.F.slot_list_append PySem.F.type_list_append bZ (pv 2) (aa (aY (aa ao (aa (pv 7) ac))) ac)))))))) aE)))))
   (ai (aJ (pv 2)))))),?_⟩
 have ln:=nal.len;have lt:=tal.len;refine(⟨aQ (by simp),λp1 hp1=>?_⟩);have s1:=ag hp1 (.lst []);have k1:upd H p1 (.lst []) p1=some (.lst []):=ae;generalize upd H p1 (.lst [])=H1 at s1 k1⊢;refine(⟨_,rfl,na,rfl,⟨_,SqL.of (s1 _ _ hna)⟩,cg (K:=K) (a:=na) (xs:=nv) (λi σ' G=>∃(h:Nat) (v4 v5 v6 v7:Option V) (us:List V) (ss:List Sw),σ'=[some (.ref na),some (.ref ta),some (.ref p1),some (.int (h:Int)),v4,v5,v6,v7]/\aj H G/\G p1=some (.lst us)/\aL (SwA (hid [p1] G)) us ss/\bC tt 0 named=ss++bC tt h (named.drop i)/\us.length<=9000*i) ⟨0,none,none,none,none,[],[],rfl,s1,k1,trivial,rfl,GV _⟩ (λi σ' G _ g=>by obtain⟨_,_,_,_,_,_,_,_,m,_⟩:=g;exact SqL.of (m _ _ hna)) ?_ ?_⟩)
 .rintro i y σ' G hy ⟨h,v4,v5,v6,v7,us,ss,rfl,m,g1,sal,es,ul⟩;obtain⟨⟨wy,nm,ws⟩,hn,b,l,rfl,hb,hl⟩:=nal.getL hy;have hi:=(List.getElem?_eq_some_iff.mp hn).1;have wl:=nw _ (Ge hn);dsimp only at hb hl wl;have ed:named.drop i=(wy,nm,ws)::named.drop (i+1):=by
   obtain⟨hi,e⟩:=List.getElem?_eq_some_iff.mp hn;rw[GT hi,e]
  rw[ed]at es;have es:bC tt 0 named=ss++(dq tt h (wy,nm,ws)++bC tt (h+hB wy.hd) (named.drop (i+1))):=es;obtain⟨cs,l1,l2⟩:=hl;have lc:=l2.len;unfold wkS at lc;rw[F6]at lc;have nlp:l≠p1:=λz=>by rw[z,hp1]at l1;cases l1
  have hidO:∀{G'},aj H G'->aj H (hid [p1] G'):=λ{G'} m'=>jm m' (λb hb=>by rw[List.mem_singleton.mp hb];exact hp1);have csw:∀{G'},aj H G'->aL (SwA (hid [p1] G')) cs (ws.map .w):=λ{G'} m'=>(CV l2).imp λ_ _=>SwA.mono (hidO m');have ext:∀(G':Hp) (us':List V) (ss':List Sw),aj H G'->aL (SwA (hid [p1] G')) us' ss'->aL (SwA (hid [p1] (upd G' p1 (.lst (us'++cs))))) (us'++cs) (ss'++ws.map .w):=λG' us' ss' m' a'=>by rw[bw (by simp)];exact a'.app (csw m')
  refine(⟨b,_,rfl,SqT.of (m _ _ hb),rfl,_,_,rfl,_,_,rfl,_,_,rfl,rfl,?_⟩);refine cO (λσ' G'=>∃(us':List V) (ss':List Sw),σ'=[some (.ref na),some (.ref ta),some (.ref p1),some (.int (h:Int)),some (.str (tx wy.t)),some (.str (tx nm)),some (.ref l),v7]/\aj H G'/\G' p1=some (.lst us')/\aL (SwA (hid [p1] G')) us' ss'/\ss'=ss++(if wy=.words then ws.map .w else[])/\us'.length<=9000*i+129) ?_ (λkey=>?_)
  .rintro σ' G2 ⟨us2,ss2,rfl,m2,g2,sal2,es2,ul2⟩;refine cO (λσ' G'=>∃(us':List V) (ss':List Sw),σ'=[some (.ref na),some (.ref ta),some (.ref p1),some (.int ((h+hB wy.hd:Nat):Int)),some (.str (tx wy.t)),some (.str (tx nm)),some (.ref l),v7]/\aj H G'/\G' p1=some (.lst us')/\aL (SwA (hid [p1] G')) us' ss'/\ss'=ss++(if wy=.words then ws.map .w else if wy.hd=true then .head h::ws.map .w else[])/\us'.length<=9000*i+300) ?_ (λkey=>?_)
   .rintro σ' G3 ⟨us3,ss3,rfl,m3,g3,sal3,es3,ul3⟩;refine(⟨_,rfl,rfl,_,rfl,?_⟩);rw[cu wc];by_cases hL:wy=.lst
    .rw[decide_eq_true (show wy.t=fh by rw[hL];rfl)];refine aN ?_;subst hL;have es3:ss3=ss:=by rw[es3];exact GL _
     subst es3;refine(⟨_,rfl,_,_,rfl,.inl (SqL.of (m3 _ _ hta)),_,rfl,(by omega),(by omega),jl (λj σ' G'=>∃(v7:Option V) (us':List V),σ'=[some (.ref na),some (.ref ta),some (.ref p1),some (.int ((h+hB (Wy.lst).hd:Nat):Int)),some (.str (tx (Wy.lst).t)),some (.str (tx nm)),some (.ref l),v7]/\aj H G'/\G' p1=some (.lst us')/\aL (SwA (hid [p1] G')) us' (ss3++eO tt j)/\us'.length<=9000*i+300+131*j) ?_ ?_ ?_⟩)
     .refine(⟨_,us3,rfl,m3,g3,?_,by omega⟩);rw[show eO tt 0=[]from rfl,GL];exact sal3
     .rintro j σ' G4 hj ⟨w7,us4,rfl,m4,g4,sal4,ul4⟩;rw[JA];have hjt:j<tt.length:=by simp at hj;omega
      obtain⟨t,ht⟩:∃t,tt[j]?=some t:=⟨tt[j],Ga hjt⟩;obtain⟨v,hv,tb,tl',rfl,htb,c5,c51,c52⟩:=tal.getR ht;have tw5:=tw t (Ge ht);have lc5:=c52.len;unfold wkS at lc5;rw[F6]at lc5;refine(⟨_,rfl,.inl ⟨rfl,_,SqL.of g4⟩,_,rfl,le2,λp2 hp2=>?_⟩);have m5:=ag hp2 (.tup [.str (PySem.Str.ofString "entry"),.int (j:Int)]);have np2:p2≠p1:=λz=>by rw[z,g4]at hp2;cases hp2
      refine(⟨_,_,_,rfl,rfl,m5 _ _ g4,Go (show us4.length<=2000000 by omega) (by decide),?_⟩);have m6:=aW (o:=.lst (us4++[.ref p2])) (m4.trans m5) hp1;have k6:upd (upd G4 p2 (.tup [.str (PySem.Str.ofString "entry"),.int (j:Int)])) p1 (.lst (us4++[.ref p2])) p1=some (.lst (us4++[.ref p2])):=ae;have a6:aL (SwA (hid [p1] (upd (upd G4 p2 (.tup [.str (PySem.Str.ofString "entry"),.int (j:Int)])) p1 (.lst (us4++[.ref p2]))))) (us4++[.ref p2]) (ss3++eO tt j++[.entry j]):=by
       rw[bw (by simp)];exact(sal4.imp λ_ _=>SwA.mono (bb m5)).snoc ⟨p2,rfl,bn (by simpa using np2) ae⟩
      generalize upd (upd G4 p2 (.tup [.str (PySem.Str.ofString "entry"),.int (j:Int)])) p1 (.lst (us4++[.ref p2]))=G6 at m6 k6 a6⊢;refine(⟨_,rfl,.inl ⟨rfl,_,SqL.of k6⟩,_,rfl,_,rfl,_,_,_,_,rfl,rfl,SqL.of (m6 _ _ hta),cp hv,_,_,_,_,rfl,rfl,SqT.of (m6 _ _ htb),rfl,tl',rfl,⟨_,SqL.of (m6 _ _ c51)⟩,dF (K:=K) (a:=tl') (xs:=c5) (λi ys G'=>G6=G'/\ys.length<=i/\aL (SwA H) ys (ttW (t.1,t.2.take i))) ⟨rfl,Gh _,trivial⟩ (λi ys G' _ z=>by rw[<-z.1];exact SqL.of (m6 _ _ c51)) ?_ ?_ ?_⟩)
      .rintro i' ys G' hi' ⟨_,z,_⟩;exact aA (by omega)
      .rintro i' y' ys G' hy' ⟨rfl,z,az⟩;obtain⟨w',hw',wb,rfl,hwb⟩:=c52.getL hy';unfold wkS at hw';rw[GA]at hw';obtain⟨d,hd,rfl⟩:=Option.map_eq_some_iff.mp hw';have en:ttW (t.1,t.2.take (i'+1))=ttW (t.1,t.2.take i')++ttW (t.1,[d]):=by
        unfold ttW;dsimp only;rw[aV hd,GY,Gg]
       refine(⟨_,rfl,_,_,_,_,rfl,rfl,SqT.of (m6 _ _ hwb),rfl,rfl,_,rfl,?_⟩);by_cases hm:d.1=.mark
       .rw[decide_eq_true (show V.str (sV d).1.s=V.str "mark" by show V.str d.1.s=_;rw[hm];rfl)];refine av ?_;refine(⟨rfl,by omega,?_⟩);rw[en,show ttW (t.1,[d])=[]from by unfold ttW;simp[hm],GL];exact az
       .rw[decide_eq_false (show ¬ (V.str (sV d).1.s=V.str "mark")from λzz=>hm (Kw.inj (b:=.mark) (V.str.inj zz)))];refine aN ?_;refine(⟨_,rfl,rfl,by rw[F7];simp only[F8,Gj];omega,?_⟩);rw[en,show ttW (t.1,[d])=[.w d]from by unfold ttW;simp[hm]];exact az.snoc ⟨wb,rfl,hwb⟩
      rintro ys G' ⟨rfl,zl,az⟩ p3 hp3;rw[lc5,Gv]at az;have m7:=ag hp3 (.lst ys);have np3:p3≠p1:=λz=>by rw[z,k6]at hp3;cases hp3
      refine(⟨_,_,_,_,rfl,rfl,m7 _ _ k6,ae,GR (Go (show(us4++[V.ref p2]).length+ys.length<=3000000 by rw[F7];simp only[F8,Gj];omega) (by decide)),?_⟩);have m8:=aW (o:=.lst (us4++[.ref p2]++ys)) (m6.trans m7) hp1;have k8:upd (upd G6 p3 (.lst ys)) p1 (.lst (us4++[.ref p2]++ys)) p1=some (.lst (us4++[.ref p2]++ys)):=ae;have a8:aL (SwA (hid [p1] (upd (upd G6 p3 (.lst ys)) p1 (.lst (us4++[.ref p2]++ys))))) (us4++[.ref p2]++ys) (ss3++eO tt j++[.entry j]++ttW t):=by
       rw[bw (by simp)];exact(a6.imp λ_ _=>SwA.mono (bb m7)).app (az.imp λ_ _=>SwA.mono (hidO (m6.trans m7)))
      generalize upd (upd G6 p3 (.lst ys)) p1 (.lst (us4++[.ref p2]++ys))=G8 at m8 k8 a8⊢;refine(⟨_,rfl,.inl ⟨rfl,_,SqL.of k8⟩,_,rfl,le2,λp5 hp5=>?_⟩);have m9:=ag hp5 (.tup [.str (PySem.Str.ofString "goal"),.int (j:Int)]);have np5:p5≠p1:=λz=>by rw[z,k8]at hp5;cases hp5
      refine(⟨_,_,_,rfl,rfl,m9 _ _ k8,Go (show(us4++[V.ref p2]++ys).length<=3000000 by simp only[F7,F8,Gj];omega) (by decide),?_⟩);refine(⟨_,us4++[.ref p2]++ys++[.ref p5],rfl,aW (m8.trans m9) hp1,ae,?_,by simp only[F7,F8,Gj];omega⟩);rw[bw (by simp),show ss3++eO tt (j+1)=ss3++eO tt j++[.entry j]++ttW t++[.goal j]from by
       unfold eO;rw[Jv,Jx];simp[kX,Gu,ht]]
      exact(a8.imp λ_ _=>SwA.mono (bb m9)).snoc ⟨p5,rfl,bn (by simpa using np5) ae⟩
     .rintro σ' G4 ⟨w7,us4,rfl,m4,g4,sal4,ul4⟩;rw[show HV ((tv.length:Nat):Int)=tt.length by rw[lt];exact IW _]at sal4 ul4;refine(⟨h+hB (Wy.lst).hd,_,_,_,_,us4,_,rfl,m4,g4,sal4,?_,by omega⟩);rw[es,Gs];rfl
    .rw[decide_eq_false (show ¬ (wy.t=fh)from λz=>hL (Wy.inj (b:=.lst) z))];refine av ?_;refine(⟨h+hB wy.hd,_,_,_,_,us3,ss3,rfl,m3,g3,sal3,?_,by omega⟩);rw[es,es3];unfold dq;dsimp only;rw[if_neg hL,Gs]
   .refine(⟨_,rfl,rfl,_,rfl,?_⟩);rw[show(!decide (V.str (tx wy.t)=V.str (PySem.Str.ofString ""))) = !decide (wy=.empty)from by
     rw[cu oG];cases wy<;>decide]
    by_cases he:wy=.empty
    .rw[decide_eq_true he];refine av ?_;refine av ?_;refine key _ _ ⟨us2,ss2,by rw[he];rfl,m2,g2,sal2,?_,by omega⟩;rw[es2,he];rfl
    .rw[decide_eq_false he];refine aN ?_;obtain⟨c,u,ec,hc⟩:∃c u,wy.t=c::u/\decide (c=61)=wy.hd:=by
      cases wy<;>first|exact⟨_,_,rfl,rfl⟩|exact absurd rfl he
     refine(⟨_,rfl,_,_,c,rfl,rfl,(by rw[aZ];cases wy<;>exact aQ (by decide)),(by rw[ec];exact iE _ _),rfl,_,rfl,?_⟩)
     rw[cu cH1,show decide ([c]=[61])=wy.hd from by rw[<-hc];simp];cases hh:wy.hd with
     |false =>
      refine av ?_;refine key _ _ ⟨us2,ss2,by simp[hB,hh],m2,g2,sal2,?_,by omega⟩;rw[es2];simp[hh]
     |true =>
      refine aN ?_;have nwd:wy≠.words:=λz=>by rw[z]at hh;cases hh
      refine(⟨_,rfl,.inl ⟨rfl,_,SqL.of g2⟩,_,rfl,le2,λp4 hp4=>?_⟩);have m4:=ag hp4 (.tup [.str (PySem.Str.ofString "head"),.int (h:Int)]);have np4:p4≠p1:=λz=>by rw[z,g2]at hp4;cases hp4
      refine(⟨_,_,_,rfl,rfl,m4 _ _ g2,Go (show us2.length<=2000000 by omega) (by decide),?_⟩);have m5:=aW (o:=.lst (us2++[.ref p4])) (m2.trans m4) hp1;have k5:upd (upd G2 p4 (.tup [.str (PySem.Str.ofString "head"),.int (h:Int)])) p1 (.lst (us2++[.ref p4])) p1=some (.lst (us2++[.ref p4])):=ae;have a5:aL (SwA (hid [p1] (upd (upd G2 p4 (.tup [.str (PySem.Str.ofString "head"),.int (h:Int)])) p1 (.lst (us2++[.ref p4]))))) (us2++[.ref p4]) (ss2++[.head h]):=by
       rw[bw (by simp)];exact(sal2.imp λ_ _=>SwA.mono (bb m4)).snoc ⟨p4,rfl,bn (by simpa using np4) ae⟩
      generalize upd (upd G2 p4 (.tup [.str (PySem.Str.ofString "head"),.int (h:Int)])) p1 (.lst (us2++[.ref p4]))=G5 at m5 k5 a5⊢;refine(⟨_,rfl,.inl ⟨rfl,_,SqL.of k5⟩,_,rfl,_,_,_,_,rfl,rfl,k5,m5 _ _ l1,GR (Go (show(us2++[V.ref p4]).length+cs.length<=3000000 by rw[F7];simp only[F8,Gj];omega) (by decide)),?_⟩);refine(⟨_,rfl,_,_,rfl,rfl,?_⟩);refine key _ _ ⟨us2++[.ref p4]++cs,_,by simp[hB,hh],aW m5 hp1,ae,ext G5 _ _ m5 a5,?_,by simp only[F7,F8,Gj];omega⟩;rw[es2];simp[nwd,hh]
  .refine(⟨_,rfl,rfl,_,rfl,?_⟩);rw[cu lF];by_cases hw:wy=.words
   .rw[decide_eq_true (show wy.t=[119,111,114,100,115] by rw[hw];rfl)];refine aN ?_;refine(⟨_,rfl,.inl ⟨rfl,_,SqL.of g1⟩,_,rfl,_,_,_,_,rfl,rfl,g1,m _ _ l1,GR (Go (show us.length+cs.length<=3000000 by omega) (by decide)),?_⟩);refine key _ _ ⟨us++cs,_,rfl,aW m hp1,ae,ext G _ _ m sal,by rw[if_pos hw],by rw[F7];omega⟩
   .rw[decide_eq_false (show ¬ (wy.t=[119,111,114,100,115])from λz=>hw (Wy.inj (b:=.words) z))];refine av ?_;exact key _ _ ⟨us,ss,rfl,m,g1,sal,by rw[if_neg hw,GL],by omega⟩
 rintro σ' G ⟨h,v4,v5,v6,v7,us,ss,rfl,m,g1,sal,es,ul⟩;rw[ln,HG]at es;have es:bC tt 0 named=ss:=by rw[es];exact GL _
 exact(⟨_,rfl,q p1 G us hp1 m g1 (by rw[es];exact sal.imp λ_ _=>SwA.mono bN)⟩)
def xI:Sp:=λvs H Q _=>∃l:List Nat,vs=[.str (tx l)]/\l.length<=1000/\Q (.bl (bO l)) H
theorem qO:aK ["word","sign"] ["word"] (au mP):=by walk_at "c"
theorem xJ(T:Txt P w K mg a):aX P w K mg base CX0 1 a.ni a.l0 ["word"] xI:=by
 refine T.mW.fn.ok qO (λvs H Q E h=>?_) (λcdv A outer s H vs Q E hr h=>?_)
 .obtain⟨l,rfl,_⟩:=h;rfl
 obtain⟨l,rfl,hl,q⟩:=h;refine⟨_,(af (aI (PW.pt (dR (aq vV (aF dm rfl T.bK PySem.boot_len (aa (pv 0) ac)) ah (nomark _)) (fb (aq kN (aF dm rfl T.bK PySem.boot_len (aa (pv 0) ac)) ah (nomark _))))) (ai (aJ dh)) aE)
   (af (cc GS rfl (AF (pv 0)) (aM (i:=1) qO.nd rfl (Gm rfl)) (ai (aI (aq qd (pv 1) ao (by with_unfolding_all rfl)) (ai (aJ dh)) aE)))
   (ai (aJ (fK qd (aC eK (pv 0) ah (λ_ _=>rfl)) ao (by with_unfolding_all rfl)))))),?_⟩
 refine⟨_,rfl,_,rfl,aQ (by rw[aZ];exact hl),_,_,rfl,rfl,_,rfl,?_⟩;rw[aZ];cases l with
 |nil =>
  refine aN ?_;refine aN ?_;exact q
 |cons c r =>
  rw[decide_eq_false (by simp only[F8];omega)];refine av ?_;refine⟨_,rfl,_,rfl,aQ (by rw[aZ];exact hl),_,_,rfl,rfl,_,rfl,?_⟩;rw[aZ];refine dX (λh=>?_) (λh=>?_)
  .have h2:¬ (c::r).length<=12:=by have:=of_decide_eq_true h;omega
   rw[vh h2]at q;exact q
  .have h2:(c::r).length<=12:=by
    refine Iz λz=>h (decide_eq_true ?_);omega
   rw[oC h2]at q;refine⟨_,rfl,_,rfl,Di (x:=tx (c::r)) (λi σ H2=>H2=H/\(∃v,σ=[some (.str (tx (c::r))),v])/\(((c::r).take i).all λd=>isL d||isF d)=true) ⟨rfl,⟨none,rfl⟩,rfl⟩ ?_ ?_⟩
   .rintro i d σ H2 hd ⟨rfl,⟨v,rfl⟩,ha⟩;rw[AI]at hd;refine⟨_,rfl,_,_,rfl,rfl,_,rfl,?_⟩;rw[DA];cases h3:(isL d||isF d)with
    |true =>
     refine av ?_;refine⟨rfl,⟨_,rfl⟩,?_⟩;rw[HA,hd,List.all_append,ha];simp[h3]
    |false =>
     refine aN ?_;have h4:((c::r).all λd=>isL d||isF d)=false:=by
      refine Bool.eq_false_iff.mpr λz=>?_;have:=List.all_eq_true.mp z d (Ge hd);rw[h3]at this;cases this
     rw[h4,Kc]at q;exact q
   .rintro σ H2 ⟨rfl,⟨v,rfl⟩,ha⟩;rw[yK,Hh (Gh _)]at ha;rw[ha,Kj]at q;refine⟨_,rfl,_,_,c,rfl,rfl,aQ (by rw[aZ];exact hl),iE c r,_,_,rfl,rfl,?_⟩;rw[A7];have ha1:(isL c||isF c)=true:=List.all_eq_true.mp ha c Gd;cases h5:isL c with
    |true =>
     rw[h5]at q;rw[DB h5];exact q
    |false =>
     rw[h5]at q;rw[h5,Ki]at ha1;rw[ha1];exact q

def kwI:Kw->Nat
 |.mark=>0|.number=>1|.page=>2|.row=>3|.foot=>4|_=>5
def kw5:List V:=[V.str (PySem.Str.ofString "mark"),V.str (PySem.Str.ofString "number"),V.str (PySem.Str.ofString "page"),V.str (PySem.Str.ofString "row"),V.str (PySem.Str.ofString "foot")]
theorem EJ{k:Kw}(h1:k≠.plain)(h2:k≠.entry):(∃v,kw5[kwI k]?=some v/\eqV v (.str k.s)=true)/\(∀(m:Nat) (v:V),m<kwI k->kw5[m]?=some v->eqV v (.str k.s)=false)/\atI (PySem.Str.ofString "#@&^~").cps.toList ((kwI k:Nat):Int)=some (sgK k):=by
 have no:∀(n:Nat) (s:Str),(∀m:Nat,m<n->∀v,kw5[m]?=some v->eqV v (.str s)=false)↔((kw5.take n).all λv=>!eqV v (.str s))=true:=λn s=>by
  rw[List.all_eq_true];constructor
  .intro h v hv;obtain⟨m,hm,e⟩:=List.getElem_of_mem hv;rw[List.getElem_take]at e;rw[GD]at hm;rw[h m (by omega) v (by rw[<-e];exact Ga _)];rfl
  .intro h m hm v hv;have:=h v (Ge (i:=m) (by rw[List.getElem?_take,if_pos hm];exact hv));simpa using this
 have no:=λ(n:Nat) (s:Str) (z:((kw5.take n).all λv=>!eqV v (.str s))=true)=>λ(m:Nat) (v:V) hm hv=>(no n s).mpr z m hm v hv;cases k with
 |plain=>exact absurd rfl h1
 |entry=>exact absurd rfl h2
 |mark=>exact⟨⟨_,rfl,by decide +kernel⟩,no 0 _ (by decide +kernel),by decide +kernel⟩
 |number=>exact⟨⟨_,rfl,by decide +kernel⟩,no 1 _ (by decide +kernel),by decide +kernel⟩
 |page=>exact⟨⟨_,rfl,by decide +kernel⟩,no 2 _ (by decide +kernel),by decide +kernel⟩
 |row=>exact⟨⟨_,rfl,by decide +kernel⟩,no 3 _ (by decide +kernel),by decide +kernel⟩
 |foot=>exact⟨⟨_,rfl,by decide +kernel⟩,no 4 _ (by decide +kernel),by decide +kernel⟩
theorem CW:(PySem.Str.ofString "!")=tx [33]:=by decide +kernel
theorem Fq:(PySem.Str.ofString ".![=")=tx [46,33,91,61]:=by decide +kernel
theorem Fs:(PySem.Str.ofString "#@&^~")=tx [35,64,38,94,126]:=by decide +kernel

def xK:Sp:=λvs H Q _=>∃w:NWd,vs=[.str w.1.s,.str (tx w.2)]/\sU w/\∀H',aj H H'->Q (.str (tx (wrW true w))) H'
theorem xL:aK ["kind","rest"] ["kind","rest"] (au mQ):=by walk_at "c"
theorem xM(T:Txt P w K mg a):aX P w K mg base CX0 2 a.nq a.l8 ["kind","rest"] xK:=by
 refine T.mX.fn.ok xL (λvs H Q E h=>?_) (λcdv A outer s H vs Q E hr h=>?_)
 .obtain⟨w,rfl,_⟩:=h;rfl
 obtain⟨w,rfl,ok,q⟩:=h;refine⟨_,(@af _ _ _ _ _ (@aI _ _ _ _ _ _ _ _ (aq eQ (pv 0) ao (nomark _)) (@ai _ _ _ (@aJ _ _ _ _ (aP dJ (@aC _ _ _ _ _ _ _ eK ao (cq PySem.F.plainAttrs_list PySem.F.slot_list_index PySem.F.type_list_index B3 (@bi _ _ _ _ (@ue _ _ _ (CL.str (CL.str (CL.str (CL.str (CL.str CL.nil))))))) (@aa _ _ _ _ _ (pv 0) ac (by rfl))) (λ_ _=>rfl)) (pv 1)))) aE)
   (@af _ _ _ _ _ (@aI _ _ _ _ _ _ _ _ (PW.pt (dR (aq jW (@aC _ _ _ _ _ _ _ eK (pv 1) ah (λ_ _=>rfl)) ao (by with_unfolding_all rfl)) (fb (PW.pt (gh (aq jW (@aC _ _ _ _ _ _ _ eK (pv 1) ah (λ_ _=>rfl)) ao (by with_unfolding_all rfl)) (eD (cz (aD T.mW (xJ T) (hr.mono (by decide)) rfl (@aa _ _ _ _ _ (dC jY (pv 1) (dS ah) eZ) ac (by rfl))) (λ_=>rfl)))))))) (@ai _ _ _ (@aJ _ _ _ _ (aP dJ ao (pv 1)))) aE)
   (@ai _ _ _ (@aJ _ _ _ _ (pv 1))))),?_⟩
 obtain⟨k,r⟩:=w;obtain⟨he,sg,hw⟩:=ok;dsimp only at he sg hw;refine(⟨_,rfl,rfl,_,rfl,?_⟩);by_cases hk:k=.plain
 .subst hk;refine av ?_;dsimp only[cT];obtain⟨_,hne,hl⟩|⟨z,_⟩:=hw
  .match r,hne,hl,sg,q with
   |c::u,_,hl,sg,q =>
   have eT:kW true (c::u)=true->∀H',aj H H'->Q (.str (tx (33::c::u))) H':=λb H' s=>by
    have:=q H' s;rw[show wrW true (.plain,c::u)=33::c::u from by unfold wrW;rw[if_pos rfl,if_pos b]]at this;exact this
   have eF:kW true (c::u)=false->∀H',aj H H'->Q (.str (tx (c::u))) H':=λb H' s=>by
    have:=q H' s;rw[show wrW true (.plain,c::u)=c::u from by unfold wrW;rw[if_pos rfl,if_neg (by rw[b];decide)]]at this;exact this
   have bang:∀{D:eV} {σ':St} {H'},σ'[1]?=some (some (.str (tx (c::u))))->D.rt=Q->kW true (c::u)=true->aj H H'->True:=λ_ _ _ _=>trivial;have ln:(PySem.Str.ofString "!").length+(tx (c::u)).length<=Gr:=by rw[CW,aZ,aZ];exact GR (aA (by simp only[F8,Gj]at hl⊢;omega))
   have add:∀H',aj H H'->kW true (c::u)=true->Q (.str (PySem.Str.ofString "!"++tx (c::u))) H':=λH' s b=>by rw[CW,eN];exact eT b H' s
   have L1:(tx (c::u)).length<=Gr:=by rw[aZ];exact GR (aA (by omega))
   have em:decide (c∈[35,64,38,94,126])=isM c:=rfl;have e4:decide (c∈[46,33,91,61])=(decide (c∈[46,33,91])||decide (c=61)):=by simp[Bool.or_assoc]
   refine(⟨_,rfl,_,_,c,rfl,rfl,L1,iE _ _,_,_,rfl,rfl,_,rfl,?_⟩);rw[Fq,ua];cases b1:decide (c∈[46,33,91,61])with
   |true =>
    refine aN ?_;refine aN ?_;exact(⟨_,rfl,_,_,rfl,rfl,ln,add _ (aj.refl _) (by rw[vk,if_pos rfl,<-e4,b1];rfl)⟩)
   |false =>
    refine av ?_;refine(⟨_,rfl,_,_,c,rfl,rfl,L1,iE _ _,_,_,rfl,rfl,_,rfl,?_⟩);rw[Fs,ua,em];have lb:kW true (c::u)=(isM c&&bO u):=by rw[vk,if_pos rfl,<-e4,b1];rfl
    cases b3:isM c with
    |false =>
     rw[b3,JD]at lb;refine av ?_;refine av ?_;exact(⟨_,rfl,eF lb _ (aj.refl _)⟩)
    |true =>
     rw[b3,Jk]at lb;refine aN ?_;refine(⟨_,rfl,_,rfl,_,rfl,L1,u,(by rw[fB,show jd (c::u) (some 1) none=(c::u).drop 1 from Tl.cut_from (c::u) 1];rfl),(by simp only[F8]at hl;omega),_,rfl,?_⟩);cases b4:bO u with
     |true =>
      rw[b4]at lb;refine aN ?_;exact(⟨_,rfl,_,_,rfl,rfl,ln,add _ (aj.refl _) lb⟩)
     |false =>
      rw[b4]at lb;refine av ?_;exact(⟨_,rfl,eF lb _ (aj.refl _)⟩)
  .exact absurd rfl z
 .rw[show(!decide (V.str k.s=V.str "plain"))=true from by rw[decide_eq_false (show ¬ (V.str k.s=V.str "plain")from λz=>hk (Kw.inj (b:=.plain) (V.str.inj z)))];rfl];refine aN ?_;obtain⟨z,_⟩|⟨_,hn,hl⟩:=hw
  .exact absurd z hk
  obtain⟨i1,i2,i3⟩:=EJ hk he;refine(⟨aQ (by simp),λp1 hp1=>?_⟩);have s1:=ag hp1 (.lst kw5);have k1:upd H p1 (.lst kw5) p1=some (.lst kw5):=ae;change upd H p1 (.lst kw5) p1=_ at k1;refine(⟨.inl ⟨rfl,_,SqL.of k1⟩,_,rfl,p1,.str k.s,kw5,kwI k,rfl,rfl,k1,rfl,rfl,i1,i2,_,_,sgK k,rfl,rfl,aQ (by decide +kernel),i3,_,rfl,_,_,rfl,rfl,(by rw[aZ];exact GR (aA (by show 1+r.length<=1000;omega))),?_⟩);have:=q _ s1;rw[show wrW true (k,r)=sgK k::r from by unfold wrW;rw[if_neg hk]]at this;show Q (.str (tx [sgK k]++tx r)) _;rw[eN];exact this

theorem EK(w:Wy):inV (.str (tx w.t)) [V.str (PySem.Str.ofString ""),V.str (PySem.Str.ofString "words")]=decide (w=.empty\/w=.words):=by
 rw[oG,lF];refine(qy [[],[119,111,114,100,115]]).trans ?_;cases w<;>decide

def Bs:Sp:=λvs H Q _=>∃(r:bM) (la:Addr),vs=[.str (tx r.1.t),.str (tx r.2.1),.ref la]/\cQ H la (wkS r.2.2)/\ko r/\∀H',aj H H'->Q (.str (tx (cG [32] (eX true r)))) H'
theorem mC:aK ["way","name","words","texts"] ["way","name","words"] (au tm):=by walk_at "c"
theorem Bt(T:Txt P w K mg a):aX P w K mg base CX0 3 a.tO a.rN ["way","name","words"] Bs:=by
 refine T.tH.fn.ok mC (λvs H Q E h=>?_) (λcdv A outer s H vs Q E hr h=>?_)
 .obtain⟨r,la,rfl,_⟩:=h;rfl
 obtain⟨r,la,rfl,hl,ok,q⟩:=h;refine⟨_,(af (A3 (k:=3) rfl (d_ (caps:=[]) (js:=[]) (cap:=trivial)) (bj (pv 2)) (λ_ _ _ _=>dD) (λ_ _ _ _=>(aD T.mX (xM T) (hr.mono (by decide)) rfl (aa (pv 0) (aa (pv 1) ac)))) mC.nd rfl rfl)
   (af (aI (aq br (pv 0) ao (nomark _)) (ai (ay (i:=3) mC.nd rfl (Gm rfl) (aP i5 (bi (aa (pv 1) ac)) (pv 3)))) aE)
   (af (aI (aq wV (pv 0) (aY (aa ao (aa ao ac))) (by with_unfolding_all rfl)) (ai (ay (i:=3) mC.nd rfl (Gm rfl) (aP i5 (bi (aa (pv 0) ac)) (pv 3)))) aE)
   (ai (aJ (cq PySem.F.plainAttrs_str PySem.F.slot_str_join PySem.F.type_str_join nN ao (aa (pv 3) ac))))))),?_⟩
 obtain⟨us,u1,u2⟩:=hl;have lu:=u2.len;have rwd:=mw true ok;have rln:=yS true ok;have okl:=ok.len;have okw:=ok.ok;obtain⟨wy,nm,ws⟩:=r;dsimp only at u2 lu okl okw;unfold wkS at lu;rw[F6]at lu;refine⟨_,rfl,la,rfl,⟨_,SqL.of u1⟩,oB (K:=K) (a:=la) (xs:=us) (λi ys G=>aj H G/\ys=(((ws.take i).map (wrW true)).map tx).map V.str) ⟨aj.refl _,rfl⟩ (λi ys G _ z=>SqL.of (z.1 _ _ u1)) ?_ ?_ ?_⟩
 .rintro i ys G hi ⟨_,rfl⟩;simp only[F6,GD];exact aA (by omega)
 .rintro i y ys G hy ⟨m,rfl⟩;obtain⟨w',hw',b,rfl,hb⟩:=u2.getL hy;unfold wkS at hw';rw[GA]at hw';obtain⟨w,hw,rfl⟩:=Option.map_eq_some_iff.mp hw';refine⟨b,_,_,rfl,SqT.of (m _ _ hb),d3 ?_⟩;refine⟨_,rfl,_,rfl,w,rfl,okw w (Ge hw),λH' s=>⟨m.trans s,?_⟩⟩;rw[aV hw,Gg,Gg,Gg];rfl
 rintro ys G ⟨m,rfl⟩ p1 hp1;rw[lu,Gv];have s1:=m.trans (ag hp1 (.lst (((ws.map (wrW true)).map tx).map V.str)));have k1:upd G p1 (.lst (((ws.map (wrW true)).map tx).map V.str)) p1=some (.lst (((ws.map (wrW true)).map tx).map V.str)):=ae;generalize upd G p1 (.lst (((ws.map (wrW true)).map tx).map V.str))=G1 at s1 k1⊢;dsimp only[bE];refine cO (λσ' G'=>∃pt,σ'=[some (.str (tx wy.t)),some (.str (tx nm)),some (.ref la),some (.ref pt)]/\aj H G'/\G' pt=some (.lst ((((if wy=.foot then[nm]else[])++ws.map (wrW true)).map tx).map V.str))) ?_ (λkey=>?_)
 .rintro σ' G2 ⟨pt,rfl,s2,k2⟩;refine cO (λσ' G'=>∃pt,σ'=[some (.str (tx wy.t)),some (.str (tx nm)),some (.ref la),some (.ref pt)]/\aj H G'/\G' pt=some (.lst (((eX true (wy,nm,ws)).map tx).map V.str))) ?_ (λkey=>?_)
  .rintro σ' G3 ⟨pt3,rfl,s3,k3⟩;refine⟨rfl,_,rfl,_,_,_,rfl,rfl,SqL.of k3,by decide,?_,?_⟩
   .have h1:=lD (eX true (wy,nm,ws)) λt ht=>(rwd t ht).2.2;simp only[F6];omega
   .rw[show(PySem.Str.ofString " ")=tx [32] by decide +kernel,jI];exact q _ s3
  .refine⟨_,rfl,le2,λp2 hp2=>?_⟩;have s3:=s2.trans (ag hp2 (.tup [V.str (PySem.Str.ofString ""),V.str (PySem.Str.ofString "words")]));refine⟨_,_,rfl,.inr (SqT.of ae),rfl,rfl,_,rfl,?_⟩;have k2':=ag hp2 (.tup [V.str (PySem.Str.ofString ""),V.str (PySem.Str.ofString "words")]) _ _ k2;generalize upd G2 p2 (.tup [V.str (PySem.Str.ofString ""),V.str (PySem.Str.ofString "words")])=G3 at s3 k2'⊢;refine dX (λc2=>?_) (λc2=>?_)
   .have c3:¬ (wy=.empty\/wy=.words):=λz=>by
     have:=EK wy;rw[decide_eq_true z]at this;change (!inV (.str (tx wy.t)) [V.str (PySem.Str.ofString ""),V.str (PySem.Str.ofString "words")])=true at c2;rw[this]at c2;cases c2
    refine⟨_,rfl,le1,λp4 hp4=>?_⟩;have s4:=ag hp4 (.lst [.str (tx wy.t)]);refine⟨_,rfl,_,_,_,_,rfl,rfl,ae,s4 _ _ k2',?_,λp5 hp5=>?_⟩
    .simp only[F6,F7,F8,Gj];have:(if wy=.foot then[nm]else([]:List (List Nat))).length<=1:=by split<;>simp
     exact GR (aA (by omega))
    .refine key _ _ ⟨p5,rfl,(s3.trans s4).trans (ag hp5 _),?_⟩;rw[ae];unfold eX;rw[if_neg c3,Gs,Gg (l₁:=[wy.t]),Gg];rfl
   .have c3:wy=.empty\/wy=.words:=by
     have:=EK wy;change ¬ ((!inV (.str (tx wy.t)) [V.str (PySem.Str.ofString ""),V.str (PySem.Str.ofString "words")])=true)at c2;rw[this]at c2;by_cases z:wy=.empty\/wy=.words
     .exact z
     .rw[decide_eq_false z]at c2;exact absurd rfl c2
    refine key _ _ ⟨pt,rfl,s3,?_⟩;rw[k2'];unfold eX;rw[if_pos c3];rfl
 .refine⟨_,rfl,rfl,_,rfl,?_⟩;rw[cu kU];by_cases hf:wy=.foot
  .rw[decide_eq_true (show wy.t=ef by rw[hf];rfl)];refine aN ?_;refine⟨_,rfl,le1,λp4 hp4=>?_⟩;have s4:=ag hp4 (.lst [.str (tx nm)]);refine⟨_,rfl,_,_,_,_,rfl,rfl,ae,s4 _ _ k1,?_,λp5 hp5=>?_⟩
   .simp only[F6,F8,Gj];exact GR (aA (by omega))
   .refine key _ _ ⟨p5,rfl,(s1.trans s4).trans (ag hp5 _),?_⟩;rw[ae,if_pos hf,Gg (l₁:=[nm]),Gg];rfl
  .rw[decide_eq_false (show ¬ (wy.t=ef)from λz=>hf (Wy.inj (b:=.foot) z))];refine av ?_;refine key _ _ ⟨p1,rfl,s1,?_⟩;rw[k1,if_neg hf];rfl

def fE:Wy->Nat
 |.h1=>1|.h2=>2|.h3=>3|_=>0
def bp:Nat×Nat×Nat->List bM->List Ttl
 |_,[]=>[]
 |c,r::rs=>if r.1.hd=true then(eg (bD c (fE r.1:Int)) (fE r.1:Int),r.2.2)::bp (bD c (fE r.1:Int)) rs else bp c rs
def xN(c:Nat×Nat×Nat):List V:=[.int 0,.int (c.1:Int),.int (c.2.1:Int),.int (c.2.2:Int)]
theorem sf{n:Nat}(h:n<=300):((n:Int)).natAbs.log2<1920:=by
 have:∀m:Nat,m<=300->((m:Int)).natAbs.log2<1920:=by decide +kernel
 exact this n h

def yt(K:PySem.W.Frag):Sp:=λvs H Q _=>∃(na:Addr) (nv:List V) (named:List bM),vs=[.ref na]/\H na=some (.lst nv)/\aL (NnA H) nv named/\named.length<=200/\∀p H' us,H p=none->aj H H'->H' p=some (.lst us)->aL (TtA H') us (bp (0,0,0) named)->Q (.ref p) H'
theorem eB:aK ["named","counters","titles","way","name","words","k","number"] ["named"] (au oN):=by walk_at "c"
theorem yu(T:Txt P w K mg a):aX P w K mg base CX0 1 a.pp a.nE ["named"] (yt K):=by
 refine T.o8.fn.ok eB (λvs H Q E h=>?_) (λcdv A outer s H vs Q E hr h=>?_)
 .obtain⟨na,nv,named,rfl,_⟩:=h;rfl
 obtain⟨na,nv,named,rfl,hna,nal,nl,q⟩:=h;refine⟨_,(af (ay (i:=1) eB.nd rfl (Kn rfl) (bi (aa ah (aa ah (aa ah (aa ah ac))))))
   (af (ay (i:=2) eB.nd rfl (Gm rfl) (bi ac))
   (af (cc GS rfl (bj (pv 0)) (dZ rfl (a7 (aM (i:=3) eB.nd rfl (Gm rfl)) (a7 (aM (i:=4) eB.nd rfl (Gm rfl)) (a7 (aM (i:=5) eB.nd rfl (Gm rfl)) dt)))) (ai (aI (PW.pt (gh (aq eQ (pv 3) ao (nomark _)) (eD (aq br (aC eK (pv 3) ah (λ_ _=>rfl)) ao (nomark _))))) (af (wO (aP b8 (aC bF (pv 1) (aF dm rfl T.bK PySem.boot_len (aa (pv 3) ac)) (λ_ _=>rfl)) ah) (wN (pv 1) (aF dm rfl T.bK PySem.boot_len (aa (pv 3) ac)) sK))
   (af (cc GS rfl (u0 rfl T.eJ (aa (aP b8 (aF dm rfl T.bK PySem.boot_len (aa (pv 3) ac)) ah) (aa ah ac))) (aM (i:=6) eB.nd rfl (Gm rfl)) (ai (wO ah (wN (pv 1) (pv 6) sK))))
   (af (ay (i:=7) eB.nd rfl (Gm rfl) (cq PySem.F.plainAttrs_str PySem.F.slot_str_join PySem.F.type_str_join nN ao (aa (fG rfl (d_ (caps:=["counters"]) (js:=[1]) (cap:=⟨⟨rfl,.inl rfl,rfl,.inl rfl⟩,trivial⟩)) (u0 rfl T.eJ (aa ah (aa (aP b8 (aF dm rfl T.bK PySem.boot_len (aa (pv 3) ac)) ah) ac))) (λ_ _ _ _=>dD) (λ_ _ _ _=>(mj qg rfl T.jC Io (aa (aC (r:=BR K) bF (pv 1) (pv 0) (λ_ _=>rfl)) ac)))) ac)))
   (ai (bf (cq PySem.F.plainAttrs_list PySem.F.slot_list_append PySem.F.type_list_append bZ (pv 2) (aa (aY (aa (pv 7) (aa (pv 5) ac))) ac))))))) aE)))
   (ai (aJ (pv 2)))))),?_⟩
 have ln:=nal.len;refine⟨le4,λp1 hp1=>?_⟩;have s1:=ag hp1 (.lst [V.int 0,.int 0,.int 0,.int 0]);have k1:upd H p1 (.lst [V.int 0,.int 0,.int 0,.int 0]) p1=some (.lst (xN (0,0,0))):=ae;generalize upd H p1 (.lst [V.int 0,.int 0,.int 0,.int 0])=H1 at s1 k1⊢;refine⟨aQ (by simp),λp2 hp2=>?_⟩;have hp2':=s1.free hp2;have n12:p1≠p2:=λz=>by rw[z]at k1;rw[k1]at hp2;cases hp2
 have s2:=s1.trans (ag hp2 (.lst []));have k1':=ag hp2 (.lst []) _ _ k1;have k2:upd H1 p2 (.lst []) p2=some (.lst []):=ae;generalize upd H1 p2 (.lst [])=H2 at s2 k1' k2⊢;refine⟨_,rfl,na,rfl,⟨_,SqL.of (s2 _ _ hna)⟩,cg (K:=K) (a:=na) (xs:=nv) (λi σ' G=>∃(c1 c2 c3:Nat) (v3 v4 v5 v6 v7:Option V) (us:List V) (tt:List Ttl),σ'=[some (.ref na),some (.ref p1),some (.ref p2),v3,v4,v5,v6,v7]/\aj H G/\G p1=some (.lst (xN (c1,c2,c3)))/\G p2=some (.lst us)/\aL (TtA (hid [p1,p2] G)) us tt/\bp (0,0,0) named=tt++bp (c1,c2,c3) (named.drop i)/\us.length<=i/\c1<=i/\c2<=i/\c3<=i) ⟨0,0,0,none,none,none,none,none,[],[],rfl,s2,k1',k2,trivial,rfl,GV _,GV _,GV _,GV _⟩ (λi σ' G _ g=>by obtain⟨_,_,_,_,_,_,_,_,_,_,_,m,_⟩:=g;exact SqL.of (m _ _ hna)) ?_ ?_⟩
 .rintro i y σ' G hy ⟨c1,c2,c3,v3,v4,v5,v6,v7,us,tt,rfl,m,g1,g2,tal,et,ul,b1,b2,b3⟩;obtain⟨⟨wy,nm,ws⟩,hn,b,l,rfl,hb,hl⟩:=nal.getL hy;have hi:=(List.getElem?_eq_some_iff.mp hn).1;dsimp only at hb hl;have ed:named.drop i=(wy,nm,ws)::named.drop (i+1):=by
   obtain⟨hi,e⟩:=List.getElem?_eq_some_iff.mp hn;rw[GT hi,e]
  rw[ed]at et;refine⟨b,_,rfl,SqT.of (m _ _ hb),rfl,_,_,rfl,_,_,rfl,_,_,rfl,rfl,?_⟩;refine⟨_,rfl,rfl,_,rfl,?_⟩;have skip:wy.hd=false->∃(c1' c2' c3':Nat) (v3 v4 v5 v6 v7:Option V) (us':List V) (tt':List Ttl),[some (.ref na),some (.ref p1),some (.ref p2),some (.str (tx wy.t)),some (.str (tx nm)),some (.ref l),v6,v7]=[some (.ref na),some (.ref p1),some (.ref p2),v3,v4,v5,v6,v7]/\True->True:=λ_=>⟨0,0,0,none,none,none,none,none,[],[],λ_=>trivial⟩;rw[show(!decide (V.str (tx wy.t)=V.str (PySem.Str.ofString ""))) = !decide (wy=.empty)from by
   rw[cu oG];cases wy<;>decide]
  by_cases he:wy=.empty
  .rw[decide_eq_true he];refine av ?_;refine av ?_;refine⟨c1,c2,c3,_,_,_,_,_,us,tt,rfl,m,g1,g2,tal,?_,by omega,by omega,by omega,by omega⟩;rw[et,he];rfl
  .rw[decide_eq_false he];refine aN ?_;obtain⟨c,u,ec,hc⟩:∃c u,wy.t=c::u/\decide (c=61)=wy.hd:=by
    cases wy<;>first|exact⟨_,_,rfl,rfl⟩|exact absurd rfl he
   refine⟨_,rfl,_,_,c,rfl,rfl,(by rw[aZ];cases wy<;>exact aQ (by decide)),(by rw[ec];exact iE _ _),rfl,_,rfl,?_⟩
   rw[cu cH1,show decide ([c]=[61])=wy.hd from by rw[<-hc];simp];have no:wy.hd=false->bp (0,0,0) named=tt++bp (c1,c2,c3) (named.drop (i+1)):=λhh=>by
    rw[et];show tt++(if wy.hd=true then _ else _)=_;rw[if_neg (by rw[hh];decide)]
   cases wy with
   |words =>
    refine av ?_;exact⟨c1,c2,c3,_,_,_,_,_,us,tt,rfl,m,g1,g2,tal,no rfl,by omega,by omega,by omega,by omega⟩
   |page =>
    refine av ?_;exact⟨c1,c2,c3,_,_,_,_,_,us,tt,rfl,m,g1,g2,tal,no rfl,by omega,by omega,by omega,by omega⟩
   |odd =>
    refine av ?_;exact⟨c1,c2,c3,_,_,_,_,_,us,tt,rfl,m,g1,g2,tal,no rfl,by omega,by omega,by omega,by omega⟩
   |lst =>
    refine av ?_;exact⟨c1,c2,c3,_,_,_,_,_,us,tt,rfl,m,g1,g2,tal,no rfl,by omega,by omega,by omega,by omega⟩
   |foot =>
    refine av ?_;exact⟨c1,c2,c3,_,_,_,_,_,us,tt,rfl,m,g1,g2,tal,no rfl,by omega,by omega,by omega,by omega⟩
   |empty=>exact absurd rfl he
   |h1 =>
    refine aN ?_;refine⟨_,rfl,_,rfl,_,rfl,aQ (by decide),_,_,_,_,rfl,rfl,SqL.of g1,rfl,_,_,rfl,rfl,_,rfl,_,rfl,_,rfl,aQ (by decide),_,_,_,_,rfl,rfl,g1,rfl,?_⟩;have m2:=aW (o:=.lst [V.int 0,.int (((c1:Nat):Int)+1),.int ((c2:Nat):Int),.int ((c3:Nat):Int)]) m hp1;have g2':upd G p1 (.lst [V.int 0,.int (((c1:Nat):Int)+1),.int ((c2:Nat):Int),.int ((c3:Nat):Int)]) p1=some (.lst [V.int 0,.int (((c1:Nat):Int)+1),.int ((c2:Nat):Int),.int ((c3:Nat):Int)]):=ae;have g3':upd G p1 (.lst [V.int 0,.int (((c1:Nat):Int)+1),.int ((c2:Nat):Int),.int ((c3:Nat):Int)]) p2=some (.lst us):=by rw[ak (GX n12)];exact g2
    have a3:aL (TtA (hid [p1,p2] (upd G p1 (.lst [V.int 0,.int (((c1:Nat):Int)+1),.int ((c2:Nat):Int),.int ((c3:Nat):Int)])))) us tt:=by rw[bw (by simp)];exact tal
    refine⟨_,rfl,_,rfl,aQ (by decide),_,_,rfl,rfl,_,_,rfl,⟨by decide,by decide,by decide,by decide⟩,jl (λj σ' G'=>∃v6',σ'=[some (.ref na),some (.ref p1),some (.ref p2),some (.str (tx (Wy.h1).t)),some (.str (tx nm)),some (.ref l),v6',v7]/\aj H G'/\G' p1=some (.lst [V.int 0,.int ((c1+1:Nat):Int),.int (if 1<=j then 0 else((c2:Nat):Int)),.int (if 2<=j then 0 else((c3:Nat):Int))])/\G' p2=some (.lst us)/\aL (TtA (hid [p1,p2] G')) us tt) ?_ ?_ ?_⟩
    .exact⟨_,rfl,m2,g2',g3',a3⟩
    .rintro j σ' G' hj ⟨w6,rfl,m3,g31,g32,a3'⟩;rcases(show j=0\/j=1 by have:(HV (4-((((tx (Wy.h1).t).length:Nat):Int)+1)))=2:=rfl;omega)with rfl|rfl
     .refine⟨_,rfl,_,rfl,_,_,_,_,rfl,rfl,g31,rfl,?_⟩;refine⟨_,rfl,aW m3 hp1,by rw[ae];rfl,by rw[ak (GX n12)];exact g32,by rw[bw (by simp)];exact a3'⟩
     .refine⟨_,rfl,_,rfl,_,_,_,_,rfl,rfl,g31,rfl,?_⟩;refine⟨_,rfl,aW m3 hp1,by rw[ae];rfl,by rw[ak (GX n12)];exact g32,by rw[bw (by simp)];exact a3'⟩
    .rintro σ' G' ⟨w6,rfl,m3,g31,g32,a3'⟩;have g31:G' p1=some (.lst (xN (c1+1,0,0))):=g31;refine⟨rfl,_,rfl,_,rfl,aQ (by decide),_,_,rfl,rfl,_,_,rfl,⟨by decide,by decide,by decide,by decide⟩,lm (λi ys G2=>G'=G2/\ys=(([aT (c1+1)].take i).map tx).map V.str) ⟨rfl,rfl⟩ ?_ ?_ ?_⟩
     .rintro i' ys G2 hi' ⟨_,rfl⟩;exact aA (by simp only[F6,GD,F8,Gj];omega)
     .rintro i' ys G2 hi' ⟨rfl,rfl⟩;refine d3 ?_;rcases(show i'=0 by have:(HV (((((tx (Wy.h1).t).length:Nat):Int)+1)-1))=1:=rfl;omega)with rfl
      .refine⟨_,rfl,_,rfl,_,_,_,_,rfl,rfl,SqL.of g31,rfl,_,rfl,sf (n:=c1+1) (by omega),rfl,?_⟩;rw[je];rfl
     rintro ys G2 ⟨rfl,ey⟩ p3 hp3;have ey:ys=([aT (c1+1)].map tx).map V.str:=ey;subst ey;have m4:=ag hp3 (.lst (([aT (c1+1)].map tx).map V.str));refine⟨_,_,_,rfl,rfl,SqL.of ae,by decide,?_,?_⟩
     .have h1:=lD [aT (c1+1)] λt ht=>by
       simp only[Hd,GZ,or_false]at ht;rcases ht with rfl<;>exact GM (jJ 3 _ (by omega)) (by decide)
      simp only[F6,F8,Gj];exact GM (Jp h1 _) (by show 61*1+1<=1048576;decide)
     .have ej:Txt.join (PySem.Str.ofString ".") ([aT (c1+1)].map tx)=tx (eg (bD (c1,c2,c3) (1:Int)) (1:Int)):=by
       rw[show(PySem.Str.ofString ".")=tx [46] by decide +kernel,jI];rfl
      refine⟨_,rfl,.inl ⟨rfl,_,SqL.of (m4 _ _ g32)⟩,_,rfl,_,rfl,le2,λpt hpt=>?_⟩;have m5:=ag hpt (.tup [.str (Txt.join (PySem.Str.ofString ".") ([aT (c1+1)].map tx)),.ref l]);have q1:=m4 _ _ g31;have q2:=m4 _ _ g32;have k5:upd (upd G' p3 (.lst (([aT (c1+1)].map tx).map V.str))) pt (.tup [.str (Txt.join (PySem.Str.ofString ".") ([aT (c1+1)].map tx)),.ref l]) pt=some (.tup [.str (tx (eg (bD (c1,c2,c3) (1:Int)) (1:Int))),.ref l]):=by rw[ae,ej]
      have np:pt∉[p1,p2]:=λz=>by
       rcases List.mem_cons.mp z with z|z
       .rw[z,q1]at hpt;cases hpt
       .rw[List.mem_singleton.mp z,q2]at hpt;cases hpt
      have m45:=m4.trans m5;have mz:=m3.trans m45;have hz:aj H (hid [p1,p2] _):=jm mz λb hb=>by
       rcases List.mem_cons.mp hb with rfl|hb
       .exact hp1
       .rw[List.mem_singleton.mp hb];exact hp2'
      have q1:=m5 _ _ q1;have q2:=m5 _ _ q2;generalize upd (upd G' p3 (.lst (([aT (c1+1)].map tx).map V.str))) pt (.tup [.str (Txt.join (PySem.Str.ofString ".") ([aT (c1+1)].map tx)),.ref l])=G5 at k5 m45 mz hz q1 q2⊢;refine⟨_,_,_,rfl,rfl,q2,aA (by omega),?_⟩;refine⟨c1+1,0,0,_,_,_,_,_,us++[.ref pt],tt++[(eg (bD (c1,c2,c3) (1:Int)) (1:Int),ws)],rfl,aW mz hp2',by rw[ak n12];exact q1,ae,?_,?_,by rw[F7];simp only[F8,Gj];omega,by omega,by omega,by omega⟩
      .rw[bw (by simp)];exact(a3'.imp λ_ _=>TtA.mono (bb m45)).snoc ⟨pt,l,rfl,bn np k5,hl.mono hz⟩
      .rw[et,Gs];rfl
   |h2 =>
    refine aN ?_;refine⟨_,rfl,_,rfl,_,rfl,aQ (by decide),_,_,_,_,rfl,rfl,SqL.of g1,rfl,_,_,rfl,rfl,_,rfl,_,rfl,_,rfl,aQ (by decide),_,_,_,_,rfl,rfl,g1,rfl,?_⟩;have m2:=aW (o:=.lst [V.int 0,.int ((c1:Nat):Int),.int (((c2:Nat):Int)+1),.int ((c3:Nat):Int)]) m hp1;have g2':upd G p1 (.lst [V.int 0,.int ((c1:Nat):Int),.int (((c2:Nat):Int)+1),.int ((c3:Nat):Int)]) p1=some (.lst [V.int 0,.int ((c1:Nat):Int),.int (((c2:Nat):Int)+1),.int ((c3:Nat):Int)]):=ae;have g3':upd G p1 (.lst [V.int 0,.int ((c1:Nat):Int),.int (((c2:Nat):Int)+1),.int ((c3:Nat):Int)]) p2=some (.lst us):=by rw[ak (GX n12)];exact g2
    have a3:aL (TtA (hid [p1,p2] (upd G p1 (.lst [V.int 0,.int ((c1:Nat):Int),.int (((c2:Nat):Int)+1),.int ((c3:Nat):Int)])))) us tt:=by rw[bw (by simp)];exact tal
    refine⟨_,rfl,_,rfl,aQ (by decide),_,_,rfl,rfl,_,_,rfl,⟨by decide,by decide,by decide,by decide⟩,jl (λj σ' G'=>∃v6',σ'=[some (.ref na),some (.ref p1),some (.ref p2),some (.str (tx (Wy.h2).t)),some (.str (tx nm)),some (.ref l),v6',v7]/\aj H G'/\G' p1=some (.lst [V.int 0,.int ((c1:Nat):Int),.int ((c2+1:Nat):Int),.int (if 1<=j then 0 else((c3:Nat):Int))])/\G' p2=some (.lst us)/\aL (TtA (hid [p1,p2] G')) us tt) ?_ ?_ ?_⟩
    .exact⟨_,rfl,m2,g2',g3',a3⟩
    .rintro j σ' G' hj ⟨w6,rfl,m3,g31,g32,a3'⟩;obtain rfl:j=0:=by have:(HV (4-((((tx (Wy.h2).t).length:Nat):Int)+1)))=1:=rfl;omega
     refine⟨_,rfl,_,rfl,_,_,_,_,rfl,rfl,g31,rfl,?_⟩;refine⟨_,rfl,aW m3 hp1,by rw[ae];rfl,by rw[ak (GX n12)];exact g32,by rw[bw (by simp)];exact a3'⟩
    .rintro σ' G' ⟨w6,rfl,m3,g31,g32,a3'⟩;have g31:G' p1=some (.lst (xN (c1,c2+1,0))):=g31;refine⟨rfl,_,rfl,_,rfl,aQ (by decide),_,_,rfl,rfl,_,_,rfl,⟨by decide,by decide,by decide,by decide⟩,lm (λi ys G2=>G'=G2/\ys=(([aT (c1),aT (c2+1)].take i).map tx).map V.str) ⟨rfl,rfl⟩ ?_ ?_ ?_⟩
     .rintro i' ys G2 hi' ⟨_,rfl⟩;exact aA (by simp only[F6,GD,F8,Gj];omega)
     .rintro i' ys G2 hi' ⟨rfl,rfl⟩;refine d3 ?_;rcases(show i'=0\/i'=1 by have:(HV (((((tx (Wy.h2).t).length:Nat):Int)+1)-1))=2:=rfl;omega)with rfl|rfl
      .refine⟨_,rfl,_,rfl,_,_,_,_,rfl,rfl,SqL.of g31,rfl,_,rfl,sf (n:=c1) (by omega),rfl,?_⟩;rw[je];rfl
      .refine⟨_,rfl,_,rfl,_,_,_,_,rfl,rfl,SqL.of g31,rfl,_,rfl,sf (n:=c2+1) (by omega),rfl,?_⟩;rw[je];rfl
     rintro ys G2 ⟨rfl,ey⟩ p3 hp3;have ey:ys=([aT (c1),aT (c2+1)].map tx).map V.str:=ey;subst ey;have m4:=ag hp3 (.lst (([aT (c1),aT (c2+1)].map tx).map V.str));refine⟨_,_,_,rfl,rfl,SqL.of ae,by decide,?_,?_⟩
     .have h1:=lD [aT (c1),aT (c2+1)] λt ht=>by
       simp only[Hd,GZ,or_false]at ht;rcases ht with rfl|rfl<;>exact GM (jJ 3 _ (by omega)) (by decide)
      simp only[F6,F8,Gj];exact GM (Jp h1 _) (by show 61*2+2<=1048576;decide)
     .have ej:Txt.join (PySem.Str.ofString ".") ([aT (c1),aT (c2+1)].map tx)=tx (eg (bD (c1,c2,c3) (2:Int)) (2:Int)):=by
       rw[show(PySem.Str.ofString ".")=tx [46] by decide +kernel,jI];rfl
      refine⟨_,rfl,.inl ⟨rfl,_,SqL.of (m4 _ _ g32)⟩,_,rfl,_,rfl,le2,λpt hpt=>?_⟩;have m5:=ag hpt (.tup [.str (Txt.join (PySem.Str.ofString ".") ([aT (c1),aT (c2+1)].map tx)),.ref l]);have q1:=m4 _ _ g31;have q2:=m4 _ _ g32;have k5:upd (upd G' p3 (.lst (([aT (c1),aT (c2+1)].map tx).map V.str))) pt (.tup [.str (Txt.join (PySem.Str.ofString ".") ([aT (c1),aT (c2+1)].map tx)),.ref l]) pt=some (.tup [.str (tx (eg (bD (c1,c2,c3) (2:Int)) (2:Int))),.ref l]):=by rw[ae,ej]
      have np:pt∉[p1,p2]:=λz=>by
       rcases List.mem_cons.mp z with z|z
       .rw[z,q1]at hpt;cases hpt
       .rw[List.mem_singleton.mp z,q2]at hpt;cases hpt
      have m45:=m4.trans m5;have mz:=m3.trans m45;have hz:aj H (hid [p1,p2] _):=jm mz λb hb=>by
       rcases List.mem_cons.mp hb with rfl|hb
       .exact hp1
       .rw[List.mem_singleton.mp hb];exact hp2'
      have q1:=m5 _ _ q1;have q2:=m5 _ _ q2;generalize upd (upd G' p3 (.lst (([aT (c1),aT (c2+1)].map tx).map V.str))) pt (.tup [.str (Txt.join (PySem.Str.ofString ".") ([aT (c1),aT (c2+1)].map tx)),.ref l])=G5 at k5 m45 mz hz q1 q2⊢;refine⟨_,_,_,rfl,rfl,q2,aA (by omega),?_⟩;refine⟨c1,c2+1,0,_,_,_,_,_,us++[.ref pt],tt++[(eg (bD (c1,c2,c3) (2:Int)) (2:Int),ws)],rfl,aW mz hp2',by rw[ak n12];exact q1,ae,?_,?_,by rw[F7];simp only[F8,Gj];omega,by omega,by omega,by omega⟩
      .rw[bw (by simp)];exact(a3'.imp λ_ _=>TtA.mono (bb m45)).snoc ⟨pt,l,rfl,bn np k5,hl.mono hz⟩
      .rw[et,Gs];rfl
   |h3 =>
    refine aN ?_;refine⟨_,rfl,_,rfl,_,rfl,aQ (by decide),_,_,_,_,rfl,rfl,SqL.of g1,rfl,_,_,rfl,rfl,_,rfl,_,rfl,_,rfl,aQ (by decide),_,_,_,_,rfl,rfl,g1,rfl,?_⟩;have m2:=aW (o:=.lst [V.int 0,.int ((c1:Nat):Int),.int ((c2:Nat):Int),.int (((c3:Nat):Int)+1)]) m hp1;have g2':upd G p1 (.lst [V.int 0,.int ((c1:Nat):Int),.int ((c2:Nat):Int),.int (((c3:Nat):Int)+1)]) p1=some (.lst [V.int 0,.int ((c1:Nat):Int),.int ((c2:Nat):Int),.int (((c3:Nat):Int)+1)]):=ae;have g3':upd G p1 (.lst [V.int 0,.int ((c1:Nat):Int),.int ((c2:Nat):Int),.int (((c3:Nat):Int)+1)]) p2=some (.lst us):=by rw[ak (GX n12)];exact g2
    have a3:aL (TtA (hid [p1,p2] (upd G p1 (.lst [V.int 0,.int ((c1:Nat):Int),.int ((c2:Nat):Int),.int (((c3:Nat):Int)+1)])))) us tt:=by rw[bw (by simp)];exact tal
    refine⟨_,rfl,_,rfl,aQ (by decide),_,_,rfl,rfl,_,_,rfl,⟨by decide,by decide,by decide,by decide⟩,jl (λj σ' G'=>∃v6',σ'=[some (.ref na),some (.ref p1),some (.ref p2),some (.str (tx (Wy.h3).t)),some (.str (tx nm)),some (.ref l),v6',v7]/\aj H G'/\G' p1=some (.lst [V.int 0,.int ((c1:Nat):Int),.int ((c2:Nat):Int),.int ((c3+1:Nat):Int)])/\G' p2=some (.lst us)/\aL (TtA (hid [p1,p2] G')) us tt) ?_ ?_ ?_⟩
    .exact⟨_,rfl,m2,g2',g3',a3⟩
    .rintro j σ' G' hj ⟨w6,rfl,m3,g31,g32,a3'⟩;exact absurd hj (by have:(HV (4-((((tx (Wy.h3).t).length:Nat):Int)+1)))=0:=rfl;omega)
    .rintro σ' G' ⟨w6,rfl,m3,g31,g32,a3'⟩;have g31:G' p1=some (.lst (xN (c1,c2,c3+1))):=g31;refine⟨rfl,_,rfl,_,rfl,aQ (by decide),_,_,rfl,rfl,_,_,rfl,⟨by decide,by decide,by decide,by decide⟩,lm (λi ys G2=>G'=G2/\ys=(([aT (c1),aT (c2),aT (c3+1)].take i).map tx).map V.str) ⟨rfl,rfl⟩ ?_ ?_ ?_⟩
     .rintro i' ys G2 hi' ⟨_,rfl⟩;exact aA (by simp only[F6,GD,F8,Gj];omega)
     .rintro i' ys G2 hi' ⟨rfl,rfl⟩;refine d3 ?_;rcases(show i'=0\/i'=1\/i'=2 by have:(HV (((((tx (Wy.h3).t).length:Nat):Int)+1)-1))=3:=rfl;omega)with rfl|rfl|rfl
      .refine⟨_,rfl,_,rfl,_,_,_,_,rfl,rfl,SqL.of g31,rfl,_,rfl,sf (n:=c1) (by omega),rfl,?_⟩;rw[je];rfl
      .refine⟨_,rfl,_,rfl,_,_,_,_,rfl,rfl,SqL.of g31,rfl,_,rfl,sf (n:=c2) (by omega),rfl,?_⟩;rw[je];rfl
      .refine⟨_,rfl,_,rfl,_,_,_,_,rfl,rfl,SqL.of g31,rfl,_,rfl,sf (n:=c3+1) (by omega),rfl,?_⟩;rw[je];rfl
     rintro ys G2 ⟨rfl,ey⟩ p3 hp3;have ey:ys=([aT (c1),aT (c2),aT (c3+1)].map tx).map V.str:=ey;subst ey;have m4:=ag hp3 (.lst (([aT (c1),aT (c2),aT (c3+1)].map tx).map V.str));refine⟨_,_,_,rfl,rfl,SqL.of ae,by decide,?_,?_⟩
     .have h1:=lD [aT (c1),aT (c2),aT (c3+1)] λt ht=>by
       simp only[Hd,GZ,or_false]at ht;rcases ht with rfl|rfl|rfl<;>exact GM (jJ 3 _ (by omega)) (by decide)
      simp only[F6,F8,Gj];exact GM (Jp h1 _) (by show 61*3+3<=1048576;decide)
     .have ej:Txt.join (PySem.Str.ofString ".") ([aT (c1),aT (c2),aT (c3+1)].map tx)=tx (eg (bD (c1,c2,c3) (3:Int)) (3:Int)):=by
       rw[show(PySem.Str.ofString ".")=tx [46] by decide +kernel,jI];rfl
      refine⟨_,rfl,.inl ⟨rfl,_,SqL.of (m4 _ _ g32)⟩,_,rfl,_,rfl,le2,λpt hpt=>?_⟩;have m5:=ag hpt (.tup [.str (Txt.join (PySem.Str.ofString ".") ([aT (c1),aT (c2),aT (c3+1)].map tx)),.ref l]);have q1:=m4 _ _ g31;have q2:=m4 _ _ g32;have k5:upd (upd G' p3 (.lst (([aT (c1),aT (c2),aT (c3+1)].map tx).map V.str))) pt (.tup [.str (Txt.join (PySem.Str.ofString ".") ([aT (c1),aT (c2),aT (c3+1)].map tx)),.ref l]) pt=some (.tup [.str (tx (eg (bD (c1,c2,c3) (3:Int)) (3:Int))),.ref l]):=by rw[ae,ej]
      have np:pt∉[p1,p2]:=λz=>by
       rcases List.mem_cons.mp z with z|z
       .rw[z,q1]at hpt;cases hpt
       .rw[List.mem_singleton.mp z,q2]at hpt;cases hpt
      have m45:=m4.trans m5;have mz:=m3.trans m45;have hz:aj H (hid [p1,p2] _):=jm mz λb hb=>by
       rcases List.mem_cons.mp hb with rfl|hb
       .exact hp1
       .rw[List.mem_singleton.mp hb];exact hp2'
      have q1:=m5 _ _ q1;have q2:=m5 _ _ q2;generalize upd (upd G' p3 (.lst (([aT (c1),aT (c2),aT (c3+1)].map tx).map V.str))) pt (.tup [.str (Txt.join (PySem.Str.ofString ".") ([aT (c1),aT (c2),aT (c3+1)].map tx)),.ref l])=G5 at k5 m45 mz hz q1 q2⊢;refine⟨_,_,_,rfl,rfl,q2,aA (by omega),?_⟩;refine⟨c1,c2,c3+1,_,_,_,_,_,us++[.ref pt],tt++[(eg (bD (c1,c2,c3) (3:Int)) (3:Int),ws)],rfl,aW mz hp2',by rw[ak n12];exact q1,ae,?_,?_,by rw[F7];simp only[F8,Gj];omega,by omega,by omega,by omega⟩
      .rw[bw (by simp)];exact(a3'.imp λ_ _=>TtA.mono (bb m45)).snoc ⟨pt,l,rfl,bn np k5,hl.mono hz⟩
      .rw[et,Gs];rfl
 rintro σ' G ⟨c1,c2,c3,v3,v4,v5,v6,v7,us,tt,rfl,m,g1,g2,tal,et,ul,b1,b2,b3⟩;rw[ln,HG]at et;have et:bp (0,0,0) named=tt:=by rw[et];exact GL _
 exact⟨_,rfl,q p2 G us hp2' m g2 (by rw[et];exact tal.imp λ_ _=>TtA.mono bN)⟩
def vH:Sp:=λvs H Q _=>∃n:Nat,vs=[.int (n:Int)]/\n<10^100/\Q (.str (tx (aT n))) H
theorem vI:aK ["number"] ["number"] (au lH):=by walk_at "c"
theorem pK(T:Txt P w K mg a):aX P w K mg base CX0 1 a.lU a.kH ["number"] vH:=by
 refine T.jB.fn.ok vI (λvs H Q E h=>?_) (λcdv A outer s H vs Q E hr h=>?_)
 .obtain⟨n,rfl,_⟩:=h;rfl
 obtain⟨n,rfl,hn,q⟩:=h;refine⟨_,(ai (aJ (mj qg rfl T.jC Io (aa (pv 0) ac)))),?_⟩;refine⟨_,rfl,_,rfl,AN hn,?_⟩;have e:=je n;exact Eq.mpr (congrArg (λz=>Q (.str z) H) e) q
def vJ(K:PySem.W.Frag):Sp:=λvs H Q _=>∃(la:Addr) (ls:List Int),vs=[.ref la]/\SqL K H la (ls.map V.int)/\Cs ls/\ls.length<=63/\∀p H',H p=none->aj H H'->H' p=some (.lst (((fQ ls ls.length).map tx).map V.str))->Q (.ref p) H'
theorem gp:aK ["levels","counters","numbers","level"] ["levels"] (au lI):=by walk_at "c"
theorem vK(T:Txt P w K mg a):aX P w K mg base CX0 2 a.lW a.kJ ["levels"] (vJ K):=by
 refine T.lR.fn.ok gp (λvs H Q E h=>?_) (λcdv A outer s H vs Q E hr h=>?_)
 .obtain⟨la,ls,rfl,_⟩:=h;rfl
 obtain⟨la,ls,rfl,hL,l123,h63,q⟩:=h;refine⟨_,(af (ay (i:=1) gp.nd rfl (Gm rfl) (bi (aa ah (aa ah (aa ah ac)))))
   (af (ay (i:=2) gp.nd rfl (Gm rfl) (bi ac))
   (af (cc GS rfl (bj (pv 0)) (aM (i:=3) gp.nd rfl (Gm rfl)) (af (ay (i:=1) gp.nd rfl (Gm rfl) (aP i5 (aP i5 (dC nK (pv 1) eZ (dS (aP nH (pv 3) ah))) (bi (aa (aP b8 (aC bF (pv 1) (aP nH (pv 3) ah) (λ_ _=>rfl)) ah) ac))) (aP Aw (bi (aa ah ac)) (aP nH ah (pv 3)))))
   (ai (bf (cq PySem.F.plainAttrs_list PySem.F.slot_list_append PySem.F.type_list_append bZ (pv 2) (aa (cq PySem.F.plainAttrs_str PySem.F.slot_str_join PySem.F.type_str_join nN ao (aa (fG rfl (d_ (caps:=[]) (js:=[]) (cap:=trivial)) (bj (dC nK (pv 1) eZ (dS (pv 3)))) (λ_ _ _ _=>dD) (λ_ _ _ _=>(aD T.jB (pK T) (hr.mono (by decide)) rfl (aa (pv 0) ac)))) ac)) ac))))))
   (ai (aJ (pv 2)))))),?_⟩
 refine⟨aQ (by decide),λp1 hp1=>?_⟩;refine⟨GV _,λp2 hp2=>?_⟩;have s1:=ag hp1 (.lst (uN (0,0,0)));have hr:H p2=none:=s1.free hp2;have s2:=s1.trans (ag hp2 (.lst []));refine⟨_,rfl,_,rfl,⟨_,s2.seq hL⟩,cg (K:=K) (a:=la) (xs:=ls.map V.int) (λi σ H2=>aj H H2/\∃(pc:Addr) (v:Option V),σ=[some (.ref la),some (.ref pc),some (.ref p2),v]/\H2 pc=some (.lst (uN (ctr (ls.take i))))/\H2 p2=some (.lst (((fQ ls i).map tx).map V.str)))
  ⟨s2,p1,none,rfl,(ag hp2 _) _ _ ae,ae⟩ (λi σ H2 _ h2=>h2.1.seq hL) ?_ ?_⟩
 .rintro i y σ H2 hi ⟨sH,pc,v,rfl,hc,hn⟩;obtain⟨z,rfl,ez⟩:=DI hi;have i63:i<63:=by
   have:=(List.getElem?_eq_some_iff.mp ez).1;omega
  have bc:=Bf (ls.take (i+1));have nl:=oI ls i;rw[GD]at bc;rw[Bg ez];rw[Ct ez]at bc⊢;generalize ctr (ls.take i)=c at hc bc⊢;generalize fQ ls i=ts at hn nl⊢;obtain⟨pre,k,cs,e1,e2,e3,l1,l2,l3,l4,e4,l5,cs63,e5⟩:=lev (l123 z (Ge ez)) c (m:=63) (by omega) (by omega) (by omega);rw[<-e5];rw[<-e3]at e4⊢;refine⟨_,rfl,_,rfl,_,_,rfl,rfl,_,rfl,_,_,rfl,SqL.of hc,λp3 hp3=>?_⟩;rw[e1];have s3:=ag hp3 (.lst pre);refine⟨_,rfl,_,rfl,_,_,rfl,rfl,_,_,_,_,rfl,rfl,s3.seq (SqL.of hc),e2,_,_,rfl,rfl,le1,λp4 hp4=>?_⟩;refine⟨_,_,pre,[V.int (k+1)],rfl,rfl,(ag hp4 _) _ _ ae,ae,aQ (by simp;omega),λp5 hp5=>?_⟩;refine⟨le1,λp6 hp6=>?_⟩;refine⟨_,rfl,_,_,rfl,rfl,_,_,[V.int 0],rfl,rfl,ae,(by omega),(by omega),aQ (by simp;omega),λp7 hp7=>?_⟩;refine⟨_,_,pre++[V.int (k+1)],(Gp (3-z).toNat [V.int 0]).flatten,rfl,rfl,(ag hp7 _) _ _ ((ag hp6 _) _ _ ae),ae,aQ (by rw[yG];simp;omega),λp8 hp8=>?_⟩;have h28:H2 p8=none:=(s3.trans ((ag hp4 _).trans ((ag hp5 _).trans ((ag hp6 _).trans (ag hp7 _))))).free hp8;have s8:=s3.trans ((ag hp4 (.lst [V.int (k+1)])).trans ((ag hp5 (.lst (pre++[V.int (k+1)]))).trans ((ag hp6 (.lst [V.int 0])).trans ((ag hp7 (.lst (Gp (3-z).toNat [V.int 0]).flatten)).trans (ag hp8 (.lst (pre++[V.int (k+1)]++(Gp (3-z).toNat [V.int 0]).flatten)))))));have hc8:=ae (H:=(upd (upd (upd (upd (upd H2 p3 (.lst pre)) p4 (.lst [V.int (k+1)])) p5 (.lst (pre++[V.int (k+1)]))) p6 (.lst [V.int 0])) p7 (.lst (Gp (3-z).toNat [V.int 0]).flatten))) (a:=p8) (o:=.lst (pre++[V.int (k+1)]++(Gp (3-z).toNat [V.int 0]).flatten));generalize upd (upd (upd (upd (upd (upd H2 p3 (.lst pre)) p4 (.lst [V.int (k+1)])) p5 (.lst (pre++[V.int (k+1)]))) p6 (.lst [V.int 0])) p7 (.lst (Gp (3-z).toNat [V.int 0]).flatten)) p8 (.lst (pre++[V.int (k+1)]++(Gp (3-z).toNat [V.int 0]).flatten))=H8 at s8 hc8⊢;generalize pre++[V.int (k+1)]++(Gp (3-z).toNat [V.int 0]).flatten=cv at hc8 e4⊢;have hn8:=s8 _ _ hn;refine⟨_,rfl,.inl ⟨rfl,_,SqL.of hn8⟩,rfl,_,rfl,_,rfl,_,rfl,_,_,rfl,SqL.of hc8,λp9 hp9=>?_⟩;rw[e4];have s9:=ag hp9 (.lst (cs.map nV));refine⟨_,rfl,⟨_,SqL.of ae⟩,dF (K:=K) (a:=p9) (xs:=cs.map nV) (λi ys H3=>H3=upd H8 p9 (.lst (cs.map nV))/\ys=(((cs.take i).map aT).map tx).map V.str) ⟨rfl,rfl⟩ (λi ys H3 _ h3=>by rw[h3.1];exact SqL.of ae) ?_ ?_ ?_⟩
  .rintro j ys H3 hj ⟨_,rfl⟩;rw[F6,F6,F6,GD];exact GC (show _<1000 by omega) (aQ (Gh _))
  .rintro j y ys H3 hj ⟨rfl,rfl⟩;obtain⟨n,rfl,en⟩:=EF hj;refine d3 ?_;refine⟨_,rfl,n,rfl,FZ (cs63 n (Ge en)),rfl,?_⟩;rw[aV en];simp only[Gg,Gi,Iy]
  .rintro ys H3 ⟨rfl,rfl⟩ p hp;rw[F6,Gv];have s10:=ag hp (.lst (((cs.map aT).map tx).map V.str));have hsum:=xD cs cs63;have hn10:=s10 _ _ (s9 _ _ hn8);refine⟨_,p,(cs.map aT).map tx,rfl,rfl,SqL.of ae,(by decide),(by rw[F6,F6];omega),_,_,_,rfl,rfl,hn10,?_,?_⟩
   .rw[F6,F6];exact GC (show _<1000 by omega) (aQ (Gh _))
   .have st:=sH.trans (s8.trans (s9.trans s10));have nc:p8≠p2:=λz=>cy hn h28 z.symm;refine⟨st.put hr,p8,_,rfl,?_,?_⟩
    .rw[ak nc];exact s10 _ _ (s9 _ _ hc8)
    .rw[ae,FY,jI];simp only[Gg,Gi,Iy]
 .rintro σ H2 ⟨sH,pc,v,rfl,hc,hn⟩;rw[F6]at hn;exact⟨_,rfl,q p2 _ hr sH hn⟩

theorem fR{F:Hp}{x C dx:Addr}{L:List (Str×V)}{n:Nat}(f:Str)(v:V)(k:F x=some (.ins C dx L))(l:L.length<=n):∃F' L',upd F x (.ins C dx (bQ f v L))=F'/\bQ f v L=L'/\L'.length<=n+1/\F' x=some (.ins C dx L')/\FrX F F' x:=⟨_,_,rfl,rfl,GM xo (Nat.succ_le_succ l),ae,FrX.refl.at⟩
theorem nZ{F:Hp}{p:Addr}(o:HO)(h:F p=none):∃F',upd F p o=F'/\F' p=some o/\aj F F':=⟨_,rfl,ae,ag h _⟩
theorem jO{H H1 H2:Hp}{x:Addr}(f:FrX H H1 x)(g:FrX H1 H2 x):FrX H H2 x:=λb u n h=>g b u n (f b u n h)
theorem eI{F:Hp}{p q:Addr}{o:HO}(a:F p=some o)(h:F q=none):p≠q:=λz=>by rw[z,h]at a;cases a

def HtA(F:Hp)(v:V)(h:Nat×List Wk):Prop:=∃a l,v=.ref a/\F a=some (.tup [.str "head",.int (h.1:Int),.ref l])/\cQ F l h.2
def dY(hs:List (Nat×List Wk)):List Int:=hs.map λh=>(h.1:Int)
def f_(hs:List (Nat×List Wk))(feet:List (Str×List Wk)):Sc:=⟨(fQ (dY hs) (dY hs).length).map tx,hs.map (·.2),feet⟩

def uO(C:Addr):Sp:=λvs H Q _=>∃(x dx hl fa:Addr) (hv:List V) (hs:List (Nat×List Wk)) (kvs:List (Key×V)) (feet:List (Str×List Wk)),vs=[.ref x,.ref hl,.ref fa]/\H x=some (.ins C dx [])/\H hl=some (.lst hv)/\aL (HtA H) hv hs/\H fa=some (.dK kvs)/\FtA H kvs feet/\Cs (dY hs)/\hs.length<=63/\∀H' A,A.x=x->FrX H H' x->StA C (hid A.os H') H' A (f_ hs feet) ss0->(H A.wa=none/\H A.ma=none/\H A.ha=none)->Q .non H'
theorem uP:aK ["self","all_heads","feet"] ["self","all_heads","feet"] (au ku):=by walk_at "c"
theorem uQ(T:Txt P w K mg a):aX P w K mg base CX0 3 a.kG a.jR ["self","all_heads","feet"] (uO a.aH):=by
 refine T.kD.fn.ok uP (λvs H Q E h=>?_) (λcdv A outer s H vs Q E hr h=>?_)
 .obtain⟨x,dx,hl,fa,hv,hs,kvs,feet,rfl,_⟩:=h;rfl
 obtain⟨x,dx,hl,fa,hv,hs,kvs,feet,rfl,hx,hh,ha,hf,hft,lv,hsl,q⟩:=h;refine⟨_,(af (c8 (pv 0) (aD T.lR (vK T) (hr.mono (by decide)) rfl (aa (fG rfl (d_ (caps:=[]) (js:=[]) (cap:=trivial)) (bj (pv 1)) (λ_ _ _ _=>dD) (λ_ _ _ _=>(aC (r:=jG K) aS (pv 0) ah (λ_ _=>rfl)))) ac)) rfl)
   (af (c8 (pv 0) (fG rfl (d_ (caps:=[]) (js:=[]) (cap:=trivial)) (bj (pv 1)) (λ_ _ _ _=>dD) (λ_ _ _ _=>(aC (r:=jG K) aS (pv 0) ah (λ_ _=>rfl)))) rfl)
   (af (c8 (pv 0) (pv 2) rfl)
   (af (c8 (pv 0) ah rfl)
   (af (c8 (pv 0) (bi ac) rfl)
   (af (c8 (pv 0) wY rfl)
   (af (c8 (pv 0) (bi ac) rfl)
   (af (c8 (pv 0) ah rfl)
   (ai (c8 (pv 0) dh rfl)))))))))),?_⟩
 have lh:=ha.len;have k:=hx;have f:FrX H H x:=FrX.refl;have l:([]:List (Str×V)).length<=0:=Gh _;refine⟨_,rfl,hl,rfl,⟨_,SqL.of hh⟩,dF (K:=K) (a:=hl) (xs:=hv) (λi ys G'=>H=G'/\ys=((dY hs).take i).map V.int) ⟨rfl,rfl⟩ (λi ys G' _ z=>by rw[<-z.1];exact SqL.of hh) ?_ ?_ ?_⟩
 .rintro i ys G' hi ⟨_,z⟩;rw[z,F6,GD];exact aA (by unfold dY;rw[F6];omega)
 .rintro i y ys G' hy ⟨rfl,z⟩;obtain⟨h,hw,b,l,rfl,hb,_⟩:=ha.getL hy;refine d3 ?_;refine⟨_,rfl,_,_,_,_,rfl,rfl,SqT.of hb,rfl,rfl,?_⟩;rw[z,aV (l:=dY hs) (x:=(h.1:Int)) (by unfold dY;rw[GA,hw];rfl),Gg];rfl
 rintro ys G' ⟨rfl,z⟩ q1 hq1;rw[lh,show hs.length=(dY hs).length from by unfold dY;rw[F6],Gv]at z;have sq:=ag hq1 (.lst ys);refine⟨q1,dY hs,rfl,SqL.of (by rw[<-z];exact ae),lv,(by unfold dY;rw[F6];exact hsl),λna Hn hna sna kna=>?_⟩;have sn:=sq.trans sna;have kn:Hn na=some (.lst ((f_ hs feet).nums.map V.str)):=kna;have hna':H na=none:=sq.free hna;clear sna kna sq;have e0:=f.free k hna';have f:=f.same sn;have k:=sn _ _ k;have a0:=kn;have d0:na≠x:=λz=>by rw[z,k]at a0;cases a0
 refine⟨_,rfl,_,_,_,_,rfl,k,T.aB.cl,T.fJ,Go l (by decide),?_⟩;obtain⟨H2,L0,eH,g0,l,k,r⟩:=fR "numbers" (V.ref na) k l;rw[eH];have f:=jO f r;have a0:=r _ _ d0 a0;have hhn:H2 hl=some (.lst hv):=f.get hh (by intro z;rw[z,hx]at hh;cases hh);refine⟨_,rfl,hl,rfl,⟨_,SqL.of hhn⟩,dF (K:=K) (a:=hl) (xs:=hv) (λi ys G'=>H2=G'/\ys.length=i/\aL (TlA H) ys ((hs.take i).map (·.2))) ⟨rfl,rfl,trivial⟩ (λi ys G' _ z=>by rw[<-z.1];exact SqL.of hhn) ?_ ?_ ?_⟩
 .rintro i ys G' hi ⟨_,z,_⟩;rw[z];exact aA (by omega)
 .rintro i y ys G' hy ⟨rfl,z,al⟩;obtain⟨h,hw,b,l,rfl,hb,hb2⟩:=ha.getL hy;refine d3 ?_;refine⟨_,rfl,_,_,_,_,rfl,rfl,SqT.of (f.get hb (by intro z;rw[z,hx]at hb;cases hb)),rfl,rfl,(by rw[F7,z];rfl),?_⟩;rw[aV hw,Gg];exact al.snoc ⟨l,rfl,hb2⟩
 rintro ys G' ⟨rfl,z,al⟩ q2 hq2;rw[lh,Gv]at al;have st:=ag hq2 (.lst ys);have kt:upd H2 q2 (.lst ys) q2=some (.lst ys):=ae;generalize upd H2 q2 (.lst ys)=Ht at st kt⊢;have e1:=f.free k hq2;have d0_1:na≠q2:=eI a0 hq2;have f:=f.same st;have k:=st _ _ k;have a0:=st _ _ a0;have a1:=kt;have d1:q2≠x:=λz=>by rw[z,k]at a1;cases a1
 refine⟨_,rfl,_,_,_,_,rfl,k,T.aB.cl,T.gg,Go l (by decide),?_⟩;obtain⟨H4,L1,eH,g1,l,k,r⟩:=fR "titles" (V.ref q2) k l;rw[eH];have f:=jO f r;have a0:=r _ _ d0 a0;have a1:=r _ _ d1 a1;refine⟨_,rfl,_,rfl,_,_,_,_,rfl,k,T.aB.cl,T.fW,Go l (by decide),?_⟩;obtain⟨H5,L2,eH,g2,l,k,r⟩:=fR "feet" (V.ref fa) k l;rw[eH];have f:=jO f r;have a0:=r _ _ d0 a0;have a1:=r _ _ d1 a1;refine⟨_,rfl,_,_,_,_,rfl,k,T.aB.cl,T.dQ,Go l (by decide),?_⟩;obtain⟨H6,L3,eH,g3,l,k,r⟩:=fR "feet_set" (V.int 0) k l;rw[eH];have f:=jO f r;have a0:=r _ _ d0 a0;have a1:=r _ _ d1 a1;refine⟨aQ (by simp),λp4 hp4=>?_⟩;obtain⟨H7,eH,b4,w4⟩:=nZ (.lst []) hp4;rw[eH];have e4:=f.free k hp4;have d0_4:na≠p4:=eI a0 hp4;have d1_4:q2≠p4:=eI a1 hp4;have f:=f.same w4;have k:=w4 _ _ k;have a0:=w4 _ _ a0;have a1:=w4 _ _ a1;have a4:=b4;have d4:p4≠x:=λz=>by rw[z,k]at a4;cases a4
 refine⟨_,rfl,_,_,_,_,rfl,k,T.aB.cl,T.cC,Go l (by decide),?_⟩;obtain⟨H8,L4,eH,g4,l,k,r⟩:=fR "words" (V.ref p4) k l;rw[eH];have f:=jO f r;have a0:=r _ _ d0 a0;have a1:=r _ _ d1 a1;have a4:=r _ _ d4 a4;intro p5 hp5;obtain⟨H9,eH,b5,w5⟩:=nZ (.dK []) hp5;rw[eH];have e5:=f.free k hp5;have d0_5:na≠p5:=eI a0 hp5;have d1_5:q2≠p5:=eI a1 hp5;have d4_5:p4≠p5:=eI a4 hp5;have f:=f.same w5;have k:=w5 _ _ k;have a0:=w5 _ _ a0;have a1:=w5 _ _ a1;have a4:=w5 _ _ a4;have a5:=b5;have d5:p5≠x:=λz=>by rw[z,k]at a5;cases a5
 refine⟨_,rfl,_,_,_,_,rfl,k,T.aB.cl,T.cB,Go l (by decide),?_⟩;obtain⟨H10,L5,eH,g5,l,k,r⟩:=fR "marks" (V.ref p5) k l;rw[eH];have f:=jO f r;have a0:=r _ _ d0 a0;have a1:=r _ _ d1 a1;have a4:=r _ _ d4 a4;have a5:=r _ _ d5 a5;refine⟨aQ (by simp),λp6 hp6=>?_⟩;obtain⟨H11,eH,b6,w6⟩:=nZ (.lst []) hp6;rw[eH];have e6:=f.free k hp6;have d0_6:na≠p6:=eI a0 hp6;have d1_6:q2≠p6:=eI a1 hp6;have d4_6:p4≠p6:=eI a4 hp6;have d5_6:p5≠p6:=eI a5 hp6;have f:=f.same w6;have k:=w6 _ _ k;have a0:=w6 _ _ a0;have a1:=w6 _ _ a1;have a4:=w6 _ _ a4;have a5:=w6 _ _ a5;have a6:=b6;have d6:p6≠x:=λz=>by rw[z,k]at a6;cases a6
 refine⟨_,rfl,_,_,_,_,rfl,k,T.aB.cl,T.dr,Go l (by decide),?_⟩;obtain⟨H12,L6,eH,g6,l,k,r⟩:=fR "heads" (V.ref p6) k l;rw[eH];have f:=jO f r;have a0:=r _ _ d0 a0;have a1:=r _ _ d1 a1;have a4:=r _ _ d4 a4;have a5:=r _ _ d5 a5;have a6:=r _ _ d6 a6;refine⟨_,rfl,_,_,_,_,rfl,k,T.aB.cl,T.cK,Go l (by decide),?_⟩;obtain⟨H13,L7,eH,g7,l,k,r⟩:=fR "leap" (V.int 0) k l;rw[eH];have f:=jO f r;have a0:=r _ _ d0 a0;have a1:=r _ _ d1 a1;have a4:=r _ _ d4 a4;have a5:=r _ _ d5 a5;have a6:=r _ _ d6 a6;refine⟨_,rfl,_,_,_,_,rfl,k,T.aB.cl,T.dg,Go l (by decide),?_⟩;obtain⟨H14,L8,eH,g8,l,k,r⟩:=fR "behind_head" (V.bl false) k l;rw[eH];have f:=jO f r;have a0:=r _ _ d0 a0;have a1:=r _ _ d1 a1;have a4:=r _ _ d4 a4;have a5:=r _ _ d5 a5;have a6:=r _ _ d6 a6;have eL:L8=fsS ⟨x,dx,na,q2,fa,p4,p5,p6⟩ 0 0 false:=by rw[<-g8,<-g7,<-g6,<-g5,<-g4,<-g3,<-g2,<-g1,<-g0];exact Dz ⟨x,dx,na,q2,fa,p4,p5,p6⟩
 rw[eL]at k;have nfx:fa≠x:=λz=>by rw[z,hx]at hf;cases hf
 have hid':∀b u,b≠x->b≠p4->b≠p5->b≠p6->H b=some u->hid [x,p4,p5,p6] H14 b=some u:=λb u n1 n2 n3 n4 h=>bn (by simp[n1,n2,n3,n4]) (f b u n1 h);have inH:∀b u,H b=some u->b≠x->hid [x,p4,p5,p6] H14 b=some u:=λb u h n1=>hid' b u n1 (λz=>by rw[z,e4]at h;cases h) (λz=>by rw[z,e5]at h;cases h) (λz=>by rw[z,e6]at h;cases h) h;have tupX:∀{b us},H b=some (.tup us)->hid [x,p4,p5,p6] H14 b=some (.tup us):=λ{b us} h=>inH b _ h (λz=>by rw[z,hx]at h;cases h);have lstX:∀{b us},H b=some (.lst us)->hid [x,p4,p5,p6] H14 b=some (.lst us):=λ{b us} h=>inH b _ h (λz=>by rw[z,hx]at h;cases h);have lsX:∀{l ws},cQ H l ws->cQ (hid [x,p4,p5,p6] H14) l ws:=λ{l ws} ⟨us,h1,h2⟩=>⟨us,lstX h1,h2.imp λv w ⟨b,z1,z2⟩=>⟨b,z1,tupX z2⟩⟩;refine q _ ⟨x,dx,na,q2,fa,p4,p5,p6⟩ rfl f ⟨bN,k,⟨?_,⟨ys,?_,?_⟩,⟨kvs,?_,?_⟩⟩,?_,d4_6,⟨[],a4,trivial⟩,a5,⟨[],a6,trivial⟩⟩ ⟨e4,e5,e6⟩
 .exact bn (by simp[Sad.os,d0,d0_4,d0_5,d0_6]) a0
 .exact bn (by simp[Sad.os,d1,d1_4,d1_5,d1_6]) a1
 .exact al.imp λv w ⟨l,z1,z2⟩=>⟨l,z1,lsX z2⟩
 .exact inH fa _ hf nfx
 .exact ftX (λl ws h=>lsX h) hft
 .intro b hb;unfold hid;rw[if_pos hb]
def n9(cls:Xc->Addr)(C:Addr):Sp:=λvs H Q E=>∃(A:Sad) (G:Hp) (c:Sc) (σ:Ss),vs=[.ref A.x]/\StA C G H A c σ/\kj c/\sS c σ/\σ.ws.length<=400/\(∀e,eG c σ=some e->∀H',aj G H'->E (.ref (cls e)) none H')/\(eG c σ=none->∀H',aj H H'->StA C G H' A c σ->Q .non H')
theorem ci:aK ["self","name","k","words","text","kind","rest"] ["self"] (au f8):=by walk_at "c"
theorem n_(T:Txt P w K mg a):aX P w K mg base (CXe P w) 1 a.gb a.fS ["self"] (n9 (oz a.dH a.cY a.b7 a.cZ) a.aH):=by
 have dL:=T.dL;obtain⟨dL,k_POINTING⟩:=dL;refine T.ga.fn.okE ci (λvs H Q E h=>?_) (λcdv A outer s H vs Q E hr h=>?_)
 .obtain⟨A,G,c,σ,rfl,_⟩:=h;rfl
 obtain⟨A,G,c,σ,rfl,S,so,ss,wl,qe,q⟩:=h;refine⟨_,(af (yP HX rfl (Ca (bv (pv 0) rfl)) (dZ rfl (a7 (aM (i:=1) ci.nd rfl (Gm rfl)) (a7 (aM (i:=2) ci.nd rfl (Gm rfl)) dt))) (ai (aI (aq br (pv 2) (aF bA rfl T.bK PySem.boot_len (aa (bv (pv 0) rfl) ac)) (nomark _)) (ai (lq rfl nO T.tQ rfl (aa (nP (eE jZ (eE (rX (pv 1)) (eE jZ qo)))) ac))) aE)))
   (af (zn (k:=3) rfl (d_ (caps:=[]) (js:=[]) (cap:=trivial)) (bj (bv (pv 0) rfl)) (λ_ _ _ _=>dD) (λ_ _ _ _=>(aC (r:=jG K) aS (pv 0) ah (λ_ _=>rfl))) ci.nd rfl rfl)
   (af (yP HX rfl (Ds (bv (pv 0) rfl)) (aM (i:=4) ci.nd rfl (Gm rfl)) (ai (bf (cq PySem.F.plainAttrs_list PySem.F.slot_list_extend PySem.F.type_list_extend jX (pv 3) (aa (pv 4) ac)))))
   (ai (cc HX rfl (bj (pv 3)) (dZ rfl (a7 (aM (i:=5) ci.nd rfl (Gm rfl)) (a7 (aM (i:=6) ci.nd rfl (Gm rfl)) dt))) (ai (aI (PW.pt (gh (aq gY (pv 5) (c6 (v:=.ref a.fj) rfl dL rfl) (by with_unfolding_all rfl)) (eD (aq (ki (fe hr)) (pv 6) (bv (pv 0) rfl) (by with_unfolding_all rfl))))) (ai (lq rfl nO T.tQ rfl (aa (nP (eE jZ (eE (rX (pv 6)) qo))) ac))) aE))))))),?_⟩
 obtain⟨wvs,w2,w3⟩:=S.words;have lw:=w3.len;obtain⟨n1,n2,n3,n4,n5⟩:=S.nes;refine⟨_,rfl,_,_,_,_,_,rfl,S.ins,T.aB.cl,T.cB,jg,A.ma,mkV σ.ms,rfl,S.marks,λhz o=>?_⟩;have kf:upd H A.ma (.frz o (.dK (mkV σ.ms))) A.ma=some (.frz o (.dK (mkV σ.ms))):=ae;have ix:upd H A.ma (.frz o (.dK (mkV σ.ms))) A.x=some (.ins a.aH A.dx (fsS A (σ.fs:Int) σ.lp σ.bh)):=by rw[ak n2];exact S.ins
 have iw:upd H A.ma (.frz o (.dK (mkV σ.ms))) A.wa=some (.lst wvs):=by rw[ak n4];exact w2
 have sg:aj G (upd H A.ma (.frz o (.dK (mkV σ.ms)))):=aW S.old (S.fr _ v_);have th:∀H2,aj (upd H A.ma (.frz o (.dK (mkV σ.ms)))) H2->aj H (upd H2 A.ma (.dK (mkV σ.ms))):=λH2 s=>A1 S.marks s;generalize upd H A.ma (.frz o (.dK (mkV σ.ms)))=Hf at kf ix iw sg th⊢;refine AW hz (λi σ' H2=>∃(v1 v2:Option V),σ'=[some (.ref A.x),v1,v2,none,none,none,none]/\aj Hf H2/\∀m∈σ.ms.take i,m.2≠σ.ws.length) ?_ ?_ ?_ ?_
 .rintro i σ' H2 ⟨v1,v2,rfl,m,_⟩;exact m _ _ kf
 .exact⟨none,none,rfl,aj.refl _,by simp⟩
 .rintro i qv p σ' H2 hq ⟨v1,v2,rfl,m,no⟩ hp;have hq':=hq;unfold mkV at hq';rw[GA]at hq';obtain⟨⟨mn,mk_⟩,hm,rfl⟩:=Option.map_eq_some_iff.mp hq';obtain⟨ml,e1,e2,e3⟩:=ss.ms _ (Ge hm);dsimp only at e1;subst e1;have s1:=m.trans (ag hp (.tup [.str (tx ml),.int (mk_:Int)]));refine⟨p,_,rfl,SqT.of ae,rfl,_,_,rfl,_,_,rfl,rfl,?_⟩;refine⟨_,rfl,_,rfl,_,_,_,_,_,rfl,s1 _ _ ix,T.aB.cl,T.cC,jf,_,_,rfl,.inl (SqL.of (s1 _ _ iw)),rfl,_,rfl,?_⟩;by_cases c1:mk_=σ.ws.length
  .rw[decide_eq_true (show V.int (mk_:Int)=V.int ((wvs.length:Nat):Int) by rw[c1,lw])];refine aN ?_;refine⟨⟨trivial,⟨ml,rfl,by omega,e3⟩,trivial,trivial⟩,λz=>⟨le1,qe .nomark ?_ _ (sg.trans s1)⟩⟩;unfold eG;rw[if_pos];rw[List.any_eq_true];exact⟨_,Ge hm,decide_eq_true c1⟩
  .rw[decide_eq_false (show ¬ (V.int (mk_:Int)=V.int ((wvs.length:Nat):Int))from λz=>c1 (by injection z with z;omega))];refine av ?_;refine⟨_,_,rfl,s1,?_⟩;rw[aV hm];intro x hx;rcases List.mem_append.mp hx with hx|hx
   .exact no x hx
   .rw[List.mem_singleton.mp hx];exact c1
 rintro σ' H2 ⟨v1,v2,rfl,m,no⟩;rw[uH,Gv]at no;have s0:=th H2 m;have S1:=S.same s0;generalize upd H2 A.ma (.dK (mkV σ.ms))=H3 at s0 S1⊢;obtain⟨wvs',w2',w3'⟩:=S1.words;have lw':=w3'.len;refine⟨_,rfl,_,_,_,_,_,rfl,S1.ins,T.aB.cl,T.cC,jf,A.wa,rfl,⟨_,SqL.of w2'⟩,dF (K:=K) (a:=A.wa) (xs:=wvs') (λi ys G'=>H3=G'/\ys.length=i/\b_ H3 ys ((σ.ws.take i).map (·.w))) ⟨rfl,rfl,trivial⟩ (λi ys G' _ z=>by rw[<-z.1];exact SqL.of w2') ?_ ?_ ?_⟩
 .rintro i ys G' hi ⟨_,z,_⟩;exact aA (by omega)
 .rintro i y ys G' hy ⟨rfl,zl,al⟩;obtain⟨tw,hw,ta,wa',fa',rfl,h1,h2,h3⟩:=w3'.getL hy;refine d3 ?_;refine⟨_,rfl,_,_,_,_,rfl,rfl,SqT.of (bN _ _ h1),rfl,rfl,?_,?_⟩
  .rw[F7,zl];rfl
  .rw[aV hw,Gg];exact al.snoc (h2.mono bN)
 rintro ys G' ⟨rfl,zl,al⟩ pw hpw;rw[lw',Gv]at al;have s4:=ag hpw (.lst ys);have k4:upd H3 pw (.lst ys) pw=some (.lst ys):=ae;have S4:=S1.same s4;have al4:=b_.mono s4 al;have fr:=S1.fresh hpw;have gpw:G pw=none:=S1.old.free hpw;generalize upd H3 pw (.lst ys)=H4 at s4 k4 S4 al4⊢;obtain⟨kvs,f1,f2⟩:=S4.cl.feet;have fl:=f2.len;have hfa:H4 A.fa=some (.dK kvs):=S4.old _ _ f1;have npf:pw≠A.fa:=λz=>by rw[z,f1]at gpw;cases gpw
 have nos:∀b∈A.os,b≠A.fa:=λb hb z=>by have:=S4.fr b hb;rw[z,f1]at this;cases this
 refine⟨_,rfl,_,_,_,_,_,rfl,S4.ins,T.aB.cl,T.fW,uG,A.fa,kvs,rfl,hfa,λhz2 o2=>?_⟩;have F1:∀b,b≠A.fa->upd H4 A.fa (.frz o2 (.dK kvs)) b=H4 b:=λb hb=>ak hb;have F2:upd H4 A.fa (.frz o2 (.dK kvs)) A.fa=some (.frz o2 (.dK kvs)):=ae;generalize upd H4 A.fa (.frz o2 (.dK kvs))=F at F1 F2⊢;refine Cb hz2 (λi σ' H2=>∃(us:List V) (v4:Option V),σ'=[some (.ref A.x),v1,v2,some (.ref pw),v4,none,none]/\H2=upd F pw (.lst us)/\b_ H4 us (σ.ws.map (·.w)++(c.feet.take i).flatMap (·.2))/\us.length<=400+39*i) ?_ ?_ ?_ ?_
 .rintro i σ' H2 ⟨us,v4,rfl,rfl,_⟩;rw[ak (GX npf)];exact F2
 .refine⟨ys,none,rfl,(Cf (by rw[F1 _ npf];exact k4)).symm,?_,by omega⟩;rw[JH,List.flatMap_nil,GL];exact al4
 .rintro i ⟨fk,fv⟩ σ' H2 hq ⟨us,v4,rfl,rfl,al5,ul⟩;obtain⟨⟨fn,fw⟩,hf,e1,l,e2,l1,l2,l3⟩:=f2.get hq;dsimp only at e2;subst e2;have hi:=(List.getElem?_eq_some_iff.mp hq).1;have ff:=(so.fw _ (Ge hf)).1;dsimp only at ff;have ll:=l3.len;dsimp only at ll;have nl:l≠pw:=λz=>by rw[z,gpw]at l2;cases l2
  have nlf:l≠A.fa:=λz=>by rw[z,f1]at l2;cases l2
  have fle:=so.fl;refine⟨_,rfl,.inl ⟨rfl,_,SqL.of ae⟩,_,rfl,_,_,_,_,rfl,rfl,ae,(by rw[ak nl,F1 _ nlf];exact S4.old _ _ l2),GR (Go (show us.length+l1.length<=10000 by omega) (by decide)),?_⟩;rw[AZ];refine⟨us++l1,_,rfl,rfl,?_,by rw[F7];omega⟩;rw[aV hf,Jx,<-Gs];refine al5.app ?_;rw[show List.flatMap (λx:Str×List Wk=>x.2) [(fn,fw)]=fw from by simp];exact b_.mono S4.old l3
 rintro σ' H2 ⟨us,v4,rfl,rfl,al5,ul⟩;rw[fl,Gv]at al5;have T5:∀{b xs},H4 b=some (.tup xs)->upd (upd F pw (.lst us)) A.fa (.dK kvs) b=some (.tup xs):=λ{b xs} h=>by
  have b1:b≠A.fa:=λz=>by rw[z,hfa]at h;cases h
  have b2:b≠pw:=λz=>by rw[z,k4]at h;cases h
  rw[ak b1,ak b2,F1 _ b1];exact h
 have s5:aj H3 (upd (upd F pw (.lst us)) A.fa (.dK kvs)):=λb u h=>by
  have b2:b≠pw:=λz=>by rw[z,hpw]at h;cases h
  by_cases b1:b=A.fa
  .rw[b1,ae];have:=s4 _ _ h;rw[b1,hfa]at this;exact this
  .rw[ak b1,ak b2,F1 _ b1];exact s4 _ _ h
 have k5:upd (upd F pw (.lst us)) A.fa (.dK kvs) pw=some (.lst us):=by rw[ak npf];exact ae
 generalize upd (upd F pw (.lst us)) A.fa (.dK kvs)=H5 at T5 s5 k5⊢;have S5:=S1.same s5;have al6:b_ H5 us (σ.ws.map (·.w)++c.feet.flatMap (·.2)):=al5.imp λv w ⟨b,z1,z2⟩=>⟨b,z1,T5 z2⟩;have l6:=al6.len;have all:∀w∈σ.ws.map (·.w)++c.feet.flatMap (·.2),fZ w.1=true->∃n:List Nat,n.length<=200/\(∀d∈n,d<127)/\w.2=.str (tx n):=λw hw hk=>by
  rcases List.mem_append.mp hw with hw|hw
  .obtain⟨t,ht,rfl⟩:=List.mem_map.mp hw;rcases(ss.ws t ht).1 with⟨z,_⟩|⟨z,_⟩|⟨_,h⟩
   .rw[z]at hk;cases hk
   .rw[z]at hk;cases hk
   .exact h
  .obtain⟨p,hp,hw⟩:=List.mem_flatMap.mp hw;rcases((so.fw p hp).2 w hw).1 with⟨_,h⟩|⟨z,_⟩
   .exact h
   .rw[z]at hk;cases hk
 have noA:(σ.ms.any λm=>m.2=σ.ws.length)=false:=by
  rw[HW];intro m hm;simpa using no m hm
 refine⟨_,rfl,pw,rfl,⟨_,SqL.of k5⟩,cg (K:=K) (a:=pw) (xs:=us) (λi σ' H2=>∃(v5 v6:Option V),σ'=[some (.ref A.x),v1,v2,some (.ref pw),v4,v5,v6]/\H2=H5/\∀w∈(σ.ws.map (·.w)++c.feet.flatMap (·.2)).take i,jv σ w=false) ⟨none,none,rfl,rfl,by simp⟩ (λi σ' H2 _ g=>by obtain⟨_,_,_,rfl,_⟩:=g;exact SqL.of k5) ?_ ?_⟩
 .rintro i y σ' H2 hy ⟨v5,v6,rfl,rfl,nb⟩;obtain⟨⟨kd,vv⟩,hw,b,rfl,hb⟩:=al6.getL hy;have gw:=all _ (Ge hw);dsimp only at gw;have step:jv σ (kd,vv)=false->∀w∈(σ.ws.map (·.w)++c.feet.flatMap (·.2)).take (i+1),jv σ w=false:=λz=>by
   rw[aV hw];intro w hw;rcases List.mem_append.mp hw with hw|hw
   .exact nb w hw
   .rw[List.mem_singleton.mp hw];exact z
  refine⟨b,_,rfl,SqT.of hb,rfl,_,_,rfl,_,_,rfl,rfl,?_⟩;refine⟨_,rfl,_,_,rfl,.inr (k_POINTING _),rfl,rfl,_,rfl,?_⟩;rw[Fh];by_cases hk:fZ kd=true
  .rw[hk];refine aN ?_;obtain⟨n,nl,nc,hn⟩:=gw hk
   .subst hn;refine⟨_,rfl,_,rfl,_,_,_,_,_,rfl,S5.ins,T.aB.cl,T.cB,jg,_,_,rfl,eW.k (k:=.inr (tx n)) S5.marks,_,rfl,?_⟩;rw[jM];cases hv:lkS (tx n) σ.ms with
    |none =>
     refine aN ?_;refine⟨⟨trivial,⟨n,rfl,by omega,nc⟩,trivial⟩,λz=>⟨le1,qe .nomark ?_ _ S5.old⟩⟩;unfold eG;rw[if_neg (by rw[noA];decide),if_pos];rw[List.any_eq_true];refine⟨_,Ge hw,?_⟩;show(fZ kd&&(lkS (tx n) σ.ms).isNone)=true;rw[hk,hv];rfl
    |some k =>
     refine av ?_;refine⟨_,_,rfl,rfl,step ?_⟩;show(fZ kd&&(lkS (tx n) σ.ms).isNone)=false;rw[hv];exact Kc _
  .rw[Hq]at hk;rw[hk];refine av ?_;refine av ?_;refine⟨_,_,rfl,rfl,step ?_⟩;show(fZ kd&&_)=false;rw[hk];rfl
 rintro σ' H2 ⟨v5,v6,rfl,rfl,nb⟩;rw[l6,Gv]at nb;refine q ?_ _ (s0.trans s5) S5;unfold eG;rw[if_neg (by rw[noA];decide),if_neg];rw[Hq,HW];intro w hw;rw[nb w hw];decide
def qP(cls:Xc->Addr)(C:Addr):Sp:=λvs H Q E=>∃(A:Sad) (G:Hp) (c:Sc) (σ:Ss) (n:List Nat),vs=[.ref A.x,.str (tx n)]/\StA C G H A c σ/\n.length<=200/\(∀d∈n,d<127)/\σ.ms.length<=1000000/\(∀e,d7 σ (tx n)=.error e->∀H',aj G H'->E (.ref (cls e)) none H')/\∀σ' H',d7 σ (tx n)=.ok σ'->StA C G H' A c σ'->Q .non H'
theorem qQ:aK ["self","name"] ["self","name"] (au iJ):=by walk_at "c"
theorem qR(T:Txt P w K mg a):aX P w K mg base (CXe P w) 1 a.iY a.iz ["self","name"] (qP (oz a.dH a.cY a.b7 a.cZ) a.aH):=by
 refine T.iT.fn.okE qQ (λvs H Q E h=>?_) (λcdv A outer s H vs Q E hr h=>?_)
 .obtain⟨A,G,c,σ,n,rfl,_⟩:=h;rfl
 obtain⟨A,G,c,σ,n,rfl,S,nl,nc,ml,qe,q⟩:=h;refine⟨_,(af (aI (aq (ub (fe hr)) (pv 1) (bv (pv 0) rfl) (by with_unfolding_all rfl)) (ai (lq rfl nO T.za rfl (aa (nP (eE jZ (eE (rX (pv 1)) (eE jZ qo)))) ac))) aE)
   (ai (yJ (fe hr) (bv (pv 0) rfl) (pv 1) (aF bA rfl T.bK PySem.boot_len (aa (bv (pv 0) rfl) ac)) rfl))),?_⟩
 obtain⟨wvs,w2,w3⟩:=S.words;have lw:=w3.len;refine⟨_,rfl,_,rfl,_,_,_,_,_,rfl,S.ins,T.aB.cl,T.cB,jg,_,_,rfl,eW.k (k:=.inr (tx n)) S.marks,_,rfl,?_⟩;rw[jM];cases hv:lkS (tx n) σ.ms with
 |some k =>
  refine aN ?_;exact⟨⟨trivial,⟨n,rfl,by omega,nc⟩,trivial,trivial⟩,λz=>⟨le1,qe .twice (by unfold d7;rw[hv];rfl) H S.old⟩⟩
 |none =>
  refine av ?_;dsimp only[cT];refine⟨_,rfl,_,_,_,_,_,rfl,S.ins,T.aB.cl,T.cC,jf,_,_,rfl,.inl (SqL.of w2),_,rfl,_,_,_,_,_,rfl,S.ins,T.aB.cl,T.cB,jg,_,rfl,_,_,rfl,uz.k (k:=.inr (tx n)) S.marks (by rw[uH];exact Go ml (by decide)),?_⟩;rw[wX _ (by rw[jM,hv];rfl),lw,<-Cd];exact q _ _ (by unfold d7;rw[hv];rfl) (S.mark (tx n) σ.ws.length)
def pM(cls:Xc->Addr)(C:Addr):Sp:=λvs H Q E=>∃(A:Sad) (G:Hp) (c:Sc) (σ:Ss) (n:List Nat),vs=[.ref A.x,.str (tx n)]/\StA C G H A c σ/\kj c/\n.length<=200/\(∀d∈n,d<127)/\σ.fs<=1000/\(∀e,i7 c σ (tx n)=.error e->∀H',aj G H'->E (.ref (cls e)) none H')/\∀σ' f H' p,i7 c σ (tx n)=.ok (σ',f)->StA C G H' A c σ'->H p=none->cQ H' p f->Q (.ref p) H'
theorem pN:aK ["self","name"] ["self","name"] (au g9):=by walk_at "c"
theorem pO(T:Txt P w K mg a):aX P w K mg base (CXe P w) 2 a.im a.gM ["self","name"] (pM (oz a.dH a.cY a.b7 a.cZ) a.aH):=by
 refine T.ie.fn.okE pN (λvs H Q E h=>?_) (λcdv A outer s H vs Q E hr h=>?_)
 .obtain⟨A,G,c,σ,n,rfl,_⟩:=h;rfl
 obtain⟨A,G,c,σ,n,rfl,S,so,nl,nc,ml,qe,q⟩:=h;refine⟨_,(af (aI (aq (ki (fe hr)) (pv 1) (bv (pv 0) rfl) (by with_unfolding_all rfl)) (ai (lq rfl nO T.ye rfl (aa (nP (eE jZ (eE (rX (pv 1)) qo))) ac))) aE)
   (af (c8 (pv 0) (aP b8 (bv (pv 0) rfl) ah) rfl)
   (ai (aJ (aP i5 (bi (aa (aY (aa ao (aa (aP dJ (aP dJ ao (aD T.jB (pK T) (hr.mono (by decide)) rfl (aa (bv (pv 0) rfl) ac))) ao) ac))) ac)) (le (fe hr) (bv (pv 0) rfl) (pv 1) (λ_ _=>rfl))))))),?_⟩
 obtain⟨kvs,f2,f3⟩:=S.cl.feet;refine⟨_,rfl,_,rfl,_,_,_,_,_,rfl,S.ins,T.aB.cl,T.fW,uG,_,_,rfl,eW.k (k:=.inr (tx n)) (S.old _ _ f2),_,rfl,?_⟩;obtain⟨v1,v2⟩:=FtA.val (n:=tx n) f3;cases hv:lkS (tx n) c.feet with
 |none =>
  rw[v1 hv];refine aN ?_;exact⟨⟨trivial,⟨n,rfl,by omega,nc⟩,trivial⟩,λz=>⟨le1,qe .nofoot (by unfold i7;rw[hv]) H S.old⟩⟩
 |some f =>
  obtain⟨l,e,hl⟩:=v2 f hv;rw[e];refine av ?_;dsimp only[cT];refine⟨_,rfl,_,_,_,_,_,rfl,S.ins,T.aB.cl,T.dQ,sD,_,_,rfl,rfl,_,rfl,_,_,_,_,rfl,S.ins,T.aB.cl,T.dQ,nT,?_⟩;rw[vE];have S1:StA a.aH G (upd H A.x (.ins a.aH A.dx (fsS A ((σ.fs:Int)+1) σ.lp σ.bh))) A c { σ with fs:=σ.fs+1 }:=S.flds (σ.fs+1) σ.lp σ.bh;have hfr:∀p,upd H A.x (.ins a.aH A.dx (fsS A ((σ.fs:Int)+1) σ.lp σ.bh)) p=none->H p=none:=λp hp=>by
   by_cases z:p=A.x
   .rw[z,ae]at hp;cases hp
   .rw[ak z]at hp;exact hp
  generalize upd H A.x (.ins a.aH A.dx (fsS A ((σ.fs:Int)+1) σ.lp σ.bh))=H1 at S1 hfr⊢;have cL:(PySem.Str.ofString "(")=tx [40]:=by decide +kernel
  have cR:(PySem.Str.ofString ")")=tx [41]:=by decide +kernel
  have fl:(aT (σ.fs+1)).length<=5:=jJ 4 _ (by omega);refine⟨_,rfl,_,_,_,_,_,rfl,S1.ins,T.aB.cl,T.dQ,sD,σ.fs+1,rfl,Go (show σ.fs+1<=1001 by omega) (by decide +kernel),_,_,rfl,rfl,(by rw[cL,aZ,aZ];exact GR (aA (by simp only[F8,Gj];omega))),_,_,rfl,rfl,(by rw[cL,cR,eN,aZ,aZ];exact GR (aA (by simp only[F7,F8,Gj];omega))),le2,λp1 hp1=>?_⟩;have s1:=ag hp1 (.tup [.str "plain",.str (lx (σ.fs+1))]);have k1:upd H1 p1 (.tup [.str "plain",.str (lx (σ.fs+1))]) p1=some (.tup [.str "plain",.str (lx (σ.fs+1))]):=ae;have S2:=S1.same s1;refine⟨le1,λp2 hp2=>?_⟩;change upd H1 p1 (.tup [.str "plain",.str (lx (σ.fs+1))]) p2=none at hp2;have s2:=ag hp2 (.lst [.ref p1]);have k2:upd (upd H1 p1 (.tup [.str "plain",.str (lx (σ.fs+1))])) p2 (.lst [.ref p1]) p2=some (.lst [.ref p1]):=ae;have k1':=s2 _ _ k1;have S3:=S2.same s2;have hfr3:=λ(p:Addr) hp=>hfr p ((s1.trans s2).free hp);obtain⟨fv,g1,g2⟩:=hl.mono S3.old;have lf:=g2.len;have ff:=(so.fw (tx n,f) (r9 hv)).1;have hg:eW (upd (upd H1 p1 (.tup [.str "plain",.str (lx (σ.fs+1))])) p2 (.lst [.ref p1])) A.fa (kV (.inr (tx n))) (some (.ref l)):=by rw[<-e];exact eW.k (S3.old _ _ f2)
  refine⟨_,rfl,_,_,_,_,_,rfl,S3.ins,T.aB.cl,T.fW,uG,_,rfl,_,_,rfl,hg,_,_,_,_,rfl,rfl,k2,g1,(by show 1+fv.length<=_;rw[lf];exact GR (aA (by dsimp only at ff;omega))),λp3 hp3=>?_⟩;have s3:=ag hp3 (.lst ([.ref p1]++fv));exact q { σ with fs:=σ.fs+1 } ((.plain,.str (lx (σ.fs+1)))::f) _ p3 (by unfold i7;rw[hv]) (S3.same s3) (hfr3 p3 hp3) ⟨_,ae,show b_ _ (.ref p1::fv) ((.plain,.str (lx (σ.fs+1)))::f)from⟨⟨p1,rfl,s3 _ _ k1'⟩,b_.mono s3 g2⟩⟩
def qS(cls:Xc->Addr)(C:Addr):Sp:=λvs H Q E=>∃(A:Sad) (G:Hp) (c:Sc) (σ:Ss) (lead:Int) (w:Addr) (wk:Wk),vs=[.ref A.x,.int lead,.ref w]/\StA C G H A c σ/\kj c/\WkA H (.ref w) wk/\GWk wk/\σ.ws.length<=400/\σ.fs<=σ.ws.length/\(∀e,cM c σ lead wk=.error e->∀H',aj G H'->E (.ref (cls e)) none H')/\∀σ' H',cM c σ lead wk=.ok σ'->StA C G H' A c σ'->Q .non H'
theorem dM:aK ["self","lead","word","foot"] ["self","lead","word"] (au iK):=by walk_at "c"
theorem qT(T:Txt P w K mg a):aX P w K mg base (CXe P w) 3 a.iZ a.iA ["self","lead","word"] (qS (oz a.dH a.cY a.b7 a.cZ) a.aH):=by
 have bH:=T.bH;obtain⟨t_MOST_WORDS_books,bH⟩:=bH;refine T.iU.fn.okE dM (λvs H Q E h=>?_) (λcdv A outer s H vs Q E hr h=>?_)
 .obtain⟨A,G,c,σ,lead,w,wk,rfl,_⟩:=h;rfl
 obtain⟨A,G,c,σ,lead,w,wk,rfl,S,so,hw,gw,wl,fl,qe,q⟩:=h;refine⟨_,(af (ay (i:=3) dM.nd rfl (Gm rfl) (bi ac))
   (af (aI (aq br (aC aS (pv 2) ah (λ_ _=>rfl)) ao (nomark _)) (af (ay (i:=3) dM.nd rfl (Gm rfl) (dA fN T.aB T.ie (pO T) (hr.mono (by decide)) (pv 0) (aa (aC aS (pv 2) ah (λ_ _=>rfl)) ac)))
   (ai (ay (i:=2) dM.nd rfl (Gm rfl) (aC bF (pv 3) ah (λ_ _=>rfl))))) aE)
   (af (aI (aq br (aF bA rfl T.bK PySem.boot_len (aa (bv (pv 0) rfl) ac)) (c6 (v:=.int 400) rfl bH ⟨_,rfl⟩) (nomark _)) (ai (lq rfl nO T.rP rfl (aa (nP (eE jZ (eE (El (c6 (v:=.int 400) rfl bH ⟨_,rfl⟩)) (eE jZ qo)))) ac))) aE)
   (af (aI (aq kN (bv (pv 0) rfl) ah (nomark _)) (af (ay (i:=1) dM.nd rfl (Gm rfl) (bv (pv 0) rfl))
   (ai (c8 (pv 0) ah rfl))) aE)
   (ai (bf (cq PySem.F.plainAttrs_list PySem.F.slot_list_append PySem.F.type_list_append bZ (bv (pv 0) rfl) (aa (aY (aa (pv 1) (aa (jV (bv (pv 0) rfl) (jU (fK zc (pv 1) ah (nomark _)))) (aa (pv 2) (aa (pv 3) ac))))) ac)))))))),?_⟩
 refine⟨aQ (by simp),λp1 hp1=>?_⟩;have n1:p1≠A.wa:=λz=>by obtain⟨_,w2,_⟩:=S.words;rw[z,w2]at hp1;cases hp1
 have n2:p1≠A.ha:=λz=>by obtain⟨_,w2,_⟩:=S.heads;rw[z,w2]at hp1;cases hp1
 have s1:=ag hp1 (.lst []);have k1:upd H p1 (.lst []) p1=some (.lst []):=ae;have S1:=S.same s1;generalize upd H p1 (.lst [])=H1 at s1 k1 S1⊢;have hw1:=hw.mono s1;dsimp only[bE];refine cO (λσ' H'=>∃(w' p:Addr) (wk':Wk) (f:List Wk) (σ1:Ss),σ'=[some (.ref A.x),some (.int lead),some (.ref w'),some (.ref p)]/\StA a.aH G H' A c σ1/\WkA H' (.ref w') wk'/\cQ H' p f/\p≠A.wa/\p≠A.ha/\cM c σ lead wk=gS σ1 lead wk' f/\σ1.ws=σ.ws) ?_ (λkey=>?_)
 .rintro σ' H2 ⟨w',p,wk',f,σ1,rfl,S2,hw2,hp2,m1,m2,e,ew⟩;obtain⟨wvs,w2,w3⟩:=S2.words;have lw:=w3.len;rw[ew]at lw;refine⟨_,rfl,_,_,_,_,_,rfl,S2.ins,T.aB.cl,T.cC,jf,_,_,rfl,.inl (SqL.of w2),rfl,_,rfl,?_⟩;refine dX (λc1=>?_) (λc1=>?_)
  .have c2:wvs.length=400:=by have:=of_decide_eq_true c1;injection this with this;omega
   exact⟨⟨trivial,trivial,trivial,trivial⟩,λz=>⟨le1,qe .toolong (by rw[e];unfold gS;rw[ew,if_pos (by omega)]) H2 S2.old⟩⟩
  have c2:¬ (wvs.length=400):=λz=>c1 (decide_eq_true (by rw[z];rfl));dsimp only[cT];refine cO (λσ' H'=>σ'=[some (.ref A.x),some (.int (if 0<σ1.lp then σ1.lp else lead)),some (.ref w'),some (.ref p)]/\StA a.aH G H' A c { σ1 with lp:=if 0<σ1.lp then 0 else σ1.lp }/\WkA H' (.ref w') wk'/\cQ H' p f/\H' A.wa=some (.lst wvs)) ?_ (λkey=>?_)
  .rintro σ' H3 ⟨rfl,S3,hw3,hp3,w23⟩;generalize hld:(if 0<σ1.lp then σ1.lp else lead)=ld;have go:∀(b:Bool),b=(σ1.bh&&decide (ld<=2))->∀p2,H3 p2=none->StA a.aH G (upd (upd H3 p2 (.tup [.int ld,.bl b,.ref w',.ref p])) A.wa (.lst (wvs++[.ref p2]))) A c { σ1 with lp:=if 0<σ1.lp then 0 else σ1.lp,ws:=σ1.ws++[⟨ld,σ1.bh&&decide (ld<=2),wk',f⟩] }:=λb hb p2 hp2=>by
    have s3:=ag hp2 (.tup [.int ld,.bl b,.ref w',.ref p]);exact(S3.same s3).word (t:=⟨ld,σ1.bh&&decide (ld<=2),wk',f⟩) (s3 _ _ w23) rfl (by rw[<-hb];exact ae) (hw3.mono s3) (hp3.mono s3) m1 m2
   have fin:cM c σ lead wk=.ok { σ1 with lp:=if 0<σ1.lp then 0 else σ1.lp,ws:=σ1.ws++[⟨ld,σ1.bh&&decide (ld<=2),wk',f⟩] }:=by
    rw[e];unfold gS;rw[if_neg (by rw[ew];omega),hld]
   refine⟨_,rfl,_,_,_,_,_,rfl,S3.ins,T.aB.cl,T.cC,jf,.inl ⟨rfl,_,SqL.of w23⟩,_,rfl,_,rfl,_,_,_,_,_,rfl,S3.ins,T.aB.cl,T.dg,nS,_,rfl,?_⟩;have wf:wvs.length<Gr:=aA (by omega);cases hb:σ1.bh with
   |true =>
    refine aN ?_;refine⟨_,rfl,_,_,rfl,rfl,_,rfl,_,rfl,le4,λp2 hp2=>?_⟩;have s3:=ag hp2 (.tup [.int ld,.bl (decide (ld<=2)),.ref w',.ref p]);refine⟨_,_,_,rfl,rfl,s3 _ _ w23,wf,?_⟩;exact q _ _ fin (go _ (by rw[hb];rfl) p2 hp2)
   |false =>
    refine av ?_;refine⟨_,rfl,_,rfl,le4,λp2 hp2=>?_⟩;have s3:=ag hp2 (.tup [.int ld,.bl false,.ref w',.ref p]);refine⟨_,_,_,rfl,rfl,s3 _ _ w23,wf,?_⟩;exact q _ _ fin (go _ (by rw[hb];rfl) p2 hp2)
  .refine⟨_,rfl,_,_,_,_,_,rfl,S2.ins,T.aB.cl,T.cK,rZ,_,_,rfl,rfl,_,rfl,?_⟩;by_cases hl:0<σ1.lp
   .rw[decide_eq_true (show σ1.lp>0 from hl)];refine aN ?_;refine⟨_,rfl,_,_,_,_,_,rfl,S2.ins,T.aB.cl,T.cK,rZ,?_⟩;refine⟨_,rfl,_,_,_,_,rfl,S2.ins,T.aB.cl,T.cK,nT,?_⟩;rw[qw];have S3:=S2.flds σ1.fs 0 σ1.bh;obtain⟨e1,e2,e3,e4,e5⟩:=S2.nes;have tup:∀{b us},H2 b=some (.tup us)->upd H2 A.x (.ins a.aH A.dx (fsS A (σ1.fs:Int) 0 σ1.bh)) b=some (.tup us):=λ{b us} h=>by rw[ak (λz=>S2.nt b (by rw[z];exact Ce) us h)];exact h
    have lsx:∀{b us},H2 b=some (.lst us)->upd H2 A.x (.ins a.aH A.dx (fsS A (σ1.fs:Int) 0 σ1.bh)) b=some (.lst us):=λ{b us} h=>by rw[ak (λz=>by rw[z,S2.ins]at h;cases h)];exact h
    refine key _ _ ⟨by rw[if_pos hl];rfl,by rw[if_pos hl];exact S3,?_,?_,lsx w2⟩
    .obtain⟨b,z1,z2⟩:=hw2;exact⟨b,z1,tup z2⟩
    .obtain⟨us,z1,z2⟩:=hp2;exact⟨us,lsx z1,z2.imp λv w ⟨b,y1,y2⟩=>⟨b,y1,tup y2⟩⟩
   .rw[decide_eq_false (show ¬ (σ1.lp>0)from hl)];refine av ?_;refine key _ _ ⟨by rw[if_neg hl],by rw[if_neg hl];exact S2,hw2,hp2,w2⟩
 .obtain⟨wb,e1,hb⟩:=hw1;injection e1 with e1;subst e1;refine⟨_,rfl,_,_,_,_,rfl,rfl,SqT.of hb,rfl,rfl,_,rfl,?_⟩;by_cases hk:wk.1=.foot
  .rw[decide_eq_true (by rw[hk];rfl)];refine aN ?_;obtain⟨_,n,nl,nc,hn⟩|⟨z,_⟩:=gw
   .rw[hn]at hb;refine⟨_,rfl,_,_,_,rfl,S1.ins,jh (by decide +kernel),_,rfl,_,_,_,_,rfl,rfl,SqT.of hb,rfl,?_⟩;have hr_:rest wk.2=tx n:=by rw[hn];rfl
    have ew:cM c σ lead wk=(match i7 c σ (tx n)with|.error x=>.error x|.ok (s',f)=>gS s' lead (f.headD wk) f):=by
     unfold cM;rw[if_pos hk,hr_]
     first|done|(cases i7 c σ (tx n)<;>rfl)
    refine⟨A,G,c,σ,n,rfl,S1,so,nl,nc,by omega,λe he H' s'=>qe e (by rw[ew,he]) H' s',λσ' f H2 p he S2 hp hf=>?_⟩;rw[he]at ew;dsimp only[bE];have hws:σ'.ws=σ.ws/\∃x r,f=x::r:=by
     unfold i7 at he;cases hv:lkS (tx n) c.feet with
     |none=>rw[hv]at he;cases he
     |some g=>rw[hv]at he;cases he;exact⟨rfl,_,_,rfl⟩
    obtain⟨hws,x,r,rfl⟩:=hws;obtain⟨us,u1,u2⟩:=hf
    match us,u2 with
    |u::us,⟨⟨b,z1,z2⟩,u3⟩ =>
    subst z1;refine⟨_,rfl,_,_,_,_,rfl,rfl,SqL.of u1,iE _ _,?_⟩;refine key _ _ ⟨b,p,x,x::r,σ',rfl,S2,⟨b,rfl,z2⟩,⟨_,u1,⟨b,rfl,z2⟩,u3⟩,?_,?_,ew,hws⟩
    .exact λz=>by obtain⟨_,w2,_⟩:=S1.words;rw[z,w2]at hp;cases hp
    .exact λz=>by obtain⟨_,w2,_⟩:=S1.heads;rw[z,w2]at hp;cases hp
   .rw[hk]at z;cases z
  .have nk:¬ (V.str wk.1.s=V.str "foot"):=λz=>hk (Kw.inj (b:=.foot) (V.str.inj z));rw[decide_eq_false nk];refine av ?_;refine key _ _ ⟨w,p1,wk,[],σ,rfl,S1,⟨w,rfl,hb⟩,⟨[],k1,trivial⟩,n1,n2,?_,rfl⟩;unfold cM;rw[if_neg hk]
def sj(cls:Xc->Addr)(C:Addr):Sp:=λvs H Q E=>∃(A:Sad) (G:Hp) (c:Sc) (σ:Ss) (lead:Int) (la:Addr) (byh:Bool) (ws:List Wk),vs=[.ref A.x,.int lead,.ref la,.bl byh]/\StA C G H A c σ/\kj c/\cQ G la ws/\(∀w∈ws,GWk w)/\ws.length<=600/\Bd σ ws.length/\(∀e,ca c σ lead byh ws=.error e->∀H',aj G H'->E (.ref (cls e)) none H')/\∀σ' H',ca c σ lead byh ws=.ok σ'->StA C G H' A c σ'->Q .non H'
theorem iP:aK ["self","lead","words","by_head","word"] ["self","lead","words","by_head"] (au ji):=by walk_at "c"
theorem fI(T:Txt P w K mg a):aX P w K mg base (CXe P w) 4 a.jj a.i4 ["self","lead","words","by_head"] (sj (oz a.dH a.cY a.b7 a.cZ) a.aH):=by
 refine T.dI.fn.okE iP (λvs H Q E h=>?_) (λcdv A outer s H vs Q E hr h=>?_)
 .obtain⟨A,G,c,σ,lead,la,byh,ws,rfl,_⟩:=h;rfl
 obtain⟨A,G,c,σ,lead,la,byh,ws,rfl,S,so,hl,gw,wl,bd,qe,q⟩:=h;refine⟨_,(ai (cc HX rfl (bj (pv 2)) (aM (i:=4) iP.nd rfl (Gm rfl)) (ai (aI (aq br (aC aS (pv 4) ah (λ_ _=>rfl)) ao (nomark _)) (ai (bf (dA fN T.aB T.iT (qR T) (hr.mono (by decide)) (pv 0) (aa (aC aS (pv 4) ah (λ_ _=>rfl)) ac)))) (af (bf (dA fN T.aB T.iU (qT T) (hr.mono (by decide)) (pv 0) (aa (pv 1) (aa (pv 4) ac))))
   (af (c8 (pv 0) (pv 3) rfl)
   (ai (ay (i:=1) iP.nd rfl (Gm rfl) ah)))))))),?_⟩
 obtain⟨us,l1,l2⟩:=hl;have lu:=l2.len;refine⟨_,rfl,la,rfl,⟨_,SqL.of (S.old _ _ l1)⟩,cg (K:=K) (a:=la) (xs:=us) (λi σ' H2=>∃(vw:Option V) (ld:Int) (σ1:Ss),σ'=[some (.ref A.x),some (.int ld),some (.ref la),some (.bl byh),vw]/\StA a.aH G H2 A c σ1/\ca c σ lead byh ws=ca c σ1 ld byh (ws.drop i)/\Bd σ1 (ws.length-i)) ⟨none,lead,σ,rfl,S,rfl,bd⟩ (λi σ' H2 _ g=>by obtain⟨_,_,_,_,S1,_⟩:=g;exact SqL.of (S1.old _ _ l1)) ?_ ?_⟩
 .rintro i y σ' H2 hy ⟨vw,ld,σ1,rfl,S1,er,b1⟩;obtain⟨w,hw,wb,rfl,hb⟩:=l2.getL hy;have hi:=(List.getElem?_eq_some_iff.mp hw).1;have gww:=gw w (Ge hw);have ed:ws.drop i=w::ws.drop (i+1):=by
   obtain⟨hi,e⟩:=List.getElem?_eq_some_iff.mp hw;rw[GT hi,e]
  have hb2:=S1.old _ _ hb;rw[ed]at er;refine⟨_,rfl,_,_,_,_,rfl,rfl,SqT.of hb2,rfl,rfl,_,rfl,?_⟩;by_cases hk:w.1=.mark
  .rw[decide_eq_true (by rw[hk];rfl)];refine aN ?_;have er2:ca c σ1 ld byh (w::ws.drop (i+1))=(match d7 σ1 (rest w.2)with|.error x=>.error x|.ok s'=>ca c s' ld byh (ws.drop (i+1))):=by
    show(if w.1=.mark then _ else _)=_;rw[if_pos hk]
    first|done|(cases d7 σ1 (rest w.2)<;>rfl)
   obtain⟨_,n,nl,nc,hn⟩|⟨z,_⟩:=gww
   .rw[hn]at hb2;have hr_:rest w.2=tx n:=by rw[hn];rfl
    rw[hr_]at er2;refine⟨_,rfl,_,_,_,rfl,S1.ins,jh (by decide +kernel),_,rfl,_,_,_,_,rfl,rfl,SqT.of hb2,rfl,?_⟩;refine⟨A,G,c,σ1,n,rfl,S1,nl,nc,(by have:=b1.ms;omega),λe he H' s'=>?_,λσ2 H3 he S2=>?_⟩
    .refine qe e ?_ H' s';rw[er,er2,he]
    .rw[he]at er2;have hs2:σ2.ws=σ1.ws/\σ2.fs=σ1.fs/\σ2.ms.length=σ1.ms.length+1:=by
      unfold d7 at he;by_cases z:(lkS (tx n) σ1.ms).isSome=true
      .rw[if_pos z]at he;cases he
      .rw[if_neg z]at he;cases he;exact⟨rfl,rfl,by simp⟩
     exact⟨_,ld,σ2,rfl,S2,er.trans er2,⟨by rw[hs2.1];exact b1.ws,by rw[hs2.1,hs2.2.1];exact b1.fs,by rw[hs2.2.2];have:=b1.ms;omega⟩⟩
   .rw[hk]at z;cases z
  .have nk:¬ (V.str w.1.s=V.str "mark"):=λz=>hk (Kw.inj (b:=.mark) (V.str.inj z));rw[decide_eq_false nk];refine av ?_;have er2:ca c σ1 ld byh (w::ws.drop (i+1))=(match cM c σ1 ld w with|.error x=>.error x|.ok s'=>ca c { s' with bh:=byh } 0 byh (ws.drop (i+1))):=by
    show(if w.1=.mark then _ else _)=_;rw[if_neg hk]
    first|done|(cases cM c σ1 ld w<;>rfl)
   refine⟨_,rfl,_,_,_,rfl,S1.ins,jh (by decide +kernel),_,rfl,_,rfl,?_⟩;refine⟨A,G,c,σ1,ld,wb,w,rfl,S1,so,⟨wb,rfl,hb2⟩,gww,b1.ws,b1.fs,λe he H' s'=>qe e (by rw[er,er2,he]) H' s',λσ2 H3 he S2=>?_⟩;rw[he]at er2;have b2:=vg he;refine⟨_,rfl,_,rfl,_,_,_,_,rfl,S2.ins,T.aB.cl,T.dg,nT,?_⟩;rw[sQ];exact⟨_,0,_,rfl,S2.flds σ2.fs σ2.lp byh,er.trans er2,⟨by show σ2.ws.length<=400;have:=b1.ws;omega,by show σ2.fs<=σ2.ws.length;have:=b1.fs;omega,by show σ2.ms.length+_<=_;rw[b2.2.2.2];have:=b1.ms;omega⟩⟩
 rintro σ' H2 ⟨vw,ld,σ1,rfl,S1,er,b1⟩;rw[lu,HG]at er;exact q _ _ er S1
def qU(cls:Xc->Addr)(C:Addr):Sp:=λvs H Q E=>∃(A:Sad) (G:Hp) (c:Sc) (σ:Ss) (k:Nat),vs=[.ref A.x,.int (k:Int)]/\StA C G H A c σ/\kj c/\k<c.nums.length/\σ.hs.length<=1000/\Bd σ 200/\(∀e,qq c σ k=.error e->∀H',aj G H'->E (.ref (cls e)) none H')/\∀σ' H',qq c σ k=.ok σ'->StA C G H' A c σ'->Q .non H'
theorem j6:aK ["self","k","number"] ["self","k"] (au iL):=by walk_at "c"
theorem qV(T:Txt P w K mg a):aX P w K mg base (CXe P w) 5 a.iW a.iu ["self","k"] (qU (oz a.dH a.cY a.b7 a.cZ) a.aH):=by
 refine T.iR.fn.okE j6 (λvs H Q E h=>?_) (λcdv A outer s H vs Q E hr h=>?_)
 .obtain⟨A,G,c,σ,k,rfl,_⟩:=h;rfl
 obtain⟨A,G,c,σ,k,rfl,S,so,hk,hl,bd,qe,q⟩:=h;refine⟨_,(af (ay (i:=2) j6.nd rfl (Gm rfl) (aC bF (bv (pv 0) rfl) (pv 1) (λ_ _=>rfl)))
   (af (bf (cq PySem.F.plainAttrs_list PySem.F.slot_list_append PySem.F.type_list_append bZ (bv (pv 0) rfl) (aa (aY (aa (pv 2) (aa (aF bA rfl T.bK PySem.boot_len (aa (bv (pv 0) rfl) ac)) ac))) ac)))
   (ai (bf (dA fN T.aB T.dI (fI T) (hr.mono (by decide)) (pv 0) (aa ah (aa (aP i5 (bi (aa (aY (aa ao (aa (pv 2) ac))) ac)) (aC bF (bv (pv 0) rfl) (pv 1) (λ_ _=>rfl))) (aa dh ac)))))))),?_⟩
 obtain⟨nm,hnm⟩:∃nm,c.nums[k]?=some nm:=⟨c.nums[k],Ga hk⟩;obtain⟨tt,htt⟩:∃tt,c.titles[k]?=some tt:=⟨c.titles[k]'(by rw[so.tl];exact hk),Ga _⟩;have e1:c.nums.getD k Hk=nm:=by rw[Gu,hnm];rfl
 have e2:c.titles.getD k []=tt:=by rw[Gu,htt];rfl
 obtain⟨nl,hnl,nll⟩:=so.nl nm (Ge hnm);obtain⟨ttl,ttw⟩:=so.tw tt (Ge htt);refine⟨_,rfl,_,_,_,_,_,rfl,S.ins,T.aB.cl,T.fJ,ui,_,rfl,_,_,_,_,rfl,rfl,SqL.of (S.old _ _ S.cl.nums),cp (j:=k) (by rw[GA,hnm];rfl),?_⟩;obtain⟨wvs,w2,w3⟩:=S.words;obtain⟨hvs,h2,h3⟩:=S.heads;have lw:=w3.len;have lh:=h3.len;refine⟨_,rfl,_,_,_,_,_,rfl,S.ins,T.aB.cl,T.dr,lA,.inl ⟨rfl,_,SqL.of h2⟩,_,rfl,_,rfl,_,_,_,_,_,rfl,S.ins,T.aB.cl,T.cC,jf,_,_,rfl,.inl (SqL.of w2),le2,λp1 hp1=>?_⟩;rw[lw];have s1:=ag hp1 (.tup [.str nm,.int (σ.ws.length:Int)]);have S1:=S.same s1;have k1:upd H p1 (.tup [.str nm,.int (σ.ws.length:Int)]) p1=some (.tup [.str nm,.int (σ.ws.length:Int)]):=ae;have h2':=s1 _ _ h2;generalize upd H p1 (.tup [.str nm,.int (σ.ws.length:Int)])=H1 at s1 S1 k1 h2'⊢;refine⟨_,_,_,rfl,rfl,h2',aA (by omega),?_⟩;have S2:=S1.headp h2' k1;generalize upd H1 A.ha (.lst (hvs++[.ref p1]))=H2 at S2⊢;refine⟨_,rfl,_,_,_,rfl,S2.ins,jh (by decide +kernel),_,rfl,le2,λp2 hp2=>?_⟩;have s3:=ag hp2 (.tup [.str "plain",.str nm]);have k3:upd H2 p2 (.tup [.str "plain",.str nm]) p2=some (.tup [.str "plain",.str nm]):=ae;have S3:=S2.same s3;change _ at k3;generalize upd H2 p2 (.tup [.str "plain",.str nm])=H3 at s3 k3 S3⊢;refine⟨le1,λp3 hp3=>?_⟩;have s4:=ag hp3 (.lst [.ref p2]);have k4:upd H3 p3 (.lst [.ref p2]) p3=some (.lst [.ref p2]):=ae;have k4':=s4 _ _ k3;have S4:=S3.same s4;generalize upd H3 p3 (.lst [.ref p2])=H4 at s4 k4 k4' S4⊢;obtain⟨tvs,t1,t2⟩:=S4.cl.titles;obtain⟨v,hv,l,rfl,tl⟩:=t2.getR htt;obtain⟨us,u1,u2⟩:=tl.mono S4.old;have lu:=u2.len;refine⟨_,rfl,_,_,_,_,_,rfl,S4.ins,T.aB.cl,T.gg,vf,_,rfl,_,_,_,_,rfl,rfl,SqL.of (S4.old _ _ t1),cp hv,_,_,_,_,rfl,rfl,k4,u1,(by show 1+us.length<=_;rw[lu];exact GR (aA (by omega))),λp4 hp4=>?_⟩;have s5:=ag hp4 (.lst ([.ref p2]++us));have k5:upd H4 p4 (.lst ([.ref p2]++us)) p4=some (.lst (.ref p2::us)):=ae;have k5':=s5 _ _ k4';have u2':=b_.mono s5 u2;have S5:=S4.same s5;have fr:=S4.fresh hp4;generalize upd H4 p4 (.lst ([.ref p2]++us))=H5 at s5 k5 k5' u2' S5⊢;have run:qq c σ k=ca c { σ with hs:=σ.hs++[(nm,σ.ws.length)] } 2 true ((.plain,.str nm)::tt):=by
  unfold qq;rw[e1,e2]
 refine⟨A,hid A.os H5,c,_,2,p4,true,(.plain,.str nm)::tt,rfl,S5.re,so,uI S5.nt fr ⟨_,k5,⟨p2,rfl,k5'⟩,u2'⟩,?_,?_,⟨bd.ws,bd.fs,?_⟩,λe he H' s'=>qe e (by rw[run];exact he) H' (S5.out.trans s'),λσ' H' he S'=>q σ' H' (by rw[run];exact he) (S'.base S5.out S.cl)⟩
 .intro w hw;rcases List.mem_cons.mp hw with rfl|hw
  .exact .inl ⟨(show Kw.plain≠Kw.entry by decide),nl,by omega,so.nc nl (by rw[<-hnl];exact Ge hnm),by rw[hnl]⟩
  .exact ttw w hw
 .simp only[F8];omega
 .simp only[F8];have:=bd.ms;show σ.ms.length+_<=_;omega
def qW(cls:Xc->Addr)(C:Addr):Sp:=λvs H Q E=>∃(A:Sad) (G:Hp) (c:Sc) (σ:Ss) ,vs=[.ref A.x]/\StA C G H A c σ/\kj c/\Bd σ 200/\(∀e,gi c σ 2 0 c.nums=.error e->∀H',aj G H'->E (.ref (cls e)) none H')/\∀σ' H',gi c σ 2 0 c.nums=.ok σ'->StA C G H' A c σ'->Q .non H'
theorem db:aK ["self","lead","k","number","title"] ["self"] (au iM):=by walk_at "c"
theorem qX(T:Txt P w K mg a):aX P w K mg base (CXe P w) 5 a.iX a.iy ["self"] (qW (oz a.dH a.cY a.b7 a.cZ) a.aH):=by
 refine T.iS.fn.okE db (λvs H Q E h=>?_) (λcdv A outer s H vs Q E hr h=>?_)
 .obtain⟨A,G,c,σ,rfl,_⟩:=h;rfl
 obtain⟨A,G,c,σ,rfl,S,so,bd,qe,q⟩:=h;refine⟨_,(af (ay (i:=1) db.nd rfl (Gm rfl) ah)
   (ai (cc HX rfl (yM rfl T.fF (bv (pv 0) rfl)) (dZ rfl (a7 (aM (i:=2) db.nd rfl (Gm rfl)) (a7 (aM (i:=3) db.nd rfl (Gm rfl)) dt))) (af (zn (k:=4) rfl (d_ (caps:=[]) (js:=[]) (cap:=trivial)) (bj (aC bF (bv (pv 0) rfl) (pv 2) (λ_ _=>rfl))) (λ_ _ _ _=>(iD (aq eQ (aC (r:=jG K) aS (pv 0) ah (λ_ _=>rfl)) ao (nomark _)))) (λ_ _ _ _=>(pv 0)) db.nd rfl rfl)
   (af (bf (dA fN T.aB T.dI (fI T) (hr.mono (by decide)) (pv 0) (aa (pv 1) (aa (aP i5 (aP i5 (bi (aa (aY (aa ao (aa (pv 3) ac))) ac)) (pv 4)) (bi (aa (aY (aa ao (aa (pv 2) ac))) ac))) (aa dh ac)))))
   (ai (ay (i:=1) db.nd rfl (Gm rfl) ah))))))),?_⟩
 refine⟨_,rfl,_,_,_,_,_,rfl,S.ins,T.aB.cl,T.fJ,ui,A.na,rfl,⟨_,SqL.of (S.old _ _ S.cl.nums)⟩,xi (K:=K) (a:=A.na) (xs:=c.nums.map V.str) (λi σ' H2=>∃(ld:Int) (v2 v3 v4:Option V) (σ1:Ss),σ'=[some (.ref A.x),some (.int ld),v2,v3,v4]/\StA a.aH G H2 A c σ1/\gi c σ 2 0 c.nums=gi c σ1 ld i (c.nums.drop i)/\Bd σ1 200) ?_ ?_ ?_ ?_⟩
 .exact⟨2,none,none,none,σ,rfl,S,rfl,bd⟩
 .rintro i σ' H2 _ ⟨ld,v2,v3,v4,σ1,rfl,S1,_⟩;exact SqL.of (S1.old _ _ S1.cl.nums)
 .rintro k y σ' H1 p0 hy ⟨ld,v2,v3,v4,σ1,rfl,S1,er,bd1⟩ hp0;rw[GA]at hy;obtain⟨nm,hnm,rfl⟩:=Option.map_eq_some_iff.mp hy;obtain⟨hk,ek⟩:=List.getElem?_eq_some_iff.mp hnm;have ed:c.nums.drop k=nm::c.nums.drop (k+1):=by rw[GT hk,ek]
  obtain⟨tt,htt⟩:∃tt,c.titles[k]?=some tt:=⟨c.titles[k]'(by rw[so.tl];exact hk),Ga _⟩;have e2:c.titles.getD k []=tt:=by rw[Gu,htt];rfl
  obtain⟨nl,hnl,nll⟩:=so.nl nm (Ge hnm);obtain⟨ttl,ttw⟩:=so.tw tt (Ge htt);rw[ed]at er;have s0:=ag hp0 (.tup [.int (k:Int),.str nm]);have k0:upd H1 p0 (.tup [.int (k:Int),.str nm]) p0=some (.tup [.int (k:Int),.str nm]):=ae;have S2:=S1.same s0;generalize upd H1 p0 (.tup [.int (k:Int),.str nm])=H2 at s0 k0 S2⊢;refine⟨p0,_,rfl,SqT.of k0,rfl,_,_,rfl,_,_,rfl,rfl,?_⟩;obtain⟨tvs,t1,t2⟩:=S2.cl.titles;obtain⟨v,hv,l,rfl,tl⟩:=t2.getR htt;obtain⟨us,u1,u2⟩:=tl.mono S2.old;have lu:=u2.len;refine⟨_,rfl,_,_,_,_,_,rfl,S2.ins,T.aB.cl,T.gg,vf,_,rfl,_,_,_,_,rfl,rfl,SqL.of (S2.old _ _ t1),cp hv,l,rfl,⟨_,SqL.of u1⟩,dF (K:=K) (a:=l) (xs:=us) (λi ys G'=>H2=G'/\ys.length<=i/\b_ H2 ys (bU (tt.take i))) ⟨rfl,Gh _,trivial⟩ (λi ys G' _ z=>by rw[<-z.1];exact SqL.of u1) ?_ ?_ ?_⟩
  .rintro i ys G' hi ⟨_,z,_⟩;exact aA (by omega)
  .rintro i y ys G' hy ⟨rfl,zl,al⟩;obtain⟨w,hw,b,rfl,hb⟩:=u2.getL hy;have en:bU (tt.take (i+1))=bU (tt.take i)++bU [w]:=by
    rw[aV hw];unfold bU;rw[GY]
   refine⟨_,rfl,_,_,_,_,rfl,rfl,SqT.of hb,rfl,rfl,_,rfl,?_⟩;by_cases hm:w.1=.mark
   .rw[decide_eq_true (show V.str w.1.s=V.str "mark" by rw[hm];rfl)];refine av ?_;refine⟨rfl,by omega,?_⟩;rw[en,show bU [w]=[]from by unfold bU;simp[hm],GL];exact al
   .rw[decide_eq_false (show ¬ (V.str w.1.s=V.str "mark")from λz=>hm (Kw.inj (b:=.mark) (V.str.inj z)))];refine aN ?_;refine⟨_,rfl,rfl,by rw[F7];simp only[F8,Gj];omega,?_⟩;rw[en,show bU [w]=[w]from by unfold bU;simp[hm]];exact al.snoc ⟨b,rfl,hb⟩
  rintro ys G' ⟨rfl,zl,al⟩ p1 hp1;rw[lu,Gv]at al;have ly:=al.len;have fk:(bU tt).length<=tt.length:=Hs _ _;have s1:=ag hp1 (.lst ys);have k1:upd H2 p1 (.lst ys) p1=some (.lst ys):=ae;have S3:=S2.same s1;have al1:=b_.mono s1 al;generalize upd H2 p1 (.lst ys)=H3 at s1 k1 S3 al1⊢;refine⟨_,rfl,_,_,_,rfl,S3.ins,jh (by decide +kernel),_,rfl,_,rfl,le2,λp2 hp2=>?_⟩;have s2:=ag hp2 (.tup [.str "plain",.str nm]);have k2:upd H3 p2 (.tup [.str "plain",.str nm]) p2=some (.tup [.str "plain",.str nm]):=ae;have S4:=S3.same s2;have k1':=s2 _ _ k1;have al2:=b_.mono s2 al1;generalize upd H3 p2 (.tup [.str "plain",.str nm])=H4 at s2 k2 S4 k1' al2⊢;refine⟨le1,λp3 hp3=>?_⟩;have s3:=ag hp3 (.lst [.ref p2]);have k3:upd H4 p3 (.lst [.ref p2]) p3=some (.lst [.ref p2]):=ae;have k2':=s3 _ _ k2;have k1':=s3 _ _ k1';have S5:=S4.same s3;have al3:=b_.mono s3 al2;generalize upd H4 p3 (.lst [.ref p2])=H5 at s3 k3 k2' k1' S5 al3⊢;refine⟨_,rfl,_,_,_,_,rfl,rfl,k3,k1',(by show 1+ys.length<=_;exact GR (aA (by omega))),λp4 hp4=>?_⟩;have s4:=ag hp4 (.lst ([.ref p2]++ys));have k4:upd H5 p4 (.lst ([.ref p2]++ys)) p4=some (.lst ([.ref p2]++ys)):=ae;have k2':=s4 _ _ k2';have S6:=S5.same s4;have al4:=b_.mono s4 al3;generalize upd H5 p4 (.lst ([.ref p2]++ys))=H6 at s4 k4 k2' S6 al4⊢;refine⟨_,rfl,le2,λp5 hp5=>?_⟩;have s5:=ag hp5 (.tup [.str "entry",.int (k:Int)]);have k5:upd H6 p5 (.tup [.str "entry",.int (k:Int)]) p5=some (.tup [.str "entry",.int (k:Int)]):=ae;have k2':=s5 _ _ k2';have k4':=s5 _ _ k4;have S7:=S6.same s5;have al5:=b_.mono s5 al4;generalize upd H6 p5 (.tup [.str "entry",.int (k:Int)])=H7 at s5 k5 k2' k4' S7 al5⊢;refine⟨le1,λp6 hp6=>?_⟩;have s6:=ag hp6 (.lst [.ref p5]);have k6:upd H7 p6 (.lst [.ref p5]) p6=some (.lst [.ref p5]):=ae;have k2':=s6 _ _ k2';have k4':=s6 _ _ k4';have k5':=s6 _ _ k5;have S8:=S7.same s6;have al6:=b_.mono s6 al5;generalize upd H7 p6 (.lst [.ref p5])=H8 at s6 k6 k2' k4' k5' S8 al6⊢;refine⟨_,_,_,_,rfl,rfl,k4',k6,(by rw[F7];show(1+ys.length)+1<=_;exact GR (aA (by omega))),λp7 hp7=>?_⟩;have s7:=ag hp7 (.lst ([.ref p2]++ys++[.ref p5]));have k7:upd H8 p7 (.lst ([.ref p2]++ys++[.ref p5])) p7=some (.lst (.ref p2::(ys++[.ref p5]))):=ae;have k2':=s7 _ _ k2';have k5':=s7 _ _ k5';have fr:=S8.fresh hp7;have S9:=S8.same s7;have al7:=b_.mono s7 al6;generalize upd H8 p7 (.lst ([.ref p2]++ys++[.ref p5]))=H9 at s7 k7 k2' k5' S9 al7⊢;have hws:du c k nm=(.plain,.str nm)::(bU tt++[(.entry,.int (k:Int))]):=by unfold du;rw[e2]
  have er2:gi c σ1 ld k (nm::c.nums.drop (k+1))=(match ca c σ1 ld false (du c k nm)with|.error x=>.error x|.ok s'=>gi c s' 1 (k+1) (c.nums.drop (k+1))):=by
   show(match ca c σ1 ld false (du c k nm)with|.error x=>_|.ok s'=>_)=_
   cases ca c σ1 ld false (du c k nm)with
   |error x=>rfl
   |ok p=>rfl
  refine⟨A,hid A.os H9,c,σ1,ld,p7,false,du c k nm,rfl,S9.re,so,?_,?_,?_,⟨bd1.ws,bd1.fs,?_⟩,λe he H' s'=>qe e (by rw[er,er2,he]) H' (S9.out.trans s'),λσ2 H' he S'=>?_⟩
  .rw[hws];exact uI S9.nt fr ⟨_,k7,⟨p2,rfl,k2'⟩,al7.snoc ⟨p5,rfl,k5'⟩⟩
  .rw[hws];intro w hw;rcases List.mem_cons.mp hw with rfl|hw
   .exact .inl ⟨(show Kw.plain≠Kw.entry by decide),nl,by omega,so.nc nl (by rw[<-hnl];exact Ge hnm),by rw[hnl]⟩
   .rcases List.mem_append.mp hw with hw|hw
    .exact ttw w (List.mem_filter.mp hw).1
    .rw[List.mem_singleton.mp hw];exact .inr ⟨rfl,k,rfl⟩
  .rw[hws];simp only[F8,F7,Gj];omega
  .rw[hws];simp only[F8,F7,Gj];have:=bd1.ms;omega
  .rw[he]at er2;refine⟨1,_,_,_,σ2,rfl,S'.base S9.out S.cl,er.trans er2,?_⟩;have h1:=sR (hm:=?_) he
   .exact⟨h1.1 bd1.ws,h1.2.1 bd1.fs,by rw[h1.2.2];exact bd1.ms⟩
   .rw[hws];intro w hw;rcases List.mem_cons.mp hw with rfl|hw
    .show Kw.plain≠Kw.mark;decide
    .rcases List.mem_append.mp hw with hw|hw
     .simpa using(List.mem_filter.mp hw).2
     .rw[List.mem_singleton.mp hw];show Kw.entry≠Kw.mark;decide
 rintro σ' H2 ⟨ld,v2,v3,v4,σ1,rfl,S1,er,_⟩;rw[F6,HG]at er;exact q _ _ er S1

def F0(c:Sc)(σ:Ss):Tg->Prop
 |.head _ _=>σ.hs.length<c.nums.length
 |.par ws=>(∀w∈ws,GWk w)/\ws.length<=600
 |_=>True
def pP(cls:Xc->Addr)(C:Addr):Sp:=λvs H Q E=>∃(A:Sad) (G:Hp) (c:Sc) (σ:Ss) (v:V) (t:Tg),vs=[.ref A.x,v]/\StA C G H A c σ/\kj c/\TgA G v t/\F0 c σ t/\σ.hs.length<=1000/\Bd σ 600/\(∀e,jn c σ t=.error e->∀H',aj G H'->E (.ref (cls e)) none H')/\∀σ' H',jn c σ t=.ok σ'->StA C G H' A c σ'->Q .non H'
theorem jD:aK ["self","thing","kind"] ["self","thing"] (au g_):=by walk_at "c"
theorem pQ(T:Txt P w K mg a):aX P w K mg base (CXe P w) 6 a.iq a.gP ["self","thing"] (pP (oz a.dH a.cY a.b7 a.cZ) a.aH):=by
 have fU:=T.fU;obtain⟨fU,k_LEAPS⟩:=fU;refine T.ii.fn.okE jD (λvs H Q E h=>?_) (λcdv A outer s H vs Q E hr h=>?_)
 .obtain⟨A,G,c,σ,v,t,rfl,_⟩:=h;rfl
 obtain⟨A,G,c,σ,v,t,rfl,S,so,tg,ok,hl,bd,qe,q⟩:=h;refine⟨_,(af (ay (i:=2) jD.nd rfl (Gm rfl) (aC aS (pv 1) ah (λ_ _=>rfl)))
   (ai (aI (aq vd (pv 2) (c6 (v:=.ref a.de) rfl fU rfl) (by with_unfolding_all rfl)) (ai (c8 (pv 0) (aF (qf rfl) rfl T.mE Jc (aa (bv (pv 0) rfl) (aa (xh (c6 (v:=.ref a.de) rfl fU rfl) (pv 2) (λ_ _=>rfl)) ac))) rfl)) (ai (aI (aq br (pv 2) ao (nomark _)) (ai (bf (dA fN T.aB T.iR (qV T) (hr.mono (by decide)) (pv 0) (aa (aF bA rfl T.bK PySem.boot_len (aa (bv (pv 0) rfl) ac)) ac)))) (ai (aI (aq br (pv 2) ao (nomark _)) (ai (bf (xl fN T.aB T.iS (qX T) (hr.mono (by decide)) (pv 0) ))) (ai (aI (cz (bv (pv 0) rfl) (λ_=>rfl)) (ai (bf (dA fN T.aB T.dI (fI T) (hr.mono (by decide)) (pv 0) (aa ah (aa (aC aS (pv 1) ah (λ_ _=>rfl)) (aa dh ac)))))) (ai (bf (dA fN T.aB T.dI (fI T) (hr.mono (by decide)) (pv 0) (aa ah (aa (aC aS (pv 1) ah (λ_ _=>rfl)) (aa dh ac))))))))))))))),?_⟩
 have bd2:Bd σ 200:=⟨bd.ws,bd.fs,by have:=bd.ms;omega⟩;have L1:cW gT (.inr "page")=some (.int 3):=rfl;have L2:cW gT (.inr "odd")=some (.int 4):=by
  unfold gT;rw[dW (λz=>by injection z with z;exact absurd z (by decide +kernel)),lj rfl]
 have L0:∀s:Str,¬ (s = "page")->¬ (s = "odd")->cW gT (.inr s)=none:=λs h1 h2=>by
  unfold gT;rw[dW (λz=>h1 (by injection z with z;exact z.symm)),dW (λz=>h2 (by injection z with z;exact z.symm))];rfl
 have put:∀n:Int,StA a.aH G (upd H A.x (.ins a.aH A.dx (fsS A (σ.fs:Int) (if n>σ.lp then n else σ.lp) σ.bh))) A c { σ with lp:=if σ.lp<n then n else σ.lp }:=λn=>S.flds σ.fs (if n>σ.lp then n else σ.lp) σ.bh;cases t with
 |page =>
  obtain⟨b,rfl,hb⟩:=tg;refine⟨_,rfl,_,_,_,_,rfl,rfl,SqT.of (S.old _ _ hb),rfl,?_⟩;refine⟨_,rfl,a.de,gT,.inr "page",rfl,k_LEAPS,rfl,_,rfl,?_⟩;rw[L1];refine aN ?_;refine⟨_,rfl,_,_,_,_,_,rfl,S.ins,T.aB.cl,T.cK,rZ,_,rfl,a.de,gT,.inr "page",_,rfl,k_LEAPS,rfl,L1,_,_,rfl,_,rfl,_,_,_,_,rfl,S.ins,T.aB.cl,T.cK,nT,?_⟩;rw[qw];exact q _ _ rfl (put 3)
 |odd =>
  obtain⟨b,rfl,hb⟩:=tg;refine⟨_,rfl,_,_,_,_,rfl,rfl,SqT.of (S.old _ _ hb),rfl,?_⟩;refine⟨_,rfl,a.de,gT,.inr "odd",rfl,k_LEAPS,rfl,_,rfl,?_⟩;rw[L2];refine aN ?_;refine⟨_,rfl,_,_,_,_,_,rfl,S.ins,T.aB.cl,T.cK,rZ,_,rfl,a.de,gT,.inr "odd",_,rfl,k_LEAPS,rfl,L2,_,_,rfl,_,rfl,_,_,_,_,rfl,S.ins,T.aB.cl,T.cK,nT,?_⟩;rw[qw];exact q _ _ rfl (put 4)
 |lst =>
  obtain⟨b,rfl,hb⟩:=tg;refine⟨_,rfl,_,_,_,_,rfl,rfl,SqT.of (S.old _ _ hb),rfl,?_⟩;refine⟨_,rfl,a.de,gT,.inr "list",rfl,k_LEAPS,rfl,_,rfl,?_⟩;rw[L0 _ (by decide +kernel) (by decide +kernel)];refine av ?_;refine⟨_,rfl,rfl,_,rfl,?_⟩;rw[decide_eq_false (λz=>absurd (V.str.inj z) (by decide +kernel))];refine av ?_;refine⟨_,rfl,rfl,_,rfl,?_⟩;rw[decide_eq_true rfl];refine aN ?_;exact⟨_,rfl,_,_,_,rfl,S.ins,jh (by decide +kernel),A,G,c,σ,rfl,S,so,bd2,qe,λσ' H' e S'=>q σ' H' e S'⟩
 |head n ws =>
  obtain⟨b,l,rfl,hb,hl2⟩:=tg;obtain⟨hvs,h2,h3⟩:=S.heads;have lh:=h3.len;refine⟨_,rfl,_,_,_,_,rfl,rfl,SqT.of (S.old _ _ hb),rfl,?_⟩;refine⟨_,rfl,a.de,gT,.inr "head",rfl,k_LEAPS,rfl,_,rfl,?_⟩;rw[L0 _ (by decide +kernel) (by decide +kernel)];refine av ?_;refine⟨_,rfl,rfl,_,rfl,?_⟩;rw[decide_eq_true rfl];refine aN ?_;refine⟨_,rfl,_,_,_,rfl,S.ins,jh (by decide +kernel),_,rfl,_,_,_,_,_,rfl,S.ins,T.aB.cl,T.dr,lA,_,_,rfl,.inl (SqL.of h2),?_⟩;rw[lh];exact⟨A,G,c,σ,σ.hs.length,rfl,S,so,ok,hl,bd2,qe,λσ' H' e S'=>q σ' H' e S'⟩
 |par ws =>
  obtain⟨b,l,rfl,hb,hl2⟩:=tg;refine⟨_,rfl,_,_,_,_,rfl,rfl,SqT.of (S.old _ _ hb),rfl,?_⟩;refine⟨_,rfl,a.de,gT,.inr "paragraph",rfl,k_LEAPS,rfl,_,rfl,?_⟩;rw[L0 _ (by decide +kernel) (by decide +kernel)];refine av ?_;refine⟨_,rfl,rfl,_,rfl,?_⟩;rw[decide_eq_false (λz=>absurd (V.str.inj z) (by decide +kernel))];refine av ?_;refine⟨_,rfl,rfl,_,rfl,?_⟩;rw[decide_eq_false (λz=>absurd (V.str.inj z) (by decide +kernel))];refine av ?_;refine⟨_,rfl,_,_,_,_,_,rfl,S.ins,T.aB.cl,T.dg,nS,_,rfl,?_⟩;have bd3:Bd σ ws.length:=⟨bd.ws,bd.fs,by have:=bd.ms;have:=ok.2;omega⟩;cases hb2:σ.bh with
  |true =>
   refine aN ?_;have e0:jn c σ (.par ws)=ca c σ 1 false ws:=by show ca c σ (if σ.bh then 1 else 2) false ws=_;rw[hb2];rfl
   exact⟨_,rfl,_,_,_,rfl,S.ins,jh (by decide +kernel),_,rfl,_,_,_,_,rfl,rfl,SqT.of (S.old _ _ hb),rfl,A,G,c,σ,1,l,false,ws,rfl,S,so,hl2,ok.1,ok.2,bd3,λe he H' s'=>qe e (by rw[e0];exact he) H' s',λσ' H' he S'=>q σ' H' (by rw[e0];exact he) S'⟩
  |false =>
   refine av ?_;have e0:jn c σ (.par ws)=ca c σ 2 false ws:=by show ca c σ (if σ.bh then 1 else 2) false ws=_;rw[hb2];rfl
   exact⟨_,rfl,_,_,_,rfl,S.ins,jh (by decide +kernel),_,rfl,_,_,_,_,rfl,rfl,SqT.of (S.old _ _ hb),rfl,A,G,c,σ,2,l,false,ws,rfl,S,so,hl2,ok.1,ok.2,bd3,λe he H' s'=>qe e (by rw[e0];exact he) H' s',λσ' H' he S'=>q σ' H' (by rw[e0];exact he) S'⟩
def pR(C:Addr):Sp:=λvs H Q _=>∃(A:Sad) (G:Hp) (c:Sc) (σ:Ss) (k:Nat),vs=[.ref A.x,.int (k:Int)]/\StA C G H A c σ/\Q (.str (f7 k "0" σ.hs)) H
theorem dB:aK ["self","k","number","text","at"] ["self","k"] (au hJ):=by walk_at "c"
theorem pS(T:Txt P w K mg a):aX P w K mg base CX0 1 a.io a.gN ["self","k"] (pR a.aH):=by
 refine T.ig.fn.ok dB (λvs H Q E h=>?_) (λcdv A outer s H vs Q E hr h=>?_)
 .obtain⟨A,G,c,σ,k,rfl,_⟩:=h;rfl
 obtain⟨A,G,c,σ,k,rfl,S,q⟩:=h;refine⟨_,(af (ay (i:=2) dB.nd rfl (Gm rfl) ao)
   (af (cc GS rfl (bj (bv (pv 0) rfl)) (dZ rfl (a7 (aM (i:=3) dB.nd rfl (Gm rfl)) (a7 (aM (i:=4) dB.nd rfl (Gm rfl)) dt))) (ai (aI (aq zc (pv 4) (pv 1) (nomark _)) (ai (ay (i:=2) dB.nd rfl (Gm rfl) (pv 3))) aE)))
   (ai (aJ (pv 2))))),?_⟩
 obtain⟨hvs,h2,h3⟩:=S.heads;have lh:=h3.len;refine⟨_,rfl,_,_,_,_,_,rfl,S.ins,T.aB.cl,T.dr,lA,A.ha,rfl,⟨_,SqL.of h2⟩,cg (K:=K) (a:=A.ha) (xs:=hvs) (λi σ' H2=>H2=H/\∃(n:Str) (v1 v2:Option V),σ'=[some (.ref A.x),some (.int (k:Int)),some (.str n),v1,v2]/\f7 k "0" σ.hs=f7 k n (σ.hs.drop i)) ⟨rfl,_,none,none,rfl,rfl⟩ (λi σ' H2 _ g=>by rw[g.1];exact SqL.of h2) ?_ ?_⟩
 .rintro i y σ' H2 hy ⟨rfl,n,v1,v2,rfl,en⟩;obtain⟨⟨t,at_⟩,hw,b,rfl,hb⟩:=h3.getL hy;have ed:σ.hs.drop i=(t,at_)::σ.hs.drop (i+1):=by
   obtain⟨hi,e⟩:=List.getElem?_eq_some_iff.mp hw;rw[GT hi,e]
  rw[ed]at en;have hb2:=bN _ _ hb;refine⟨b,_,rfl,SqT.of hb2,rfl,_,_,rfl,_,_,rfl,rfl,?_⟩;refine⟨_,rfl,_,rfl,_,_,rfl,rfl,_,rfl,?_⟩;by_cases c1:at_<=k
  .rw[decide_eq_true (show((at_:Nat):Int)<=(k:Int) by omega)];refine aN ?_;refine⟨_,rfl,rfl,_,_,_,rfl,?_⟩;rw[en];show f7 k (if at_<=k then t else n) _=_;rw[if_pos c1]
  .rw[decide_eq_false (show ¬ (((at_:Nat):Int)<=(k:Int)) by omega)];refine av ?_;refine⟨rfl,_,_,_,rfl,?_⟩;rw[en];show f7 k (if at_<=k then t else n) _=_;rw[if_neg c1]
 rintro σ' H2 ⟨rfl,n,v1,v2,rfl,en⟩;rw[lh,HG]at en;exact⟨_,rfl,by rw[show n=f7 k "0" σ.hs from en.symm];exact q⟩
def pT(K:PySem.W.Frag)(C:Addr):Sp:=λvs H Q _=>∃(A:Sad) (G:Hp) (c:Sc) (σ:Ss) (w:Addr) (wk:Wk),vs=[.ref A.x,.ref w]/\StA C G H A c σ/\WkA H (.ref w) wk/\kQ σ wk/\∀p H' x y,H p=none->H'=upd H p (.tup [x,y])->lB σ wk=(x,y)->Q (.ref p) H'
theorem gy:aK ["self","word","kind","rest"] ["self","word"] (au hU):=by walk_at "c"
theorem jE(T:Txt P w K mg a):aX P w K mg base CX0 2 a.ip a.gO ["self","word"] (pT K a.aH):=by
 refine T.fq.fn.ok gy (λvs H Q E h=>?_) (λcdv A outer s H vs Q E hr h=>?_)
 .obtain⟨A,G,c,σ,w,wk,rfl,_⟩:=h;rfl
 obtain⟨A,G,c,σ,w,wk,rfl,S,hw,ok,q⟩:=h;refine⟨_,(af (ay (i:=2) gy.nd rfl (Gm rfl) (aC aS (pv 1) ah (λ_ _=>rfl)))
   (af (ay (i:=3) gy.nd rfl (Gm rfl) (aC aS (pv 1) ah (λ_ _=>rfl)))
   (af (aI (aq br (pv 2) ao (nomark _)) (ai (aJ (aY (aa ao (aa (pv 3) ac))))) aE)
   (af (aI (aq br (pv 2) ao (nomark _)) (ai (aJ (aY (aa ao (aa (aC aS (aC bF (bv (pv 0) rfl) (pv 3) (λ_ _=>rfl)) ah (λ_ _=>rfl)) ac))))) aE)
   (af (aI (aq br (pv 2) ao (nomark _)) (ai (aJ (aY (aa ao (aa (dA eR T.aB T.ig (pS T) (hr.mono (by decide)) (pv 0) (aa (le (fe hr) (bv (pv 0) rfl) (pv 3) (λ_ _=>rfl)) ac)) ac))))) aE)
   (ai (aJ (aY (aa (pv 2) (aa (le (fe hr) (bv (pv 0) rfl) (pv 3) (λ_ _=>rfl)) ac)))))))))),?_⟩
 obtain⟨wb,e1,hb⟩:=hw;injection e1 with e1;subst e1;obtain⟨kd,v⟩:=wk;refine⟨_,rfl,_,_,_,_,rfl,rfl,SqT.of hb,rfl,?_⟩;refine⟨_,rfl,_,_,_,_,rfl,rfl,SqT.of hb,rfl,?_⟩;refine⟨_,rfl,rfl,_,rfl,?_⟩;rcases ok with⟨hk,n,hn⟩|⟨hk,k,hn,kl⟩|⟨hk,n,k,hn,km⟩<;>dsimp only at hk hn<;>subst hn
 .rw[decide_eq_true (by rw[hk];rfl)];refine aN ?_;exact⟨_,rfl,le2,λp1 hp1=>q p1 _ _ _ hp1 rfl (by rw[hk];rfl)⟩
 .rw[decide_eq_false (show ¬ (V.str kd.s=V.str "plain") by rw[hk];exact λz=>absurd (Kw.inj (b:=.plain) (V.str.inj z)) (by decide))];refine av ?_;refine⟨_,rfl,rfl,_,rfl,?_⟩;rw[decide_eq_true (by rw[hk];rfl)];refine aN ?_;obtain⟨hvs,h2,h3⟩:=S.heads;obtain⟨⟨t,at_⟩,hw⟩:∃h,σ.hs[k]?=some h:=⟨σ.hs[k],Ga kl⟩;obtain⟨v,hv,b,rfl,hb2⟩:=h3.getR hw;refine⟨_,rfl,_,_,_,_,_,rfl,S.ins,T.aB.cl,T.dr,lA,_,rfl,_,_,_,_,rfl,rfl,SqL.of h2,cp hv,_,_,_,_,rfl,rfl,SqT.of (bN _ _ hb2),rfl,le2,λp2 hp2=>q p2 _ _ _ hp2 rfl ?_⟩
  .skip
   rw[hk];show(V.str "page",V.int (((σ.hs.getD (HV (k:Int)) (Hk,0)).2:Nat):Int))=_;rw[IW,Gu,hw];rfl
 .have n1:¬ (V.str kd.s=V.str "plain"):=λz=>by rw[Kw.inj (b:=.plain) (V.str.inj z)]at hk;cases hk
  have n2:¬ (V.str kd.s=V.str "entry"):=λz=>by rw[Kw.inj (b:=.entry) (V.str.inj z)]at hk;cases hk
  rw[decide_eq_false n1];refine av ?_;refine⟨_,rfl,rfl,_,rfl,?_⟩;rw[decide_eq_false n2];refine av ?_;refine⟨_,rfl,rfl,_,rfl,?_⟩;have hg:eW H A.ma (kV (.inr (tx n))) (some (.int (k:Int))):=by
   have:=eW.k (k:=.inr (tx n)) S.marks;rw[jM,km]at this;exact this
  have em:jw σ (rest (.str (tx n)))=k:=by unfold jw;show(lkS (tx n) σ.ms).getD 0=k;rw[km];rfl
  by_cases h3:kd=.number
  .rw[decide_eq_true (by rw[h3];rfl)];refine aN ?_;refine⟨_,rfl,_,_,_,rfl,S.ins,jh (by decide +kernel),_,rfl,_,_,_,_,_,rfl,S.ins,T.aB.cl,T.cB,jg,_,rfl,_,_,rfl,hg,A,G,c,σ,k,rfl,S,le2,λp3 hp3=>q p3 _ _ _ hp3 rfl ?_⟩
   .skip
    rw[h3];show(V.str "text",V.str (f7 (jw σ (rest (.str (tx n)))) "0" σ.hs))=_;rw[em]
  .rw[decide_eq_false (show ¬ (V.str kd.s=V.str "number")from λz=>h3 (Kw.inj (b:=.number) (V.str.inj z)))];refine av ?_;refine⟨_,rfl,_,rfl,_,_,_,_,_,rfl,S.ins,T.aB.cl,T.cB,jg,_,rfl,_,_,rfl,hg,le2,λp4 hp4=>q p4 _ _ _ hp4 rfl ?_⟩
   .skip
    cases hk1:kd with
    |page=>show(V.str "page",V.int ((jw σ (rest (.str (tx n))):Nat):Int))=_;rw[em];rfl
    |row=>show(V.str "row",V.int ((jw σ (rest (.str (tx n))):Nat):Int))=_;rw[em];rfl
    |number=>exact absurd hk1 h3
    |plain=>rw[hk1]at hk;cases hk
    |mark=>rw[hk1]at hk;cases hk
    |foot=>rw[hk1]at hk;cases hk
    |entry=>rw[hk1]at hk;cases hk
def oP(C:Addr):Sp:=λvs H Q _=>∃(A:Sad) (G:Hp) (c:Sc) (σ:Ss),vs=[.ref A.x]/\StA C G H A c σ/\CS σ/\σ.ws.length<=400/\∀p H' us fs,aj H H'->kR H H' σ p us fs->Q (.ref p) H'
theorem cJ:aK ["self","told","lead","kept","word","foot"] ["self"] (au gu):=by walk_at "c"
theorem oQ(T:Txt P w K mg a):aX P w K mg base CX0 3 a.gI a.gf ["self"] (oP a.aH):=by
 refine T.gF.fn.ok cJ (λvs H Q E h=>?_) (λcdv A outer s H vs Q E hr h=>?_)
 .obtain⟨A,G,c,σ,rfl,_⟩:=h;rfl
 obtain⟨A,G,c,σ,rfl,S,ok,wl,q⟩:=h;refine⟨_,(af (ay (i:=1) cJ.nd rfl (Gm rfl) (bi ac))
   (af (cc GS rfl (bj (bv (pv 0) rfl)) (dZ rfl (a7 (aM (i:=2) cJ.nd rfl (Gm rfl)) (a7 (aM (i:=3) cJ.nd rfl (Gm rfl)) (a7 (aM (i:=4) cJ.nd rfl (Gm rfl)) (a7 (aM (i:=5) cJ.nd rfl (Gm rfl)) dt))))) (ai (bf (cq PySem.F.plainAttrs_list PySem.F.slot_list_append PySem.F.type_list_append bZ (pv 1) (aa (aY (aa (pv 2) (aa (pv 3) (aa (dA eR T.aB T.fq (jE T) (hr.mono (by decide)) (pv 0) (aa (pv 4) ac)) (aa (fG rfl (d_ (caps:=["self"]) (js:=[0]) (cap:=⟨⟨rfl,.inl rfl,rfl,.inl rfl⟩,trivial⟩)) (bj (pv 5)) (λ_ _ _ _=>dD) (λ_ _ _ _=>(dA eR T.aB T.fq (jE T) (hr.mono (by decide)) (pv 1) (aa (pv 0) ac)))) ac))))) ac)))))
   (ai (aJ (pv 1))))),?_⟩
 obtain⟨wvs,w2,w3⟩:=S.words;have lw:=w3.len;refine⟨aQ (by simp),λp1 hp1=>?_⟩;have s1:=ag hp1 (.lst []);have k1:upd H p1 (.lst []) p1=some (.lst []):=ae;generalize upd H p1 (.lst [])=H1 at s1 k1⊢;have S1:=S.same s1;refine⟨_,rfl,_,_,_,_,_,rfl,S1.ins,T.aB.cl,T.cC,jf,A.wa,rfl,⟨_,SqL.of (s1 _ _ w2)⟩,cg (K:=K) (a:=A.wa) (xs:=wvs) (λi σ' G'=>∃(v2 v3 v4 v5:Option V) (us:List V) (fs:List Addr),σ'=[some (.ref A.x),some (.ref p1),v2,v3,v4,v5]/\aj H G'/\G' p1=some (.lst us)/\fs.length=i/\fs.Nodup/\(∀f∈fs,H f=none/\f≠p1/\G' f≠none)/\aL (TwA σ (hid [p1] G')) us ((σ.ws.take i).zip fs)) ⟨none,none,none,none,[],[],rfl,s1,k1,rfl,List.nodup_nil,(by simp),trivial⟩ (λi σ' G' _ g=>by obtain⟨_,_,_,_,_,_,_,m,_⟩:=g;exact SqL.of (m _ _ w2)) ?_ ?_⟩
 .rintro i y σ' G1 hy ⟨v2,v3,v4,v5,us,fs,rfl,m,g1,fl,nd,fr,al⟩;obtain⟨t,ht,ta,wa',fa',rfl,h1,h2,h3⟩:=w3.getL hy;have hi:=(List.getElem?_eq_some_iff.mp ht).1;have h1:=m _ _ (bN _ _ h1);have h2:=(h2.mono bN).mono m;obtain⟨fu,h3,h4⟩:=(h3.mono bN).mono m;obtain⟨ok1,ok2,ok3⟩:=ok t (Ge ht);have lu:=al.len;rw[List.length_zip,GD]at lu;have lf:=h4.len;refine⟨ta,_,rfl,SqT.of h1,rfl,_,_,rfl,_,_,rfl,_,_,rfl,_,_,rfl,rfl,?_⟩;have Sg:=S.same m;refine⟨_,rfl,.inl ⟨rfl,_,SqL.of g1⟩,_,rfl,_,rfl,_,rfl,_,_,_,rfl,Sg.ins,jh (by decide +kernel),_,rfl,A,G,c,σ,wa',t.w,rfl,Sg,h2,ok1,λps G2 x y hps e es=>?_⟩;have s2:aj G1 G2:=by rw[e];exact ag hps _
  have ks:G2 ps=some (.tup [x,y]):=by rw[e];exact ae
  clear e;have m2:=m.trans s2;have Sg2:=S.same m2;refine⟨_,rfl,fa',rfl,⟨_,SqL.of (s2 _ _ h3)⟩,dF (K:=K) (a:=fa') (xs:=fu) (λj ys G3=>aj G2 G3/\ys.length=j/\aL (SyA (hid [p1] G3)) ys ((t.foot.take j).map (lB σ))) ⟨aj.refl _,rfl,trivial⟩ (λj ys G3 _ z=>SqL.of ((s2.trans z.1) _ _ h3)) ?_ ?_ ?_⟩
  .rintro j ys G3 hj ⟨_,z,_⟩;exact aA (by omega)
  .rintro j y' ys G3 hy' ⟨m3,z,al3⟩;obtain⟨w,hw,wb,rfl,hwb⟩:=h4.getL hy';refine d3 ?_;have Sg3:=Sg2.same m3;refine⟨_,rfl,_,_,_,rfl,Sg3.ins,jh (by decide +kernel),_,rfl,A,G,c,σ,wb,w,rfl,Sg3,⟨wb,rfl,(s2.trans m3) _ _ hwb⟩,ok3 w (Ge hw),λpq G4 x' y'' hpq e' es'=>?_⟩;have s4:aj G3 G4:=by rw[e'];exact ag hpq _
   have kq:G4 pq=some (.tup [x',y'']):=by rw[e'];exact ae
   have np:pq≠p1:=λzz=>by rw[zz,(s2.trans m3) _ _ g1]at hpq;cases hpq
   refine⟨m3.trans s4,by rw[F7,z];rfl,?_⟩;rw[aV hw,Gg];refine(al3.imp λ_ _=>SyA.mono (bb s4)).snoc ⟨pq,rfl,?_⟩;rw[es'];exact bn (by simpa using np) kq
  rintro ys G3 ⟨m3,z,al3⟩ pl hpl;rw[lf,Gv]at al3;have s4:=ag hpl (.lst ys);have k4:upd G3 pl (.lst ys) pl=some (.lst ys):=ae;have npl:pl≠p1:=λzz=>by rw[zz,(s2.trans m3) _ _ g1]at hpl;cases hpl
  have nps:ps≠p1:=λzz=>by rw[zz,g1]at hps;cases hps
  have hHpl:H pl=none:=(m2.trans m3).free hpl;have nfs:pl∉fs:=λzz=>by
   have:=(fr pl zz).2.2;exact this (by cases e:G1 pl with|none=>rfl|some u=>rw[(s2.trans m3) _ _ e]at hpl;cases hpl)
  generalize upd G3 pl (.lst ys)=G4 at s4 k4⊢;have m4:=(m2.trans m3).trans s4;have g14:=(s2.trans m3).trans s4;refine⟨le4,λpt hpt=>?_⟩;have s5:=ag hpt (.tup [.int t.lead,.bl t.kept,.ref ps,.ref pl]);have k5:upd G4 pt (.tup [.int t.lead,.bl t.kept,.ref ps,.ref pl]) pt=some (.tup [.int t.lead,.bl t.kept,.ref ps,.ref pl]):=ae;have npt:pt≠p1:=λzz=>by rw[zz,g14 _ _ g1]at hpt;cases hpt
  generalize upd G4 pt (.tup [.int t.lead,.bl t.kept,.ref ps,.ref pl])=G5 at s5 k5⊢;have m5:=m4.trans s5;have g15:=g14.trans s5;refine⟨_,_,_,rfl,rfl,g15 _ _ g1,aA (by omega),?_⟩;refine⟨_,_,_,_,us++[.ref pt],fs++[pl],rfl,aW m5 hp1,ae,by rw[F7,fl];rfl,?_,?_,?_⟩
  .rw[Iq];refine⟨nd,by simp,λx hx y hy=>?_⟩;rw[List.mem_singleton.mp hy];exact λzz=>nfs (by rw[<-zz];exact hx)
  .intro f hf;rcases List.mem_append.mp hf with hf|hf
   .obtain⟨r1,r2,r3⟩:=fr f hf;refine⟨r1,r2,λzz=>r3 ?_⟩;rw[ak r2]at zz;exact g15.free zz
   .rw[List.mem_singleton.mp hf];refine⟨hHpl,npl,λzz=>?_⟩;rw[ak npl,s5 _ _ k4]at zz;cases zz
  .rw[bw (by simp),aV ht,List.zip_append (by rw[GD,fl];omega)];have g5:=bb (os:=[p1]) g15;refine(al.imp λ_ _=>TwA.mono g5).snoc ⟨pt,ps,ys,rfl,bn (by simpa using npt) k5,⟨ps,rfl,?_⟩,bn (by simpa using npl) (s5 _ _ k4),al3.imp λ_ _=>SyA.mono (bb (s4.trans s5))⟩;dsimp only;rw[es];exact bn (by simpa using nps) ((m3.trans (s4.trans s5)) _ _ ks)
 rintro σ' G1 ⟨v2,v3,v4,v5,us,fs,rfl,m,g1,fl,nd,fr,al⟩;rw[lw,Gv]at al;exact⟨_,rfl,q p1 _ us fs m ⟨g1,hp1,fl.trans lw,nd,λf hf=>⟨(fr f hf).1,(fr f hf).2.1⟩,al⟩⟩

theorem DL(p0 p1 p2:Addr):bQ "going_on" (V.bl false) (bQ "things" (V.ref p2) (bQ "feet" (V.ref p1) (bQ "shorts" (V.ref p0) [])))=([("shorts",V.ref p0),("feet",V.ref p1),("things",V.ref p2),("going_on",V.bl false)]:List (Str×V)):=by
 rw[show bQ "shorts" (V.ref p0) []=([("shorts",V.ref p0)]:List (Str×V))from rfl];rw[oF (l:=([("shorts",V.ref p0)]:List (Str×V))) (by show([("shorts" : Str)]:List Str).all (λm=>m != "feet")=true;decide +kernel)];rw[oF (l:=([("shorts",V.ref p0)]:List (Str×V))++([("feet",V.ref p1)]:List (Str×V))) (by show([("shorts" : Str),("feet" : Str)]:List Str).all (λm=>m != "things")=true;decide +kernel)];rw[oF (l:=([("shorts",V.ref p0)]:List (Str×V))++([("feet",V.ref p1)]:List (Str×V))++([("things",V.ref p2)]:List (Str×V))) (by show([("shorts" : Str),("feet" : Str),("things" : Str)]:List Str).all (λm=>m != "going_on")=true;decide +kernel)];rfl

def uR(C:Addr):Sp:=λvs H Q _=>∃(x dx:Addr),vs=[.ref x]/\H x=some (.ins C dx [])/\∀H',(∀H0,aj H0 H->H0 x=none->RdA C H0 H' x rs0)->FrX H H' x->Q .non H'
theorem uS:aK ["self"] ["self"] (au kx):=by walk_at "c"
theorem uT(T:Txt P w K mg a):aX P w K mg base CX0 1 a.kE a.jQ ["self"] (uR a.bJ):=by
 refine T.kC.fn.ok uS (λvs H Q E h=>?_) (λcdv A outer s H vs Q E hr h=>?_)
 .obtain⟨x,dx,rfl,_⟩:=h;rfl
 obtain⟨x,dx,rfl,hx,q⟩:=h;refine⟨_,(af (c8 (pv 0) (bi ac) rfl)
   (af (c8 (pv 0) wY rfl)
   (af (c8 (pv 0) (bi ac) rfl)
   (ai (c8 (pv 0) dh rfl))))),?_⟩
 have k:=hx;have f:FrX H H x:=FrX.refl;have l:([]:List (Str×V)).length<=0:=Gh _;refine⟨aQ (by simp),λp0 hp0=>?_⟩;obtain⟨H1,eH,b0,w0⟩:=nZ (.lst []) hp0;rw[eH];have e0:=f.free k hp0;have f:=f.same w0;have k:=w0 _ _ k;have a0:=b0;have d0:p0≠x:=λz=>by rw[z,k]at a0;cases a0
 refine⟨_,rfl,_,_,_,_,rfl,k,T.bG.cl,T.jk,Go l (by decide),?_⟩;obtain⟨H2,L0,eH,g0,l,k,r⟩:=fR "shorts" (V.ref p0) k l;rw[eH];have f:=jO f r;have a0:=r _ _ d0 a0;intro p1 hp1;obtain⟨H3,eH,b1,w1⟩:=nZ (.dK []) hp1;rw[eH];have e1:=f.free k hp1;have d0_1:p0≠p1:=eI a0 hp1;have f:=f.same w1;have k:=w1 _ _ k;have a0:=w1 _ _ a0;have a1:=b1;have d1:p1≠x:=λz=>by rw[z,k]at a1;cases a1
 refine⟨_,rfl,_,_,_,_,rfl,k,T.bG.cl,T.fV,Go l (by decide),?_⟩;obtain⟨H4,L1,eH,g1,l,k,r⟩:=fR "feet" (V.ref p1) k l;rw[eH];have f:=jO f r;have a0:=r _ _ d0 a0;have a1:=r _ _ d1 a1;refine⟨aQ (by simp),λp2 hp2=>?_⟩;obtain⟨H5,eH,b2,w2⟩:=nZ (.lst []) hp2;rw[eH];have e2:=f.free k hp2;have d0_2:p0≠p2:=eI a0 hp2;have d1_2:p1≠p2:=eI a1 hp2;have f:=f.same w2;have k:=w2 _ _ k;have a0:=w2 _ _ a0;have a1:=w2 _ _ a1;have a2:=b2;have d2:p2≠x:=λz=>by rw[z,k]at a2;cases a2
 refine⟨_,rfl,_,_,_,_,rfl,k,T.bG.cl,T.eP,Go l (by decide),?_⟩;obtain⟨H6,L2,eH,g2,l,k,r⟩:=fR "things" (V.ref p2) k l;rw[eH];have f:=jO f r;have a0:=r _ _ d0 a0;have a1:=r _ _ d1 a1;have a2:=r _ _ d2 a2;refine⟨_,rfl,_,_,_,_,rfl,k,T.bG.cl,T.df,Go l (by decide),?_⟩;obtain⟨H7,L3,eH,g3,l,k,r⟩:=fR "going_on" (V.bl false) k l;rw[eH];have f:=jO f r;have a0:=r _ _ d0 a0;have a1:=r _ _ d1 a1;have a2:=r _ _ d2 a2;have eL:L3=([("shorts",V.ref p0),("feet",V.ref p1),("things",V.ref p2),("going_on",V.bl false)]:List (Str×V)):=by rw[<-g3,<-g2,<-g1,<-g0];exact DL p0 p1 p2
 rw[eL]at k;exact q _ (λH0 m hx0=>⟨f.old m hx0,dx,p0,p1,p2,p2,[],[],k,bn (by simp;exact⟨d0,d0_1,d0_2⟩) a0,a1,a2,⟨hx0,m.free e1,m.free e2,m.free e2⟩,trivial,.inl ⟨rfl,rfl,trivial⟩⟩) f
def pU(C:Addr):Sp:=λvs H Q _=>∃(r:Addr) (v:V) (H0 H1:Hp) (s:Rs) (t:Tg),vs=[.ref r,v]/\RdA C H0 H1 r s/\aj H1 H/\TgN H1 H v t/\s.things.length<=200/\∀H',RdA C H0 H' r { s with things:=s.things++[t],g:=false }->(∀dx sa fa ta vs g,H1 r=some (.ins C dx (fsR sa fa ta g))->H1 ta=some (.lst vs)->H'=upd (upd H ta (.lst (vs++[v]))) r (.ins C dx (fsR sa fa ta false)))->Q .non H'
theorem pV:aK ["self","thing"] ["self","thing"] (au hV):=by walk_at "c"
theorem gz(T:Txt P w K mg a):aX P w K mg base CX0 1 a.ij a.gJ ["self","thing"] (pU a.bJ):=by
 refine T.dN.fn.ok pV (λvs H Q E h=>?_) (λcdv A outer s H vs Q E hr h=>?_)
 .obtain⟨r,v,H0,H1,s,t,rfl,_⟩:=h;rfl
 obtain⟨r,v,H0,H1,s,t,rfl,R,m,tn,sl,q⟩:=h;refine⟨_,(af (bf (cq PySem.F.plainAttrs_list PySem.F.slot_list_append PySem.F.type_list_append bZ (bv (pv 0) rfl) (aa (pv 1) ac)))
   (ai (c8 (pv 0) dh rfl))),?_⟩
 obtain⟨dx,sa,fa,ta,kvs,vs,h1,h2,h3,h4,lv,lf,fn,put,_⟩:=R.use;have ne:r≠ta:=λz=>by rw[z,h4]at h1;cases h1
 refine⟨_,rfl,_,_,_,_,_,rfl,m _ _ h1,T.bG.cl,T.eP,qt,.inl ⟨rfl,_,SqL.of (m _ _ h4)⟩,_,rfl,_,_,_,rfl,rfl,m _ _ h4,aA (by omega),?_⟩;refine⟨_,rfl,_,_,_,_,rfl,(by rw[ak ne];exact m _ _ h1),T.bG.cl,T.df,uE,?_⟩;rw[qu];refine q _ (put H v t m tn) λdx' sa' fa' ta' vs' g' e1 e2=>?_;rw[h1]at e1;injection e1 with e1;injection e1 with _ f1 f2;obtain⟨rfl,rfl,rfl,rfl⟩:=Dw f2;subst f1;rw[h4]at e2;injection e2 with e2;injection e2 with e2;rw[e2]
def oR(K:PySem.W.Frag)(C:Addr):Sp:=λvs H Q _=>∃(r la:Addr) (H0:Hp) (s:Rs) (w:List Nat) (rw:Rw),vs=[.ref r,.ref la]/\RdA C H0 H r s/\SqL K H la [.str (tx w)]/\CT w rw/\s.things.length<=200/\∀H',RdA C H0 H' r (bT s rw)->Q .non H'
theorem jy:aK ["self","words","first"] ["self","words"] (au gv):=by walk_at "c"
theorem oS(T:Txt P w K mg a):aX P w K mg base CX0 2 a.gG a.gc ["self","words"] (oR K a.bJ):=by
 refine T.gD.fn.ok jy (λvs H Q E h=>?_) (λcdv A outer s H vs Q E hr h=>?_)
 .obtain⟨r,la,H0,s,w,rw,rfl,_⟩:=h;rfl
 obtain⟨r,la,H0,s,w,rw,rfl,R,hl,al,sl,q⟩:=h;refine⟨_,(af (ay (i:=2) jy.nd rfl (Gm rfl) (aC bF (pv 1) ah (λ_ _=>rfl)))
   (af (aI (aq kN (aF bA rfl T.bK PySem.boot_len (aa (pv 1) ac)) ah (nomark _)) (ai fY) aE)
   (ai (bf (dA eR T.bG T.dN (gz T) (hr.mono (by decide)) (pv 0) (aa (aY (aa (dC jY (pv 2) (dS ah) eZ) ac)) ac)))))),?_⟩
 refine⟨_,rfl,_,_,_,_,rfl,rfl,hl,rfl,?_⟩;refine⟨_,rfl,_,_,rfl,.inl hl,_,_,rfl,rfl,_,rfl,?_⟩;refine av ?_;dsimp only[cT];obtain⟨dx,sa,fa,ta,kvs,vs,h1,_⟩:=R.use;refine⟨_,rfl,_,_,_,rfl,h1,mJ (by decide +kernel),_,rfl,_,rfl,_,rfl,(by rcases al with⟨rfl,_⟩|⟨rfl,_⟩|⟨rfl,_⟩<;>exact aQ (by decide)),le1,λp1 hp1=>?_⟩
 rcases al with⟨rfl,rfl⟩|⟨rfl,rfl⟩|⟨rfl,rfl⟩
 .exact⟨r,.ref p1,H0,H,s,.page,rfl,R,ag hp1 _,⟨p1,rfl,by rw[fB];exact ae⟩,sl,λH' R' _=>q H' R'⟩
 .exact⟨r,.ref p1,H0,H,s,.odd,rfl,R,ag hp1 _,⟨p1,rfl,by rw[fB];exact ae⟩,sl,λH' R' _=>q H' R'⟩
 .exact⟨r,.ref p1,H0,H,s,.lst,rfl,R,ag hp1 _,⟨p1,rfl,by rw[fB];exact ae⟩,sl,λH' R' _=>q H' R'⟩
def zP:Sp:=λvs H Q _=>∃l:List Nat,vs=[.str (tx l)]/\l.length<=1000/\∀H',aj H H'->Q (.bl (bO l)) H'
theorem zQ:aK ["word"] ["word"] (au qE):=by walk_at "c"
theorem oT(T:Txt P w K mg a):aX P w K mg base CX0 1 a.rz a.pB ["word"] zP:=by
 have eC:=T.eC;have dP:=T.dP;have cw:=T.cw;obtain⟨t_FIGURES,eC⟩:=eC;obtain⟨t_LETTERS,dP⟩:=dP;obtain⟨t_LONGEST_NAME,cw⟩:=cw;refine T.j_.fn.ok zQ (λvs H Q E h=>?_) (λcdv A outer s H vs Q E hr h=>?_)
 .obtain⟨l,rfl,_⟩:=h;rfl
 obtain⟨l,rfl,hl,q⟩:=h;refine⟨_,(af (aI (PW.pt (dR (aq br (pv 0) ao (nomark _)) (fb (aq kN (aF dm rfl T.bK PySem.boot_len (aa (pv 0) ac)) (c6 (v:=.int 12) rfl cw ⟨_,rfl⟩) (nomark _))))) (ai (aJ dh)) aE)
   (ai (aJ (jV (fK jW (aC eK (pv 0) ah (λ_ _=>rfl)) (c6 (v:=.str (PySem.Str.ofString "abcdefghijklmnopqrstuvwxyz")) rfl dP ⟨_,rfl⟩) (by with_unfolding_all rfl)) (jU (aF (B1 rfl) rfl T.sh PyProof.Rows.boot_all (aa (fG rfl (d_ (caps:=[]) (js:=[]) (cap:=trivial)) (AF (pv 0)) (λ_ _ _ _=>dD) (λ_ _ _ _=>(E3 (fK jW (pv 0) (c6 (v:=.str (PySem.Str.ofString "abcdefghijklmnopqrstuvwxyz")) rfl dP ⟨_,rfl⟩) (by with_unfolding_all rfl)) (jU (fK jW (pv 0) (c6 (v:=.str (PySem.Str.ofString "0123456789")) rfl eC ⟨_,rfl⟩) (by with_unfolding_all rfl)))))) ac))))))),?_⟩
 refine⟨_,rfl,rfl,_,rfl,?_⟩;cases l with
 |nil =>
  rw[xu];refine aN ?_;refine aN ?_;exact q H (aj.refl _)
 |cons c r =>
  rw[xr];refine av ?_;refine⟨_,rfl,_,rfl,aQ (by rw[aZ];exact hl),_,_,rfl,rfl,_,rfl,?_⟩;rw[aZ];refine dX (λh=>?_) (λh=>?_)
  .have h2:¬ (c::r).length<=12:=by have:=of_decide_eq_true h;omega
   have:=q H (aj.refl _);rw[vh h2]at this;exact this
  .have h2:(c::r).length<=12:=by
    refine Iz λz=>h (decide_eq_true ?_);omega
   rw[oC h2]at q;refine⟨_,rfl,_,_,c,rfl,rfl,aQ (by rw[aZ];exact hl),iE c r,_,_,rfl,rfl,_,rfl,?_⟩;rw[A6];cases hc:isL c with
   |false =>
    rw[hc]at q;refine av ?_;exact q H (aj.refl _)
   |true =>
    rw[hc]at q;refine aN ?_;refine⟨_,rfl,_,rfl,Eg (x:=tx (c::r)) (λi ys H2=>H2=H/\ys=(((c::r).take i).map λd=>isL d||isF d).map V.bl) ⟨rfl,rfl⟩ ?_ ?_ ?_⟩
    .rintro i ys H2 hi ⟨rfl,rfl⟩;rw[F6,F6,GD];exact Go (show _<=12 by omega) (aA (by omega))
    .rintro i d ys H2 hd ⟨rfl,rfl⟩;rw[AI]at hd;refine d3 ?_;refine⟨_,rfl,_,_,rfl,rfl,_,rfl,?_⟩;rw[A6,HA,hd];cases h3:isL d with
     |true =>
      refine aN ?_;refine⟨rfl,?_⟩;simp[h3]
     |false =>
      refine av ?_;refine⟨_,rfl,_,_,rfl,rfl,?_⟩;rw[A7];refine⟨rfl,?_⟩;simp[h3]
    .rintro ys H2 ⟨rfl,rfl⟩ p hp;rw[yK,Hh (Gh _)];refine⟨_,_,rfl,SqL.of ae,?_⟩;rw[Ev];have:=q _ (ag hp (.lst ((((c::r)).map λd=>isL d||isF d).map V.bl)));rw[Jk]at this;exact this
def zR:Sp:=λvs H Q _=>∃(c:Nat) (r:List Nat),vs=[.str (tx (c::r))]/\r.length<=900/\∀p H',H p=none->aj H H'->H' p=some (.tup [.str (PySem.Str.ofString (kT (c::r)).1),.str (tx (kT (c::r)).2)])->Q (.ref p) H'
theorem oU:aK ["word","first","rest"] ["word"] (au qF):=by walk_at "c"
theorem zS(T:Txt P w K mg a):aX P w K mg base CX0 2 a.rA a.pC ["word"] zR:=by
 have fT:=T.fT;obtain⟨fT,k_KINDS⟩:=fT;refine T.rb.fn.ok oU (λvs H Q E h=>?_) (λcdv A outer s H vs Q E hr h=>?_)
 .obtain⟨c,r,rfl,_⟩:=h;rfl
 obtain⟨c,r,rfl,hl,q⟩:=h;refine⟨_,(af (ay (i:=1) oU.nd rfl (Gm rfl) (dC jY (pv 0) eZ (dS ah)))
   (af (ay (i:=2) oU.nd rfl (Gm rfl) (dC jY (pv 0) (dS ah) eZ))
   (af (aI (PW.pt (gh (aq vd (pv 1) (c6 (v:=.ref a.e9) rfl fT rfl) (by with_unfolding_all rfl)) (eD (cz (aD T.j_ (oT T) (hr.mono (by decide)) rfl (aa (pv 2) ac)) (λ_=>rfl))))) (ai (aJ (aY (aa (xh (c6 (v:=.ref a.e9) rfl fT rfl) (pv 1) (λ_ _=>rfl)) (aa (pv 2) ac))))) aE)
   (af (aI (PW.pt (gh (aq br (pv 1) ao (nomark _)) (eD (aq eQ (pv 2) ao (nomark _))))) (ai (aJ (aY (aa ao (aa (pv 2) ac))))) aE)
   (ai (aJ (aY (aa ao (aa (pv 0) ac))))))))),?_⟩
 have sz:(tx (c::r)).length<=Gr:=by rw[aZ];exact aQ (by simp only[F8];omega)
 refine⟨_,rfl,_,rfl,_,rfl,sz,?_⟩;rw[FS];refine⟨_,rfl,_,rfl,_,rfl,sz,?_⟩;rw[FT]
 try dsimp only[bE]
 with_reducible refine cO (λσ' H'=>σ'=[some (.str (tx (c::r))),some (.str (tx [c])),some (.str (tx r))]/\aj H H'/\kT (c::r)=if c=33/\r≠[]then("plain",r)else("plain",c::r)) ?_ (λkey=>?_)
 .rintro σ' H' ⟨rfl,s1,ek⟩;rw[ek]at q;refine⟨_,rfl,rfl,_,rfl,?_⟩;rw[Fj];refine dX (λh=>?_) (λh=>?_)
  .have h33:=of_decide_eq_true h;refine⟨_,rfl,rfl,_,rfl,?_⟩;cases r with
   |nil =>
    rw[xu];refine av ?_;rw[if_neg (λz=>z.2 rfl)]at q;exact⟨_,rfl,le2,λp hp=>q p _ (s1.free hp) (s1.trans (ag hp _)) ae⟩
   |cons d r =>
    rw[xr];refine aN ?_;rw[if_pos ⟨h33,by simp⟩]at q;exact⟨_,rfl,le2,λp hp=>q p _ (s1.free hp) (s1.trans (ag hp _)) ae⟩
  .refine av ?_;rw[if_neg (λz=>h (decide_eq_true z.1))]at q;exact⟨_,rfl,le2,λp hp=>q p _ (s1.free hp) (s1.trans (ag hp _)) ae⟩
 .refine⟨_,rfl,a.e9,kS,.inr (tx [c]),rfl,k_KINDS,rfl,_,rfl,?_⟩;cases hm:mk c with
  |none =>
   have:=Ck c hm;rw[show cW kS (.inr (tx [c]))=none from this];refine av ?_;refine av ?_;refine key _ _ ⟨rfl,aj.refl _,?_⟩;show(match mk c,bO r with
    |some s,true=>(s,r)
    |_,_=>if c=33/\r≠[]then("plain",r)else("plain",c::r))=_
   rw[hm]
  |some s =>
   have hv:=Cl c s hm;rw[show cW kS (.inr (tx [c]))=some (.str (PySem.Str.ofString s))from hv];refine aN ?_;refine⟨_,rfl,r,rfl,by omega,λH2 s2=>?_⟩;refine⟨_,rfl,?_⟩;cases hn:bO r with
   |true =>
    refine aN ?_;have ek:kT (c::r)=(s,r):=by
     show(match mk c,bO r with
      |some s,true=>(s,r)
      |_,_=>if c=33/\r≠[]then("plain",r)else("plain",c::r))=_
     rw[hm,hn]
    rw[ek]at q;exact⟨_,rfl,a.e9,kS,.inr (tx [c]),_,rfl,k_KINDS,rfl,hv,_,rfl,le2,λp hp=>q p _ (s2.free hp) (s2.trans (ag hp _)) ae⟩
   |false =>
    refine av ?_;refine key _ _ ⟨rfl,s2,?_⟩;show(match mk c,bO r with
     |some s,true=>(s,r)
     |_,_=>if c=33/\r≠[]then("plain",r)else("plain",c::r))=_
    rw[hm,hn]
def zT:Sp:=λvs H Q _=>∃(sa:Addr),vs=[.ref sa]/\H sa=some (.lst [])/\∀p H',H p=none->aj H H'->H' p=some (.dK [])->Q (.ref p) H'
theorem zU:aK ["shorts"] ["shorts"] (au qG):=by walk_at "c"
theorem zV(T:Txt P w K mg a):aX P w K mg base CX0 1 a.rq a.pA ["shorts"] zT:=by
 refine T.q_.fn.ok zU (λvs H Q E h=>?_) (λcdv A outer s H vs Q E hr h=>?_)
 .obtain⟨sa,rfl,_⟩:=h;rfl
 obtain⟨sa,rfl,hs,q⟩:=h;refine⟨_,(ai (aJ (mj (ug rfl) rfl T.mf PyProof.Rows.boot_dict (aa (fG rfl (d_ (caps:=[]) (js:=[]) (cap:=trivial)) (bj (pv 0)) (λ_ _ _ _=>dD) (λ_ _ _ _=>(aY (aa (aC (r:=jG K) aS (pv 0) ah (λ_ _=>rfl)) (aa (pv 0) ac))))) ac)))),?_⟩;refine⟨_,rfl,sa,rfl,⟨_,SqL.of hs⟩,dF (K:=K) (a:=sa) (xs:=[]) (λi ys G=>G=H/\ys=[]) ⟨rfl,rfl⟩ (λi ys G _ g=>by rw[g.1];exact SqL.of hs) (λi ys G hi _=>absurd hi (IK _)) (λi y ys G hy _=>by simp at hy) ?_⟩;rintro ys G ⟨rfl,rfl⟩ p1 hp1;have s1:=ag hp1 (.lst []);have k1:upd G p1 (.lst []) p1=some (.lst []):=ae;generalize upd G p1 (.lst [])=H1 at s1 k1⊢;exact⟨p1,[],[],rfl,SqL.of k1,by simp,⟨rfl,λj p k v e=>by simp at e⟩,λp2 hp2=>q p2 _ (s1.free hp2) (s1.trans (ag hp2 _)) ae⟩
def vL:Sp:=λvs H Q _=>∃(d nl:Addr) (ws:List V) (ts:List (List Nat)),vs=[.ref d,.ref nl,.int 0]/\H nl=some (.lst ws)/\aL (NdA H) ws ts/\ts.length<=130/\∀p r H',H p=none->aj H H'->H' p=some (.tup [.ref r,.int 0])->H' r=some (.lst [.int (ts.length:Int)])->Q (.ref p) H'
theorem jb:aK ["named","nodes","count","row","calls","node","short","k","argument","size"] ["named","nodes","count"] (au lJ):=by walk_at "c"
theorem vM(T:Txt P w K mg a):aX P w K mg base CX0 1 a.lY a.kL ["named","nodes","count"] vL:=by
 refine T.lT.fn.ok jb (λvs H Q E h=>?_) (λcdv A outer s H vs Q E hr h=>?_)
 .obtain⟨d,nl,ws,ts,rfl,_⟩:=h;rfl
 obtain⟨d,nl,ws,ts,rfl,hn,al,tl,q⟩:=h;refine⟨_,(af (ay (i:=3) jb.nd rfl (Gm rfl) (aP Aw (bi (aa ah ac)) (aP b8 (pv 2) ah)))
   (af (ay (i:=4) jb.nd rfl (Gm rfl) ah)
   (af (cc GS rfl (bj (pv 1)) (aM (i:=5) jb.nd rfl (Gm rfl)) (ai (aI (aq br (aC aS (pv 5) ah (λ_ _=>rfl)) ao (nomark _)) (ai (wO (aP b8 (aC bF (pv 3) ah (λ_ _=>rfl)) ah) (wN (pv 3) ah sK))) gW)))
   (ai (aJ (aY (aa (pv 3) (aa (pv 4) ac)))))))),?_⟩
 refine⟨aQ (by simp),λp1 hp1=>?_⟩;have s1:=ag hp1 (.lst [.int 0]);have k1:upd H p1 (.lst [.int 0]) p1=some (.lst [.int 0]):=ae;generalize upd H p1 (.lst [.int 0])=H1 at s1 k1⊢;refine⟨_,rfl,_,_,rfl,rfl,_,_,_,rfl,rfl,k1,(by omega),(by omega),aQ (by simp),λp2 hp2=>?_⟩;have hp2':=s1.free hp2;dsimp only[bE];have s2:=ag hp2 (.lst [V.int 0]);have k2:upd H1 p2 (.lst (Gp (HV (0+1)) [V.int 0]).flatten) p2=some (.lst [V.int ((0:Nat):Int)]):=ae;change aj H1 (upd H1 p2 (.lst (Gp (HV (0+1)) [V.int 0]).flatten))at s2;generalize upd H1 p2 (.lst (Gp (HV (0+1)) [V.int 0]).flatten)=H2 at s2 k2⊢;have s12:=s1.trans s2;have lw:=al.len;refine⟨_,rfl,nl,rfl,⟨_,SqL.of (s12 _ _ hn)⟩,cg (K:=K) (a:=nl) (xs:=ws) (λk σ G=>∃(vw:Option V),σ=[some (.ref d),some (.ref nl),some (.int 0),some (.ref p2),some (.int 0),vw,none,none,none,none]/\aj H G/\G p2=some (.lst [.int (k:Int)])) ⟨none,rfl,s12,k2⟩ (λk σ G _ g=>by obtain⟨_,_,m,_⟩:=g;exact SqL.of (m _ _ hn)) ?_ ?_⟩
 .rintro k y σ G hy ⟨vw,rfl,m,g⟩;obtain⟨t,ht,b,rfl,hb⟩:=al.getL hy;refine⟨_,rfl,_,_,_,_,rfl,rfl,SqT.of (m _ _ hb),rfl,rfl,_,rfl,?_⟩;rw[decide_eq_true rfl];refine aN ?_;refine⟨_,rfl,_,_,_,_,rfl,rfl,SqL.of g,rfl,_,_,rfl,rfl,_,rfl,_,_,_,_,rfl,rfl,g,rfl,?_⟩;exact⟨_,rfl,aW m hp2',by rw[ae];rfl⟩
 rintro σ G ⟨vw,rfl,m,g⟩;rw[lw]at g;refine⟨_,rfl,_,rfl,le2,λp3 hp3=>?_⟩;exact q p3 p2 _ (m.free hp3) (m.trans (ag hp3 _)) ae (ag hp3 _ _ _ g)
def xO:Sp:=λvs H Q _=>∃(d nl al:Addr) (ws:List V) (ts:List (List Nat)),vs=[.ref d,.ref nl,.ref al]/\H nl=some (.lst ws)/\aL (NdA H) ws ts/\ts.length<=130/\∀p H',H p=none->aj H H'->H' p=some (.lst ((ts.map tx).map V.str))->Q (.ref p) H'
theorem lM:aK ["named","nodes","arguments","words","node","given"] ["named","nodes","arguments"] (au mR):=by walk_at "c"
theorem xP(T:Txt P w K mg a):aX P w K mg base CX0 1 a.nz a.md ["named","nodes","arguments"] xO:=by
 refine T.m_.fn.ok lM (λvs H Q E h=>?_) (λcdv A outer s H vs Q E hr h=>?_)
 .obtain⟨d,nl,ar,ws,ts,rfl,_⟩:=h;rfl
 obtain⟨d,nl,ar,ws,ts,rfl,hn,al,tl,q⟩:=h;refine⟨_,(af (ay (i:=3) lM.nd rfl (Gm rfl) (bi ac))
   (af (cc GS rfl (bj (pv 1)) (aM (i:=4) lM.nd rfl (Gm rfl)) (ai (aI (aq br (aC aS (pv 4) ah (λ_ _=>rfl)) ao (nomark _)) (ai (bf (cq PySem.F.plainAttrs_list PySem.F.slot_list_append PySem.F.type_list_append bZ (pv 3) (aa (aC aS (pv 4) ah (λ_ _=>rfl)) ac)))) gW)))
   (ai (aJ (pv 3))))),?_⟩
 refine⟨aQ (by simp),λp1 hp1=>?_⟩;have s1:=ag hp1 (.lst []);have lw:=al.len;refine⟨_,rfl,nl,rfl,⟨_,SqL.of (s1 _ _ hn)⟩,cg (K:=K) (a:=nl) (xs:=ws) (λk σ G=>∃(vw:Option V),σ=[some (.ref d),some (.ref nl),some (.ref ar),some (.ref p1),vw,none]/\aj H G/\G p1=some (.lst (((ts.take k).map tx).map V.str))) ⟨none,rfl,s1,ae⟩ (λk σ G _ g=>by obtain⟨_,_,m,_⟩:=g;exact SqL.of (m _ _ hn)) ?_ ?_⟩
 .rintro k y σ G hy ⟨vw,rfl,m,g⟩;obtain⟨t,ht,b,rfl,hb⟩:=al.getL hy;have hk:=(List.getElem?_eq_some_iff.mp hy).1;refine⟨_,rfl,_,_,_,_,rfl,rfl,SqT.of (m _ _ hb),rfl,rfl,_,rfl,?_⟩;rw[decide_eq_true rfl];refine aN ?_;refine⟨_,rfl,.inl ⟨rfl,_,SqL.of g⟩,_,rfl,_,_,_,_,rfl,rfl,SqT.of (m _ _ hb),rfl,_,_,_,rfl,rfl,g,aA (by rw[F6,F6,GD];omega),?_⟩;refine⟨_,rfl,aW m hp1,?_⟩;rw[ae,aV ht,Gg,Gg];rfl
 rintro σ G ⟨vw,rfl,m,g⟩;rw[lw,Gv]at g;exact⟨_,rfl,q p1 _ hp1 m g⟩
def zW:Sp:=λvs H Q _=>∃(sa nl:Addr) (ws:List V) (ts:List (List Nat)),vs=[.ref sa,.ref nl]/\H sa=some (.lst [])/\H nl=some (.lst ws)/\aL (NdA H) ws ts/\ts.length<=130/\∀p H',H p=none->aj H H'->H' p=some (.lst ((ts.map tx).map V.str))->Q (.ref p) H'
theorem oV:aK ["shorts","nodes","named","size"] ["shorts","nodes"] (au qH):=by walk_at "c"
theorem zX(T:Txt P w K mg a):aX P w K mg base CX0 2 a.rF a.pI ["shorts","nodes"] zW:=by
 have cS:=T.cS;have bI:=T.bI;obtain⟨t_MOST_CALLS,cS⟩:=cS;obtain⟨t_MOST_WORDS_shorts,bI⟩:=bI;refine T.rm.fn.ok oV (λvs H Q E h=>?_) (λcdv A outer s H vs Q E hr h=>?_)
 .obtain⟨sa,nl,ws,ts,rfl,_⟩:=h;rfl
 obtain⟨sa,nl,ws,ts,rfl,hs,hn,al,tl,q⟩:=h;refine⟨_,(af (ay (i:=2) oV.nd rfl (Gm rfl) (aD T.q_ (zV T) (hr.mono (by decide)) rfl (aa (pv 0) ac)))
   (af (ay (i:=3) oV.nd rfl (Gm rfl) (aD T.lT (vM T) (hr.mono (by decide)) rfl (aa (pv 2) (aa (pv 1) (aa ah ac)))))
   (af (aI (PW.pt (dR (aq kN (aC bF (aC aS (pv 3) ah (λ_ _=>rfl)) ah (λ_ _=>rfl)) (c6 (v:=.int 400) rfl bI ⟨_,rfl⟩) (nomark _)) (fb (aq kN (aC aS (pv 3) ah (λ_ _=>rfl)) (c6 (v:=.int 400) rfl cS ⟨_,rfl⟩) (nomark _))))) (ai fY) aE)
   (ai (aJ (aD T.m_ (xP T) (hr.mono (by decide)) rfl (aa (pv 2) (aa (pv 1) (aa (bi ac) ac))))))))),?_⟩
 refine⟨_,rfl,sa,rfl,hs,λp1 H1 hp1 s1 k1=>?_⟩;dsimp only[bE];refine⟨_,rfl,_,rfl,p1,nl,ws,ts,rfl,s1 _ _ hn,NdsA.mono s1 al,tl,λp2 r H2 hp2 s2 k2 k3=>?_⟩;dsimp only[bE];refine⟨_,rfl,_,_,_,_,rfl,rfl,SqT.of k2,rfl,_,_,_,_,rfl,rfl,SqL.of k3,rfl,_,_,rfl,rfl,_,rfl,?_⟩;rw[decide_eq_false (by omega)];refine av ?_;refine⟨_,rfl,_,_,_,_,rfl,rfl,SqT.of k2,rfl,_,_,rfl,rfl,_,rfl,?_⟩;refine av ?_;dsimp only[cT];have s12:=s1.trans s2;refine⟨_,rfl,_,rfl,aQ (by simp),λp3 hp3=>?_⟩;have s3:=ag hp3 (.lst []);have s13:=s12.trans s3;exact⟨p1,nl,p3,ws,ts,rfl,s13 _ _ hn,NdsA.mono s13 al,tl,λp4 H4 hp4 s4 k4=>q p4 H4 (s13.free hp4) (s13.trans s4) k4⟩
def zY:Sp:=λvs H Q _=>∃(w:List Nat),vs=[.str (tx w),.non]/\∀p,H p=none->Q (.ref p) (upd H p (.tup [.str "word",.str (tx w)]))
theorem zZ:aK ["word","count","k"] ["word","count"] (au qI):=by walk_at "c"
theorem z4(T:Txt P w K mg a):aX P w K mg base CX0 1 a.rE a.pH ["word","count"] zY:=by
 refine T.rk.fn.ok zZ (λvs H Q E h=>?_) (λcdv A outer s H vs Q E hr h=>?_)
 .obtain⟨w,rfl,_⟩:=h;rfl
 obtain⟨w,rfl,q⟩:=h;refine⟨_,(af (aI (PW.pt (dR (aq D_ (pv 1) Al (nomark _)) (fb B_))) (ai (aJ (aY (aa ao (aa (pv 0) ac))))) aE)
   gW),?_⟩
 refine⟨_,rfl,rfl,_,rfl,?_⟩;refine aN ?_;refine aN ?_;exact⟨_,rfl,le2,λp hp=>q p hp⟩
def vN:Sp:=λvs H Q _=>∃w:List Nat,vs=[.str (tx w)]/\w.length<=100/\∀H',aj H H'->Q (.bl (opn w)) H'
theorem vO:aK ["word"] ["word"] (au lK):=by walk_at "c"
theorem vP(T:Txt P w K mg a):aX P w K mg base CX0 2 a.lX a.kK ["word"] vN:=by
 refine T.lS.fn.ok vO (λvs H Q E h=>?_) (λcdv A outer s H vs Q E hr h=>?_)
 .obtain⟨w,rfl,_⟩:=h;rfl
 obtain⟨w,rfl,hw,q⟩:=h;refine⟨_,(ai (aJ (jV (fK br (dC jY (pv 0) eZ (dS ah)) ao (nomark _)) (jU (aD T.j_ (oT T) (hr.mono (by decide)) rfl (aa (dC jY (pv 0) (dS ah) eZ) ac)))))),?_⟩;refine⟨_,rfl,_,rfl,_,rfl,aQ (by rw[aZ];omega),rfl,_,rfl,?_⟩;rw[fB,show jd w none (some 1)=w.take 1 from Tl.cut_to w 1,cu c91];cases w with
 |nil =>
  refine av ?_;exact q H (aj.refl _)
 |cons c r =>
  by_cases e:c=91
  .rw[decide_eq_true (show(c::r).take 1=[91] by rw[e];rfl)];refine aN ?_;refine⟨_,rfl,_,rfl,_,rfl,aQ (by rw[aZ];omega),r,?_,by simp at hw;omega,λH2 s2=>?_⟩
   .rw[fB,show jd (c::r) (some 1) none=(c::r).drop 1 from Tl.cut_from (c::r) 1];rfl
   .have:=q H2 s2;change Q (.bl (decide (c=91)&&bO r)) H2 at this;rw[decide_eq_true e,Jk]at this;exact this
  .rw[decide_eq_false (show ¬ (c::r).take 1=[91]from λz=>e (by simpa using z))];refine av ?_;have:=q H (aj.refl _);change Q (.bl (decide (c=91)&&bO r)) H at this;rw[decide_eq_false e,JD]at this;exact this
def z5(K:PySem.W.Frag):Sp:=λvs H Q _=>∃(la:Addr) (ts:List (List Nat)),vs=[.ref la,.non]/\SqL K H la ((ts.map tx).map V.str)/\ts.length<=130/\(∀t∈ts,opn t=false/\t.length<=100)/\∀p H' ws,H p=none->aj H H'->H' p=some (.lst ws)->aL (NdA H') ws ts->Q (.ref p) H'
theorem kZ:aK ["words","count","nodes","pending","word"] ["words","count"] (au qJ):=by walk_at "c"
theorem z6(T:Txt P w K mg a):aX P w K mg base CX0 3 a.rG a.pJ ["words","count"] (z5 K):=by
 refine T.rp.fn.ok kZ (λvs H Q E h=>?_) (λcdv A outer s H vs Q E hr h=>?_)
 .obtain⟨la,ts,rfl,_⟩:=h;rfl
 obtain⟨la,ts,rfl,hW,tl,ok,q⟩:=h;have hu:=I0 (fe hr);refine⟨_,(af (ay (i:=2) kZ.nd rfl (Gm rfl) (bi ac))
   (af (ay (i:=3) kZ.nd rfl (Gm rfl) (bi ac))
   (af (cc GS rfl (bj (pv 0)) (aM (i:=4) kZ.nd rfl (Gm rfl)) (ai (aI (cz (aD T.lS (vP T) (hr.mono (by decide)) rfl (aa (pv 4) ac)) (λ_=>rfl)) gW (ai (aI (PW.pt (gh (aq br (pv 4) ao (nomark _)) (eD (aq (sO hu) (pv 3) (bi ac) (nomark _))))) gW (ai (aI (PW.pt (gh (aq br (pv 4) ao (nomark _)) (eD (aq (sO hu) (pv 3) (bi ac) (nomark _))))) gW (ai (bf (cq PySem.F.plainAttrs_list PySem.F.slot_list_append PySem.F.type_list_append bZ (pv 2) (aa (aD T.rk (z4 T) (hr.mono (by decide)) rfl (aa (pv 4) (aa (pv 1) ac))) ac)))))))))))
   (af (aI (aq (sO hu) (pv 3) (bi ac) (nomark _)) (ai fY) aE)
   (ai (aJ (pv 2))))))),?_⟩
 refine⟨aQ (by simp),λp1 hp1=>?_⟩;have s1:=ag hp1 (.lst []);have k1:upd H p1 (.lst []) p1=some (.lst []):=ae;generalize upd H p1 (.lst [])=H1 at s1 k1⊢;refine⟨aQ (by simp),λp2 hp2=>?_⟩;have n1:=s1.free hp2;have n12:p1≠p2:=cy k1 hp2;have s2:=ag hp2 (.lst []);have k2:upd H1 p2 (.lst []) p2=some (.lst []):=ae;generalize upd H1 p2 (.lst [])=H2 at s2 k2⊢;have s12:=s1.trans s2;refine⟨_,rfl,la,rfl,⟨_,s12.seq hW⟩,cg (K:=K) (a:=la) (xs:=(ts.map tx).map V.str) (λk σ G=>∃(vw:Option V) (ws:List V),σ=[some (.ref la),some .non,some (.ref p1),some (.ref p2),vw]/\aj H G/\G p1=some (.lst ws)/\G p2=some (.lst [])/\aL (NdA (hid [p1] G)) ws (ts.take k)) ⟨none,[],rfl,s12,s2 _ _ k1,k2,trivial⟩ (λk σ G _ g=>by obtain⟨_,_,_,m,_⟩:=g;exact m.seq hW) ?_ ?_⟩
 .rintro k y σ G hy ⟨vw,ws,rfl,m,g1,g2,al⟩;obtain⟨w,hw,rfl⟩:=lC hy;obtain⟨o1,o2⟩:=ok w (Ge hw);have lw:=al.len;rw[GD]at lw;refine⟨_,rfl,w,rfl,o2,λG1 m1=>⟨_,rfl,?_⟩⟩;rw[o1];refine av ?_;refine⟨_,rfl,rfl,_,rfl,?_⟩;rw[cu FU];by_cases b1:w=En
  .rw[decide_eq_true b1];refine aN ?_;refine⟨_,rfl,aQ (by simp),λp3 hp3=>?_⟩;have m2:=m1.trans (ag hp3 (.lst []));refine⟨_,_,_,rfl,rfl,SqL.of (m2 _ _ g2),SqL.of ae,_,rfl,?_⟩;refine av ?_;refine⟨_,rfl,rfl,_,rfl,?_⟩;rw[cu Ew,decide_eq_false (λz=>by rw[b1]at z;exact absurd z (by decide))];refine av ?_;refine av ?_;refine⟨_,rfl,.inl ⟨rfl,_,SqL.of (m2 _ _ g1)⟩,_,rfl,_,rfl,w,rfl,λp4 hp4=>?_⟩;have m3:=m2.trans (ag hp4 (.tup [.str "word",.str (tx w)]));refine⟨_,_,_,rfl,rfl,m3 _ _ g1,aA (by omega),?_⟩;refine⟨_,_,rfl,aW (m.trans m3) hp1,ae,?_,?_⟩
   .rw[ak (GX n12)];exact m3 _ _ g2
   .rw[bw (by simp),aV hw];exact(NdsA.mono (bb m3) al).snoc ⟨p4,rfl,bn (by simp;exact GX (cy (m2 _ _ g1) hp4)) ae⟩
  rw[decide_eq_false b1];refine av ?_;refine av ?_;refine⟨_,rfl,rfl,_,rfl,?_⟩;rw[cu Ew];by_cases b2:w=Eo
  .rw[decide_eq_true b2];refine aN ?_;refine⟨_,rfl,aQ (by simp),λp3 hp3=>?_⟩;have m2:=m1.trans (ag hp3 (.lst []));refine⟨_,_,_,rfl,rfl,SqL.of (m2 _ _ g2),SqL.of ae,_,rfl,?_⟩;refine av ?_;refine⟨_,rfl,.inl ⟨rfl,_,SqL.of (m2 _ _ g1)⟩,_,rfl,_,rfl,w,rfl,λp4 hp4=>?_⟩;have m3:=m2.trans (ag hp4 (.tup [.str "word",.str (tx w)]));refine⟨_,_,_,rfl,rfl,m3 _ _ g1,aA (by omega),?_⟩;refine⟨_,_,rfl,aW (m.trans m3) hp1,ae,?_,?_⟩
   .rw[ak (GX n12)];exact m3 _ _ g2
   .rw[bw (by simp),aV hw];exact(NdsA.mono (bb m3) al).snoc ⟨p4,rfl,bn (by simp;exact GX (cy (m2 _ _ g1) hp4)) ae⟩
  rw[decide_eq_false b2];refine av ?_;refine av ?_;have m2:=m1;refine⟨_,rfl,.inl ⟨rfl,_,SqL.of (m2 _ _ g1)⟩,_,rfl,_,rfl,w,rfl,λp4 hp4=>?_⟩;have m3:=m2.trans (ag hp4 (.tup [.str "word",.str (tx w)]));refine⟨_,_,_,rfl,rfl,m3 _ _ g1,aA (by omega),?_⟩;refine⟨_,_,rfl,aW (m.trans m3) hp1,ae,?_,?_⟩
  .rw[ak (GX n12)];exact m3 _ _ g2
  .rw[bw (by simp),aV hw];exact(NdsA.mono (bb m3) al).snoc ⟨p4,rfl,bn (by simp;exact GX (cy (m2 _ _ g1) hp4)) ae⟩
 rintro σ G ⟨vw,ws,rfl,m,g1,g2,al⟩;rw[F6,F6,Gv]at al;refine⟨_,rfl,aQ (by simp),λp5 hp5=>?_⟩;have m2:=ag hp5 (.lst []);refine⟨_,_,_,rfl,rfl,SqL.of (m2 _ _ g2),SqL.of ae,_,rfl,?_⟩;refine av ?_;exact⟨_,rfl,q p1 _ ws hp1 (m.trans m2) (m2 _ _ g1) (NdsA.mono (bN.trans m2) al)⟩
def pW(K:PySem.W.Frag)(C:Addr):Sp:=λvs H Q _=>∃(r la bt dx sa fa ta:Addr) (g:Bool) (ts:List (List Nat)) (bs:List Kw),vs=[.ref r,.ref la,.ref bt]/\H r=some (.ins C dx (fsR sa fa ta g))/\H sa=some (.lst [])/\SqL K H la ((ts.map tx).map V.str)/\SqT K H bt (bs.map kwV)/\ts.length<=130/\(∀t∈ts,oE t/\(kwL t).1∉bs)/\∀p H' ws,H p=none->aj H H'->H' p=some (.lst ws)->b_ (hid [p] H') ws (ts.map wkL)->Q (.ref p) H'
theorem eU:aK ["self","words","barred","read","kind","rest"] ["self","words","barred"] (au hX):=by walk_at "c"
theorem gB(T:Txt P w K mg a):aX P w K mg base CX0 4 a.il a.gL ["self","words","barred"] (pW K a.bJ):=by
 have cx:=T.cx;obtain⟨t_LONGEST_TEXT,cx⟩:=cx;refine T.dO.fn.ok eU (λvs H Q E h=>?_) (λcdv A outer s H vs Q E hr h=>?_)
 .obtain⟨r,la,bt,dx,sa,fa,ta,g,ts,bs,rfl,_⟩:=h;rfl
 obtain⟨r,la,bt,dx,sa,fa,ta,g,ts,bs,rfl,hr_,hs,hl,hb,tl,ok,q⟩:=h;refine⟨_,(af (zn (k:=3) rfl (d_ (caps:=[]) (js:=[]) (cap:=trivial)) (bj (aD T.rm (zX T) (hr.mono (by decide)) rfl (aa (bv (pv 0) rfl) (aa (AO (dx:=.non) T.rp rfl (z6 T) (hr.mono (by decide)) rfl (aa (pv 1) ac)) ac)))) (λ_ _ _ _=>dD) (λ_ _ _ _=>(aD T.rb (zS T) (hr.mono (by decide)) rfl (aa (pv 0) ac))) eU.nd rfl rfl)
   (af (cc GS rfl (bj (pv 3)) (dZ rfl (a7 (aM (i:=4) eU.nd rfl (Gm rfl)) (a7 (aM (i:=5) eU.nd rfl (Gm rfl)) dt))) (af (aI (aq gY (pv 4) (pv 2) (by with_unfolding_all rfl)) (ai fY) aE)
   (ai (aI (PW.pt (gh (aq br (pv 4) ao (nomark _)) (eD (aq kN (aF dm rfl T.bK PySem.boot_len (aa (pv 5) ac)) (c6 (v:=.int 60) rfl cx ⟨_,rfl⟩) (nomark _))))) (ai fY) aE))))
   (ai (aJ (pv 3))))),?_⟩
 refine⟨_,rfl,_,_,_,_,_,rfl,hr_,T.bG.cl,T.jk,AY,_,rfl,la,ts,rfl,hl,tl,(λt ht=>⟨(ok t ht).1.opn,by have:=(ok t ht).1.len;omega⟩),λp1 H1 ws hp1 s1 k1 al=>?_⟩;refine⟨sa,p1,ws,ts,rfl,s1 _ _ hs,k1,al,tl,λp2 H2 hp2 s2 k2=>?_⟩;have s12:=s1.trans s2;refine⟨p2,rfl,⟨_,SqL.of k2⟩,dF (K:=K) (a:=p2) (xs:=(ts.map tx).map V.str) (λi ys G=>aj H2 G/\ys.length=i/\b_ G ys ((ts.take i).map wkL)) ⟨aj.refl _,rfl,trivial⟩ (λi ys G _ g=>SqL.of (g.1 _ _ k2)) ?_ ?_ ?_⟩
 .rintro i ys G hi ⟨_,e,_⟩;rw[F6,F6]at hi;rw[e];exact aA (by omega)
 .rintro i y ys G hy ⟨m,e,al⟩;obtain⟨t,ht,rfl⟩:=lC hy;have gd:=(ok t (Ge ht)).1;refine d3 ?_;cases t with
  |nil=>exact absurd rfl gd.ne
  |cons c u =>
  have gl:=gd.len;simp only[F8]at gl;refine⟨_,rfl,c,u,rfl,by omega,λp H3 hp m3 k3=>⟨m.trans m3,by rw[F7,e];rfl,?_⟩⟩;rw[aV ht,Gg];refine(b_.mono m3 al).snoc ⟨p,rfl,?_⟩;obtain⟨e1,e2⟩:=DC (c::u);rw[k3,e1,e2];rfl
 rintro ys G ⟨m,e,al⟩ p3 hp3;rw[F6,F6]at e;rw[F6,F6,Gv]at al;have hfree:=(s12.trans m).free hp3;have s3:=ag hp3 (.lst ys);have k3:upd G p3 (.lst ys) p3=some (.lst ys):=ae;have al3:=b_.mono (jm s3 (os:=[p3]) (λb hb=>by rw[List.mem_singleton.mp hb];exact hp3)) al;generalize upd G p3 (.lst ys)=G3 at s3 k3 al3⊢;have s13:=s12.trans (m.trans s3);refine⟨_,rfl,p3,rfl,⟨_,SqL.of k3⟩,cg (K:=K) (a:=p3) (xs:=ys) (λi σ G=>∃(v1 v2:Option V),σ=[some (.ref r),some (.ref la),some (.ref bt),some (.ref p3),v1,v2]/\aj G3 G) ⟨none,none,rfl,aj.refl _⟩ (λi σ G _ g=>by obtain⟨_,_,_,m⟩:=g;exact SqL.of (m _ _ k3)) ?_ ?_⟩
 .rintro i y σ G hy ⟨v1,v2,rfl,m⟩;obtain⟨w,hw,b,rfl,hb'⟩:=al3.getL hy;rw[GA]at hw;obtain⟨t,ht,rfl⟩:=Option.map_eq_some_iff.mp hw;obtain⟨gd,nb⟩:=ok t (Ge ht);have hG:=m _ _ (bN _ _ hb');refine⟨b,_,rfl,SqT.of hG,rfl,_,_,rfl,_,_,rfl,rfl,?_⟩;refine⟨_,rfl,_,rfl,_,_,rfl,.inr ((s13.trans m).tup hb),rfl,xw bs,_,rfl,?_⟩;change (if(if false=true then _ else inV (kwV (wkL t).1) (bs.map kwV))=true then _ else _);rw[sE (k:=(wkL t).1) nb];refine av ?_;dsimp only[cT];refine⟨_,rfl,rfl,_,rfl,?_⟩;by_cases pk:(kwL t).1=.plain
  .refine dX (λ_=>?_) (λ_=>?_)
   .have pl:=gd.pl pk;refine⟨_,rfl,_,rfl,aQ (by rw[aZ];omega),_,_,rfl,rfl,_,rfl,?_⟩;rw[aZ,decide_eq_false (by omega)];refine av ?_;exact⟨_,_,rfl,m⟩
   .refine av ?_;exact⟨_,_,rfl,m⟩
  .have:¬ (V.str (wkL t).1.s=V.str "plain"):=λz=>pk (Kw.inj (b:=.plain) (V.str.inj z));rw[decide_eq_false this];refine av ?_;refine av ?_;exact⟨_,_,rfl,m⟩
 rintro σ G ⟨v1,v2,rfl,m⟩;exact⟨_,rfl,q p3 G ys (hfree) (s13.trans m) (m _ _ k3) (b_.mono (bb m) al3)⟩
def pX(K:PySem.W.Frag)(C:Addr):Sp:=λvs H Q _=>∃(r la:Addr) (H0:Hp) (s:Rs) (n:List Nat) (ts:List (List Nat)),vs=[.ref r,.ref la]/\RdA C H0 H r s/\SqL K H la (((ef::n::ts).map tx).map V.str)/\bO n=true/\n.length<=12/\ts.length<=39/\(∀t∈ts,oE t/\(kwL t).1∉[Kw.mark,Kw.foot])/\lkS (tx n) s.feet=none/\s.feet.length<=200/\∀H',RdA C H0 H' r (bT s (.foot (tx n) (ts.map wkL)))->Q .non H'
theorem gC:aK ["self","words","name","text"] ["self","words"] (au hZ):=by walk_at "c"
theorem pY(T:Txt P w K mg a):aX P w K mg base CX0 5 a.ik a.gK ["self","words"] (pX K a.bJ):=by
 have bX:=T.bX;obtain⟨t_MOST_FOOT_WORDS,bX⟩:=bX;refine T.ic.fn.ok gC (λvs H Q E h=>?_) (λcdv A outer s H vs Q E hr h=>?_)
 .obtain⟨r,la,H0,s,n,ts,rfl,_⟩:=h;rfl
 obtain⟨r,la,H0,s,n,ts,rfl,R,hl,nn,nl,tl,ok,nt,sl,q⟩:=h;refine⟨_,(af (aI (PW.pt (dR (aq vV (aF bA rfl T.bK PySem.boot_len (aa (pv 1) ac)) ah (nomark _)) (fb (fc (cz (aD T.j_ (oT T) (hr.mono (by decide)) rfl (aa (aC bF (pv 1) ah (λ_ _=>rfl)) ac)) (λ_=>rfl)))))) (ai fY) aE)
   (af (ay (i:=2) gC.nd rfl (Gm rfl) (aC bF (pv 1) ah (λ_ _=>rfl)))
   (af (aI (aq (ub (fe hr)) (pv 2) (bv (pv 0) rfl) (by with_unfolding_all rfl)) (ai fY) aE)
   (af (ay (i:=3) gC.nd rfl (Gm rfl) (dA eR T.bG T.dO (gB T) (hr.mono (by decide)) (pv 0) (aa (dC nK (pv 1) (dS ah) eZ) (aa (aY (aa ao (aa ao ac))) ac))))
   (af (aI (aq kN (aF bA rfl T.bK PySem.boot_len (aa (pv 3) ac)) (c6 (v:=.int 39) rfl bX ⟨_,rfl⟩) (nomark _)) (ai fY) aE)
   (ai (yJ (fe hr) (bv (pv 0) rfl) (pv 2) (pv 3) rfl))))))),?_⟩
 refine⟨_,rfl,_,_,rfl,.inl hl,_,_,rfl,rfl,_,rfl,?_⟩;rw[decide_eq_false (show ¬ ((((((ef::n::ts).map tx).map V.str).length:Nat):Int)<2) by simp;omega)];refine av ?_;refine⟨_,rfl,_,_,_,_,rfl,rfl,hl,cp (j:=1) rfl,n,rfl,(by omega),λH1 s1=>⟨_,rfl,?_⟩⟩;rw[nn];refine av ?_;dsimp only[cT];refine⟨_,rfl,_,_,_,_,rfl,rfl,s1.seq hl,cp (j:=1) rfl,?_⟩;obtain⟨dx,sa,fa,ta,kvs,vs,h1,h2,h3,h4,lv,lf,fn,put,stop,foot,_⟩:=(R.same s1).use;refine⟨_,rfl,_,rfl,_,_,_,_,_,rfl,h1,T.bG.cl,T.fV,uD,_,_,rfl,eW.k (k:=.inr (tx n)) h3,_,rfl,?_⟩;rw[fn _ nt];refine av ?_;dsimp only[cT];refine⟨_,rfl,_,_,_,rfl,h1,mJ (by decide +kernel),_,rfl,_,rfl,_,_,rfl,s1.seq hl,λp1 hp1=>?_⟩;have s2:=ag hp1 (.lst (gX (((ef::n::ts).map tx).map V.str) (some 2) none));have k2:upd H1 p1 (.lst (gX (((ef::n::ts).map tx).map V.str) (some 2) none)) p1=some (.lst ((ts.map tx).map V.str)):=by
  rw[ae];have:=Tl.cut_from (((ef::n::ts).map tx).map V.str) 2;exact congrArg (λl=>some (HO.lst l)) this
 generalize upd H1 p1 (.lst (gX (((ef::n::ts).map tx).map V.str) (some 2) none))=H2 at s2 k2⊢;refine⟨le2,λp2 hp2=>?_⟩;have s3:=ag hp2 (.tup [kwV .mark,kwV .foot]);have k3:upd H2 p2 (.tup [kwV .mark,kwV .foot]) p2=some (.tup [kwV .mark,kwV .foot]):=ae;have s23:=s2.trans s3;refine⟨r,p1,p2,dx,sa,fa,ta,s.g,ts,[.mark,.foot],rfl,s23 _ _ h1,s23 _ _ h2,SqL.of (s3 _ _ k2),SqT.of k3,(by omega),ok,λp4 H4 ws hp4 s4 k4 al=>?_⟩;have s14:=s23.trans s4;have lw:=al.len;rw[F6]at lw;refine⟨_,rfl,_,_,rfl,.inl (SqL.of k4),_,_,rfl,rfl,_,rfl,?_⟩;rw[decide_eq_false (by omega)];refine av ?_;dsimp only[cT];refine⟨_,rfl,_,rfl,_,_,_,_,_,rfl,s14 _ _ h1,T.bG.cl,T.fV,uD,_,rfl,_,_,rfl,uz.k (k:=.inr (tx n)) (s14 _ _ h3) (aA (by omega)),?_⟩;rw[wX _ (fn _ nt)];exact q _ (foot H4 _ p4 _ s14 (s23.free hp4) ⟨ws,k4,b_.mono bN al⟩)
def oW(K:PySem.W.Frag)(C:Addr):Sp:=λvs H Q _=>∃(r la:Addr) (H0:Hp) (s:Rs) (ts:List (List Nat)),vs=[.ref r,.ref la]/\RdA C H0 H r s/\SqL K H la ((ts.map tx).map V.str)/\ts.length<=130/\(∀t∈ts,oE t)/\s.things.length<=200/\tgS s.things<=500/\∀H',RdA C H0 H' r (bT s (.par (ts.map wkL)))->Q .non H'
theorem jz:aK ["self","words","read"] ["self","words"] (au gx):=by walk_at "c"
theorem oX(T:Txt P w K mg a):aX P w K mg base CX0 5 a.gH a.ge ["self","words"] (oW K a.bJ):=by
 refine T.gE.fn.ok jz (λvs H Q E h=>?_) (λcdv A outer s H vs Q E hr h=>?_)
 .obtain⟨r,la,H0,s,ts,rfl,_⟩:=h;rfl
 obtain⟨r,la,H0,s,ts,rfl,R,hl,tl,ok,sl,sn,q⟩:=h;refine⟨_,(af (ay (i:=2) jz.nd rfl (Gm rfl) (dA eR T.bG T.dO (gB T) (hr.mono (by decide)) (pv 0) (aa (pv 1) (aa (aY ac) ac))))
   (ai (aI (cz (bv (pv 0) rfl) (λ_=>rfl)) (ai (bf (cq PySem.F.plainAttrs_list PySem.F.slot_list_extend PySem.F.type_list_extend jX (aC aS (aC bF (bv (pv 0) rfl) (rR nJ ah) (λ_ _=>rfl)) ah (λ_ _=>rfl)) (aa (pv 2) ac)))) (af (bf (dA eR T.bG T.dN (gz T) (hr.mono (by decide)) (pv 0) (aa (aY (aa ao (aa (pv 2) ac))) ac)))
   (ai (c8 (pv 0) dh rfl)))))),?_⟩
 obtain⟨dx,sa,fa,ta,kvs,vs,h1,h2,h3,h4,lv,lf,fn,put,stop,foot,more,first,_⟩:=R.use
 refine⟨_,rfl,_,_,_,rfl,h1,mJ (by decide +kernel),_,rfl,aQ (by simp),λp1 hp1=>?_⟩;have s1:=ag hp1 (.tup []);refine⟨r,la,p1,dx,sa,fa,ta,s.g,ts,[],rfl,s1 _ _ h1,s1 _ _ h2,s1.seq hl,SqT.of ae,tl,(λt ht=>⟨ok t ht,by simp⟩),λp2 H2 ws hp2 s2 k2 al=>?_⟩;dsimp only[bE];have s12:=s1.trans s2;refine⟨_,rfl,_,_,_,_,_,rfl,s12 _ _ h1,T.bG.cl,T.df,yk,_,rfl,?_⟩;by_cases g:s.g=true
 .rw[g];refine aN ?_;obtain⟨vi,a,lo,wvs,ini,ws0,e1,e2,e3,e4,e5,key⟩:=more g;have hw:=Dy (ini:=ini) (ws:=ws0);rw[<-e4]at hw;have lw:=al.len;rw[F6]at lw;refine⟨_,rfl,_,_,_,_,_,rfl,s12 _ _ h1,T.bG.cl,T.eP,qt,_,rfl,_,_,_,_,rfl,rfl,SqL.of (s12 _ _ h4),(by rw[e1];exact jK _ _),_,_,_,_,rfl,rfl,SqT.of (s12 _ _ e2),rfl,.inl ⟨rfl,_,SqL.of (s12 _ _ e3)⟩,_,rfl,_,_,_,_,rfl,rfl,s12 _ _ e3,k2,GR (aA (by omega)),?_⟩;have:=key H2 ws (ts.map wkL) s12 (b_.mono bN al);refine q _ ?_;rw[show bT s (.par (ts.map wkL))={ s with things:=bY (ts.map wkL) s.things }from by unfold bT;exact if_pos g];exact this
 .rw[Hq]at g;rw[g];refine av ?_;refine⟨_,rfl,_,_,_,rfl,s12 _ _ h1,mJ (by decide +kernel),_,rfl,le2,λp3 hp3=>?_⟩;have s3:=ag hp3 (.tup [.str "paragraph",.ref p2]);have k3:upd H2 p3 (.tup [.str "paragraph",.ref p2]) p3=some (.tup [.str "paragraph",.ref p2]):=ae;have s13:=s12.trans s3;have hp2':=s1.free hp2;generalize upd H2 p3 (.tup [.str "paragraph",.ref p2])=H3 at s3 k3 s13⊢;have la2:cQ H3 p2 (ts.map wkL):=⟨ws,s3 _ _ k2,b_.mono (bN.trans s3) al⟩;refine⟨r,.ref p3,H0,H,s,.par (ts.map wkL),rfl,R,s13,⟨p3,p2,rfl,k3,hp2',la2⟩,sl,λH4 R4 e4=>?_⟩;have e4:=e4 _ _ _ _ _ _ h1 h4;have h4':H4 r=some (.ins a.bJ dx (fsR sa fa ta false)):=by rw[e4];exact ae
  refine⟨_,rfl,_,_,_,_,rfl,h4',T.bG.cl,T.df,uE,?_⟩;rw[qu,e4];refine q _ ?_;rw[show bT s (.par (ts.map wkL))={ s with things:=s.things++[.par (ts.map wkL)],g:=true }from by unfold bT;exact if_neg (by rw[g];decide)];exact first H3 p3 p2 _ s13 k3 hp2' la2
def qY(K:PySem.W.Frag)(C:Addr):Sp:=λvs H Q _=>∃(r la:Addr) (H0:Hp) (s:Rs) (ts:List (List Nat)) (rw:Rw),vs=[.ref r,.ref la]/\RdA C H0 H r s/\SqL K H la ((ts.map tx).map V.str)/\jx ts rw/\Cn s rw/\s.things.length<=200/\tgS s.things<=500/\s.feet.length<=200/\∀H',RdA C H0 H' r (bT s rw)->Q .non H'
theorem j7:aK ["self","words","first"] ["self","words"] (au iN):=by walk_at "c"
theorem qZ(T:Txt P w K mg a):aX P w K mg base CX0 6 a.iV a.ir ["self","words"] (qY K a.bJ):=by
 have gr:=T.gr;have gt:=T.gt;obtain⟨gr,k_ALONE⟩:=gr;obtain⟨gt,k_HEADS⟩:=gt;refine T.iQ.fn.ok j7 (λvs H Q E h=>?_) (λcdv A outer s H vs Q E hr h=>?_)
 .obtain⟨r,la,H0,s,ts,rw,rfl,_⟩:=h;rfl
 obtain⟨r,la,H0,s,ts,rw,rfl,R,hl,ri,tw,sl,sn,fl,q⟩:=h;have hu:=I0 (fe hr);refine⟨_,(af (aI (aq (sN hu) (pv 1) (bi ac) (nomark _)) (af (c8 (pv 0) dh rfl)
   (ai C6)) aE)
   (af (ay (i:=2) j7.nd rfl (Gm rfl) (aC bF (pv 1) ah (λ_ _=>rfl)))
   (ai (aI (aq br (pv 2) ao (nomark _)) gW (ai (aI (aq br (pv 2) ao (nomark _)) (ai (bf (dA eR T.bG T.ic (pY T) (hr.mono (by decide)) (pv 0) (aa (pv 1) ac)))) (ai (aI (aq gY (pv 2) (c6 (v:=.ref a.jq) rfl gr rfl) (by with_unfolding_all rfl)) (ai (bf (dA eR T.bG T.gD (oS T) (hr.mono (by decide)) (pv 0) (aa (pv 1) ac)))) (ai (aI (aq gY (pv 2) (c6 (v:=.ref a.jr) rfl gt rfl) (by with_unfolding_all rfl)) (ai (bf (dA eR T.bG T.dN (gz T) (hr.mono (by decide)) (pv 0) (aa (aY (aa ao (aa (aF dm rfl T.bK PySem.boot_len (aa (pv 2) ac)) (aa (dA eR T.bG T.dO (gB T) (hr.mono (by decide)) (pv 0) (aa (dC nK (pv 1) (dS ah) eZ) (aa (aY (aa ao ac)) ac))) ac)))) ac)))) (ai (aI (aq br (aC eK (pv 2) ah (λ_ _=>rfl)) ao (nomark _)) (ai fY) (ai (bf (dA eR T.bG T.gE (oX T) (hr.mono (by decide)) (pv 0) (aa (pv 1) ac)))))))))))))))),?_⟩
 refine⟨_,rfl,aQ (by simp),λp1 hp1=>?_⟩;have s1:=ag hp1 (.lst []);have k1:upd H p1 (.lst []) p1=some (.lst []):=ae;generalize upd H p1 (.lst [])=H1 at s1 k1⊢;have R1:=R.same s1;have hl1:=s1.seq hl;refine⟨_,_,_,rfl,rfl,hl1,SqL.of k1,_,rfl,?_⟩;obtain⟨dx,sa,fa,ta,kvs,vs,h1,h2,h3,h4,lv,lf,fn,put,stop,_⟩:=R1.use;have eA:∀w:List Nat,inV (.str (tx w)) [.str (PySem.Str.ofString ".page"),.str (PySem.Str.ofString ".odd"),.str (PySem.Str.ofString ".list")]=decide (w∈[r_,uL,fh]):=λw=>by
  rw[zB,Cm,wc];exact qy [r_,uL,fh]
 have eH:∀w:List Nat,inV (.str (tx w)) [.str (PySem.Str.ofString "="),.str (PySem.Str.ofString "=="),.str (PySem.Str.ofString "===")]=decide (w∈[[61],[61,61],[61,61,61]]):=λw=>by
  rw[cH1,cH2,cH3];exact qy [[61],[61,61],[61,61,61]]
 cases ri with
 |empty =>
  refine aN ?_;refine⟨_,rfl,_,_,_,_,rfl,h1,T.bG.cl,T.df,uE,?_⟩;rw[qu];exact q _ (stop H1 (aj.refl _))
 |@foot n ts nn nl tl ok =>
  refine av ?_;refine⟨_,rfl,_,_,_,_,rfl,rfl,hl1,cp (j:=0) rfl,?_⟩;refine⟨_,rfl,rfl,_,rfl,?_⟩;rw[cu zA,decide_eq_false (by decide)];refine av ?_;refine⟨_,rfl,rfl,_,rfl,?_⟩;rw[cu kU,decide_eq_true rfl];refine aN ?_;exact⟨_,rfl,_,_,_,rfl,h1,mJ (by decide +kernel),_,rfl,r,la,H0,s,n,ts,rfl,R1,hl1,nn,nl,tl,ok,tw,fl,λH' R'=>q H' R'⟩
 |@alone w rw al =>
  refine av ?_;refine⟨_,rfl,_,_,_,_,rfl,rfl,hl1,cp (j:=0) rfl,?_⟩;refine⟨_,rfl,rfl,_,rfl,?_⟩;rw[cu zA,decide_eq_false (by rcases al with⟨rfl,_⟩|⟨rfl,_⟩|⟨rfl,_⟩<;>decide)]
  refine av ?_;refine⟨_,rfl,rfl,_,rfl,?_⟩;rw[cu kU,decide_eq_false (by rcases al with⟨rfl,_⟩|⟨rfl,_⟩|⟨rfl,_⟩<;>decide)]
  refine av ?_;refine⟨_,rfl,_,_,rfl,.inr (k_ALONE _),rfl,rfl,_,rfl,?_⟩;rw[eA,decide_eq_true (by rcases al with⟨rfl,_⟩|⟨rfl,_⟩|⟨rfl,_⟩<;>decide)]
  refine aN ?_;exact⟨_,rfl,_,_,_,rfl,h1,mJ (by decide +kernel),_,rfl,r,la,H0,s,w,rw,rfl,R1,hl1,al,sl,λH' R'=>q H' R'⟩
 |@head k ts k3 tl ok =>
  refine av ?_;refine⟨_,rfl,_,_,_,_,rfl,rfl,hl1,cp (j:=0) rfl,?_⟩;have kk:Gp (k+1) 61∈[[61],[61,61],[61,61,61]]:=by
   rcases(show k=0\/k=1\/k=2 by omega)with rfl|rfl|rfl<;>decide
  refine⟨_,rfl,rfl,_,rfl,?_⟩;rw[cu zA,decide_eq_false (λz=>by rw[z]at kk;exact absurd kk (by decide))];refine av ?_;refine⟨_,rfl,rfl,_,rfl,?_⟩;rw[cu kU,decide_eq_false (λz=>by rw[z]at kk;exact absurd kk (by decide))];refine av ?_;refine⟨_,rfl,_,_,rfl,.inr (k_ALONE _),rfl,rfl,_,rfl,?_⟩;rw[eA,decide_eq_false (λz=>by rcases(show k=0\/k=1\/k=2 by omega)with rfl|rfl|rfl<;>exact absurd z (by decide))]
  refine av ?_;refine⟨_,rfl,_,_,rfl,.inr (k_HEADS _),rfl,rfl,_,rfl,?_⟩;rw[eH,decide_eq_true kk];refine aN ?_;refine⟨_,rfl,_,_,_,rfl,h1,mJ (by decide +kernel),_,rfl,_,rfl,aA (by rw[Ha];omega),_,rfl,_,_,_,rfl,h1,mJ (by decide +kernel),_,rfl,_,rfl,_,_,rfl,hl1,λp2 hp2=>?_⟩;have s2:=ag hp2 (.lst (gX (((Gp (k+1) 61::ts).map tx).map V.str) (some 1) none));have k2:upd H1 p2 (.lst (gX (((Gp (k+1) 61::ts).map tx).map V.str) (some 1) none)) p2=some (.lst ((ts.map tx).map V.str)):=by
   rw[ae];have:=Tl.cut_from (((Gp (k+1) 61::ts).map tx).map V.str) 1;exact congrArg (λl=>some (HO.lst l)) this
  generalize upd H1 p2 (.lst (gX (((Gp (k+1) 61::ts).map tx).map V.str) (some 1) none))=H2 at s2 k2⊢;refine⟨le1,λp3 hp3=>?_⟩;have s3:=ag hp3 (.tup [kwV .foot]);have k3':upd H2 p3 (.tup [kwV .foot]) p3=some (.tup [kwV .foot]):=ae;change _ at s3;have s23:=s2.trans s3;refine⟨r,p2,p3,dx,sa,fa,ta,s.g,ts,[.foot],rfl,s23 _ _ h1,s23 _ _ h2,SqL.of (s3 _ _ k2),SqT.of k3',(by omega),ok,λp4 H4 ws hp4 s4 k4 al=>?_⟩;have s14:=s23.trans s4;refine⟨le3,λp5 hp5=>?_⟩;have s5:=ag hp5 (.tup [.str "head",.int (((Gp (k+1) 61).length:Nat):Int),.ref p4]);refine⟨r,.ref p5,H0,H1,s,.head (k+1) (ts.map wkL),rfl,R1,s14.trans s5,⟨p5,p4,rfl,?_,s23.free hp4,ws,s5 _ _ k4,b_.mono (bN.trans s5) al⟩,sl,λH' R' _=>q H' R'⟩;exact ae.trans (by rw[aZ,Ha])
 |@par c u ts c46 nh tl ok =>
  refine av ?_;refine⟨_,rfl,_,_,_,_,rfl,rfl,hl1,cp (j:=0) rfl,?_⟩;refine⟨_,rfl,rfl,_,rfl,?_⟩;rw[cu zA,decide_eq_false (λz=>c46 (by injection z))];refine av ?_;refine⟨_,rfl,rfl,_,rfl,?_⟩;rw[cu kU,decide_eq_false (λz=>c46 (by injection z))];refine av ?_;refine⟨_,rfl,_,_,rfl,.inr (k_ALONE _),rfl,rfl,_,rfl,?_⟩;rw[eA,decide_eq_false (λz=>by
   simp only[Hd,GZ,or_false]at z;rcases z with z|z|z<;>exact c46 (by injection z))]
  refine av ?_;refine⟨_,rfl,_,_,rfl,.inr (k_HEADS _),rfl,rfl,_,rfl,?_⟩;rw[eH,decide_eq_false nh];refine av ?_;refine⟨_,rfl,_,_,_,rfl,rfl,aA (by have:=(ok _ Gd).len;simp only[F8]at this;omega),iE _ _,rfl,_,rfl,?_⟩;rw[cu FW,decide_eq_false (λz=>c46 (by injection z))];refine av ?_;exact⟨_,rfl,_,_,_,rfl,h1,mJ (by decide +kernel),_,rfl,r,la,H0,s,_,rfl,R1,hl1,(by simp only[F8];omega),ok,sl,sn,λH' R'=>q H' R'⟩
def yv:Sp:=λvs H Q _=>∃l:List Nat,vs=[.str (tx l)]/\l.length<=200000/\∀p H',H p=none->aj H H'->H' p=some (.lst (((c_ l).map tx).map V.str))->Q (.ref p) H'
theorem yw:aK ["row"] ["row"] (au oO):=by walk_at "c"
theorem yx(T:Txt P w K mg a):aX P w K mg base CX0 1 a.pz a.nF ["row"] yv:=by
 refine T.o9.fn.ok yw (λvs H Q E h=>?_) (λcdv A outer s H vs Q E hr h=>?_)
 .obtain⟨l,rfl,_⟩:=h;rfl
 obtain⟨l,rfl,hl,q⟩:=h;refine⟨_,(ai (aJ (fG rfl (d_ (caps:=[]) (js:=[]) (cap:=trivial)) (bj (cq PySem.F.plainAttrs_str PySem.F.slot_str_split PySem.F.type_str_split AH (pv 0) (aa ao ac))) (λ_ _ _ _=>(iD (aq eQ (pv 0) ao (nomark _)))) (λ_ _ _ _=>(pv 0))))),?_⟩;have hs:=uj 32 l;refine⟨_,rfl,rfl,_,32,rfl,congrArg (λz=>[V.str z]) c32,?_,λp1 hp1=>?_⟩
 .rw[aZ];exact AM (by omega)
 rw[BY];refine⟨p1,rfl,⟨_,SqL.of ae⟩,dF (xs:=((bx 32 l).map tx).map V.str) (λi ys H2=>H2=upd H p1 (.lst (((bx 32 l).map tx).map V.str))/\ys=((neW ((bx 32 l).take i)).map tx).map V.str) ⟨rfl,rfl⟩ ?_ ?_ ?_ ?_⟩
 .rintro i ys H2 _ ⟨rfl,_⟩;exact SqL.of ae
 .rintro i ys H2 hi ⟨rfl,rfl⟩;rw[F6,F6];have h1:(neW ((bx 32 l).take i)).length<=((bx 32 l).take i).length:=Hs _ _;rw[GD]at h1;exact GC (show _<1000000 by omega) (AM (Gh _))
 .rintro i x ys H2 hx ⟨rfl,rfl⟩;obtain⟨w,hw,rfl⟩:=lC hx;refine⟨_,rfl,rfl,_,rfl,?_⟩;rw[HA,hw];show if(!decide (V.str (tx w)=V.str (PySem.Str.ofString "")))=true then _ else _;rw[show(some w).toList=[w]from rfl,Cj];refine dX (λc=>?_) (λc=>?_)
  .refine⟨_,rfl,rfl,?_⟩;have hne:w≠[]:=by
    intro e;rw[e,ce]at c;rw[decide_eq_true rfl]at c;cases c
   rw[if_neg hne];simp
  .have hne:w=[]:=by
    by_cases e:V.str (tx w)=V.str (PySem.Str.ofString "")
    .rw[ce]at e;exact i6 (V.str.inj e)
    .rw[decide_eq_false e]at c;exact absurd rfl c
   rw[if_pos hne];exact⟨rfl,rfl⟩
 .rintro ys H2 ⟨rfl,rfl⟩ p hp;have el:(((bx 32 l).map tx).map V.str).length=(bx 32 l).length:=by rw[F6,F6]
  rw[el,Hh (Gh _)];have g1:=ag hp1 (.lst (((bx 32 l).map tx).map V.str));exact q p _ (g1.free hp) (g1.trans (ag hp _)) ae
def xQ(K:PySem.W.Frag):Sp:=λvs H Q _=>∃(ra:Addr) (rs:List (List Nat)) (rws:List Rw),vs=[.ref ra]/\SqL K H ra ((rs.map tx).map V.str)/\mK rs rws/\rs.length<=200/\mv rs0 rws/\(rws.map rwN).sum<=500/\∀p H' ta fa vs kvs,H p=none->aj H H'->H' p=some (.tup [.ref ta,.ref fa])->H ta=none->H fa=none->H' ta=some (.lst vs)->H' fa=some (.dK kvs)->fP H' vs (aR rs0 rws).things->FtA H' kvs (aR rs0 rws).feet->Q (.ref p) H'
theorem lO:aK ["rows","reader","row"] ["rows"] (au mS):=by walk_at "c"
theorem xR(T:Txt P w K mg a):aX P w K mg base CX0 7 a.nu a.l9 ["rows"] (xQ K):=by
 refine T.mY.fn.ok lO (λvs H Q E h=>?_) (λcdv A outer s H vs Q E hr h=>?_)
 .obtain⟨ra,rs,rws,rfl,_⟩:=h;rfl
 obtain⟨ra,rs,rws,rfl,hr_,ar,rl,tw,sm,q⟩:=h;refine⟨_,(af (ay (i:=1) lO.nd rfl (Gm rfl) (Dp eR T.bG T.kC (uT T) (hr.mono (by decide)) rfl ))
   (af (cc GS rfl (bj (pv 0)) (aM (i:=2) lO.nd rfl (Gm rfl)) (ai (bf (dA eR T.bG T.iQ (qZ T) (hr.mono (by decide)) (pv 1) (aa (aD T.o9 (yx T) (hr.mono (by decide)) rfl (aa (pv 2) ac)) ac)))))
   (ai (aJ (aY (aa (bv (pv 1) rfl) (aa (bv (pv 1) rfl) ac))))))),?_⟩
 intro x dx hx hdx ndx;have sd:=ag hdx (.own x);have hx1:upd H dx (.own x) x=none:=by rw[ak (GX ndx)];exact hx
 have s1:=sd.trans (ag hx1 (.ins a.bJ dx []));have k1:upd (upd H dx (.own x)) x (.ins a.bJ dx []) x=some (.ins a.bJ dx []):=ae;refine⟨x,dx,rfl,k1,λH1 r1 f1=>?_⟩;have R0:=r1 H s1 hx;have al:=ar.len;refine⟨rfl,?_⟩;refine⟨_,rfl,ra,rfl,⟨_,R0.old.seq hr_⟩,cg (K:=K) (a:=ra) (xs:=(rs.map tx).map V.str) (λi σ G=>∃(v1:Option V),σ=[some (.ref ra),some (.ref x),v1]/\RdA a.bJ H G x (aR rs0 (rws.take i))) ⟨none,rfl,R0⟩ (λi σ G _ g=>by obtain⟨_,_,R⟩:=g;exact R.old.seq hr_) ?_ ?_⟩
 .rintro i y σ G hy ⟨v1,rfl,R⟩;obtain⟨l,hl,rfl⟩:=lC hy;have hi:=(List.getElem?_eq_some_iff.mp hl).1;obtain⟨rw,hw,l2,ri⟩:=ar.get hl;obtain⟨dx',sa,fa,ta,kvs,vs,h1,h2,h3,h4,_⟩:=R.use;have n1:=uF (rws.take i) rs0;have n2:=sC rwN rws i;have n3:=List.length_take_le i rws;simp only[rs0,tgS,Iy,List.sum_nil,Gj,HB]at n1;refine⟨_,rfl,_,_,_,rfl,h1,mJ (by decide +kernel),_,rfl,l,rfl,(by omega),λp H2 hp s2 k2=>?_⟩;refine⟨x,p,H,_,c_ l,rw,rfl,R.same s2,SqL.of k2,ri,tw.at hw,(by simp only[rs0];omega),(by simp only[rs0,tgS];omega),(by simp only[rs0];omega),λH3 R3=>?_⟩;refine⟨_,rfl,?_⟩;rw[aV hw,AX];exact R3
 rintro σ G ⟨v1,rfl,R⟩;rw[F6,F6,al,Gv]at R;obtain⟨dx',sa,fa,ta,kvs,vs,h1,h2,h3,h4,_,_,_,_,_,_,_,_,ft,tg,n1,n2⟩:=R.use;refine⟨_,rfl,_,_,_,_,_,rfl,h1,T.bG.cl,T.eP,qt,_,rfl,_,_,_,_,_,rfl,h1,T.bG.cl,T.fV,uD,le2,λp1 hp1=>?_⟩;have s5:=ag hp1 (.tup [.ref ta,.ref fa]);exact q p1 _ ta fa vs kvs (R.old.free hp1) (R.old.trans s5) ae n2 n1 (s5 _ _ h4) (s5 _ _ h3) (fP.mono s5 tg) (ft.mono s5)

theorem EL{ls:List Int}{i:Nat}(hl:ls.length<=63):(ctr (ls.take i)).1<=63/\(ctr (ls.take i)).2.1<=63/\(ctr (ls.take i)).2.2<=63:=by
 obtain⟨a,b,c⟩:=Bf (ls.take i);have:=List.length_take_le i ls;have h2:=List.length_take_le' i ls;omega
theorem DM{c:Nat×Nat×Nat}{l:Int}(h1:c.1<=63)(h2:c.2.1<=63)(h3:c.2.2<=63):(eg c l).length<=20/\∀d∈eg c l,d<127:=by
 have f1:=wj h1;have f2:=wj h2;have f3:=wj h3;have fi:∀n d,d∈aT n->d<127:=λn d hd=>by have:=Dn n d hd;omega
 unfold eg;by_cases e1:l=1
 .rw[if_pos e1];exact⟨by omega,λd hd=>fi _ d hd⟩
 rw[if_neg e1];by_cases e2:l=2
 .rw[if_pos e2];refine⟨by simp only[F7,F8,Gj];omega,λd hd=>?_⟩;rcases List.mem_append.mp hd with hd|hd
  .rcases List.mem_append.mp hd with hd|hd
   .exact fi _ d hd
   .rw[List.mem_singleton.mp hd];decide
  .exact fi _ d hd
 rw[if_neg e2];refine⟨by simp only[F7,F8,Gj];omega,λd hd=>?_⟩;rcases List.mem_append.mp hd with hd|hd
 .rcases List.mem_append.mp hd with hd|hd
  .exact fi _ d hd
  .rw[List.mem_singleton.mp hd];decide
 .rcases List.mem_append.mp hd with hd|hd
  .rcases List.mem_append.mp hd with hd|hd
   .exact fi _ d hd
   .rw[List.mem_singleton.mp hd];decide
  .exact fi _ d hd
theorem fX{n:Nat}{ws:List Wk}:∀{ts:List Tg},(n,ws)∈aG ts->Tg.head n ws∈ts
 |[],h=>by cases h
 |t::r,h=>by
  cases t with
  |head m us =>
   rcases List.mem_cons.mp h with e|h
   .cases e;exact Gd
   .exact Gc _ (fX h)
  |page=>exact Gc _ (fX (ts:=r) h)
  |odd=>exact Gc _ (fX (ts:=r) h)
  |lst=>exact Gc _ (fX (ts:=r) h)
  |par us=>exact Gc _ (fX (ts:=r) h)
theorem dz:∀(a b:List Tg),aG (a++b)=aG a++aG b
 |[],b=>rfl
 |t::r,b=>by cases t<;>simp[aG,dz r b]
theorem q0(t:Tg):(aG [t]).length=b9 t:=by cases t<;>rfl
structure TxG(things:List Tg)(feet:List (Str×List Wk)):Prop where
 tg:∀t∈things,TgG t
 ft:FtG feet
 hs:(aG things).length<=63
 len:things.length<=200
section
variable {things:List Tg}{feet:List (Str×List Wk)}
theorem TxG.sc(h:TxG things feet):kj (f_ (aG things) feet):=by
 have ll:(dY (aG things)).length<=63:=by unfold dY;rw[F6];exact h.hs
 have nn:∀l∈fQ (dY (aG things)) (dY (aG things)).length,l.length<=20/\∀d∈l,d<127:=λl hl=>by
  unfold fQ at hl;obtain⟨k,_,rfl⟩:=List.mem_map.mp hl;obtain⟨a,b,c⟩:=EL (i:=k+1) ll;exact DM a b c
 refine⟨?_,?_,?_,h.ft.1,?_,?_,?_⟩
 .show(KS tx _).length<=200;rw[F6,oI];omega
 .show(KS _ _).length=(KS tx _).length;rw[F6,F6,oI];unfold dY;rw[F6]
 .intro t ht;obtain⟨⟨n,ws⟩,hm,rfl⟩:=List.mem_map.mp ht;obtain⟨_,_,h3,h4⟩:=h.tg _ (fX hm);exact⟨h3,λw hw=>(h4 w hw).1⟩
 .intro p hp;obtain⟨h1,h2⟩:=h.ft.2 p hp;exact⟨h1,λw hw=>⟨(h2 w hw).1.1,(h2 w hw).2⟩⟩
 .intro n hn;obtain⟨l,hl,rfl⟩:=List.mem_map.mp hn;exact⟨l,rfl,by have:=(nn l hl).1;omega⟩
 .intro l hl;obtain⟨l',hl',e⟩:=List.mem_map.mp hl;rw[<-i6 e];exact(nn l' hl').2
theorem TxG.fo(h:TxG things feet):uK (f_ (aG things) feet):=⟨λp hp=>by
 obtain⟨h1,h2⟩:=h.ft.2 p hp;exact⟨h1,λw hw=>(h2 w hw).1.run.ws (h2 w hw).2.1 (h2 w hw).2.2⟩⟩
theorem TxG.st(h:TxG things feet):∀t∈(f_ (aG things) feet).titles,∀w∈t,RdW w:=λt ht=>by
 obtain⟨⟨n,ws⟩,hm,rfl⟩:=List.mem_map.mp ht;exact(h.tg _ (fX hm)).2.2.2
theorem TxG.nl(h:TxG things feet):(f_ (aG things) feet).nums.length=(aG things).length:=by
 show(KS tx _).length=_;rw[F6,oI];unfold dY;rw[F6]
theorem TxG.lv(h:TxG things feet):Cs (dY (aG things)):=λl hl=>by
 unfold dY at hl;obtain⟨⟨n,ws⟩,hm,rfl⟩:=List.mem_map.mp hl;obtain⟨h1,h2,_⟩:=h.tg _ (fX hm);dsimp only;omega
end
theorem z7{c:Sc}{σ:Ss}{t:Tg}{r:List Tg}:ju c σ (t::r)=(match jn c σ t with|.error x=>.error x|.ok s'=>ju c s' r):=rfl

def xS(K:PySem.W.Frag)(cls:Xc->Addr):Sp:=λvs H Q E=>∃(ra:Addr) (fv:V) (rs:List (List Nat)) (rws:List Rw),vs=[.ref ra,fv]/\SqL K H ra ((rs.map tx).map V.str)/\mK rs rws/\rs.length<=200/\mv rs0 rws/\(rws.map rwN).sum<=500/\TxG (aR rs0 rws).things (aR rs0 rws).feet/\(∀e,gZ (f_ (aG (aR rs0 rws).things) (aR rs0 rws).feet) (aR rs0 rws).things=.error e->∀H',aj H H'->E (.ref (cls e)) none H')/\∀σ p H' q tp ma ha us fs hvs,gZ (f_ (aG (aR rs0 rws).things) (aR rs0 rws).feet) (aR rs0 rws).things=.ok σ->aj H H'->H p=none->H' p=some (.tup [.ref q,.ref ma,.ref ha])->H' q=some (.tup [fv,.ref tp])->kR H H' σ tp us fs->H' ma=some (.dK (mkV σ.ms))->H ma=none->H' ha=some (.lst hvs)->aL (HdA H') hvs σ.hs->H ha=none->tp≠ha->ha∉fs->σ.ws.length<=400->Q (.ref p) H'
theorem ib:aK ["rows","form","read","things","setter","thing"] ["rows","form"] (au mT):=by walk_at "c"
theorem xT(T:Txt P w K mg a):aX P w K mg base (CXe P w) 8 a.ny a.l_ ["rows","form"] (xS K (oz a.dH a.cY a.b7 a.cZ)):=by
 refine T.mZ.fn.okE ib (λvs H Q E h=>?_) (λcdv A outer s H vs Q E hr h=>?_)
 .obtain⟨ra,fv,rs,rws,rfl,_⟩:=h;rfl
 obtain⟨ra,fv,rs,rws,rfl,hr_,ar,rl,tw,sm,tx_,qe,q⟩:=h;refine⟨_,(af (ay (i:=2) ib.nd rfl (Gm rfl) (aD T.mY (xR T) (hr.mono (by decide)) rfl (aa (pv 0) ac)))
   (af (ay (i:=3) ib.nd rfl (Gm rfl) (aC aS (pv 2) ah (λ_ _=>rfl)))
   (af (ay (i:=4) ib.nd rfl (Gm rfl) (Ep eR T.aB T.kD (uQ T) (hr.mono (by decide)) rfl (aa (fG rfl (d_ (caps:=[]) (js:=[]) (cap:=trivial)) (bj (pv 3)) (λ_ _ _ _=>(iD (aq br (aC (r:=jG K) aS (pv 0) ah (λ_ _=>rfl)) ao (nomark _)))) (λ_ _ _ _=>(pv 0))) (aa (aC aS (pv 2) ah (λ_ _=>rfl)) ac))))
   (af (cc HX rfl (bj (pv 3)) (aM (i:=5) ib.nd rfl (Gm rfl)) (ai (bf (dA fN T.aB T.ii (pQ T) (hr.mono (by decide)) (pv 4) (aa (pv 5) ac)))))
   (af (bf (xl fN T.aB T.ga (n_ T) (hr.mono (by decide)) (pv 4) ))
   (ai (aJ (aY (aa (aY (aa (pv 1) (aa (xl eR T.aB T.gF (oQ T) (hr.mono (by decide)) (pv 4) ) ac))) (aa (bv (pv 4) rfl) (aa (bv (pv 4) rfl) ac))))))))))),?_⟩
 refine⟨_,rfl,ra,rs,rws,rfl,hr_,ar,rl,tw,sm,λp1 H1 ta fa tv kvs hp1 s1 k1 nta nfa kta kfa tgs ft=>?_⟩;dsimp only[bE];generalize (aR rs0 rws).things=things at *;generalize (aR rs0 rws).feet=feet at *;have lt:=tgs.len;refine⟨_,rfl,_,_,_,_,rfl,rfl,SqT.of k1,rfl,?_⟩;refine⟨_,rfl,ta,rfl,⟨_,SqL.of kta⟩,dF (K:=K) (a:=ta) (xs:=tv) (λi ys G'=>H1=G'/\ys.length<=i/\aL (HtA H1) ys (aG (things.take i))) ⟨rfl,Gh _,trivial⟩ (λi ys G' _ z=>by rw[<-z.1];exact SqL.of kta) ?_ ?_ ?_⟩
 .rintro i ys G' hi ⟨_,z,_⟩;exact aA (by have:=tx_.len;omega)
 .rintro i y ys G' hy ⟨rfl,z,al⟩;obtain⟨t,ht,htg⟩:=tgs.getL hy;have en:aG (things.take (i+1))=aG (things.take i)++aG [t]:=by rw[aV ht,dz]
  cases t with
  |head n ws =>
   obtain⟨b,l,rfl,hb,hl⟩:=htg;refine⟨_,rfl,_,_,_,_,rfl,rfl,SqT.of hb,rfl,rfl,_,rfl,?_⟩;rw[decide_eq_true rfl];refine aN ?_;refine⟨_,rfl,rfl,by rw[F7];simp only[F8,Gj];omega,?_⟩;rw[en];exact al.snoc ⟨b,l,rfl,hb,hl⟩
  |page =>
   obtain⟨b,rfl,hb⟩:=htg;refine⟨_,rfl,_,_,_,_,rfl,rfl,SqT.of hb,rfl,rfl,_,rfl,?_⟩;rw[decide_eq_false (λz=>absurd (V.str.inj z) (by decide +kernel))];refine av ?_;refine⟨rfl,by omega,?_⟩;rw[en];simpa[aG]using al
  |odd =>
   obtain⟨b,rfl,hb⟩:=htg;refine⟨_,rfl,_,_,_,_,rfl,rfl,SqT.of hb,rfl,rfl,_,rfl,?_⟩;rw[decide_eq_false (λz=>absurd (V.str.inj z) (by decide +kernel))];refine av ?_;refine⟨rfl,by omega,?_⟩;rw[en];simpa[aG]using al
  |lst =>
   obtain⟨b,rfl,hb⟩:=htg;refine⟨_,rfl,_,_,_,_,rfl,rfl,SqT.of hb,rfl,rfl,_,rfl,?_⟩;rw[decide_eq_false (λz=>absurd (V.str.inj z) (by decide +kernel))];refine av ?_;refine⟨rfl,by omega,?_⟩;rw[en];simpa[aG]using al
  |par ws =>
   obtain⟨b,l,rfl,hb,hl⟩:=htg;refine⟨_,rfl,_,_,_,_,rfl,rfl,SqT.of hb,rfl,rfl,_,rfl,?_⟩;rw[decide_eq_false (λz=>absurd (V.str.inj z) (by decide +kernel))];refine av ?_;refine⟨rfl,by omega,?_⟩;rw[en];simpa[aG]using al
 rintro hv G' ⟨rfl,z,al⟩ hl hhl;rw[lt,Gv]at al;have s2:=ag hhl (.lst hv);have k2:upd H1 hl (.lst hv) hl=some (.lst hv):=ae;have al2:aL (HtA (upd H1 hl (.lst hv))) hv (aG things):=al.imp λv h ⟨b,l,z1,z2,z3⟩=>⟨b,l,z1,s2 _ _ z2,z3.mono s2⟩;have k1':=s2 _ _ k1;have kfa':=s2 _ _ kfa;have kta':=s2 _ _ kta;have tgs2:=fP.mono s2 tgs;have ft2:=ft.mono s2;have s12:=s1.trans s2;generalize upd H1 hl (.lst hv)=H2 at s2 k2 al2 k1' kfa' kta' tgs2 ft2 s12⊢;refine⟨_,rfl,_,_,_,_,rfl,rfl,SqT.of k1',rfl,λx dx hx hdx ndx=>?_⟩;have sd:=ag hdx (.own x);have hx1:upd H2 dx (.own x) x=none:=by rw[ak (GX ndx)];exact hx
 have s3:=sd.trans (ag hx1 (.ins a.aH dx []));have k3:upd (upd H2 dx (.own x)) x (.ins a.aH dx []) x=some (.ins a.aH dx []):=ae;have nx:H x=none:=s12.free hx;generalize upd (upd H2 dx (.own x)) x (.ins a.aH dx [])=H3 at s3 k3⊢;have al3:aL (HtA H3) hv (aG things):=al2.imp λv h ⟨b,l,z1,z2,z3⟩=>⟨b,l,z1,s3 _ _ z2,z3.mono s3⟩;refine⟨x,dx,hl,fa,hv,aG things,kvs,feet,rfl,k3,s3 _ _ k2,al3,s3 _ _ kfa',ft2.mono s3,tx_.lv,tx_.hs,λH4 A ax f4 S4 fr4=>?_⟩;refine⟨rfl,?_⟩;subst ax;dsimp only[bE];have sG:aj H2 (hid A.os H4):=λb u h=>by
  have h3:=s3 _ _ h;refine bn (λz=>?_) (f4 b u (λz=>by rw[z,hx]at h;cases h) h3);simp only[Sad.os,Hd,GZ,or_false]at z;rcases z with z|z|z|z
  .rw[z,hx]at h;cases h
  .rw[z,fr4.1]at h3;cases h3
  .rw[z,fr4.2.1]at h3;cases h3
  .rw[z,fr4.2.2]at h3;cases h3
 generalize hid A.os H4=G at sG S4;have sHG:=s12.trans sG;have so:=tx_.sc;have fo:=tx_.fo;have st:=tx_.st;have nl:=tx_.nl;have lt3:=tx_.len;have hs3:=tx_.hs;have ktG:=sG _ _ kta';have tgG:=fP.mono sG tgs2;generalize f_ (aG things) feet=c at S4 so fo st nl qe q;have setE:∀e,ju c ss0 things=.error e->gZ c things=.error e:=λe h=>by unfold gZ;rw[h]
 refine⟨_,rfl,ta,rfl,⟨_,SqL.of (S4.old _ _ ktG)⟩,cg (K:=K) (a:=ta) (xs:=tv) (λi σ' Hi=>∃(v5:Option V) (σ1:Ss),σ'=[some (.ref ra),some fv,some (.ref p1),some (.ref ta),some (.ref A.x),v5]/\StA a.aH G Hi A c σ1/\ju c ss0 things=ju c σ1 (things.drop i)/\sS c σ1/\σ1.ws.length<=400/\σ1.fs<=σ1.ws.length/\σ1.ms.length<=600*i/\σ1.hs.length=(aG (things.take i)).length) ⟨none,ss0,rfl,S4,rfl,⟨(by intro t ht;cases ht),(by intro t ht;cases ht)⟩,by decide,Gh _,Gh _,rfl⟩ (λi σ' Hi _ g=>by obtain⟨_,_,_,S,_⟩:=g;exact SqL.of (S.old _ _ ktG)) ?_ ?_⟩
 .rintro i y σ' Hi hy ⟨v5,σ1,rfl,S5,er,ss,wl,fl,ml,hl5⟩;obtain⟨t,ht,htg⟩:=tgG.getL hy;have hi:=(List.getElem?_eq_some_iff.mp ht).1;have ed:things.drop i=t::things.drop (i+1):=by
   obtain⟨hi,e⟩:=List.getElem?_eq_some_iff.mp ht;rw[GT hi,e]
  have tg0:=tx_.tg t (Ge ht);have en:aG (things.take (i+1))=aG (things.take i)++aG [t]:=by rw[aV ht,dz]
  have eall:(aG things).length=(aG (things.take i)).length+b9 t+(aG (things.drop (i+1))).length:=by
   have:=congrArg (λl=>(aG l).length) (List.take_append_drop (i+1) things)
   try dsimp only at this
   rw[dz,F7,en,F7,q0]at this;omega
  have hh:b9 t=1->σ1.hs.length<c.nums.length:=λz=>by rw[nl,hl5];omega
  rw[ed,z7]at er;refine⟨_,rfl,_,_,_,rfl,S5.ins,jh (by decide +kernel),_,rfl,A,G,c,σ1,_,t,rfl,S5,so,htg,?_,(by rw[hl5];omega),⟨wl,fl,by omega⟩,λe he H' s'=>qe e (setE e (by rw[er,he])) H' (sHG.trans s'),λσ2 H5 he S6=>?_⟩
  .cases t with
   |head n ws=>exact hh rfl
   |par ws=>exact⟨λw hw=>(tg0.2 w hw).1,tg0.1⟩
   |page=>trivial
   |odd=>trivial
   |lst=>trivial
  .obtain⟨b,bh⟩:=A2 so fo st he tg0 hh;rw[he]at er;refine⟨_,σ2,rfl,S6,er,b.ok ss,b.ws wl,b.fs fl,by have:=b.ms;omega,?_⟩;rw[bh,en,F7,q0,hl5]
 rintro σ' H5 ⟨v5,σ1,rfl,S5,er,ss,wl,fl,ml,hl5⟩;rw[lt]at er hl5;rw[HG]at er;rw[Gv]at hl5;have er:ju c ss0 things=.ok σ1:=er;refine⟨_,rfl,_,_,_,rfl,S5.ins,jh (by decide +kernel),A,G,c,σ1,rfl,S5,so,ss,wl,λe he H' s'=>qe e (by unfold gZ;rw[er];show(match eG c σ1 with|some e=>_|none=>_)=_;rw[he]) H' (sHG.trans s'),λck H6 s6 S6=>?_⟩
 have fin:gZ c things=.ok σ1:=by unfold gZ;rw[er];show(match eG c σ1 with|some e=>_|none=>_)=_;rw[ck]
 have tel:=Et ss fo (by rw[hl5,nl]) ck;refine⟨_,rfl,_,rfl,_,_,_,rfl,S6.ins,jh (by decide +kernel),A,G,c,σ1,rfl,S6,tel,wl,λtp H7 us fs s7 T7=>?_⟩;have S7:=S6.same s7;refine⟨le2,λq1 hq1=>?_⟩;have s8:=ag hq1 (.tup [fv,.ref tp]);have k8:upd H7 q1 (.tup [fv,.ref tp]) q1=some (.tup [fv,.ref tp]):=ae;have S8:=S7.same s8;have T8:=T7.same s8;generalize upd H7 q1 (.tup [fv,.ref tp])=H8 at s8 k8 S8 T8⊢;refine⟨_,rfl,_,_,_,_,_,rfl,S8.ins,T.aB.cl,T.cB,jg,_,rfl,_,_,_,_,_,rfl,S8.ins,T.aB.cl,T.dr,lA,le3,λp9 hp9=>?_⟩;have s9:=ag hp9 (.tup [.ref q1,.ref A.ma,.ref A.ha]);have k9:upd H8 p9 (.tup [.ref q1,.ref A.ma,.ref A.ha]) p9=some (.tup [.ref q1,.ref A.ma,.ref A.ha]):=ae;have S9:=S8.same s9;have T9:=(T8.same s9).base (sHG.trans S6.old);have k8':=s9 _ _ k8;have hp9':H p9=none:=(sHG.trans S8.old).free hp9;generalize upd H8 p9 (.tup [.ref q1,.ref A.ma,.ref A.ha])=H9 at s9 k9 S9 T9 k8'⊢;obtain⟨hvs,h91,h92⟩:=S9.heads;obtain⟨hv6,h61,_⟩:=S6.heads;exact q σ1 p9 H9 q1 tp A.ma A.ha us fs hvs fin (sHG.trans S9.old) hp9' k9 k8' T9 S9.marks (sHG.free (S9.fr _ v_)) h91 (h92.imp λ_ _=>HdA.mono bN) (sHG.free (S9.fr _ zy)) (λz=>by have:=T7.new;rw[z,h61]at this;cases this) (λz=>by have:=(T7.fr _ z).1;rw[h61]at this;cases this) wl

def nms(nm:Nat->List Nat)(at_ n:Nat):List (List Nat):=(HQ n).map λi=>nm (at_+i)
theorem yY(nm:Nat->List Nat)(a m n:Nat):nms nm a (m+n)=nms nm a m++nms nm (a+m) n:=by
 unfold nms;rw[List.range_add,Gg,Hw];congr 1;refine Jw λi _=>?_;show nm (a+(m+i))=nm (a+m+i);rw[H_]
def kz(ws:List NWd):List (List Nat):=(ws.filter λw=>decide (w.1=.mark)).map (·.2)
theorem tq(a b:List NWd):kz (a++b)=kz a++kz b:=by unfold kz;rw[GY,Gg]
theorem WdG.mark{nm:Nat->List Nat}{k:Kw}{at_ M F:Nat}{w:NWd}(h:WdG nm k at_ M F w):kz [w]=nms nm at_ (b1 (decide (k=.mark))):=by
 rcases h with⟨rfl,rfl⟩|⟨h1,h2,_⟩|⟨h1,_,h2,_⟩
 .simp[kz,nms,b1]
 .rw[decide_eq_false h1];simp[kz,nms,b1,h2]
 .rw[decide_eq_false h1];simp[kz,nms,b1,h2,h1]
theorem WsR.marks{nm:Nat->List Nat}{M F:Nat}:∀{ws:List (Kw×Int)} {ds:List NWd} {at_:Nat},WsR nm M F at_ ws ds->kz ds=nms nm at_ (mkN ws)
 |[],[],_,_=>rfl
 |k::ws,d::ds,at_,h=>by
  have e:mkN (k::ws)=b1 (decide (k.1=.mark))+mkN ws:=by
   unfold mkN;cases e:decide (k.1=.mark)<;>simp[Jo,e,b1]<;>omega
  rw[e,yY,<-WsR.marks h.2,<-h.1.mark,<-tq];rfl
theorem WsR.mem{nm:Nat->List Nat}{M F:Nat}:∀{ws:List (Kw×Int)} {ds:List NWd} {at_:Nat},WsR nm M F at_ ws ds->∀d∈ds,∃k∈ws,∃a,WdG nm k.1 a M F d
 |[],[],_,_,d,hd=>by cases hd
 |k::ws,x::ds,at_,h,d,hd=>by
  rcases List.mem_cons.mp hd with rfl|hd
  .exact⟨k,Gd,at_,h.1⟩
  .obtain⟨k',hk,a,g⟩:=WsR.mem h.2 d hd;exact⟨k',Gc _ hk,a,g⟩
theorem WsR.len{nm:Nat->List Nat}{M F:Nat}:∀{ws:List (Kw×Int)} {ds:List NWd} {at_:Nat},WsR nm M F at_ ws ds->ds.length=ws.length
 |[],[],_,_=>rfl
 |_::_,_::_,_,h=>congrArg (·+1) h.2.len
def nW(ns:List bM):List NWd:=ns.flatMap (·.2.2)
theorem fH.marks{nm:Nat->List Nat}{M F:Nat}:∀{rs:List cX} {ns:List bM} {at_ hung:Nat},fH nm M F at_ hung rs ns->kz (nW ns)=nms nm at_ (cr rs)
 |[],[],_,_,_=>rfl
 |r::rs,n::ns,at_,hung,h=>by
  have e:cr (r::rs)=mkN r.2+cr rs:=by unfold cr;simp
  have e2:nW (n::ns)=n.2.2++nW ns:=by unfold nW;simp
  rw[e,yY,<-fH.marks h.2,e2,tq,h.1.2.2.marks]
theorem fH.mem{nm:Nat->List Nat}{M F:Nat}:∀{rs:List cX} {ns:List bM} {at_ hung:Nat},fH nm M F at_ hung rs ns->∀n∈ns,∃r∈rs,∃a h,xC nm M F a h r n
 |[],[],_,_,_,d,hd=>by cases hd
 |r::rs,x::ns,at_,hung,h,d,hd=>by
  rcases List.mem_cons.mp hd with rfl|hd
  .exact⟨r,Gd,at_,hung,h.1⟩
  .obtain⟨r',hr,a,g⟩:=fH.mem h.2 d hd;exact⟨r',Gc _ hr,a,g⟩
theorem fH.len{nm:Nat->List Nat}{M F:Nat}:∀{rs:List cX} {ns:List bM} {at_ hung:Nat},fH nm M F at_ hung rs ns->ns.length=rs.length/\(ns.map (·.2.2.length)).sum=(rs.map (·.2.length)).sum
 |[],[],_,_,_=>⟨rfl,rfl⟩
 |r::rs,n::ns,_,_,h=>by
  obtain⟨h1,h2⟩:=h.2.len;refine⟨by simp[h1],?_⟩;rw[Gi,Ho,Gi,Ho,h2,h.1.2.2.len]
theorem xC.ok{nm:Nat->List Nat}(hn:NmF nm){kds:List Kw}(ke:∀k∈kds,k≠.entry){M F a h:Nat}{r:cX}{n:bM}(g:xC nm M F a h r n)(ok:zD kds r):ko n:=by
 obtain⟨g1,g2,g3⟩:=g;have gl:=g3.len;have kin:∀k∈r.2,k.1≠.entry:=λk hk=>by
  rcases ok.kds k hk with z|z
  .exact ke _ z
  .rw[z];decide
 have wk:∀w∈n.2.2,∃k∈r.2,w.1=k.1\/w.1=.plain:=λw hw=>by
  obtain⟨k,hk,a,z⟩:=g3.mem w hw;refine⟨k,hk,?_⟩;rcases z with⟨z1,z2⟩|⟨_,z,_⟩|⟨_,_,z,_⟩
  .exact .inl (by rw[z2,z1])
  .exact .inr z
  .exact .inl z
 by_cases e:r.1=.words/\r.2=[]
 .rw[if_pos e]at g1;have n0:n.2.2=[]:=by rw[e.2]at gl;exact List.length_eq_zero_iff.mp gl
  exact⟨λ_=>n0,(by rw[n0];simp),(λz=>by rw[g1]at z;cases z),(λz=>by rw[n0];simp),(λz=>by rw[g1]at z;cases z),(by rw[n0];simp)⟩
 .rw[if_neg e]at g1;refine⟨λz=>?_,by rw[gl];have:=ok.len;omega,λz=>?_,λz w hw=>?_,λz=>?_,λw hw=>?_⟩
  .rw[g1]at z;have:=ok.bare z;rw[this]at gl;exact List.length_eq_zero_iff.mp gl
  .rw[g1]at z;intro z2;rw[z2]at gl;exact e ⟨z,List.length_eq_zero_iff.mp gl.symm⟩
  .rw[g1]at z;obtain⟨k,hk,y|y⟩:=wk w hw
   .rw[y];exact ok.head z k hk
   .rw[y];decide
  .rw[g1]at z;rw[if_pos z]at g2;rw[g2];refine⟨hn.name _,hn.len _,hn.sg _,by rw[gl];have:=ok.len;omega,λw hw=>?_⟩;obtain⟨k,hk,y|y⟩:=wk w hw
   .rw[y];exact ok.foot z k hk
   .rw[y];exact⟨by decide,by decide⟩
  .obtain⟨k,hk,a,z⟩:=g3.mem w hw;exact z.ok hn (kin k hk)
theorem DN:∀r∈aU,ko r:=λr hr=>by
 have:r=(.empty,[],[])\/r=(.words,[],[(.plain,[101,110,100])]):=by simpa[aU]using hr
 rcases this with rfl|rfl
 .exact⟨λ_=>rfl,by simp,(λz=>by cases z),(λz=>by cases z),(λz=>by cases z),by simp⟩
 .refine⟨(λz=>by cases z),by simp,λ_=>by simp,(λz=>by cases z),(λz=>by cases z),λw hw=>?_⟩;have:w=(.plain,[101,110,100]):=by simpa using hw
  subst this;exact⟨by show Kw.plain≠Kw.entry;decide,by decide,.inl ⟨rfl,by simp,by simp⟩⟩
theorem jP(a b:List Wk):bu (a++b)=bu a+bu b:=by unfold bu;rw[GY,F7]
theorem Cv(ws:List Wk):(bU ws).length=bu ws:=rfl
theorem xU(a b:List Wk):bU (a++b)=bU a++bU b:=by unfold bU;rw[GY]
theorem tu{β:Type}{n:Str}:∀{l:List (Str×β)},n∉l.map (·.1)->lkS n l=none
 |[],_=>rfl
 |(m,j)::r,h=>by
  have h1:m≠n:=λz=>h (by rw[z];exact Gd);show(if m=n then some j else lkS n r)=none;rw[if_neg h1];exact tu λz=>h (Gc _ z)
theorem xV{β:Type}{n:Str}:∀{l:List (Str×β)},n∈l.map (·.1)->∃k,lkS n l=some k
 |[],h=>by cases h
 |(m,j)::r,h=>by
  by_cases c:m=n
  .exact⟨j,if_pos c⟩
  .rcases List.mem_cons.mp h with z|z
   .exact absurd z.symm c
   .obtain⟨k,e⟩:=xV z;exact⟨k,by show(if m=n then some j else lkS n r)=_;rw[if_neg c];exact e⟩
structure Cw(σ σ':Ss)(ws:List Wk):Prop where
 ms:σ'.ms=σ.ms++bo ws σ.ws.length
 ws:σ'.ws.map (·.w)=σ.ws.map (·.w)++bU ws
 ft:(∀t∈σ.ws,t.foot=[])->∀t∈σ'.ws,t.foot=[]
 hs:σ'.hs=σ.hs
theorem q8{c:Sc}{byh:Bool}:∀{ws:List Wk} {σ:Ss} {ld:Int},(∀w∈ws,w.1≠.foot)->((σ.ms++bo ws σ.ws.length).map (·.1)).Nodup->σ.ws.length+bu ws<=400->∃σ',ca c σ ld byh ws=.ok σ'/\Cw σ σ' ws
 |[],σ,_,_,_,_=>⟨σ,rfl,by simp[bo],by simp[bU],id,rfl⟩
 |w::r,σ,ld,hf,nd,hl=>by
  have hr:∀x∈r,x.1≠.foot:=λx hx=>hf x (Gc _ hx);rw[oA];by_cases k:w.1=.mark
  .rw[if_pos k];have em:bo (w::r) σ.ws.length=(rest w.2,σ.ws.length)::bo r σ.ws.length:=by show(if w.1=.mark then _ else _)=_;rw[if_pos k]
   have ec:bu (w::r)=bu r:=by unfold bu;simp[k]
   rw[em]at nd;have nn:lkS (rest w.2) σ.ms=none:=tu λz=>by
    rw[Gg,Iq]at nd;exact nd.2.2 _ z _ (by rw[Gi];exact Gd) rfl
   have es:d7 σ (rest w.2)=.ok { σ with ms:=σ.ms++[(rest w.2,σ.ws.length)] }:=by unfold d7;rw[nn];rfl
   rw[es];obtain⟨σ',e,h1,h2,h3,h4⟩:=q8 (σ:={ σ with ms:=σ.ms++[(rest w.2,σ.ws.length)] }) (ld:=ld) hr (by rw[Gs];exact nd) (by rw[ec]at hl;exact hl);refine⟨σ',e,?_,?_,h3,h4⟩
   .rw[h1,em,Gs];rfl
   .rw[h2,show bU (w::r)=bU r from by unfold bU;simp[k]]
  .rw[if_neg k];have em:bo (w::r) σ.ws.length=bo r (σ.ws.length+1):=by show(if w.1=.mark then _ else _)=_;rw[if_neg k]
   have ec:bu (w::r)=bu r+1:=by unfold bu;simp[k]
   have ep:cM c σ ld w=gS σ ld w []:=by unfold cM;rw[if_neg (hf w Gd)]
   rw[ec]at hl;rw[em]at nd;rw[ep];unfold gS;rw[if_neg (by omega)];have step:=λ(t:Wt) (z1:t.w=w) (z2:t.foot=[]) (lp:Int)=>q8 (c:=c) (byh:=byh) (ws:=r) (σ:={ σ with lp:=lp,ws:=σ.ws++[t],bh:=byh }) (ld:=0) hr (by show((σ.ms++bo r (σ.ws++[t]).length).map (·.1)).Nodup;rw[F7];exact nd) (by show(σ.ws++[t]).length+_<=_;rw[F7];simp only[F8,Gj];omega);obtain⟨σ',e,h1,h2,h3,h4⟩:=step ⟨if 0<σ.lp then σ.lp else ld,σ.bh&&decide ((if 0<σ.lp then σ.lp else ld)<=2),w,[]⟩ rfl rfl (if 0<σ.lp then 0 else σ.lp);refine⟨σ',e,?_,?_,λz=>h3 λt ht=>?_,h4⟩
   .rw[h1,em];show σ.ms++bo r (σ.ws++[_]).length=_;rw[F7];rfl
   .rw[h2,show bU (w::r)=w::bU r from by unfold bU;simp[k]];show(σ.ws++[_]).map _++_=_;rw[Gg,Gs];rfl
   .rcases List.mem_append.mp ht with ht|ht
    .exact z t ht
    .rw[List.mem_singleton.mp ht]
theorem uU:∀(ws:List Wk) (n:Nat),∀m∈bo ws n,m.2<=n+bu ws
 |[],_,m,h=>by cases h
 |w::r,n,m,h=>by
  by_cases k:w.1=.mark
  .have ec:bu (w::r)=bu r:=by unfold bu;simp[k]
   have em:bo (w::r) n=(rest w.2,n)::bo r n:=by show(if w.1=.mark then _ else _)=_;rw[if_pos k]
   rw[em]at h;rw[ec];rcases List.mem_cons.mp h with rfl|h
   .exact IB _ _
   .exact uU r n m h
  .have ec:bu (w::r)=bu r+1:=by unfold bu;simp[k]
   have em:bo (w::r) n=bo r (n+1):=by show(if w.1=.mark then _ else _)=_;rw[if_neg k]
   rw[em]at h;have:=uU r (n+1) m h;omega
theorem sU.rd{d:NWd}(h:sU d):RdW (sV d):=by
 obtain⟨h1,h2,h3⟩:=h;refine⟨.inl ⟨h1,d.2,?_,λc hc=>(h2 c hc).2,rfl⟩,h1⟩;rcases h3 with⟨_,_,l⟩|⟨_,_,l⟩<;>omega
theorem vq{α β:Type}{f:α->β}:∀{l:List α},(∀a∈l,∀b∈l,f a=f b->a=b)->l.Nodup->(l.map f).Nodup
 |[],_,_=>by simp
 |a::l,h,nd=>by
  rw[List.nodup_cons]at nd;rw[Gi,List.nodup_cons];refine⟨λz=>?_,vq (λx hx y hy=>h x (Gc _ hx) y (Gc _ hy)) nd.2⟩;obtain⟨b,hb,e⟩:=List.mem_map.mp z;have:=h b (Gc _ hb) a Gd e;rw[this]at hb;exact nd.1 hb

def kA(c:Sc):Nat->List Str->List Wk
 |_,[]=>[]
 |k,n::r=>du c k n++kA c (k+1) r
def thW(c:Sc)(h:Nat):Tg->List Wk
 |.head _ _=>(.plain,.str (c.nums.getD h Hk))::c.titles.getD h []
 |.lst=>kA c 0 c.nums
 |.par ws=>ws
 |_=>[]
def thH(c:Sc)(h n:Nat)(t:Tg):List (Str×Nat):=if b9 t=1 then[(c.nums.getD h Hk,n)]else[]
def cH(c:Sc):Nat->List Tg->List Wk
 |_,[]=>[]
 |h,t::r=>thW c h t++cH c (h+b9 t) r
def dG(c:Sc):Nat->Nat->List Tg->List (Str×Nat)
 |_,_,[]=>[]
 |h,n,t::r=>thH c h n t++dG c (h+b9 t) (n+bu (thW c h t)) r
structure mU(σ σ':Ss)(rs:List Wk)(hp:List (Str×Nat)):Prop where
 ms:σ'.ms=σ.ms++bo rs σ.ws.length
 ws:σ'.ws.map (·.w)=σ.ws.map (·.w)++bU rs
 ft:(∀t∈σ.ws,t.foot=[])->∀t∈σ'.ws,t.foot=[]
 hs:σ'.hs=σ.hs++hp
theorem Cw.t{σ σ':Ss}{rs:List Wk}(h:Cw σ σ' rs):mU σ σ' rs []:=⟨h.ms,h.ws,h.ft,by rw[h.hs,GL]⟩
theorem mU.len{σ σ':Ss}{rs:List Wk}{hp:List (Str×Nat)}(h:mU σ σ' rs hp):σ'.ws.length=σ.ws.length+bu rs:=by
 have:=congrArg Ka h.ws;simpa[Cv]using this
theorem mU.trans{σ σ1 σ2:Ss}{a b:List Wk}{p q:List (Str×Nat)}(h:mU σ σ1 a p)(h2:mU σ1 σ2 b q):mU σ σ2 (a++b) (p++q):=
 ⟨by rw[h2.ms,h.ms,h.len,h_,Gs],by rw[h2.ws,h.ws,xU,Gs],λz=>h2.ft (h.ft z),by rw[h2.hs,h.hs,Gs]⟩
def Two(x:Except Xc Ss)(σ:Ss)(rs:List Wk)(hp:List (Str×Nat)):Prop:=(σ.ws.length+bu rs<=400/\∃σ',x=.ok σ'/\mU σ σ' rs hp)\/(400<σ.ws.length+bu rs/\x=.error .toolong)
theorem vt(w:Wk)(r:List Wk):bu (w::r)=(if w.1=.mark then 0 else 1)+bu r:=by
 unfold bu;by_cases h:w.1=.mark<;>simp[h];omega
theorem tz{c:Sc}{byh:Bool}:∀{ws:List Wk} {σ:Ss} {ld:Int},(∀w∈ws,w.1≠.foot)->((σ.ms++bo ws σ.ws.length).map (·.1)).Nodup->σ.ws.length<=400->400<σ.ws.length+bu ws->ca c σ ld byh ws=.error .toolong
 |[],σ,_,_,_,h1,h2=>by
  have:bu []=0:=rfl;omega
 |w::r,σ,ld,hf,nd,h1,hl=>by
  have hr:∀x∈r,x.1≠.foot:=λx hx=>hf x (Gc _ hx);rw[oA];rw[vt]at hl;by_cases k:w.1=.mark
  .rw[if_pos k]at hl⊢;have em:bo (w::r) σ.ws.length=(rest w.2,σ.ws.length)::bo r σ.ws.length:=by show(if w.1=.mark then _ else _)=_;rw[if_pos k]
   rw[em]at nd;have nn:lkS (rest w.2) σ.ms=none:=tu λz=>by
    rw[Gg,Iq]at nd;exact nd.2.2 _ z _ (by rw[Gi];exact Gd) rfl
   have es:d7 σ (rest w.2)=.ok { σ with ms:=σ.ms++[(rest w.2,σ.ws.length)] }:=by unfold d7;rw[nn];rfl
   rw[es];exact tz (σ:={ σ with ms:=σ.ms++[(rest w.2,σ.ws.length)] }) (ld:=ld) hr (by rw[Gs];exact nd) h1 (by show 400<σ.ws.length+_;omega)
  .rw[if_neg k]at hl⊢;have em:bo (w::r) σ.ws.length=bo r (σ.ws.length+1):=by show(if w.1=.mark then _ else _)=_;rw[if_neg k]
   have ep:cM c σ ld w=gS σ ld w []:=by unfold cM;rw[if_neg (hf w Gd)]
   rw[em]at nd;rw[ep];unfold gS;by_cases e:σ.ws.length=400
   .rw[if_pos e]
   .rw[if_neg e];have step:=λ(t:Wt) (lp:Int)=>tz (c:=c) (byh:=byh) (ws:=r) (σ:={ σ with lp:=lp,ws:=σ.ws++[t],bh:=byh }) (ld:=0) hr (by show((σ.ms++bo r (σ.ws++[t]).length).map (·.1)).Nodup;rw[F7];exact nd) (by show(σ.ws++[t]).length<=_;rw[F7];simp only[F8,Gj];omega) (by show _<(σ.ws++[t]).length+_;rw[F7];simp only[F8,Gj];omega);exact step _ _
theorem uV{c:Sc}{byh:Bool}{ws:List Wk}{σ:Ss}{ld:Int}(hf:∀w∈ws,w.1≠.foot)(nd:((σ.ms++bo ws σ.ws.length).map (·.1)).Nodup)(hl:σ.ws.length<=400):Two (ca c σ ld byh ws) σ ws []:=by
 by_cases h:σ.ws.length+bu ws<=400
 .obtain⟨σ',e,r⟩:=q8 hf nd h;exact .inl ⟨h,σ',e,r.t⟩
 .exact .inr ⟨by omega,tz hf nd hl (by omega)⟩
theorem Two.then{x:Except Xc Ss}{f:Ss->Except Xc Ss}{σ:Ss}{a b:List Wk}{p q:List (Str×Nat)}(h:Two x σ a p)(k:∀σ1,mU σ σ1 a p->σ1.ws.length<=400->Two (f σ1) σ1 b q):Two (match(generalizing:=false) x with|.error e=>.error e|.ok s=>f s) σ (a++b) (p++q):=by
 rcases h with⟨h1,σ1,rfl,r1⟩|⟨h1,rfl⟩
 .have l1:=r1.len;rcases k σ1 r1 (by omega)with⟨h2,σ2,e2,r2⟩|⟨h2,e2⟩
  .exact .inl ⟨by rw[jP];omega,σ2,e2,r1.trans r2⟩
  .exact .inr ⟨by rw[jP];omega,e2⟩
 .exact .inr ⟨by rw[jP];omega,rfl⟩
theorem yZ{σ:Ss}{a b:List Wk}(nd:((σ.ms++bo (a++b) σ.ws.length).map (·.1)).Nodup):((σ.ms++bo a σ.ws.length).map (·.1)).Nodup:=by
 rw[h_,<-Gs,Gg,Iq]at nd;exact nd.1
theorem xW{σ σ1:Ss}{a b:List Wk}{p:List (Str×Nat)}(r:mU σ σ1 a p)(nd:((σ.ms++bo (a++b) σ.ws.length).map (·.1)).Nodup):((σ1.ms++bo b σ1.ws.length).map (·.1)).Nodup:=by
 rw[h_,<-Gs]at nd;rw[r.ms,r.len];exact nd
theorem xX{c:Sc}:∀{ns:List Str} {k:Nat} {σ:Ss} {ld:Int},(∀w∈kA c k ns,w.1≠.foot)->((σ.ms++bo (kA c k ns) σ.ws.length).map (·.1)).Nodup->σ.ws.length<=400->Two (gi c σ ld k ns) σ (kA c k ns) []
 |[],k,σ,ld,_,_,hl=>.inl ⟨hl,σ,rfl,by simp[kA,bo],by simp[kA,bU],id,by simp⟩
 |n::r,k,σ,ld,hf,nd,hl=>by
  have e:kA c k (n::r)=du c k n++kA c (k+1) r:=rfl;rw[e]at hf nd⊢;exact Two.then (p:=[]) (q:=[]) (f:=λs=>gi c s 1 (k+1) r) (uV (c:=c) (byh:=false) (ld:=ld) (λw hw=>hf w (HC _ hw)) (yZ nd) hl) λσ1 r1 l1=>xX (λw hw=>hf w (GN _ hw)) (xW r1 nd) l1
theorem Bu{c:Sc}{σ:Ss}{t:Tg}(hf:∀w∈thW c σ.hs.length t,w.1≠.foot)(nd:((σ.ms++bo (thW c σ.hs.length t) σ.ws.length).map (·.1)).Nodup)(hl:σ.ws.length<=400):Two (jn c σ t) σ (thW c σ.hs.length t) (thH c σ.hs.length σ.ws.length t):=by
 cases t with
 |page=>exact .inl ⟨hl,_,rfl,by simp[thW,bo],by simp[thW,bU],id,by simp[thH,b9]⟩
 |odd=>exact .inl ⟨hl,_,rfl,by simp[thW,bo],by simp[thW,bU],id,by simp[thH,b9]⟩
 |lst=>exact xX hf nd hl
 |par ws=>exact uV hf nd hl
 |head n ws =>
  rcases uV (c:=c) (byh:=true) (ld:=2) (σ:={ σ with hs:=σ.hs++[(c.nums.getD σ.hs.length Hk,σ.ws.length)] }) hf nd hl with⟨h1,σ',e,r⟩|h
  .refine .inl ⟨h1,σ',e,r.ms,r.ws,r.ft,?_⟩;rw[r.hs,GL];rfl
  .exact .inr h
theorem y0(c:Sc)(h n:Nat)(t:Tg):(thH c h n t).length=b9 t:=by cases t<;>rfl
theorem y3{c:Sc}:∀{ts:List Tg} {σ:Ss},(∀w∈cH c σ.hs.length ts,w.1≠.foot)->((σ.ms++bo (cH c σ.hs.length ts) σ.ws.length).map (·.1)).Nodup->σ.ws.length<=400->Two (ju c σ ts) σ (cH c σ.hs.length ts) (dG c σ.hs.length σ.ws.length ts)
 |[],σ,_,_,hl=>.inl ⟨hl,σ,rfl,by simp[cH,bo],by simp[cH,bU],id,by simp[dG]⟩
 |t::r,σ,hf,nd,hl=>by
  have e:cH c σ.hs.length (t::r)=thW c σ.hs.length t++cH c (σ.hs.length+b9 t) r:=rfl;have e2:dG c σ.hs.length σ.ws.length (t::r)=thH c σ.hs.length σ.ws.length t++dG c (σ.hs.length+b9 t) (σ.ws.length+bu (thW c σ.hs.length t)) r:=rfl;rw[e]at hf nd⊢;rw[e2];refine Two.then (f:=λs=>ju c s r) (Bu (λw hw=>hf w (HC _ hw)) (yZ nd) hl) λσ1 r1 l1=>?_;have el:σ.hs.length+b9 t=σ1.hs.length:=by rw[r1.hs,F7,y0]
  have ew:=r1.len;rw[<-ew,el];rw[el]at hf nd;exact y3 (λw hw=>hf w (GN _ hw)) (xW r1 nd) l1
def hdN(l:List Tg):Nat:=(aG l).length
theorem oY(t:Tg)(r:List Tg):hdN (t::r)=b9 t+hdN r:=by
 unfold hdN;rw[show t::r=[t]++r from rfl,dz,F7,q0]
theorem xY(c:Sc):∀(a b:List Tg) (h:Nat),cH c h (a++b)=cH c h a++cH c (h+hdN a) b
 |[],b,h=>rfl
 |t::a,b,h=>by
  show thW c h t++cH c (h+b9 t) (a++b)=(thW c h t++cH c (h+b9 t) a)++_;rw[xY c a b,oY,Gs,H_]
theorem tD(c:Sc)(ws:List Wk):∀(l:List Tg) (h:Nat),cH c h (bY ws l)=cH c h l++ws/\aG (bY ws l)=aG l
 |[],h=>⟨by simp[bY,cH,thW],rfl⟩
 |[t],h=>by cases t<;>simp[bY,cH,thW,aG]
 |t::u::r,h=>by
  have e:bY ws (t::u::r)=t::bY ws (u::r):=by cases t<;>rfl
  obtain⟨h1,h2⟩:=tD c ws (u::r) (h+b9 t);rw[e];refine⟨?_,?_⟩
  .show thW c h t++cH c (h+b9 t) (bY ws (u::r))=(thW c h t++cH c (h+b9 t) (u::r))++ws;rw[h1,Gs]
  .rw[show t::bY ws (u::r)=[t]++bY ws (u::r)from rfl,dz,h2,<-dz];rfl
def rwT(c:Sc)(h:Nat):Rw->List Wk
 |.par ws=>ws
 |.head n ws=>thW c h (.head n ws)
 |.lst=>thW c h .lst
 |_=>[]
def rwH:Rw->List (Nat×List Wk)
 |.head n ws=>[(n,ws)]
 |_=>[]
theorem y4(c:Sc)(s:Rs)(w:Rw)(hw:∀n ws,w≠.foot n ws):cH c 0 (bT s w).things=cH c 0 s.things++rwT c (hdN s.things) w/\aG (bT s w).things=aG s.things++rwH w/\(bT s w).feet=s.feet:=by
 have snoc:∀t:Tg,cH c 0 (s.things++[t])=cH c 0 s.things++thW c (hdN s.things) t:=λt=>by
  rw[xY,HB];show _++(thW c _ t++[])=_;rw[GL]
 cases w with
 |empty=>exact⟨by simp[bT,rwT],by simp[bT,rwH],rfl⟩
 |foot n ws=>exact absurd rfl (hw n ws)
 |page=>exact⟨snoc .page,by show aG (s.things++[.page])=_;rw[dz];rfl,rfl⟩
 |odd=>exact⟨snoc .odd,by show aG (s.things++[.odd])=_;rw[dz];rfl,rfl⟩
 |lst=>exact⟨snoc .lst,by show aG (s.things++[.lst])=_;rw[dz];rfl,rfl⟩
 |head n ws=>exact⟨snoc (.head n ws),by show aG (s.things++[.head n ws])=_;rw[dz];rfl,rfl⟩
 |par ws =>
  unfold bT;by_cases g:s.g=true
  .simp only[g,if_true];exact⟨(tD c ws _ _).1,by rw[(tD c ws _ 0).2];exact(GL _).symm,trivial⟩
  .rw[Hq]at g;simp only[g,JJ,if_false];exact⟨snoc (.par ws),by rw[dz];rfl,trivial⟩
def xZ(c:Sc):Nat->List Rw->List Wk
 |_,[]=>[]
 |h,w::l=>rwT c h w++xZ c (h+(rwH w).length) l
theorem y6(c:Sc):∀(l:List Rw) (s:Rs),(∀w∈l,∀n ws,w≠.foot n ws)->cH c 0 (aR s l).things=cH c 0 s.things++xZ c (hdN s.things) l/\aG (aR s l).things=aG s.things++l.flatMap rwH/\(aR s l).feet=s.feet
 |[],s,_=>⟨by simp[aR,xZ],by simp[aR],rfl⟩
 |w::l,s,h=>by
  obtain⟨a1,a2,a3⟩:=y4 c s w (h w Gd);obtain⟨b1,b2,b3⟩:=y6 c l (bT s w) λx hx=>h x (Gc _ hx);refine⟨?_,?_,b3.trans a3⟩
  .show cH c 0 (aR (bT s w) l).things=_;have e:hdN (bT s w).things=hdN s.things+(rwH w).length:=by unfold hdN;rw[a2,F7]
   rw[b1,a1,e,Gs];rfl
  .show aG (aR (bT s w) l).things=_;rw[b2,a2,I_,Gs]

structure ScT(c:Sc)(tt:List Ttl):Prop where
 nums:c.nums=tt.map λt=>tx t.1
 titles:c.titles=tt.map λt=>wkS t.2
theorem ScT.at_{c:Sc}{tt:List Ttl}(h:ScT c tt){k:Nat}{t:Ttl}{r:List Ttl}(e:tt.drop k=t::r):tt.getD k ([],[])=t/\c.nums.getD k Hk=tx t.1/\c.titles.getD k []=wkS t.2/\tt.drop (k+1)=r:=by
 have hk:k<tt.length:=by
  by_cases z:k<tt.length
  .exact z
  .rw[Ih (by omega)]at e;cases e
 rw[GT hk]at e;injection e with e1 e2;have g:tt[k]?=some t:=by rw[Ga hk,e1]
 refine⟨by rw[Gu,g];rfl,by rw[h.nums,Gu,GA,g];rfl,by rw[h.titles,Gu,GA,g];rfl,e2⟩
theorem Cy(tt:List Ttl)(t:Ttl):bU (wkS t.2)=(ttW t).map (bR tt):=by
 unfold bU wkS ttW;rw[J7,Hw];rfl
theorem vx{c:Sc}{tt:List Ttl}(h:ScT c tt):∀{l:List Ttl} {k:Nat},tt.drop k=l->kA c k (l.map λt=>tx t.1)=((List.range' k l.length).flatMap (kX tt)).map (bR tt)
 |[],k,_=>rfl
 |t::l,k,e=>by
  obtain⟨a1,a2,a3,a4⟩:=h.at_ e;show du c k (tx t.1)++kA c (k+1) (l.map λt=>tx t.1)=_;rw[vx h a4,F8,List.range'_succ,I_,Gg];congr 1;unfold du kX;rw[a3,Cy tt,a1,Gi,Gg];show _=((.plain,.str (tx (tt.getD k ([],[])).1))::_:List Wk);rw[a1];rfl
theorem Bv{w:Wy}(h:w.hd=true):∃n,1<=n/\n<=3/\fE w=n/\∀(m:List Nat) (ws:List NWd),bg (w,m,ws)=.head n (wkS ws):=by
 cases w<;>first|exact absurd h (by decide)|exact⟨1,by decide,by decide,rfl,λ_ _=>rfl⟩|exact⟨2,by decide,by decide,rfl,λ_ _=>rfl⟩|exact⟨3,by decide,by decide,rfl,λ_ _=>rfl⟩
theorem CY{r:bM}(h:r.1.hd=false):rwH (bg r)=[]:=by
 obtain⟨w,m,ws⟩:=r;cases w<;>first|rfl|exact absurd h (show ¬ (true=false) by decide)
def ut:Nat×Nat×Nat->List Int->List (List Nat)
 |_,[]=>[]
 |c,l::r=>eg (bD c l) l::ut (bD c l) r
theorem Bw:∀(ls:List Int) (c:Nat×Nat×Nat),((HQ ls.length).map λk=>eg ((ls.take (k+1)).foldl bD c) (ls.getD k 0))=ut c ls
 |[],_=>rfl
 |l::r,c=>by
  rw[F8,List.range_succ_eq_map,Gi,Hw];show _::_=eg (bD c l) l::ut (bD c l) r;rw[<-Bw r (bD c l)];rfl
theorem oZ:∀(rows:List bM) (q:Nat×Nat×Nat),(bp q rows).map (·.1)=ut q (dY ((rows.map bg).flatMap rwH))/\(bp q rows).map (λt=>wkS t.2)=((rows.map bg).flatMap rwH).map (·.2)
 |[],_=>⟨rfl,rfl⟩
 |r::rows,q=>by
  rw[Gi,I_];cases hh:r.1.hd with
  |true =>
   obtain⟨n,_,_,e1,e2⟩:=Bv hh;have e:bp q (r::rows)=(eg (bD q (fE r.1:Int)) (fE r.1:Int),r.2.2)::bp (bD q (fE r.1:Int)) rows:=by show(if r.1.hd=true then _ else _)=_;rw[if_pos hh]
   have er:bg r=.head n (wkS r.2.2):=e2 r.2.1 r.2.2;obtain⟨i1,i2⟩:=oZ rows (bD q (fE r.1:Int));rw[e,er,Gi,Gi,i1,i2,e1];exact⟨rfl,rfl⟩
  |false =>
   have e:bp q (r::rows)=bp q rows:=by show(if r.1.hd=true then _ else _)=_;rw[if_neg (by rw[hh];decide)]
   rw[e,CY hh];exact oZ rows q
theorem EM{rows:List bM}{feet:List (Str×List Wk)}:ScT (f_ ((rows.map bg).flatMap rwH) feet) (bp (0,0,0) rows):=by
 obtain⟨h1,h2⟩:=oZ rows (0,0,0);refine⟨?_,h2.symm⟩;show(fQ (dY _) (dY _).length).map tx=_;have:fQ (dY ((rows.map bg).flatMap rwH)) (dY ((rows.map bg).flatMap rwH)).length=ut (0,0,0) (dY ((rows.map bg).flatMap rwH)):=Bw _ _;rw[this,<-h1,Hw];rfl
theorem x5(c:Sc):∀(a b:List Tg) (h n:Nat),dG c h n (a++b)=dG c h n a++dG c (h+hdN a) (n+bu (cH c h a)) b
 |[],b,h,n=>rfl
 |t::a,b,h,n=>by
  show thH c h n t++dG c (h+b9 t) (n+bu (thW c h t)) (a++b)=(thH c h n t++dG c (h+b9 t) (n+bu (thW c h t)) a)++dG c _ (n+bu (thW c h t++cH c (h+b9 t) a)) b;rw[x5 c a b,oY,jP,Gs,H_,H_]
theorem x6(c:Sc)(ws:List Wk):∀(l:List Tg) (h n:Nat),dG c h n (bY ws l)=dG c h n l
 |[],h,n=>rfl
 |[t],h,n=>by cases t<;>rfl
 |t::u::r,h,n=>by
  have e:bY ws (t::u::r)=t::bY ws (u::r):=by cases t<;>rfl
  rw[e];show thH c h n t++dG c (h+b9 t) (n+bu (thW c h t)) (bY ws (u::r))=_;rw[x6 c ws (u::r)];rfl
def rwP(c:Sc)(h n:Nat):Rw->List (Str×Nat)
 |.head _ _=>[(c.nums.getD h Hk,n)]
 |_=>[]
def z8(c:Sc):Nat->Nat->List Rw->List (Str×Nat)
 |_,_,[]=>[]
 |h,n,w::l=>rwP c h n w++z8 c (h+(rwH w).length) (n+bu (rwT c h w)) l
theorem DO(c:Sc)(s:Rs)(w:Rw):dG c 0 0 (bT s w).things=dG c 0 0 s.things++rwP c (hdN s.things) (bu (cH c 0 s.things)) w:=by
 have snoc:∀t:Tg,dG c 0 0 (s.things++[t])=dG c 0 0 s.things++thH c (hdN s.things) (bu (cH c 0 s.things)) t:=λt=>by
  rw[x5,HB,HB];show _++(thH c _ _ t++[])=_;rw[GL]
 cases w with
 |empty=>exact(GL _).symm
 |foot n ws=>exact(GL _).symm
 |page=>exact snoc .page
 |odd=>exact snoc .odd
 |lst=>exact snoc .lst
 |head n ws=>exact snoc (.head n ws)
 |par ws =>
  unfold bT;by_cases g:s.g=true
  .simp only[g,if_true];rw[x6];exact(GL _).symm
  .rw[Hq]at g;simp only[g,JJ,if_false];exact snoc (.par ws)
theorem y7(c:Sc):∀(l:List Rw) (s:Rs),(∀w∈l,∀n ws,w≠.foot n ws)->dG c 0 0 (aR s l).things=dG c 0 0 s.things++z8 c (hdN s.things) (bu (cH c 0 s.things)) l
 |[],s,_=>(GL _).symm
 |w::l,s,h=>by
  obtain⟨a1,a2,_⟩:=y4 c s w (h w Gd);have i:=y7 c l (bT s w) λx hx=>h x (Gc _ hx);show dG c 0 0 (aR (bT s w) l).things=_;have e:hdN (bT s w).things=hdN s.things+(rwH w).length:=by unfold hdN;rw[a2,F7]
  rw[i,DO,e,a1,jP,Gs];rfl
theorem oa(tt:List Ttl):∀ss:List Sw,bu (ss.map (bR tt))=swN ss
 |[]=>rfl
 |s::ss=>by
  rw[Gi,vt,oa tt ss];unfold swN;by_cases h:s.isM=true
  .rw[if_pos ((jo tt s).mpr h)];simp[h]
  .rw[if_neg (λz=>h ((jo tt s).mp z))];simp[h];omega
theorem j9(tt:List Ttl):∀(a b:List Sw) (n:Nat),cA tt (a++b) n=cA tt a n++cA tt b (n+swN a)
 |[],b,n=>rfl
 |s::a,b,n=>by
  have e:∀x:Nat,swN (s::a)=(if s.isM then 0 else 1)+swN a:=λ_=>by
   unfold swN;cases h:s.isM<;>simp[h];omega
  rw[Jf,e 0];cases s with
  |head k =>
   show(_,n)::cA tt (a++b) (n+1)=(_,n)::cA tt a (n+1)++_;rw[j9 tt a b,Jf,H_];rfl
  |w x =>
   show cA tt (a++b) (n+(if(Sw.w x).isM then 0 else 1))=cA tt a (n+(if(Sw.w x).isM then 0 else 1))++_;rw[j9 tt a b,H_]
  |entry k =>
   show cA tt (a++b) (n+(if(Sw.entry k).isM then 0 else 1))=cA tt a (n+(if(Sw.entry k).isM then 0 else 1))++_;rw[j9 tt a b,H_]
  |goal k =>
   show cA tt (a++b) (n+(if(Sw.goal k).isM then 0 else 1))=cA tt a (n+(if(Sw.goal k).isM then 0 else 1))++_;rw[j9 tt a b,H_]
theorem jA(tt:List Ttl):∀(a:List Sw) (n:Nat),(∀k,.head k∉a)->cA tt a n=[]
 |[],_,_=>rfl
 |s::a,n,h=>by
  have h2:∀k,.head k∉a:=λk z=>h k (Gc _ z);cases s with
  |head k=>exact absurd Gd (h k)
  |w x=>exact jA tt a _ h2
  |entry k=>exact jA tt a _ h2
  |goal k=>exact jA tt a _ h2
theorem sF(tt:List Ttl)(n k:Nat):.head k∉eO tt n:=λz=>by
 unfold eO at z;obtain⟨j,_,z⟩:=List.mem_flatMap.mp z;unfold kX ttW at z;simp at z
theorem x8{c:Sc}{tt:List Ttl}(hc:ScT c tt){r:bM}{rows:List bM}{q:Nat×Nat×Nat}{h:Nat}(e:tt.drop h=bp q (r::rows)):rwT c h (bg r)=(dq tt h r).map (bR tt)/\(∃q',tt.drop (h+hB r.1.hd)=bp q' rows)/\(rwH (bg r)).length=hB r.1.hd/\∀n,rwP c h n (bg r)=cA tt (dq tt h r) n:=by
 cases hh:r.1.hd with
 |true =>
  obtain⟨n,_,_,e1,e2⟩:=Bv hh;have e:tt.drop h=(eg (bD q (fE r.1:Int)) (fE r.1:Int),r.2.2)::bp (bD q (fE r.1:Int)) rows:=by rw[e];show(if r.1.hd=true then _ else _)=_;rw[if_pos hh]
  obtain⟨a1,a2,a3,a4⟩:=hc.at_ e;have er:bg r=.head n (wkS r.2.2):=e2 r.2.1 r.2.2;have hw:r.1≠.words:=λz=>by rw[z]at hh;cases hh
  have es:dq tt h r=.head h::r.2.2.map .w:=by unfold dq;rw[if_neg hw,if_pos hh]
  rw[er,es];refine⟨?_,⟨_,a4⟩,rfl,λn=>?_⟩
  .show((.plain,.str (c.nums.getD h Hk))::c.titles.getD h [])=_;rw[a2,a3,Gi,Hw];show _=(((.plain,.str (tx (tt.getD h ([],[])).1))::wkS r.2.2:List Wk));rw[a1]
  .show[(c.nums.getD h Hk,n)]=(tx (tt.getD h ([],[])).1,n)::cA tt (r.2.2.map .w) (n+1);rw[a2,a1,jA];intro k z;obtain⟨_,_,z⟩:=List.mem_map.mp z;cases z
 |false =>
  have e:tt.drop h=bp q rows:=by rw[e];show(if r.1.hd=true then _ else _)=_;rw[if_neg (by rw[hh];decide)]
  refine⟨?_,⟨q,e⟩,by rw[CY hh];rfl,?_⟩
  .unfold dq;obtain⟨w,m,ws⟩:=r;cases w with
   |words=>rw[if_pos rfl,Hw];rfl
   |lst =>
    show kA c 0 c.nums=(eO tt tt.length).map (bR tt);rw[hc.nums,vx hc (l:=tt) (k:=0) rfl];unfold eO;rw[List.range_eq_range']
   |empty=>rfl
   |page=>rfl
   |odd=>rfl
   |foot=>rfl
   |h1=>cases hh
   |h2=>cases hh
   |h3=>cases hh
  .intro n;have nh:∀k,.head k∉dq tt h r:=λk z=>by
    unfold dq at z;by_cases c1:r.1=.words
    .rw[if_pos c1]at z;obtain⟨_,_,z⟩:=List.mem_map.mp z;cases z
    .rw[if_neg c1,if_neg (by rw[hh];decide)]at z;by_cases c2:r.1=.lst
     .rw[if_pos c2]at z;exact sF tt _ k z
     .rw[if_neg c2]at z;cases z
   rw[jA tt _ _ nh];obtain⟨w,m,ws⟩:=r;cases w<;>first|rfl|cases hh
theorem uu{c:Sc}{tt:List Ttl}(hc:ScT c tt):∀{rows:List bM} {q:Nat×Nat×Nat} {h:Nat},tt.drop h=bp q rows->xZ c h (rows.map bg)=(bC tt h rows).map (bR tt)
 |[],_,_,_=>rfl
 |r::rows,q,h,e=>by
  obtain⟨a1,⟨q',a2⟩,a3,_⟩:=x8 hc e;show rwT c h (bg r)++xZ c (h+(rwH (bg r)).length) (rows.map bg)=(dq tt h r++bC tt (h+hB r.1.hd) rows).map (bR tt);rw[Gg,a1,a3,uu hc a2]
theorem x9{c:Sc}{tt:List Ttl}(hc:ScT c tt):∀{rows:List bM} {q:Nat×Nat×Nat} {h n:Nat},tt.drop h=bp q rows->z8 c h n (rows.map bg)=cA tt (bC tt h rows) n
 |[],_,_,_,_=>rfl
 |r::rows,q,h,n,e=>by
  obtain⟨a1,⟨q',a2⟩,a3,a4⟩:=x8 hc e;show rwP c h n (bg r)++z8 c (h+(rwH (bg r)).length) (n+bu (rwT c h (bg r))) (rows.map bg)=cA tt (dq tt h r++bC tt (h+hB r.1.hd) rows) n;rw[a4,a3,a1,oa,j9,x9 hc a2]
theorem x_(c:Sc):∀(ts:List Tg) (h n:Nat),(dG c h n ts).length=hdN ts
 |[],_,_=>rfl
 |t::ts,h,n=>by
  show(thH c h n t++dG c _ _ ts).length=_;rw[F7,y0,x_ c ts,oY]
theorem uW(c:Sc):∀(ts:List Tg) (h n k:Nat),k<hdN ts->∃m,(dG c h n ts)[k]?=some (c.nums.getD (h+k) Hk,m)
 |[],_,_,k,hk=>absurd hk (IK _)
 |t::ts,h,n,k,hk=>by
  rw[oY]at hk;show ∃m,(thH c h n t++dG c (h+b9 t) (n+bu (thW c h t)) ts)[k]?=_;cases e:b9 t with
  |zero =>
   rw[e]at hk;have:thH c h n t=[]:=by unfold thH;rw[e];rfl
   rw[this,J6];exact uW c ts h _ k (by omega)
  |succ i =>
   have i0:b9 t=1:=by cases t<;>first|rfl|cases e
   have hi:i=0:=by omega
   subst hi;have:thH c h n t=[(c.nums.getD h Hk,n)]:=by unfold thH;rw[if_pos i0]
   rw[this];cases k with
   |zero=>exact⟨n,rfl⟩
   |succ k =>
    obtain⟨m,z⟩:=uW c ts (h+1) (n+bu (thW c h t)) k (by omega);exact⟨m,by rw[show h+(k+1)=h+1+k by omega];exact z⟩
theorem oe:∀{rows:List bM} {q:Nat×Nat×Nat} {t:Ttl},t∈bp q rows->∃r∈rows,r.1.hd=true/\t.2=r.2.2
 |[],_,_,h=>by cases h
 |r::rows,q,t,h=>by
  by_cases hh:r.1.hd=true
  .have e:bp q (r::rows)=(eg (bD q (fE r.1:Int)) (fE r.1:Int),r.2.2)::bp (bD q (fE r.1:Int)) rows:=by show(if r.1.hd=true then _ else _)=_;rw[if_pos hh]
   rw[e]at h;rcases List.mem_cons.mp h with rfl|h
   .exact⟨r,Gd,hh,rfl⟩
   .obtain⟨r',a,b⟩:=oe h;exact⟨r',Gc _ a,b⟩
  .have e:bp q (r::rows)=bp q rows:=by show(if r.1.hd=true then _ else _)=_;rw[if_neg hh]
   rw[e]at h;obtain⟨r',a,b⟩:=oe h;exact⟨r',Gc _ a,b⟩
def Cz(tt:List Ttl)(rows:List bM):Sw->Prop
 |.w x=>(∃r∈rows,x∈r.2.2)\/(x.1≠.mark/\∃t∈tt,x∈t.2)
 |.head _=>True
 |.entry k=>k<tt.length
 |.goal k=>k<tt.length
theorem CZ{tt:List Ttl}:∀{rows:List bM} {h:Nat},∀s∈bC tt h rows,Cz tt rows s
 |[],_,s,hs=>by cases hs
 |r::rows,h,s,hs=>by
  have hs:s∈dq tt h r++bC tt (h+hB r.1.hd) rows:=hs;rcases List.mem_append.mp hs with hs|hs
  .have wd:s∈r.2.2.map Sw.w->Cz tt (r::rows) s:=λz=>by
    obtain⟨x,hx,rfl⟩:=List.mem_map.mp z;exact .inl ⟨r,Gd,hx⟩
   unfold dq at hs;by_cases c1:r.1=.words
   .rw[if_pos c1]at hs;exact wd hs
   .rw[if_neg c1]at hs;by_cases c2:r.1.hd=true
    .rw[if_pos c2]at hs;rcases List.mem_cons.mp hs with rfl|hs
     .exact trivial
     .exact wd hs
    .rw[if_neg c2]at hs;by_cases c3:r.1=.lst
     .rw[if_pos c3]at hs;unfold eO at hs;obtain⟨k,hk,hs⟩:=List.mem_flatMap.mp hs;have hk:=List.mem_range.mp hk;unfold kX at hs;rcases List.mem_cons.mp hs with rfl|hs
      .exact hk
      .rcases List.mem_append.mp hs with hs|hs
       .unfold ttW at hs;obtain⟨x,hx,rfl⟩:=List.mem_map.mp hs;obtain⟨h1,h2⟩:=List.mem_filter.mp hx;refine .inr ⟨by simpa using h2,tt.getD k ([],[]),?_,h1⟩;rw[Gu,Ga hk];exact List.getElem_mem hk
       .rw[List.mem_singleton.mp hs];exact hk
     .rw[if_neg c3]at hs;cases hs
  .have:=CZ s hs;cases s with
   |w x =>
    rcases this with⟨r',a,b⟩|z
    .exact .inl ⟨r',Gc _ a,b⟩
    .exact .inr z
   |head k=>exact trivial
   |entry k=>exact this
   |goal k=>exact this
theorem uX:∀(ws:List Wk) (n:Nat),(bo ws n).map (·.1)=(ws.filter λw=>decide (w.1=.mark)).map λ(w:Wk)=>(Tl.rest w.2)
 |[],_=>rfl
 |w::r,n=>by
  by_cases h:w.1=.mark
  .have e1:bo (w::r) n=(rest w.2,n)::bo r n:=by show(if w.1=.mark then _ else _)=_;rw[if_pos h]
   rw[e1,Gi,uX r n];simp[h]
  .have e1:bo (w::r) n=bo r (n+1):=by show(if w.1=.mark then _ else _)=_;rw[if_neg h]
   rw[e1,uX r (n+1)];simp[h]
theorem Bx(tt:List Ttl)(ss:List Sw):((ss.map (bR tt)).filter λw=>decide (w.1=.mark))=(ss.filter Sw.isM).map (bR tt):=by
 rw[J7];congr 1;refine List.filter_congr λs _=>?_;show decide ((bR tt s).1=.mark)=s.isM;cases h:s.isM with
 |true=>exact decide_eq_true ((jo tt s).mpr h)
 |false=>exact decide_eq_false λz=>by rw[(jo tt s).mp z]at h;cases h
theorem ya{tt:List Ttl}:∀{rows:List bM} {h:Nat},(∀r∈rows,r.1≠.words->r.1.hd=false->r.2.2=[])->(bC tt h rows).filter Sw.isM=((nW rows).filter λx=>decide (x.1=.mark)).map .w
 |[],_,_=>rfl
 |r::rows,h,hr=>by
  have e2:nW (r::rows)=r.2.2++nW rows:=by unfold nW;simp
  show(dq tt h r++bC tt (h+hB r.1.hd) rows).filter Sw.isM=_;rw[GY,ya λx hx=>hr x (Gc _ hx),e2,GY,Gg];congr 1;have wd:(r.2.2.map Sw.w).filter Sw.isM=(r.2.2.filter λx=>decide (x.1=.mark)).map .w:=by
   rw[J7];rfl
  unfold dq;by_cases c1:r.1=.words
  .rw[if_pos c1];exact wd
  .rw[if_neg c1];by_cases c2:r.1.hd=true
   .rw[if_pos c2];exact wd
   .rw[if_neg c2,hr r Gd c1 (by simpa using c2)];by_cases c3:r.1=.lst
    .rw[if_pos c3];show _=[];rw[List.filter_eq_nil_iff];intro s hs;unfold eO at hs;obtain⟨k,hk,hs⟩:=List.mem_flatMap.mp hs;unfold kX at hs;rcases List.mem_cons.mp hs with rfl|hs
     .exact λz=>by cases z
     .rcases List.mem_append.mp hs with hs|hs
      .unfold ttW at hs;obtain⟨x,hx,rfl⟩:=List.mem_map.mp hs;have:=(List.mem_filter.mp hx).2;show ¬ (decide (x.1=.mark)=true);simpa using this
      .rw[List.mem_singleton.mp hs];exact λz=>by cases z
    .rw[if_neg c3];rfl
def TgR:Tg->Prop
 |.head n ws=>1<=n/\n<=3/\ws.length<=130/\∀w∈ws,RdW w
 |.par ws=>∀w∈ws,RdW w
 |_=>True
def RwG:Rw->Prop
 |.head n ws=>1<=n/\n<=3/\ws.length<=130/\∀w∈ws,RdW w
 |.par ws=>∀w∈ws,RdW w
 |_=>True
theorem uv{ws:List Wk}(hw:∀w∈ws,RdW w):∀{l:List Tg},(∀t∈l,TgR t)->∀t∈bY ws l,TgR t
 |[],_,t,ht=>by
  rw[show bY ws []=[.par ws]from rfl,List.mem_singleton]at ht;subst ht;exact hw
 |[u],h,t,ht=>by
  have hu:=h u Gd;cases u<;>simp[bY]at ht<;>first|(subst ht;exact λw hw'=>(List.mem_append.mp hw').elim (hu w) (hw w))|(rcases ht with rfl|rfl<;>first|exact hu|exact hw)
 |t::u::r,h,x,hx=>by
  have e:bY ws (t::u::r)=t::bY ws (u::r):=by cases t<;>rfl
  rw[e]at hx;rcases List.mem_cons.mp hx with rfl|hx
  .exact h _ Gd
  .exact uv hw (λy hy=>h y (Gc _ hy)) x hx
theorem y8:∀{l:List Rw} {s:Rs},(∀w∈l,RwG w)->(∀t∈s.things,TgR t)->∀t∈(aR s l).things,TgR t
 |[],_,_,h=>h
 |w::l,s,hl,h=>by
  refine y8 (l:=l) (s:=bT s w) (λx hx=>hl x (Gc _ hx)) ?_;have g:=hl w Gd;have snoc:∀u:Tg,TgR u->∀t∈s.things++[u],TgR t:=λu hu t ht=>by
   rcases List.mem_append.mp ht with ht|ht
   .exact h t ht
   .rw[List.mem_singleton.mp ht];exact hu
  cases w with
  |empty=>exact h
  |foot n ws=>exact h
  |page=>exact snoc _ trivial
  |odd=>exact snoc _ trivial
  |lst=>exact snoc _ trivial
  |head n ws=>exact snoc (.head n ws) g
  |par ws =>
   unfold bT;by_cases e:s.g=true
   .simp only[e,if_true];exact uv g h
   .rw[Hq]at e;simp only[e,JJ,if_false];exact snoc (.par ws) g
theorem By{t:Tg}:∀{l:List Tg},t∈l->tgN t<=tgS l
 |[],h=>by cases h
 |u::l,h=>by
  have e:tgS (u::l)=tgN u+tgS l:=by unfold tgS;simp
  rcases List.mem_cons.mp h with rfl|h
  .omega
  .have:=By h;omega
def o4:List Kw:=[.plain,.plain,.plain,.mark,.mark,.number,.number,.page,.row]
structure C0(all:List bM)(σ:Ss):Prop where
 ms:σ.ms=bo ((bC (bp (0,0,0) all) 0 all).map (bR (bp (0,0,0) all))) 0
 ws:σ.ws.map (·.w)=bU ((bC (bp (0,0,0) all) 0 all).map (bR (bp (0,0,0) all)))
 hs:σ.hs=cA (bp (0,0,0) all) (bC (bp (0,0,0) all) 0 all) 0
 ft:∀t∈σ.ws,t.foot=[]
 ok:∀t∈σ.ws,kQ σ t.w
 hl:σ.hs.length<=63
 hn:∀k,k<(bp (0,0,0) all).length->∃n,σ.hs[k]?=some (tx ((bp (0,0,0) all).getD k ([],[])).1,n)
structure Ft(all:List bM):Prop where
 nr:∀r∈all,ko r
 len:all.length<=64
 tw:mv rs0 (all.map bg)
 sum:((all.map bg).map rwN).sum<=500
 txg:TxG (aR rs0 (all.map bg)).things (aR rs0 (all.map bg)).feet
 wo:∀s∈bC (bp (0,0,0) all) 0 all,Cz (bp (0,0,0) all) all s
 nd:((bo ((bC (bp (0,0,0) all) 0 all).map (bR (bp (0,0,0) all))) 0).map (·.1)).Nodup
 ft:(aR rs0 (all.map bg)).feet=[]
 tl:(bp (0,0,0) all).length<=63
 set:(swN (bC (bp (0,0,0) all) 0 all)<=400/\∃σ,gZ (f_ (aG (aR rs0 (all.map bg)).things) (aR rs0 (all.map bg)).feet) (aR rs0 (all.map bg)).things=.ok σ/\C0 all σ)\/(400<swN (bC (bp (0,0,0) all) 0 all)/\gZ (f_ (aG (aR rs0 (all.map bg)).things) (aR rs0 (all.map bg)).feet) (aR rs0 (all.map bg)).things=.error .toolong)
theorem vz{tt:List Ttl}:∀(a b:List bM) (h:Nat),∃h',bC tt h (a++b)=bC tt h a++bC tt h' b
 |[],b,h=>⟨h,rfl⟩
 |r::a,b,h=>by
  obtain⟨h',e⟩:=vz (tt:=tt) a b (h+hB r.1.hd);exact⟨h',by show dq tt h r++bC tt _ (a++b)=(dq tt h r++bC tt _ a)++_;rw[e,Gs]⟩
theorem y9:∀(l:List Rw) (s:Rs),(∀w∈l,∀n ws,w≠.foot n ws)->mv s l
 |[],_,_=>trivial
 |w::l,s,h=>⟨by
   have:=h w Gd;cases w<;>first|trivial|exact absurd rfl (this _ _),y9 l _ λx hx=>h x (Gc _ hx)⟩
theorem Fu{nm:Nat->List Nat}(hn:NmF nm){wys:List WyD}(hwf:WyD.way .foot∉wys){rows:List cX}{ns:List bM}(ok:lE wys o4 62 rows)(rr:fH nm (cr rows) (ftN rows) 0 0 rows ns):Ft (ns++aU):=by
 have ke:∀k∈o4,k≠.entry:=by decide
 have kf:∀k∈o4,k≠.foot:=by decide
 obtain⟨l1,l2⟩:=rr.len;have osum:=ok.sum;have olen:=ok.len;have endM:∀r∈aU,r=(.empty,[],[])\/r=(.words,[],[(.plain,[101,110,100])]):=λr hr=>by simpa[aU]using hr
 have wyf:∀r∈rows,r.1≠.foot:=λr hr z=>by
  rcases(ok.ok r hr).2 with y|y|⟨y,_⟩
  .rw[z]at y;cases y
  .rw[z]at y;exact hwf y
  .rw[z]at y;cases y
 have nr:∀r∈ns++aU,ko r:=λr hr=>by
  rcases List.mem_append.mp hr with hr|hr
  .obtain⟨x,hx,a,h,g⟩:=rr.mem r hr;exact g.ok hn ke (ok.ok x hx).1
  .exact DN r hr
 have nf:∀r∈ns++aU,r.1≠.foot:=λr hr=>by
  rcases List.mem_append.mp hr with hr|hr
  .obtain⟨x,hx,a,h,g,_⟩:=rr.mem r hr;by_cases e:x.1=.words/\x.2=[]
   .rw[if_pos e]at g;rw[g];decide
   .rw[if_neg e]at g;rw[g];exact wyf x hx
  .rcases endM r hr with rfl|rfl<;>(show _≠Wy.foot;decide)
 have rwf:∀w∈(ns++aU).map bg,∀n ws,w≠.foot n ws:=λw hw n ws=>by
  obtain⟨r,hr,rfl⟩:=List.mem_map.mp hw;have:=nf r hr;obtain⟨wy,m,us⟩:=r;intro z;cases wy<;>first|exact absurd rfl this|cases z
 have dk:∀r∈ns++aU,∀d∈r.2.2,d.1=.plain\/d.1=.mark\/(fZ d.1=true/\∃j,j<cr rows/\d.2=nm j):=λr hr d hd=>by
  rcases List.mem_append.mp hr with hr|hr
  .obtain⟨x,hx,a,h,_,_,g⟩:=rr.mem r hr;obtain⟨k,hk,a',z⟩:=g.mem d hd;have kk:k.1≠.foot/\k.1≠.entry:=by
    rcases(ok.ok x hx).1.kds k hk with y|y
    .exact⟨kf _ y,ke _ y⟩
    .rw[y];exact⟨by decide,by decide⟩
   rcases z with⟨_,rfl⟩|⟨_,z,_⟩|⟨z1,z2,z3,j,hj,e⟩
   .exact .inr (.inl rfl)
   .exact .inl z
   .refine .inr (.inr ⟨?_,j,?_,e⟩)
    .rw[z3];revert z1 z2 kk;cases k.1<;>simp[fZ]
    .unfold gk at hj;rw[if_neg kk.1]at hj;exact hj
  .rcases endM r hr with rfl|rfl
   .cases hd
   .have:d=(.plain,[101,110,100]):=by simpa using hd
    rw[this];exact .inl rfl
 have wo:=@CZ (bp (0,0,0) (ns++aU)) (ns++aU) 0;have dw:∀x,(∃r∈ns++aU,x∈r.2.2)\/(x.1≠.mark/\∃t∈bp (0,0,0) (ns++aU),x∈t.2)->∃r∈ns++aU,x∈r.2.2:=λx h=>by
  rcases h with h|⟨_,t,ht,hx⟩
  .exact h
  .obtain⟨r,hr,_,e⟩:=oe ht;exact⟨r,hr,by rw[<-e];exact hx⟩
 have tot:((ns++aU).map (·.2.2.length)).sum<=63:=by
  rw[Gg,IJ,l2];have e:(aU.map (·.2.2.length)).sum=1:=rfl;omega
 have sum:(((ns++aU).map bg).map rwN).sum<=500:=by
  have:∀l:List bM,((l.map bg).map rwN).sum<=(l.map (·.2.2.length)).sum:=λl=>by
   induction l with
   |nil=>exact Gh _
   |cons r l ih =>
    have h1:rwN (bg r)<=r.2.2.length:=by
     obtain⟨wy,n,ws⟩:=r;have e:(wkS ws).length=ws.length:=F6 _;cases wy<;>first|exact GV _|(show(wkS ws).length<=ws.length;omega)
    simp only[Gi,Ho];omega
  have:=this (ns++aU);omega
 have len:(ns++aU).length<=64:=by
  rw[F7,l1];show _+2<=64;omega
 have rg:∀w∈(ns++aU).map bg,RwG w:=λw hw=>by
  obtain⟨r,hr,rfl⟩:=List.mem_map.mp hw;have o:=nr r hr;have rd:∀w∈wkS r.2.2,RdW w:=λw hw=>by
   obtain⟨d,hd,rfl⟩:=List.mem_map.mp hw;exact(o.ok d hd).rd
  have ll:(wkS r.2.2).length<=130:=by unfold wkS;rw[F6];have:=o.len;omega
  obtain⟨wy,n,ws⟩:=r;cases wy<;>first|trivial|exact rd|exact⟨by decide,by decide,ll,rd⟩
 obtain⟨t1,t2,t3⟩:=y6 (f_ (aG (aR rs0 ((ns++aU).map bg)).things) (aR rs0 ((ns++aU).map bg)).feet) ((ns++aU).map bg) rs0 rwf;have t4:=y7 (f_ (aG (aR rs0 ((ns++aU).map bg)).things) (aR rs0 ((ns++aU).map bg)).feet) ((ns++aU).map bg) rs0 rwf;have t2:aG (aR rs0 ((ns++aU).map bg)).things=((ns++aU).map bg).flatMap rwH:=t2;have hc:ScT (f_ (aG (aR rs0 ((ns++aU).map bg)).things) (aR rs0 ((ns++aU).map bg)).feet) (bp (0,0,0) (ns++aU)):=by rw[t2];exact EM
 have tn:=uF ((ns++aU).map bg) rs0;rw[F6]at tn;have r0:tgS rs0.things=0/\rs0.things.length=0/\rs0.feet.length=0:=⟨rfl,rfl,rfl⟩;have hN:hdN (aR rs0 ((ns++aU).map bg)).things=(bp (0,0,0) (ns++aU)).length:=by
  unfold hdN;have:=congrArg Ka (oZ (ns++aU) (0,0,0)).2;rw[F6,F6]at this;rw[t2,<-this]
 have hl63:(bp (0,0,0) (ns++aU)).length<=63:=by
  have:∀(l:List bM) (q:Nat×Nat×Nat),(bp q l).length<=(l.filter λr=>r.1.hd).length:=λl=>by
   induction l with
   |nil=>intro _;exact Gh _
   |cons r l ih =>
    intro q;by_cases hh:r.1.hd=true
    .have e:bp q (r::l)=(eg (bD q (fE r.1:Int)) (fE r.1:Int),r.2.2)::bp (bD q (fE r.1:Int)) l:=by show(if r.1.hd=true then _ else _)=_;rw[if_pos hh]
     have:=ih (bD q (fE r.1:Int));rw[e,F8,Ie,if_pos hh,F8];omega
    .have e:bp q (r::l)=bp q l:=by show(if r.1.hd=true then _ else _)=_;rw[if_neg hh]
     rw[e,Ie,if_neg hh];exact ih q
  have h1:=this (ns++aU) (0,0,0);rw[GY,F7]at h1;have h2:(ns.filter λr=>r.1.hd).length<=ns.length:=Hs _ _;have h3:(aU.filter λr=>r.1.hd).length=0:=rfl;omega
 have txg:TxG (aR rs0 ((ns++aU).map bg)).things (aR rs0 ((ns++aU).map bg)).feet:=by
  refine⟨λt ht=>?_,?_,by show hdN _<=63;rw[hN];exact hl63,by omega⟩
  .have g:=y8 rg (λt ht=>by cases ht) t ht;have ln:=By ht;cases t with
   |par ws=>exact⟨by show ws.length<=600;have:tgN (.par ws)=ws.length:=rfl;omega,g⟩
   |head n ws=>exact g
   |page=>trivial
   |odd=>trivial
   |lst=>trivial
  .rw[t3];exact⟨GV _,λp hp=>by cases hp⟩
 have bare:∀r∈ns++aU,r.1≠.words->r.1.hd=false->r.2.2=[]:=λr hr h1 h2=>by
  have o:=nr r hr;have f:=nf r hr;obtain⟨wy,n,ws⟩:=r;cases wy<;>first|exact o.bare rfl|exact absurd rfl h1|exact absurd rfl f|exact absurd h2 (show ¬ (true=false) by decide)
 have mle:cr rows<=62:=by
  have:∀l:List cX,cr l<=(l.map (·.2.length)).sum:=λl=>by
   induction l with
   |nil=>exact Gh _
   |cons r l ih =>
    have:mkN r.2<=r.2.length:=Hs _ _;have e:cr (r::l)=mkN r.2+cr l:=by unfold cr;simp
    rw[e,Gi,Ho];omega
  have:=this rows;omega
 have nm':kz (nW (ns++aU))=nms nm 0 (cr rows):=by
  have:nW (ns++aU)=nW ns++nW aU:=by unfold nW;rw[Jx]
  rw[this,tq,rr.marks];exact GL _
 have names:(bo ((bC (bp (0,0,0) (ns++aU)) 0 (ns++aU)).map (bR (bp (0,0,0) (ns++aU)))) 0).map (·.1)=(nms nm 0 (cr rows)).map tx:=by
  rw[uX,Bx,ya bare,<-nm',Hw,Hw];unfold kz;rw[Hw];rfl
 have nd:((bo ((bC (bp (0,0,0) (ns++aU)) 0 (ns++aU)).map (bR (bp (0,0,0) (ns++aU)))) 0).map (·.1)).Nodup:=by
  rw[names];unfold nms;rw[Hw];refine vq (λa ha b hb e=>?_) List.nodup_range;rw[List.mem_range]at ha hb;have:=hn.inj (0+a) (0+b) (by omega) (by omega) (i6 e);omega
 refine⟨nr,len,y9 _ _ rwf,sum,txg,wo,nd,t3,hl63,?_⟩;have w1:cH (f_ (aG (aR rs0 ((ns++aU).map bg)).things) (aR rs0 ((ns++aU).map bg)).feet) 0 (aR rs0 ((ns++aU).map bg)).things=(bC (bp (0,0,0) (ns++aU)) 0 (ns++aU)).map (bR (bp (0,0,0) (ns++aU))):=t1.trans (uu hc (q:=(0,0,0)) (h:=0) rfl);have p1:dG (f_ (aG (aR rs0 ((ns++aU).map bg)).things) (aR rs0 ((ns++aU).map bg)).feet) 0 0 (aR rs0 ((ns++aU).map bg)).things=cA (bp (0,0,0) (ns++aU)) (bC (bp (0,0,0) (ns++aU)) 0 (ns++aU)) 0:=t4.trans (x9 hc (q:=(0,0,0)) (h:=0) (n:=0) rfl);have cf:(f_ (aG (aR rs0 ((ns++aU).map bg)).things) (aR rs0 ((ns++aU).map bg)).feet).feet=[]:=t3;generalize f_ (aG (aR rs0 ((ns++aU).map bg)).things) (aR rs0 ((ns++aU).map bg)).feet=c at *;have pl:=x_ c (aR rs0 ((ns++aU).map bg)).things 0 0;have pn:=uW c (aR rs0 ((ns++aU).map bg)).things 0 0;rw[p1,hN]at pl pn;have fin:=y3 (c:=c) (ts:=(aR rs0 ((ns++aU).map bg)).things) (σ:=ss0) ?_ ?_ (by decide)
 rotate_left
 .show ∀w∈cH c 0 _,w.1≠.foot;rw[w1];intro w hw;obtain⟨s,hs,rfl⟩:=List.mem_map.mp hw;have g:=wo s hs;cases s with
  |w x =>
   obtain⟨r,hr,hx⟩:=dw x g;show x.1≠.foot;rcases dk r hr x hx with z|z|⟨z,_⟩
   .rw[z];decide
   .rw[z];decide
   .intro y;rw[y]at z;cases z
  |head k=>show Kw.plain≠Kw.foot;decide
  |entry k=>show Kw.plain≠Kw.foot;decide
  |goal k=>show Kw.entry≠Kw.foot;decide
 .show((([]:List (Str×Nat))++bo (cH c 0 _) 0).map (·.1)).Nodup;rw[w1];exact nd
 have fin:Two (ju c ss0 (aR rs0 ((ns++aU).map bg)).things) ss0 (cH c 0 (aR rs0 ((ns++aU).map bg)).things) (dG c 0 0 (aR rs0 ((ns++aU).map bg)).things):=fin;rw[w1,p1]at fin;generalize (aR rs0 ((ns++aU).map bg)).things=things at *;obtain⟨h',split⟩:=vz (tt:=bp (0,0,0) (ns++aU)) ns aU 0;generalize hT:bp (0,0,0) (ns++aU)=tt at *;have z0:ss0.ws.length=0:=rfl;rcases fin with⟨h1,σ,e,R⟩|⟨h1,e⟩
 .rw[z0,oa,HB]at h1;have rms:σ.ms=bo ((bC tt 0 (ns++aU)).map (bR tt)) 0:=R.ms;have rws:σ.ws.map (·.w)=bU ((bC tt 0 (ns++aU)).map (bR tt)):=R.ws;have rhs:σ.hs=cA tt (bC tt 0 (ns++aU)) 0:=R.hs;have rlen:=R.len;rw[z0,oa,HB]at rlen;have say:∀w∈bU ((bC tt 0 (ns++aU)).map (bR tt)),kQ σ w:=λw hw=>by
   obtain⟨hw,hm⟩:=List.mem_filter.mp hw;obtain⟨s,hs,rfl⟩:=List.mem_map.mp hw;have g:=wo s hs;cases s with
   |w x =>
    obtain⟨r,hr,hx⟩:=dw x g;have hm:(!decide (x.1=.mark))=true:=hm;rcases dk r hr x hx with z|z|⟨z,j,hj,ej⟩
    .exact .inl ⟨z,x.2,rfl⟩
    .rw[z]at hm;cases hm
    .obtain⟨k,ek⟩:∃k,lkS (tx (nm j)) σ.ms=some k:=by
      refine xV ?_;rw[rms,names];refine Ib ?_;unfold nms;exact List.mem_map.mpr ⟨j,List.mem_range.mpr hj,by rw[HB]⟩
     exact .inr (.inr ⟨z,x.2,k,rfl,by rw[ej];exact ek⟩)
   |head k=>exact .inl ⟨rfl,_,rfl⟩
   |entry k=>exact .inl ⟨rfl,_,rfl⟩
   |goal k=>exact .inr (.inl ⟨rfl,k,rfl,by rw[rhs,pl];exact g⟩)
  have ck:eG c σ=none:=by
   unfold eG;rw[if_neg,if_neg]
   .rw[cf,Hq,HW];intro w hw;rw[List.flatMap_nil,GL,rws]at hw;rcases say w hw with⟨z,_⟩|⟨z,_⟩|⟨z,n,k,e1,e2⟩
    .unfold jv;rw[z];simp[fZ]
    .unfold jv;rw[z];simp[fZ]
    .unfold jv;rw[e1];show ¬ ((fZ w.1&&(lkS (tx n) σ.ms).isNone)=true);rw[e2];simp
   .rw[Hq,HW];intro m hm;have e3:bC tt h' aU=[.w (.plain,[101,110,100])]:=rfl;rw[rms,split,e3,Gg,h_]at hm;have hm:m∈bo ((bC tt 0 ns).map (bR tt)) 0:=by
     rcases List.mem_append.mp hm with hm|hm
     .exact hm
     .have:bo ([Sw.w (.plain,[101,110,100])].map (bR tt)) (0+bu ((bC tt 0 ns).map (bR tt)))=[]:=rfl;rw[this]at hm;cases hm
    have h2:=uU _ _ m hm;have h3:σ.ws.length=bu ((bC tt 0 ns).map (bR tt))+1:=by
     rw[rlen,<-oa tt,split,e3,Gg,jP];rfl
    simp only[decide_eq_true_eq];omega
  refine .inl ⟨h1,σ,?_,?_⟩
  .unfold gZ;rw[e];show(match eG c σ with|some e=>_|none=>_)=_
   rw[ck]
  .subst hT;refine⟨rms,rws,rhs,R.ft (λt ht=>by cases ht),λt ht=>say _ (by rw[<-rws];exact Ib ht),by rw[rhs,pl];exact hl63,λk hk=>?_⟩;obtain⟨m,z⟩:=pn k hk;rw[HB]at z;rw[rhs];refine⟨m,z.trans ?_⟩;rw[hc.nums,Gu,GA,Gu,Ga hk];rfl
 .rw[z0,oa,HB]at h1;refine .inr ⟨h1,?_⟩;unfold gZ;rw[e]
theorem yb{c:Sc}{tt:List Ttl}(hc:ScT c tt):∀{rows:List bM} {q:Nat×Nat×Nat} {h:Nat},tt.drop h=bp q rows->∀k,.head k∈bC tt h rows->k<tt.length
 |[],_,_,_,k,z=>by cases z
 |r::rows,q,h,e,k,z=>by
  obtain⟨_,⟨q',a2⟩,_,_⟩:=x8 hc e;have z:.head k∈dq tt h r++bC tt (h+hB r.1.hd) rows:=z;rcases List.mem_append.mp z with z|z
  .unfold dq at z;by_cases c1:r.1=.words
   .rw[if_pos c1]at z;obtain⟨_,_,z⟩:=List.mem_map.mp z;cases z
   .rw[if_neg c1]at z;by_cases c2:r.1.hd=true
    .rw[if_pos c2]at z;have e:tt.drop h=(eg (bD q (fE r.1:Int)) (fE r.1:Int),r.2.2)::bp (bD q (fE r.1:Int)) rows:=by rw[e];show(if r.1.hd=true then _ else _)=_;rw[if_pos c2]
     rcases List.mem_cons.mp z with z|z
     .cases z;by_cases y:h<tt.length
      .exact y
      .rw[Ih (by omega)]at e;cases e
     .obtain⟨_,_,z⟩:=List.mem_map.mp z;cases z
    .rw[if_neg c2]at z;by_cases c3:r.1=.lst
     .rw[if_pos c3]at z;exact absurd z (sF tt _ k)
     .rw[if_neg c3]at z;cases z
  .exact yb hc a2 k z
theorem Bz{tt:List Ttl}(ht:∀t∈tt,t.2.length<=129)(k:Nat):(kX tt k).length<=131:=by
 have:(ttW (tt.getD k ([],[]))).length<=129:=by
  unfold ttW;rw[F6];refine GM (Hs _ _) ?_;rw[Gu];cases e:tt[k]? with
  |none=>exact GV _
  |some t=>exact ht t (Ge e)
 unfold kX;rw[F8,F7];simp only[F8,Gj];omega
theorem yc{α:Type}{f:Nat->List α}{m:Nat}(h:∀k,(f k).length<=m):∀l:List Nat,(l.flatMap f).length<=m*l.length
 |[]=>Gh _
 |a::l=>by
  have h1:=h a;have h2:=yc h l;rw[I_,F7,F8,Nat.mul_succ];omega
theorem BA{tt:List Ttl}(ht:∀t∈tt,t.2.length<=129)(hl:tt.length<=63):∀{rows:List bM} {h:Nat},(∀r∈rows,r.2.2.length<=129)->(bC tt h rows).length<=8300*rows.length
 |[],_,_=>Gh _
 |r::rows,h,hr=>by
  have h1:=hr r Gd;have h2:=BA ht hl (rows:=rows) (h:=h+hB r.1.hd) λx hx=>hr x (Gc _ hx);show(dq tt h r++bC tt (h+hB r.1.hd) rows).length<=_;rw[F7,F8,Nat.mul_succ];have:(dq tt h r).length<=8300:=by
   unfold dq
   split
   .rw[F6];omega
   .split
    .rw[F8,F6];omega
    .split
     .have:=yc (Bz ht) (HQ tt.length);rw[Hj]at this;unfold eO;omega
     .exact GV _
  omega

theorem DP{K:PySem.W.Frag}{F:Hp}{σ:Ss}{w:Wk}{v:V}(h:SyA F v (lB σ w)):Rep K F (qr σ w) v:=by
 obtain⟨a,rfl,h⟩:=h;have two:∀(d e:DD) (x y:V),F a=some (.tup [x,y])->Rep K F d x->Rep K F e y->Rep K F (.tup [d,e]) (.ref a):=λd e x y hF h1 h2=>by
  unfold Rep;refine⟨a,[x,y],rfl,SqT.of hF,by show 2<=1000;decide,?_⟩;unfold cF;refine⟨x,[y],rfl,h1,?_⟩;unfold cF;refine⟨y,[],rfl,h2,?_⟩;unfold cF;rfl
 have s:∀t:Str,Rep K F (.str t) (.str t):=λt=>by unfold Rep;rfl
 have n:∀t:Int,Rep K F (.int t) (.int t):=λt=>by unfold Rep;rfl
 obtain⟨k,r⟩:=w;cases k with
 |plain=>exact two _ _ _ _ h (s _) (s _)
 |entry=>exact two _ _ _ _ h (s _) (n _)
 |number=>exact two _ _ _ _ h (s _) (s _)
 |mark=>exact two _ _ _ _ h (s _) (n _)
 |page=>exact two _ _ _ _ h (s _) (n _)
 |row=>exact two _ _ _ _ h (s _) (n _)
 |foot=>exact two _ _ _ _ h (s _) (n _)
theorem vA{K:PySem.W.Frag}{F:Hp}{σ:Ss}:∀{ws:List Wk} {vs:List V},aL (λv w=>SyA F v (lB σ w)) vs ws->cF K F (ws.map (qr σ)) vs
 |[],[],_=>by rw[Iy];unfold cF;rfl
 |w::ws,v::vs,h=>by
  rw[Gi];unfold cF;exact⟨v,vs,rfl,DP h.1,vA h.2⟩
theorem yd{K:PySem.W.Frag}{F:Hp}{σ:Ss}{ws:List Wk}{vs:List V}{p:Addr}(hp:F p=some (.lst vs))(h:aL (λv w=>SyA F v (lB σ w)) vs ws)(hl:ws.length<=1000):Rep K F (.lst (ws.map (qr σ))) (.ref p):=by
 unfold Rep;exact⟨p,vs,rfl,SqL.of hp,by rw[F6];exact hl,vA h⟩
theorem CA(σ:Ss)(w:Wk):(qr σ w).deep<=1:=by
 obtain⟨k,r⟩:=w;cases k<;>(show(DD.tup [_,_]).deep<=1;unfold DD.deep fg DD.deep fg;simp[DD.deep,fg])
theorem BB(σ:Ss)(ws:List Wk):(DD.lst (ws.map (qr σ))).deep<=2:=by
 have:∀l:List DD,(∀d∈l,d.deep<=1)->fg l<=1:=λl=>by
  induction l with
  |nil=>intro _;unfold fg;exact GV _
  |cons d l ih =>
   intro h;unfold fg;exact Nat.max_le.mpr ⟨h d Gd,ih λx hx=>h x (Gc _ hx)⟩
 unfold DD.deep;have:=this (ws.map (qr σ)) λd hd=>by
  obtain⟨w,_,rfl⟩:=List.mem_map.mp hd;exact CA σ w
 omega

def eY:List WyD:=[.way .words,.way .empty,.eq,.eq,.eq,.way .lst,.word,.word,.word,.word,.word,.word,.word,.word]
def uY:List WyD:=[.way .words,.way .empty,.eq,.eq,.eq,.word,.word,.word,.word,.word,.word,.word,.word,.way .page,.way .odd]
theorem F5:(eY.filter λw=>!decide (w.t=fh))++[.way .page,.way .odd]=uY:=rfl
theorem cW8:[V.str (PySem.Str.ofString "words"),V.str (PySem.Str.ofString ""),V.str (PySem.Str.ofString "="),V.str (PySem.Str.ofString "="),V.str (PySem.Str.ofString "="),V.str (PySem.Str.ofString ".list"),V.str (PySem.Str.ofString "word"),V.str (PySem.Str.ofString "word"),V.str (PySem.Str.ofString "word"),V.str (PySem.Str.ofString "word"),V.str (PySem.Str.ofString "word"),V.str (PySem.Str.ofString "word"),V.str (PySem.Str.ofString "word"),V.str (PySem.Str.ofString "word")]=(eY.map λw=>tx w.t).map V.str:=by decide +kernel
theorem cK8:[V.str (PySem.Str.ofString "plain"),V.str (PySem.Str.ofString "plain"),V.str (PySem.Str.ofString "plain"),V.str (PySem.Str.ofString "mark"),V.str (PySem.Str.ofString "mark"),V.str (PySem.Str.ofString "number"),V.str (PySem.Str.ofString "number"),V.str (PySem.Str.ofString "page"),V.str (PySem.Str.ofString "row")]=o4.map λk=>V.str k.s:=by decide +kernel
theorem EN{wys:List WyD}(h:wys=eY\/wys=uY):0<wys.length/\wys.length<=900/\(∀w,.way w∈wys->w.hd=false)/\WyD.way .foot∉wys:=by
 rcases h with rfl|rfl
 .refine⟨by decide,by decide,λw hw=>?_,by simp[eY]⟩;have:w=.words\/w=.empty\/w=.lst:=by simpa[eY]using hw
  rcases this with rfl|rfl|rfl<;>rfl
 .refine⟨by decide,by decide,λw hw=>?_,by simp[uY]⟩;have:w=.words\/w=.empty\/w=.page\/w=.odd:=by simpa[uY]using hw
  rcases this with rfl|rfl|rfl|rfl<;>rfl
theorem y_{K:PySem.W.Frag}{F:Hp}:∀{hs:List (Str×Nat)} {vs:List V},aL (HdA F) vs hs->cF K F (hs.map λh=>DD.tup [.str h.1,.int (h.2:Int)]) vs
 |[],[],_=>by rw[Iy];unfold cF;rfl
 |h::hs,v::vs,hh=>by
  obtain⟨⟨a,rfl,ha⟩,h2⟩:=hh;rw[Gi];unfold cF;refine⟨_,vs,rfl,?_,y_ h2⟩;unfold Rep;refine⟨a,_,rfl,SqT.of ha,by show 2<=1000;decide,?_⟩;unfold cF;refine⟨_,_,rfl,by unfold Rep;rfl,?_⟩;unfold cF;refine⟨_,_,rfl,by unfold Rep;rfl,?_⟩;unfold cF;rfl
theorem BC{K:PySem.W.Frag}{F:Hp}{p:Addr}{hs:List (Str×Nat)}{vs:List V}(hp:F p=some (.lst vs))(h:aL (HdA F) vs hs)(hl:hs.length<=1000):Rep K F (.lst (hs.map λh=>DD.tup [.str h.1,.int (h.2:Int)])) (.ref p):=by
 unfold Rep;exact⟨p,vs,rfl,SqL.of hp,by rw[F6];exact hl,y_ h⟩
theorem DQ(hs:List (Str×Nat)):(DD.lst (hs.map λh=>DD.tup [.str h.1,.int (h.2:Int)])).deep<=2:=by
 have:∀l:List DD,(∀d∈l,d.deep<=1)->fg l<=1:=λl=>by
  induction l with
  |nil=>intro _;unfold fg;exact GV _
  |cons d l ih =>
   intro h;unfold fg;exact Nat.max_le.mpr ⟨h d Gd,ih λx hx=>h x (Gc _ hx)⟩
 unfold DD.deep;have:=this (hs.map λh=>DD.tup [.str h.1,.int (h.2:Int)]) λd hd=>by
  obtain⟨w,_,rfl⟩:=List.mem_map.mp hd;simp[DD.deep,fg]
 omega
theorem CB(a:List Sw)(s:Sw):swN (a++[s])=swN a+(if s.isM then 0 else 1):=by
 unfold swN;rw[GY,F7];cases h:s.isM<;>simp[Jo,h]
theorem CC(tt:List Ttl)(s:Sw):bU [bR tt s]=if s.isM then[]else[bR tt s]:=by
 unfold bU;by_cases h:s.isM=true
 .simp[(jo tt s).mpr h,h]
 .have:(bR tt s).1≠.mark:=λz=>h ((jo tt s).mp z);simp[this,h]
theorem CD{K:PySem.W.Frag}{F:Hp}{a:Addr}{x y z u:Int}(h:F a=some (.tup [.int x,.int y,.int z,.int u])):Rep K F (.tup [.int x,.int y,.int z,.int u]) (.ref a):=by
 have n:∀t:Int,Rep K F (.int t) (.int t):=λt=>by unfold Rep;rfl
 unfold Rep;refine⟨a,_,rfl,SqT.of h,by show 4<=1000;decide,?_⟩;unfold cF;refine⟨_,_,rfl,n x,?_⟩;unfold cF;refine⟨_,_,rfl,n y,?_⟩;unfold cF;refine⟨_,_,rfl,n z,?_⟩;unfold cF;refine⟨_,_,rfl,n u,?_⟩;unfold cF;rfl
theorem BD(x y z u:Int):(DD.tup [.int x,.int y,.int z,.int u]).deep<=2:=by
 simp[DD.deep,fg]
theorem d8:aK ["script","first","form","ways","kinds","named","titles","stream","heads","rows","found","refused","due"] ["script"] (au zG):=by walk_at "c"
theorem ok_law(T:Txt P w K mg a):aX P w K mg base CX0 9 a.z9 a.uw ["script"] (AL K):=by
 refine T.wq.fn.ok d8 (λvs H Q E h=>?_) (λcdv A outer s H vs Q E hr h=>?_)
 .obtain⟨a,ns,rfl,_⟩:=h;rfl
 obtain⟨sa,zs,rfl,hS,h63,q⟩:=h;refine⟨_,(@af _ _ _ _ _ (ay (i:=1) d8.nd rfl (Gm rfl) (aD T.mV (xG T) (hr.mono (by decide)) rfl (aa (pv 0) (aa ah ac))))
   (@af _ _ _ _ _ (ay (i:=2) d8.nd rfl (Gm rfl) (aD T.tE (Bj T) (hr.mono (by decide)) rfl (aa (pv 1) ac)))
   (@af _ _ _ _ _ (@CP _ 3 _ _ _ _ _ _ d8.nd rfl (Gm rfl) (CL.str (CL.str (CL.str (CL.str (CL.str (CL.str (CL.str (CL.str (CL.str (CL.str (CL.str (CL.str (CL.str (CL.str CL.nil)))))))))))))) (by first|exact .inl rfl|exact .inr rfl))
   (@af _ _ _ _ _ (aI (aq br (aD T.bW (bP T) (hr.mono (by decide)) rfl (aa (pv 1) (aa ah (aa ah ac)))) ah (nomark _)) (ai (ay (i:=3) d8.nd rfl (Gm rfl) (aP i5 (fG rfl (d_ (caps:=[]) (js:=[]) (cap:=trivial)) (bj (pv 3)) (λ_ _ _ _=>(iD (aq eQ (pv 0) ao (nomark _)))) (λ_ _ _ _=>(pv 0))) (bi (aa ao (aa ao ac)))))) aE)
   (@af _ _ _ _ _ (ay (i:=4) d8.nd rfl (Gm rfl) (bi (ue (CL.str (CL.str (CL.str (CL.str (CL.str (CL.str (CL.str (CL.str (CL.str CL.nil))))))))))))
   (@af _ _ _ _ _ (ay (i:=5) d8.nd rfl (Gm rfl) (aD T.rh (zM T) (hr.mono (by decide)) rfl (aa (aD T.tF (Bp T) (hr.mono (by decide)) rfl (aa (pv 0) (aa (pv 3) (aa (pv 4) ac)))) (aa (pv 1) ac))))
   (@af _ _ _ _ _ (ay (i:=6) d8.nd rfl (Gm rfl) (aD T.o8 (yu T) (hr.mono (by decide)) rfl (aa (pv 5) ac)))
   (@af _ _ _ _ _ (ay (i:=7) d8.nd rfl (Gm rfl) (aD T.o7 (yr T) (hr.mono (by decide)) rfl (aa (pv 5) (aa (pv 6) ac))))
   (@af _ _ _ _ _ (ay (i:=8) d8.nd rfl (Kn rfl) (aD T.rc (zI T) (hr.mono (by decide)) rfl (aa (pv 7) (aa (pv 6) ac))))
   (@af _ _ _ _ _ (ay (i:=9) d8.nd rfl (Gm rfl) (aD T.o6 (yp T) (hr.mono (by decide)) rfl (aa (Eu rfl (d_ (caps:=[]) (js:=[]) (cap:=trivial)) (bj (pv 5)) (λ_ _ _ _=>dD) (λ_ _ _ _=>(aD T.tH (Bt T) (hr.mono (by decide)) rfl (aa (pv 0) (aa (pv 1) (aa (pv 2) ac)))))) (aa (pv 1) ac))))
   (@af _ _ _ _ _ (ay (i:=10) d8.nd rfl (Kn rfl) Al)
   (@af _ _ _ _ _ (ay (i:=11) d8.nd rfl (Gm rfl) dh)
   (@af _ _ _ _ _ (zr (i:=10) d8.nd rfl (Kn rfl) T.mZ (xT T) (hr.mono (by decide)) rfl (λ_=>(aa (pv 9) (aa (pv 2) ac))) rfl T.rP ⟨rfl,rfl⟩ (λ_=>(ai (ay (i:=11) d8.nd rfl (Gm rfl) dh))))
   (@af _ _ _ _ _ (aI (aq kN (aF bA rfl T.bK PySem.boot_len (aa (fG rfl (d_ (caps:=[]) (js:=[]) (cap:=trivial)) (bj (pv 7)) (λ_ _ _ _=>(iD (aq eQ (aC (r:=jG K) aS (pv 0) ah (λ_ _=>rfl)) ao (nomark _)))) (λ_ _ _ _=>(pv 0))) ac)) ah (nomark _)) (ai (aJ (pv 11))) aE)
   (@af _ _ _ _ _ (aI (PW.pt (dR (cz (pv 11) (λ_=>rfl)) (dR (fc (cz (aD T.rj (zO T) (hr.mono (by decide)) rfl (aa (pv 10) (aa (pv 2) ac))) (λ_=>rfl))) (fb (fc (cz (aD T.o5 (yn T) (hr.mono (by decide)) rfl (aa (pv 7) (aa (aC aS (pv 10) ah (λ_ _=>rfl)) ac))) (λ_=>rfl))))))) (ai (aJ dh)) aE)
   (@af _ _ _ _ _ (A3 (k:=12) rfl (d_ (caps:=["heads","found"]) (js:=[8,10]) (cap:=⟨⟨rfl,.inl rfl,rfl,.inl rfl⟩,⟨⟨rfl,.inl rfl,rfl,.inl rfl⟩,trivial⟩⟩)) (bj (pv 7)) (λ_ _ _ _=>(iD (aq eQ (pv 0) ao (nomark _)))) (λ_ _ _ _=>(aD T.tG (Br T) (hr.mono (by decide)) rfl (aa (pv 0) (aa (pv 1) (aa (aC (r:=jG K) aS (pv 3) ah (λ_ _=>rfl)) (aa (pv 2) ac)))))) d8.nd rfl rfl)
   (ai (aJ (jV (aD T.fA (kY T) (hr.mono (by decide)) rfl (aa (fG rfl (d_ (caps:=[]) (js:=[]) (cap:=trivial)) (bj (aC aS (aC aS (pv 10) ah (λ_ _=>rfl)) ah (λ_ _=>rfl))) (λ_ _ _ _=>dD) (λ_ _ _ _=>(aC (r:=jG K) aS (pv 0) ah (λ_ _=>rfl)))) (aa (pv 12) ac))) (jU (aD T.fA (kY T) (hr.mono (by decide)) rfl (aa (aC aS (pv 10) ah (λ_ _=>rfl)) (aa (pv 8) ac))))))))))))))))))))))),?_⟩
 refine⟨_,rfl,sa,zs,0,rfl,hS,?_⟩;generalize zs.getD 0 0=f;refine⟨_,rfl,f,rfl,λfo H1 x y z u hfo s1 kfo=>?_⟩;refine⟨aQ (by simp),λp1 hp1=>?_⟩;have s2:=ag hp1 (.lst [V.str (PySem.Str.ofString "words"),V.str (PySem.Str.ofString ""),V.str (PySem.Str.ofString "="),V.str (PySem.Str.ofString "="),V.str (PySem.Str.ofString "="),V.str (PySem.Str.ofString ".list"),V.str (PySem.Str.ofString "word"),V.str (PySem.Str.ofString "word"),V.str (PySem.Str.ofString "word"),V.str (PySem.Str.ofString "word"),V.str (PySem.Str.ofString "word"),V.str (PySem.Str.ofString "word"),V.str (PySem.Str.ofString "word"),V.str (PySem.Str.ofString "word")]);have k2:upd H1 p1 (.lst [V.str (PySem.Str.ofString "words"),V.str (PySem.Str.ofString ""),V.str (PySem.Str.ofString "="),V.str (PySem.Str.ofString "="),V.str (PySem.Str.ofString "="),V.str (PySem.Str.ofString ".list"),V.str (PySem.Str.ofString "word"),V.str (PySem.Str.ofString "word"),V.str (PySem.Str.ofString "word"),V.str (PySem.Str.ofString "word"),V.str (PySem.Str.ofString "word"),V.str (PySem.Str.ofString "word"),V.str (PySem.Str.ofString "word"),V.str (PySem.Str.ofString "word")]) p1=some (.lst ((eY.map λw=>tx w.t).map V.str)):=by rw[ae,cW8]
 generalize upd H1 p1 (.lst [V.str (PySem.Str.ofString "words"),V.str (PySem.Str.ofString ""),V.str (PySem.Str.ofString "="),V.str (PySem.Str.ofString "="),V.str (PySem.Str.ofString "="),V.str (PySem.Str.ofString ".list"),V.str (PySem.Str.ofString "word"),V.str (PySem.Str.ofString "word"),V.str (PySem.Str.ofString "word"),V.str (PySem.Str.ofString "word"),V.str (PySem.Str.ofString "word"),V.str (PySem.Str.ofString "word"),V.str (PySem.Str.ofString "word"),V.str (PySem.Str.ofString "word")])=H2 at s2 k2⊢;have s12:=s1.trans s2;have kfo2:=s2 _ _ kfo;dsimp only[bE];refine cO (λσ' G=>∃(pw:Addr) (wys:List WyD),σ'=[some (.ref sa),some (.int f),some (.ref fo),some (.ref pw),none,none,none,none,none,none,none,none,none]/\aj H2 G/\G pw=some (.lst ((wys.map λw=>tx w.t).map V.str))/\(wys=eY\/wys=uY)) ?_ (λkey=>?_)
 .rintro σ' G0 ⟨pw,wys,rfl,m0,kw,hwy⟩;obtain⟨w1,w2,w3,w4⟩:=EN hwy;refine⟨aQ (by simp),λp2 hp2=>?_⟩;have s3:=ag hp2 (.lst [V.str (PySem.Str.ofString "plain"),V.str (PySem.Str.ofString "plain"),V.str (PySem.Str.ofString "plain"),V.str (PySem.Str.ofString "mark"),V.str (PySem.Str.ofString "mark"),V.str (PySem.Str.ofString "number"),V.str (PySem.Str.ofString "number"),V.str (PySem.Str.ofString "page"),V.str (PySem.Str.ofString "row")]);have k3:upd G0 p2 (.lst [V.str (PySem.Str.ofString "plain"),V.str (PySem.Str.ofString "plain"),V.str (PySem.Str.ofString "plain"),V.str (PySem.Str.ofString "mark"),V.str (PySem.Str.ofString "mark"),V.str (PySem.Str.ofString "number"),V.str (PySem.Str.ofString "number"),V.str (PySem.Str.ofString "page"),V.str (PySem.Str.ofString "row")]) p2=some (.lst (o4.map λk=>V.str k.s)):=by rw[ae,cK8]
  generalize upd G0 p2 (.lst [V.str (PySem.Str.ofString "plain"),V.str (PySem.Str.ofString "plain"),V.str (PySem.Str.ofString "plain"),V.str (PySem.Str.ofString "mark"),V.str (PySem.Str.ofString "mark"),V.str (PySem.Str.ofString "number"),V.str (PySem.Str.ofString "number"),V.str (PySem.Str.ofString "page"),V.str (PySem.Str.ofString "row")])=H3 at s3 k3⊢;have s13:=s12.trans (m0.trans s3);refine⟨_,rfl,_,rfl,_,rfl,sa,pw,p2,zs,wys,o4,rfl,s13.seq hS,h63,SqL.of (s3 _ _ kw),SqL.of k3,w1,by decide,w2,by decide,w3,λpr H4 rows rv hpr s4 kr ral rok=>?_⟩;have rne:∀r∈rows,r.2.length<=6/\∀w∈r.2,w.1≠.entry:=λr hr=>⟨(rok.ok r hr).1.len,λw hw=>by
   rcases(rok.ok r hr).1.kds w hw with z|z
   .exact(show ∀k∈o4,k≠.entry by decide) _ z
   .rw[z];decide⟩
  refine⟨_,rfl,pr,f,rows,rv,rfl,kr,ral.imp λ_ _=>RrA.mono bN,rok.len,rne,λpn H5 ns nv hpn s5 kn nal rr=>?_⟩;have L:=Fu (Fo f) w4 rok rr;have kfo5:=s5 _ _ (s4 _ _ ((m0.trans s3) _ _ kfo2));have lnv:=nal.len;generalize ns++aU=all at *;have nr:=L.nr;have nlen:=L.len;have rl:=λr hr=>(nr r hr).len;have tl63:=L.tl;have tw:∀t∈bp (0,0,0) all,t.2.length<=129:=λt ht=>by
   obtain⟨r,hr,_,e⟩:=oe ht;rw[e];exact rl r hr
  have sl:=BA (h:=0) tw tl63 rl;have hks:=yb (EM (rows:=all) (feet:=[])) (rows:=all) (q:=(0,0,0)) (h:=0) rfl;dsimp only[bE];refine⟨_,rfl,pn,nv,all,rfl,kn,nal,by omega,λpt H6 tv hpt s6 kt tal=>?_⟩;dsimp only[bE];refine⟨_,rfl,_,rfl,pn,pt,nv,tv,all,bp (0,0,0) all,rfl,s6 _ _ kn,nal.imp λ_ _=>NnA.mono s6,kt,tal,by omega,tl63,rl,tw,λps H7 sv hps s7 ks sal=>?_⟩;dsimp only[bE];have lsv:=sal.len;refine⟨_,rfl,_,rfl,ps,pt,sv,tv,bC (bp (0,0,0) all) 0 all,bp (0,0,0) all,rfl,ks,sal,s7 _ _ kt,tal.imp λ_ _=>TtA.mono s7,hks,by omega,λph H8 hv hph s8 kh hal=>?_⟩;dsimp only[bE];have s58:=s6.trans (s7.trans s8);have knG:=s58 _ _ kn;have nalG:aL (NnA H8) nv all:=nal.imp λ_ _=>NnA.mono s58;refine⟨_,rfl,pn,rfl,⟨_,SqL.of knG⟩,Ci (K:=K) (a:=pn) (xs:=nv) (λi ys G'=>aj H8 G'/\ys=(((all.take i).map λr=>cG [32] (eX true r)).map tx).map V.str) ⟨aj.refl _,rfl⟩ (λi ys G' _ z=>SqL.of (z.1 _ _ knG)) ?_ ?_ ?_⟩
  .rintro i ys G' hi ⟨_,rfl⟩;simp only[F6,GD];exact aA (by omega)
  .rintro i y' ys G' hy ⟨m',rfl⟩;obtain⟨n,hn,b,l,rfl,hb,hl⟩:=nalG.getL hy;refine⟨b,_,_,_,rfl,SqT.of (m' _ _ hb),d3 ?_⟩;refine⟨_,rfl,_,rfl,_,rfl,n,l,rfl,hl.mono m',nr n (Ge hn),λG2' m2=>⟨m'.trans m2,?_⟩⟩;rw[aV hn,Gg,Gg,Gg];rfl
  rintro ys G' ⟨m',rfl⟩ pj hpj;rw[lnv,Gv];have m8:=m'.trans (ag hpj (.lst (((all.map λr=>cG [32] (eX true r)).map tx).map V.str)));have k8:upd G' pj (.lst (((all.map λr=>cG [32] (eX true r)).map tx).map V.str)) pj=some (.lst (((all.map λr=>cG [32] (eX true r)).map tx).map V.str)):=ae;generalize upd G' pj (.lst (((all.map λr=>cG [32] (eX true r)).map tx).map V.str))=G3 at m8 k8⊢;refine⟨_,rfl,pj,f,all.map λr=>cG [32] (eX true r),rfl,SqL.of k8,by rw[F6];omega,?_,λpq B ss hpq m9 kq spd ssl=>?_⟩
  .intro r hr;obtain⟨n,hn,rfl⟩:=List.mem_map.mp hr;exact qz true (nr n hn)
  rw[F6]at ssl;dsimp only[bE];have mB:=m8.trans m9;have sp:=spd.all nr;have ar:=sp.rows nr;have kfoB:B fo=some (.tup [.int x,.int y,.int z,.int u]):=mB _ _ (s58 _ _ kfo5);have ksB:=mB _ _ (s8 _ _ ks);have salB:=(sal.imp λ_ _=>SwA.mono s8).imp λ_ _=>SwA.mono mB;have khB:=mB _ _ kh;have halB:=hal.imp λ_ _=>HdA.mono mB;have wo:=L.wo;have nd:=L.nd;have Lset:=L.set;generalize eT:bp (0,0,0) all=tt at *;generalize eS:bC tt 0 all=st at *;refine CU (CU ?_);refine cO (λσ' G=>∃(fv:V) (rf:Bool),σ'=[some (.ref sa),some (.int f),some (.ref fo),some (.ref pw),some (.ref p2),some (.ref pn),some (.ref pt),some (.ref ps),some (.ref ph),some (.ref pq),some fv,some (.bl rf),none]/\aj B G/\((rf=true/\400<swN st)\/(rf=false/\swN st<=400/\∃(σ0:Ss) (fd qa tp ma ha:Addr) (us5 hvs:List V) (fs:List Addr),fv=.ref fd/\C0 all σ0/\G fd=some (.tup [.ref qa,.ref ma,.ref ha])/\G qa=some (.tup [.ref fo,.ref tp])/\kR B G σ0 tp us5 fs/\G ma=some (.dK (mkV σ0.ms))/\G ha=some (.lst hvs)/\aL (HdA G) hvs σ0.hs/\σ0.ws.length<=400))) ?_ (λkey=>?_)
  .rintro σ' G ⟨fv,rf,rfl,mG,hcase⟩;have ksG:=mG _ _ ksB;have salG:=salB.imp λ_ _=>SwA.mono mG;refine⟨_,rfl,ps,rfl,⟨_,SqL.of ksG⟩,dF (K:=K) (a:=ps) (xs:=sv) (λi zs F=>G=F/\zs.length=swN (st.take i)/\zs.length<=i) ⟨rfl,rfl,Gh _⟩ (λi zs F _ z=>by rw[<-z.1];exact SqL.of ksG) ?_ ?_ ?_⟩
   .rintro i zs F hi ⟨_,_,z⟩;exact Go (show zs.length<=1000000 by omega) (by decide)
   .rintro i y' zs F hy ⟨rfl,z,zl⟩;obtain⟨s,hs',b,rfl,hb⟩:=salG.getL hy;have en:=CB (st.take i) s;rw[<-aV hs']at en;refine⟨_,rfl,_,_,_,_,rfl,rfl,SqT.of hb,rfl,rfl,_,rfl,?_⟩;by_cases hm:s.isM=true
    .rw[decide_eq_true (show V.str s.k=V.str (PySem.Str.ofString "mark")from congrArg V.str (Sw.mark_k.mpr hm))];refine av ?_;exact⟨rfl,by rw[en,if_pos hm];exact z,by omega⟩
    .rw[decide_eq_false (show ¬ (V.str s.k=V.str (PySem.Str.ofString "mark"))from λzz=>hm (Sw.mark_k.mp (V.str.inj zz)))];refine aN ?_;exact⟨_,rfl,rfl,by rw[en,if_neg hm,F7,z];rfl,by rw[F7];simp only[F8,Gj];omega⟩
   rintro zs F ⟨rfl,zq,zl⟩ p9 hp9;rw[lsv,Gv]at zq;have c9:=ag hp9 (.lst zs);have k9:upd G p9 (.lst zs) p9=some (.lst zs):=ae;generalize upd G p9 (.lst zs)=F1 at c9 k9⊢;refine⟨_,_,rfl,.inl (SqL.of k9),_,_,rfl,rfl,_,rfl,?_⟩;rcases hcase with⟨rfl,hg⟩|⟨rfl,hle,σ0,fd,qa,tp,ma,ha,us5,hvs,fs,rfl,O,e1,e2,T5,e6,e7,e8,w4⟩
   .refine dX (λ_=>?_) (λc=>absurd (decide_eq_true (by omega)) c);exact⟨_,rfl,q _⟩
   .refine dX (λc=>absurd (of_decide_eq_true c) (by omega)) (λ_=>?_);dsimp only[cT];have e1:=c9 _ _ e1;have e2:=c9 _ _ e2;have e6:=c9 _ _ e6;have e7:=c9 _ _ e7;have e8:=e8.imp λ_ _=>HdA.mono c9;have T5:=T5.same c9;have mF:=mG.trans c9;have tal5:aL (TwA σ0 F1) us5 (σ0.ws.zip fs):=T5.all.imp λ_ _=>TwA.mono bN;have lz:=tal5.len;rw[List.length_zip,T5.len,Nat.min_self]at lz;have oms:σ0.ms=bo (st.map (bR tt)) 0:=by rw[<-eS,<-eT];exact O.ms
    have ows:σ0.ws.map (·.w)=bU (st.map (bR tt)):=by rw[<-eS,<-eT];exact O.ws
    have ohs:σ0.hs=cA tt st 0:=by rw[<-eS,<-eT];exact O.hs
    have ohn:∀k,k<tt.length->∃n,σ0.hs[k]?=some (tx (tt.getD k ([],[])).1,n):=by rw[<-eT];exact O.hn
    have lN:(bU (st.map (bR tt))).length=σ0.ws.length:=by rw[<-ows,F6]
    have hl63:σ0.hs.length<=1000:=GM O.hl (by decide);refine⟨_,rfl,_,rfl,?_⟩;refine av ?_;refine⟨_,rfl,_,rfl,fd,fo,qa,tp,ma,ha,us5,hvs,fs,σ0,.tup [.int x,.int y,.int z,.int u],mkV σ0.ms,rfl,e1,e2,CD (mF _ _ kfoB),BD x y z u,T5.at_,tal5,e6,e7,_,rfl,?_⟩;refine av ?_;refine⟨_,rfl,_,rfl,_,_,_,_,rfl,rfl,SqT.of e1,rfl,ps,ma,sv,st,tt,rfl,c9 _ _ ksG,salG.imp λ_ _=>SwA.mono c9,by rw[<-oms];exact e6,nd,λG1 m1=>⟨_,rfl,?_⟩⟩;refine av ?_;dsimp only[cT];have d9:=c9.trans m1;have ksH:=d9 _ _ ksG;have salH:=salG.imp λ_ _=>SwA.mono d9;have f1:=m1 _ _ e1;have khH:=(mF.trans m1) _ _ khB;have halH:=halB.imp λ_ _=>HdA.mono (mF.trans m1);rw[<-ohs]at halH;have f6:=m1 _ _ e6;refine⟨_,rfl,ps,rfl,⟨_,SqL.of ksH⟩,oB (K:=K) (a:=ps) (xs:=sv) (λi ys F=>aj G1 F/\ys.length<=i/\aL (λv w=>SyA F v (lB σ0 w)) ys (bU ((st.take i).map (bR tt)))) ⟨aj.refl _,Gh _,trivial⟩ (λi ys F _ z=>SqL.of (z.1 _ _ ksH)) ?_ ?_ ?_⟩
    .rintro i ys F hi ⟨_,yl,_⟩;exact Go (show ys.length<=1000000 by omega) (by decide)
    .rintro i y' ys F hy ⟨m2,yl,al⟩;obtain⟨s,hs',b,rfl,hb⟩:=salH.getL hy;have hsm:=Ge hs';have en:bU ((st.take (i+1)).map (bR tt))=bU ((st.take i).map (bR tt))++bU [bR tt s]:=by rw[aV hs',Gg,xU];rfl
     rw[CC]at en;refine⟨b,_,_,rfl,SqT.of (m2 _ _ hb),?_⟩;refine⟨_,rfl,rfl,_,rfl,?_⟩;by_cases hm:s.isM=true
     .rw[decide_eq_true (show V.str s.k=V.str (PySem.Str.ofString "mark")from congrArg V.str (Sw.mark_k.mpr hm))];refine av ?_;rw[if_pos hm,GL]at en;exact⟨m2,by omega,by rw[en];exact al⟩
     .rw[decide_eq_false (show ¬ (V.str s.k=V.str (PySem.Str.ofString "mark"))from λzz=>hm (Sw.mark_k.mp (V.str.inj zz)))];refine aN ?_;rw[if_neg hm]at en;have ok:kQ σ0 (bR tt s):=by
       have hmem:bR tt s∈bU (st.map (bR tt)):=by
        unfold bU;refine List.mem_filter.mpr ⟨Ib hsm,?_⟩;have:(bR tt s).1≠.mark:=λz=>hm ((jo tt s).mp z);simp[this]
       rw[<-ows]at hmem;obtain⟨t,ht,e⟩:=List.mem_map.mp hmem;rw[<-e];exact O.ok t ht
      have hw:=wo s hsm;have kes:∀x,s=.w x->x.1≠.entry:=λx e=>by
       subst e;rcases hw with⟨r,hr,hx⟩|⟨_,t,ht,hx⟩
       .exact((nr r hr).ok x hx).1
       .rw[<-eT]at ht;obtain⟨r,hr,_,e⟩:=oe ht;rw[e]at hx;exact((nr r hr).ok x hx).1
      refine⟨_,rfl,_,rfl,_,rfl,_,_,_,_,rfl,rfl,SqT.of (m2 _ _ f1),rfl,_,rfl,ma,ph,s,tt,σ0,hv,rfl,m2 _ _ f6,m2 _ _ khH,halH.imp λ_ _=>HdA.mono m2,kes,ok,λk hk=>ohn k ?_,λp3 G4 x' y'' hp3 m5 k3 es=>?_⟩
      .rcases hk with rfl|rfl
       .exact hks k hsm
       .exact hw
      .refine⟨m2.trans m5,by rw[F7];simp only[F8,Gj];omega,?_⟩;rw[en];exact(al.imp λ_ _=>SyA.mono m5).snoc ⟨p3,rfl,by rw[es];exact k3⟩
    rintro ys F ⟨m2,yl,al⟩ p10 hp10;rw[lsv,Gv]at al;have c10:=ag hp10 (.lst ys);have k10:upd F p10 (.lst ys) p10=some (.lst ys):=ae;have al:=al.imp λ_ _=>SyA.mono c10;have m3:=m2.trans c10;generalize upd F p10 (.lst ys)=F2 at c10 k10 al m3⊢;dsimp only[bE];have m13:=m1.trans m3;have g1:=m13 _ _ e1;have g2:=m13 _ _ e2;have g3:=m13 _ _ T5.at_;refine⟨_,rfl,_,_,_,_,rfl,rfl,SqT.of g1,rfl,_,_,_,_,rfl,rfl,SqT.of g2,rfl,tp,rfl,⟨_,SqL.of g3⟩,dF (K:=K) (a:=tp) (xs:=us5) (λi zs G'=>F2=G'/\zs.length=i/\aL (λv w=>SyA F2 v (lB σ0 w)) zs ((σ0.ws.take i).map (·.w))) ⟨rfl,rfl,trivial⟩ (λi zs G' _ z=>by rw[<-z.1];exact SqL.of g3) ?_ ?_ ?_⟩
    .rintro i zs G' hi ⟨_,zl',_⟩;exact aA (by omega)
    .rintro i y' zs G' hy ⟨rfl,zl',az⟩;obtain⟨⟨t,f'⟩,hw,b,s,vs,rfl,hb,hsy,hf,_⟩:=tal5.getL hy;have ht:σ0.ws[i]?=some t:=by
      rw[List.getElem?_zip_eq_some]at hw;exact hw.1
     refine d3 ?_;refine⟨_,rfl,_,_,_,_,rfl,rfl,SqT.of (m13 _ _ hb),rfl,rfl,by rw[F7,zl'];rfl,?_⟩;rw[aV ht,Gg];exact az.snoc (hsy.mono m13)
    rintro zs' G' ⟨rfl,zl',az⟩ p11 hp11;rw[lz,Gv,ows]at az;have c11:=ag hp11 (.lst zs');have k11:upd F2 p11 (.lst zs') p11=some (.lst zs'):=ae;have r1:Rep K (upd F2 p11 (.lst zs')) (.lst ((bU (st.map (bR tt))).map (qr σ0))) (.ref p11):=yd k11 (az.imp λ_ _=>SyA.mono c11) (by omega);have r2:Rep K (upd F2 p11 (.lst zs')) (.lst ((bU (st.map (bR tt))).map (qr σ0))) (.ref p10):=yd (c11 _ _ k10) (al.imp λ_ _=>SyA.mono c11) (by omega);have r3:Rep K (upd F2 p11 (.lst zs')) (.lst (σ0.hs.map λh=>DD.tup [.str h.1,.int (h.2:Int)])) (.ref ha):=BC ((m13.trans c11) _ _ e7) (e8.imp λ_ _=>HdA.mono (m13.trans c11)) hl63;have r4:Rep K (upd F2 p11 (.lst zs')) (.lst (σ0.hs.map λh=>DD.tup [.str h.1,.int (h.2:Int)])) (.ref ph):=BC ((m3.trans c11) _ _ khH) (halH.imp λ_ _=>HdA.mono (m3.trans c11)) hl63;have g1:=c11 _ _ g1;generalize upd F2 p11 (.lst zs')=F3 at c11 k11 r1 r2 r3 r4 g1⊢;refine⟨_,rfl,_,_,_,rfl,Go (BB σ0 _) (by decide),r1,r2,_,rfl,?_⟩;refine aN ?_;exact⟨_,rfl,_,_,_,_,rfl,rfl,SqT.of g1,rfl,_,rfl,_,_,_,rfl,Go (DQ _) (by decide),r3,r4,q _⟩
  .refine⟨_,rfl,_,rfl,pq,.ref fo,ss,all.map bg,rfl,SqL.of kq,ar,by omega,L.tw,L.sum,L.txg,λe he H' s'=>?_,λσ0 fd G5 qa tp ma ha us5 fs hvs q1 sm q2 e1 e2 T5 e6 n2 e7 q7 n3' n4' q9 e8=>?_⟩
   .rcases Lset with⟨_,σ1,es,_⟩|⟨hg,es⟩
    .rw[es]at he;cases he
    .rw[es]at he;cases he;refine⟨_,rfl,T.dy,?_⟩;exact key _ _ ⟨.non,true,rfl,s',.inl ⟨rfl,hg⟩⟩
   .rcases Lset with⟨hle,σ1,es,O⟩|⟨_,es⟩
    .rw[es]at q1;injection q1 with q1;subst q1;exact key _ _ ⟨_,false,rfl,sm,.inr ⟨rfl,hle,σ1,fd,qa,tp,ma,ha,us5,hvs,fs,rfl,O,e1,e2,T5,e6,e7,q7,e8⟩⟩
    .rw[es]at q1;cases q1
 .refine⟨_,rfl,_,47,3,rfl,⟨by decide,by decide⟩,by decide,rfl,_,rfl,?_⟩;refine dX (λ_=>?_) (λ_=>?_)
  .refine⟨_,rfl,p1,rfl,⟨_,SqL.of k2⟩,dF (K:=K) (a:=p1) (xs:=(eY.map λw=>tx w.t).map V.str) (λi ys G=>H2=G/\ys=(((eY.take i).filter λw=>!decide (w.t=fh)).map λw=>tx w.t).map V.str) ⟨rfl,rfl⟩ (λi ys G _ z=>by rw[<-z.1];exact SqL.of k2) ?_ ?_ ?_⟩
   .rintro i ys G hi ⟨_,rfl⟩;simp only[F6];have h1:=Hs (λw:WyD=>!decide (w.t=fh)) (eY.take i);have h2:(eY.take i).length<=14:=by rw[GD];exact Nat.min_le_right _ _
    exact aA (by omega)
   .rintro i y' ys G hy ⟨rfl,rfl⟩;obtain⟨w,hw,rfl⟩:∃w,eY[i]?=some w/\V.str (tx w.t)=y':=by
     rw[GA,GA]at hy;cases e:eY[i]? with
     |none=>rw[e]at hy;cases hy
     |some w=>rw[e]at hy;exact⟨w,rfl,GU hy⟩
    refine⟨_,rfl,rfl,_,rfl,?_⟩;rw[cu wc,aV hw,GY];by_cases hm:w.t=fh
    .rw[decide_eq_true hm];refine av ?_;exact⟨rfl,by simp[hm]⟩
    .rw[decide_eq_false hm];refine aN ?_;exact⟨_,rfl,rfl,by simp[hm]⟩
   rintro ys G ⟨rfl,rfl⟩ p3 hp3;have c3:=ag hp3 (.lst ((((eY.take ((eY.map λw=>tx w.t).map V.str).length).filter λw=>!decide (w.t=fh)).map λw=>tx w.t).map V.str));have q3:upd H2 p3 (.lst ((((eY.take ((eY.map λw=>tx w.t).map V.str).length).filter λw=>!decide (w.t=fh)).map λw=>tx w.t).map V.str)) p3=some (.lst (((eY.filter λw=>!decide (w.t=fh)).map λw=>tx w.t).map V.str)):=by rw[ae];rfl
   generalize upd H2 p3 (.lst ((((eY.take ((eY.map λw=>tx w.t).map V.str).length).filter λw=>!decide (w.t=fh)).map λw=>tx w.t).map V.str))=F3 at c3 q3⊢;refine⟨le2,λp4 hp4=>?_⟩;have c4:=ag hp4 (.lst [V.str (PySem.Str.ofString ".page"),V.str (PySem.Str.ofString ".odd")]);have q4:upd F3 p4 (.lst [V.str (PySem.Str.ofString ".page"),V.str (PySem.Str.ofString ".odd")]) p4=some (.lst [V.str (PySem.Str.ofString ".page"),V.str (PySem.Str.ofString ".odd")]):=ae;have q3:=c4 _ _ q3;generalize upd F3 p4 (.lst [V.str (PySem.Str.ofString ".page"),V.str (PySem.Str.ofString ".odd")])=F4 at c4 q4 q3⊢;refine⟨_,_,_,_,rfl,rfl,q3,q4,aQ (by decide),λp5 hp5=>?_⟩;have c5:=ag hp5 (.lst ((((eY.filter λw=>!decide (w.t=fh)).map λw=>tx w.t).map V.str)++[V.str (PySem.Str.ofString ".page"),V.str (PySem.Str.ofString ".odd")]));refine key _ _ ⟨p5,uY,rfl,c3.trans (c4.trans c5),?_,.inr rfl⟩;rw[ae,<-F5,Gg,Gg,zB,Cm];rfl
  .exact key _ _ ⟨p1,eY,rfl,aj.refl _,k2,.inl rfl⟩
end
abbrev Zn(K:PySem.W.Frag)(n:Str):Prop:=PySem.W.nsIn K GJ n=some none
theorem txt_mk{P:GE}{w:GF}{K:PySem.W.Frag}{h:Heap}{mg:Str->Option F9}(X:K.In h)(G:h.Ns GJ mg)
  {ad:AdD}(D:TxD K mg ad)
  (sh:Zn K "all")
  (i8:Zn K "bool")
  (mf:Zn K "dict")
  (fF:Zn K "enumerate")
  (jT:Zn K "int")
  (a9:Zn K "isinstance")
  (bK:Zn K "len")
  (iB:Zn K "list")
  (mE:Zn K "max")
  (eJ:Zn K "range")
  (jC:Zn K "str")
  (si:Zn K "sum")
  (e_:Zn K "tuple")
  {cY:Addr}(m_NoFoot:PySem.W.nsIn K GJ "NoFoot" = some (some (.ref cY)))(e_NoFoot:PySem.W.excIn K cY qm "ValueError.__new__" = true)
  {cZ:Addr}(m_NoMark:PySem.W.nsIn K GJ "NoMark" = some (some (.ref cZ)))(e_NoMark:PySem.W.excIn K cZ qm "ValueError.__new__" = true)
  {b7:Addr}(m_TooLong:PySem.W.nsIn K GJ "TooLong" = some (some (.ref b7)))(e_TooLong:PySem.W.excIn K b7 qm "ValueError.__new__" = true)
  {dH:Addr}(m_Twice:PySem.W.nsIn K GJ "Twice" = some (some (.ref dH)))(e_Twice:PySem.W.excIn K dH qm "ValueError.__new__" = true)
  (dy:uc K b7 b7)
  {jq:Addr}(gr:PySem.W.nsIn K GJ "ALONE" = some (some (.ref jq))){od_ALONE:Option Addr}{sl_ALONE:Array (Option F9)}{n_ALONE:Nat}{k_ALONE0:Tok}{k_ALONE1:Tok}{k_ALONE2:Tok}(l_ALONE:K.lookup jq=some ⟨.type "tuple",od_ALONE,.seq #[.str (PySem.Str.ofString ".page") k_ALONE0,.str (PySem.Str.ofString ".odd") k_ALONE1,.str (PySem.Str.ofString ".list") k_ALONE2] n_ALONE,sl_ALONE⟩)
  {t_FIGURES:Tok}(eC:PySem.W.nsIn K GJ "FIGURES" = some (some (.str (PySem.Str.ofString "0123456789") t_FIGURES)))
  {jr:Addr}(gt:PySem.W.nsIn K GJ "HEADS" = some (some (.ref jr))){od_HEADS:Option Addr}{sl_HEADS:Array (Option F9)}{n_HEADS:Nat}{k_HEADS0:Tok}{k_HEADS1:Tok}{k_HEADS2:Tok}(l_HEADS:K.lookup jr=some ⟨.type "tuple",od_HEADS,.seq #[.str (PySem.Str.ofString "=") k_HEADS0,.str (PySem.Str.ofString "==") k_HEADS1,.str (PySem.Str.ofString "===") k_HEADS2] n_HEADS,sl_HEADS⟩)
  {e9:Addr}(fT:PySem.W.nsIn K GJ "KINDS" = some (some (.ref e9))){oc_KINDS:F9}{od_KINDS:Option Addr}{es_KINDS:Array Hb}{ep_KINDS:Nat}{sl_KINDS:Array (Option F9)}(l_KINDS:K.lookup e9=some ⟨oc_KINDS,od_KINDS,.dict es_KINDS ep_KINDS,sl_KINDS⟩)
  (b_KINDS:(e9==HD)=false)(c_KINDS:(⟨oc_KINDS,od_KINDS,.dict es_KINDS ep_KINDS,sl_KINDS⟩:Obj).ExactDict)(e_KINDS:xv w es_KINDS kS)
  {de:Addr}(fU:PySem.W.nsIn K GJ "LEAPS" = some (some (.ref de))){oc_LEAPS:F9}{od_LEAPS:Option Addr}{es_LEAPS:Array Hb}{ep_LEAPS:Nat}{sl_LEAPS:Array (Option F9)}(l_LEAPS:K.lookup de=some ⟨oc_LEAPS,od_LEAPS,.dict es_LEAPS ep_LEAPS,sl_LEAPS⟩)
  (b_LEAPS:(de==HD)=false)(c_LEAPS:(⟨oc_LEAPS,od_LEAPS,.dict es_LEAPS ep_LEAPS,sl_LEAPS⟩:Obj).ExactDict)(e_LEAPS:xv w es_LEAPS gT)
  {t_LETTERS:Tok}(dP:PySem.W.nsIn K GJ "LETTERS" = some (some (.str (PySem.Str.ofString "abcdefghijklmnopqrstuvwxyz") t_LETTERS)))
  {t_LONGEST_NAME:Tok}(cw:PySem.W.nsIn K GJ "LONGEST_NAME" = some (some (.int 12 t_LONGEST_NAME)))
  {t_LONGEST_TEXT:Tok}(cx:PySem.W.nsIn K GJ "LONGEST_TEXT" = some (some (.int 60 t_LONGEST_TEXT)))
  {t_MOST_CALLS:Tok}(cS:PySem.W.nsIn K GJ "MOST_CALLS" = some (some (.int 400 t_MOST_CALLS)))
  {t_MOST_FOOT_WORDS:Tok}(bX:PySem.W.nsIn K GJ "MOST_FOOT_WORDS" = some (some (.int 39 t_MOST_FOOT_WORDS)))
  {t_MOST_WORDS_books:Tok}(bH:PySem.W.nsIn K GJ "MOST_WORDS_books" = some (some (.int 400 t_MOST_WORDS_books)))
  {t_MOST_WORDS_shorts:Tok}(bI:PySem.W.nsIn K GJ "MOST_WORDS_shorts" = some (some (.int 400 t_MOST_WORDS_shorts)))
  {fj:Addr}(dL:PySem.W.nsIn K GJ "POINTING" = some (some (.ref fj))){od_POINTING:Option Addr}{sl_POINTING:Array (Option F9)}{n_POINTING:Nat}{k_POINTING0:Tok}{k_POINTING1:Tok}{k_POINTING2:Tok}(l_POINTING:K.lookup fj=some ⟨.type "tuple",od_POINTING,.seq #[.str (PySem.Str.ofString "number") k_POINTING0,.str (PySem.Str.ofString "page") k_POINTING1,.str (PySem.Str.ofString "row") k_POINTING2] n_POINTING,sl_POINTING⟩) :
  ∃a:Adr,Txt P w K mg a:=by
 refine⟨{ toAdD:=ad,jq:=jq,jr:=jr,e9:=e9,de:=de,fj:=fj,cY:=cY,cZ:=cZ,b7:=b7,dH:=dH },{
  toTxD:=D,
  sh:=PySem.W.mg_none_of X G sh,
  i8:=PySem.W.mg_none_of X G i8,
  mf:=PySem.W.mg_none_of X G mf,
  fF:=PySem.W.mg_none_of X G fF,
  jT:=PySem.W.mg_none_of X G jT,
  a9:=PySem.W.mg_none_of X G a9,
  bK:=PySem.W.mg_none_of X G bK,
  iB:=PySem.W.mg_none_of X G iB,
  mE:=PySem.W.mg_none_of X G mE,
  eJ:=PySem.W.mg_none_of X G eJ,
  jC:=PySem.W.mg_none_of X G jC,
  si:=PySem.W.mg_none_of X G si,
  e_:=PySem.W.mg_none_of X G e_,
  ye:=⟨PySem.W.mg_of X G m_NoFoot,e_NoFoot⟩,
  tQ:=⟨PySem.W.mg_of X G m_NoMark,e_NoMark⟩,
  rP:=⟨PySem.W.mg_of X G m_TooLong,e_TooLong⟩,
  za:=⟨PySem.W.mg_of X G m_Twice,e_Twice⟩,
  dy:=dy,
  gr:=⟨PySem.W.mg_of X G gr,λH=>.inr ⟨_,_,_,l_ALONE,rfl,rfl,by show 3<=Gr;decide,.cons ⟨_,rfl⟩ (.cons ⟨_,rfl⟩ (.cons ⟨_,rfl⟩ (.nil)))⟩⟩,
  eC:=⟨t_FIGURES,PySem.W.mg_of X G eC⟩,
  gt:=⟨PySem.W.mg_of X G gt,λH=>.inr ⟨_,_,_,l_HEADS,rfl,rfl,by show 3<=Gr;decide,.cons ⟨_,rfl⟩ (.cons ⟨_,rfl⟩ (.cons ⟨_,rfl⟩ (.nil)))⟩⟩,
  fT:=⟨PySem.W.mg_of X G fT,yR b_KINDS l_KINDS c_KINDS e_KINDS⟩,
  fU:=⟨PySem.W.mg_of X G fU,yR b_LEAPS l_LEAPS c_LEAPS e_LEAPS⟩,
  dP:=⟨t_LETTERS,PySem.W.mg_of X G dP⟩,
  cw:=⟨t_LONGEST_NAME,PySem.W.mg_of X G cw⟩,
  cx:=⟨t_LONGEST_TEXT,PySem.W.mg_of X G cx⟩,
  cS:=⟨t_MOST_CALLS,PySem.W.mg_of X G cS⟩,
  bX:=⟨t_MOST_FOOT_WORDS,PySem.W.mg_of X G bX⟩,
  bH:=⟨t_MOST_WORDS_books,PySem.W.mg_of X G bH⟩,
  bI:=⟨t_MOST_WORDS_shorts,PySem.W.mg_of X G bI⟩,
  dL:=⟨PySem.W.mg_of X G dL,λH=>.inr ⟨_,_,_,l_POINTING,rfl,rfl,by show 3<=Gr;decide,.cons ⟨_,rfl⟩ (.cons ⟨_,rfl⟩ (.cons ⟨_,rfl⟩ (.nil)))⟩⟩ }⟩
theorem walk{l:PySem.W.OpenLaw}{q:GE}{loose:List Str}{XP:(Str->Option F9)->Heap->Prop}{YP:GF->Heap->Prop}{d:DefRec}{K:GQ->PySem.W.Frag}(hn:l.most=some 63)(hdf:d.params.defaults=[])(hnm:d.name = "law")
  (hY:∀(w:GF) (h:Heap),YP w h->(K w.params).In h)
  (F:∀(w:GF) (mg:Str->Option F9) (h:Heap),(K w.params).In h->h.Ns GJ mg->∃a:Adr,Txt l.prog w (K w.params) mg a) :
  PySem.W.WalkO q loose XP YP l.row.toRowW d [] (λf vs=>PySem.call f vs):=
 L2.walk_of (n:=63) (k:=9) (x := "script") (CX:=λ_=>CX0) (sp:=λw=>AL (K w.params)) hn (by decide) hdf ⟨rfl,by decide,by decide⟩ hY (λw mg fa h KX G hmg=>by
  obtain⟨a,T⟩:=F w mg h KX G;have e0:=hmg.symm.trans (hnm▸T.wq.mg);cases e0;refine⟨a.uw,λs u=>.of_eq (T.wq.ba [u] rfl),λbase _ _=>ok_law T⟩) (λ_ _ a ns hl _ hS=>⟨a,ns,rfl,hS,hl,λ_=>rfl⟩) λ_ _ _ _ _ z=>z
end K58
namespace K58
open PySem PySem.W L2 Tl PyProof.Rows
theorem us1{us:List F9}(h:us.length=1):∃a0,us=[a0]:=by
 match us,h with
 |[a0],_=>exact⟨a0,rfl⟩
theorem us2{us:List F9}(h:us.length=2):∃a0 a1,us=[a0,a1]:=by
 match us,h with
 |[a0,a1],_=>exact⟨a0,a1,rfl⟩
theorem us3{us:List F9}(h:us.length=3):∃a0 a1 a2,us=[a0,a1,a2]:=by
 match us,h with
 |[a0,a1,a2],_=>exact⟨a0,a1,a2,rfl⟩
theorem us4{us:List F9}(h:us.length=4):∃a0 a1 a2 a3,us=[a0,a1,a2,a3]:=by
 match us,h with
 |[a0,a1,a2,a3],_=>exact⟨a0,a1,a2,a3,rfl⟩
theorem us6{us:List F9}(h:us.length=6):∃a0 a1 a2 a3 a4 a5,us=[a0,a1,a2,a3,a4,a5]:=by
 match us,h with
 |[a0,a1,a2,a3,a4,a5],_=>exact⟨a0,a1,a2,a3,a4,a5,rfl⟩
noncomputable abbrev fdO(n q:Str)(s:Stmt)(d:F9)(m:String)(k:Nat)(r:Addr):Gn:=fnOf n q (cI s) (cm s) (au s) d .none .none (.str (Ko m) k) none (.ref r) .none
noncomputable abbrev fb0(n q:Str)(s:Stmt)(d:F9)(r:Addr):Gn:=fdO n q s d "law_trueleaf_k58_heads_and_lists" 818 r
noncomputable abbrev fa0(n:Str)(s:Stmt)(r:Addr):Gn:=fb0 n n s .none r
noncomputable abbrev fb1(n q:Str)(s:Stmt)(d:F9)(r:Addr):Gn:=fdO n q s d "trueleaf.signs" 355 r
noncomputable abbrev fa1(n:Str)(s:Stmt)(r:Addr):Gn:=fb1 n n s .none r
noncomputable abbrev fb2(n q:Str)(s:Stmt)(d:F9)(r:Addr):Gn:=fdO n q s d "trueleaf.heads" 407 r
noncomputable abbrev fa2(n:Str)(s:Stmt)(r:Addr):Gn:=fb2 n n s .none r
noncomputable abbrev fb3(n q:Str)(s:Stmt)(d:F9)(r:Addr):Gn:=fdO n q s d "trueleaf.setting" 670 r
noncomputable abbrev fa3(n:Str)(s:Stmt)(r:Addr):Gn:=fb3 n n s .none r
noncomputable abbrev fb4(n q:Str)(s:Stmt)(d:F9)(r:Addr):Gn:=fdO n q s d "trueleaf.reading" 554 r
noncomputable abbrev fa4(n:Str)(s:Stmt)(r:Addr):Gn:=fb4 n n s .none r
noncomputable abbrev fb5(n q:Str)(s:Stmt)(d:F9)(r:Addr):Gn:=fdO n q s d "trueleaf.shorts" 469 r
noncomputable abbrev fa5(n:Str)(s:Stmt)(r:Addr):Gn:=fb5 n n s .none r
noncomputable abbrev fb6(n q:Str)(s:Stmt)(d:F9)(r:Addr):Gn:=fdO n q s d "trueleaf.trees" 415 r
noncomputable abbrev fa6(n:Str)(s:Stmt)(r:Addr):Gn:=fb6 n n s .none r
noncomputable def A0:AdD:={ mD:=457,k_:=fa0 "_law_alike" qA 456,ng:=443,lZ:=fa0 "_law_cell_at" mM 442,tJ:=450,rH:=fa0 "_law_draw" sX 449,tK:=478,rJ:=fa0 "_law_form" sY 477,rB:=536,pE:=fa0 "_law_heads" qB 535,o_:=550,nA:=fa0 "_law_marked" oJ 549,tL:=483,rK:=fa0 "_law_name" sZ 482,nj:=464,l7:=fa0 "_law_sign_by" mO 463,lV:=488,kI:=fa0 "_law_plain_by" lG 487,tP:=502,rO:=fa0 "_law_word" s_ 501,rC:=514,pF:=fa0 "_law_named" qC 513,tM:=509,rL:=fa0 "_law_rows" tf 508,tN:=543,rM:=fa0 "_law_said" tj 542,rD:=557,pG:=fa0 "_law_shape" qD 556,pe:=564,nC:=fa0 "_law_spaced" oK 563,pi:=529,nD:=fa0 "_law_stream" oM 528,ni:=471,l0:=fa0 "_law_is_name" mP 470,nq:=495,l8:=fa0 "_law_written" mQ 494,tO:=519,rN:=fa0 "_law_text" tm 518,pp:=524,nE:=fa0 "_law_titles" oN 523,lU:=153,kH:=fa1 "figures_of" lH 152,lW:=165,kJ:=fa2 "numbers_of" lI 164,kG:=358,jR:=fb3 "__init__" "Setter.__init__" ku .none 357,gb:=410,fS:=fb3 "check_marks" "Setter.check_marks" f8 .none 409,iY:=391,iz:=fb3 "set_mark" "Setter.set_mark" iJ .none 390,im:=405,gM:=fb3 "next_foot" "Setter.next_foot" g9 .none 404,iZ:=398,iA:=fb3 "set_word" "Setter.set_word" iK .none 397,jj:=384,i4:=fb3 "set_run" "Setter.set_run" ji .none 383,iW:=372,iu:=fb3 "set_head" "Setter.set_head" iL .none 371,iX:=377,iy:=fb3 "set_list" "Setter.set_list" iM .none 376,iq:=365,gP:=fb3 "set_thing" "Setter.set_thing" g_ .none 364,io:=429,gN:=fb3 "number_at" "Setter.number_at" hJ .none 428,ip:=422,gO:=fb3 "saying_of" "Setter.saying_of" hU .none 421,gI:=415,gf:=fb3 "words_told" "Setter.words_told" gu .none 414,kE:=280,jQ:=fb4 "__init__" "Reader.__init__" kx .none 279,ij:=320,gJ:=fb4 "add_thing" "Reader.add_thing" hV .none 319,gG:=306,gc:=fb4 "read_alone" "Reader.read_alone" gv .none 305,rz:=146,pB:=fa1 "is_name" qE 145,rA:=160,pC:=fa1 "kind_of" qF 159,rq:=233,pA:=fa5 "by_name" qG 232,lY:=247,kL:=fa5 "size_among" lJ 246,nz:=257,md:=fa5 "words_out" mR 256,rF:=228,pI:=fa5 "put_out" qH 227,rE:=199,pH:=fa6 "node_of" qI 198,lX:=185,kK:=fa6 "opens_call" lK 184,rG:=173,pJ:=fb6 "tree_of" "tree_of" qJ (.ref 166) 172,il:=325,gL:=fb4 "words_out" "Reader.words_out" hX .none 324,ik:=299,gK:=fb4 "read_foot" "Reader.read_foot" hZ .none 298,gH:=313,ge:=fb4 "read_words" "Reader.read_words" gx .none 312,iV:=287,ir:=fb4 "read_row" "Reader.read_row" iN .none 286,pz:=141,nF:=fa1 "words_in" oO 140,nu:=266,l9:=fa4 "read_rows" mS 265,ny:=346,l_:=fa3 "set_words" mT 345,z9:=569,uw:=fa0 "law" zG 568,bJ:=328,aH:=432 }
local macro_rules | `(tactic| walk_at "b")=>`(tactic| (intro _ _ _ _ _ _ us hl; first | (obtain ⟨_,hx⟩:=us1 hl; subst hx; rfl) | (obtain ⟨_,⟨_,hx⟩⟩:=us2 hl; subst hx; rfl) | (obtain ⟨_,⟨_,⟨_,hx⟩⟩⟩:=us3 hl; subst hx; rfl) | (obtain ⟨_,⟨_,⟨_,⟨_,hx⟩⟩⟩⟩:=us4 hl; subst hx; rfl) | (obtain ⟨_,⟨_,⟨_,⟨_,⟨_,⟨_,hx⟩⟩⟩⟩⟩⟩:=us6 hl; subst hx; rfl)))
local macro_rules | `(tactic| walk_at "d")=>`(tactic| exact BZ (oc:=.type "function") (od:=none) (sl:=#[]) (by assumption) (by assumption) (by kernel_rfl) (by kernel_rfl) (by kernel_rfl) (by kernel_rfl) (by walk_at "b"))
local macro_rules | `(tactic| walk_at "m")=>`(tactic| exact B8 (oc:=.type "function") (od:=none) (sl:=#[]) (by kernel_rfl) (by kernel_rfl) (by kernel_rfl) (by kernel_rfl) (by kernel_rfl) (by walk_at "b"))
local macro_rules | `(tactic| walk_at "n")=>`(tactic| (show PySem.W.findIn _ _ _=some none; kernel_rfl))
set_option maxHeartbeats 0 in
theorem txd{w:GF}{mg:Str->Option F9}{h:Heap}(X:(kk w.params).In h)(G:h.Ns GJ mg):TxD (kk w.params) mg A0 where
 bG:=⟨mg_of X G (by kernel_rfl),⟨by kernel_rfl,by kernel_rfl,by kernel_rfl,by kernel_rfl⟩,by kernel_rfl,by kernel_rfl⟩
 jk:=by walk_at "n"
 fV:=by walk_at "n"
 eP:=by walk_at "n"
 df:=by walk_at "n"
 aB:=⟨mg_of X G (by kernel_rfl),⟨by kernel_rfl,by kernel_rfl,by kernel_rfl,by kernel_rfl⟩,by kernel_rfl,by kernel_rfl⟩
 fJ:=by walk_at "n"
 gg:=by walk_at "n"
 fW:=by walk_at "n"
 dQ:=by walk_at "n"
 cC:=by walk_at "n"
 cB:=by walk_at "n"
 dr:=by walk_at "n"
 cK:=by walk_at "n"
 dg:=by walk_at "n"
 fA:=by walk_at "d"
 mV:=by walk_at "d"
 bW:=by walk_at "d"
 tE:=by walk_at "d"
 rc:=by walk_at "d"
 o5:=by walk_at "d"
 lP:=by walk_at "d"
 jS:=by walk_at "d"
 lQ:=by walk_at "d"
 tI:=by walk_at "d"
 rh:=by walk_at "d"
 tF:=by walk_at "d"
 tG:=by walk_at "d"
 rj:=by walk_at "d"
 o6:=by walk_at "d"
 o7:=by walk_at "d"
 mW:=by walk_at "d"
 mX:=by walk_at "d"
 tH:=by walk_at "d"
 o8:=by walk_at "d"
 jB:=by walk_at "d"
 lR:=by walk_at "d"
 kD:=by walk_at "m"
 ga:=by walk_at "m"
 iT:=by walk_at "m"
 ie:=by walk_at "m"
 iU:=by walk_at "m"
 dI:=by walk_at "m"
 iR:=by walk_at "m"
 iS:=by walk_at "m"
 ii:=by walk_at "m"
 ig:=by walk_at "m"
 fq:=by walk_at "m"
 gF:=by walk_at "m"
 kC:=by walk_at "m"
 dN:=by walk_at "m"
 gD:=by walk_at "m"
 j_:=by walk_at "d"
 rb:=by walk_at "d"
 q_:=by walk_at "d"
 lT:=by walk_at "d"
 m_:=by walk_at "d"
 rm:=by walk_at "d"
 rk:=by walk_at "d"
 lS:=by walk_at "d"
 rp:=AQ (oc:=.type "function") (od:=none) (sl:=#[]) (oc2:=.type "tuple") (od2:=none) (sl2:=#[]) (n2:=0) X G (by kernel_rfl) (by kernel_rfl) (by kernel_rfl) (by kernel_rfl) (by kernel_rfl) (λ_ _ _ _ _ _ us hl=>by obtain⟨_,⟨_,rfl⟩⟩:=us2 hl;exact⟨_,rfl,rfl⟩) (λ_ _ _ _ _ _ us hl=>by obtain⟨_,rfl⟩:=us1 (Nat.succ.inj hl);exact⟨_,rfl,rfl⟩)
 dO:=by walk_at "m"
 ic:=by walk_at "m"
 gE:=by walk_at "m"
 iQ:=by walk_at "m"
 o9:=by walk_at "d"
 mY:=by walk_at "d"
 mZ:=by walk_at "d"
 wq:=by walk_at "d"
end K58
local macro_rules | `(tactic| walk_at "z")=>`(tactic| (first | k_is | (delta K58.Zn; k_is)))
open PySem PySem.W PyProof.Rows
set_option maxRecDepth 100000 in
set_option maxHeartbeats 0 in
theorem PySem.Challenge.cw_trueleaf_k58_heads_and_lists_holds : PySem.Challenge.rw_trueleaf_k58_heads_and_lists.Holds := by
 w_on
 refine ⟨K58.wsL,?_⟩;have said:PySem.Challenge.rw_trueleaf_k58_heads_and_lists.row.wellSaid=true:=K58.wsR;refine holds_open (q:=K58.vw) (loose:=K58.ls) (Xt:=K58.xt) (XP:=XL K58.vw []) (Yf:=Hook.obs K58.hk) (Ya:=Hook.val K58.hk) (YP:=InK K58.kk) K58.left
  (Hook.of K58.hk) (Hook.keeps K58.hk) (fun s e=>xl_of s (Bool.and_eq_true_iff.mp e).1) XL.keeps (by rfl) (by rfl) (by rfl)
  (fun s e=>recFacts_of (Bool.and_eq_true_iff.mp e).2) (by rfl) (by assumption) (by decide +kernel) ⟨rfl,rfl,rfl,rfl,rfl,by decide +kernel⟩ ?hw ?hc
 (case hw=>w_witness2)
 k_fill
 refine K58.walk (l:=PySem.Challenge.rw_trueleaf_k58_heads_and_lists) rfl rfl rfl (fun w h Y=>Y) ?F
 case F =>
  intro w mg h KX G;refine' K58.txt_mk (D:=K58.txd KX G) KX G ?sh ?i8 ?mf ?fF ?jT ?a9 ?bK ?iB ?mE ?eJ ?jC ?si ?e_ ?m_NoFoot ?e_NoFoot ?m_NoMark ?e_NoMark ?m_TooLong ?e_TooLong ?m_Twice ?e_Twice ?dy ?gr ?l_ALONE ?eC ?gt ?l_HEADS ?fT ?l_KINDS ?b_KINDS ?c_KINDS ?e_KINDS ?fU ?l_LEAPS ?b_LEAPS ?c_LEAPS ?e_LEAPS ?dP ?cw ?cx ?cS ?bX ?bH ?bI ?dL ?l_POINTING
  (case sh | i8 | mf | fF | jT | a9 | bK | iB | mE | eJ | jC | si | e_ | m_NoFoot=>walk_at "z")
  (case e_NoFoot=>k_exc)
  (case m_NoMark=>walk_at "z")
  (case e_NoMark=>k_exc)
  (case m_TooLong=>walk_at "z")
  (case e_TooLong=>k_exc)
  (case m_Twice=>walk_at "z")
  (case e_Twice=>k_exc)
  (case dy=>((show PySem.W.exmOne _ _ _=some true); kts_exm))
  (case gr | l_ALONE | eC | gt | l_HEADS | fT | l_KINDS=>walk_at "z")
  (case b_KINDS=>rfl)
  (case c_KINDS=>exact ⟨rfl,rfl,rfl⟩)
  (case e_KINDS=>(refine ⟨?_,by decide +kernel⟩; exact .cons rfl rfl ⟨_,rfl⟩ (.cons rfl rfl ⟨_,rfl⟩ (.cons rfl rfl ⟨_,rfl⟩ (.cons rfl rfl ⟨_,rfl⟩ (.cons rfl rfl ⟨_,rfl⟩ .nil))))))
  (case fU | l_LEAPS=>walk_at "z")
  (case b_LEAPS=>rfl)
  (case c_LEAPS=>exact ⟨rfl,rfl,rfl⟩)
  (case e_LEAPS=>(refine ⟨?_,by decide +kernel⟩; exact .cons rfl rfl ⟨_,rfl⟩ (.cons rfl rfl ⟨_,rfl⟩ .nil)))
  (case dP | cw | cx | cS | bX | bH | bI | dL | l_POINTING=>walk_at "z")
