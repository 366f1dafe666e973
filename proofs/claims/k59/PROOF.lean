import PyProof.Rows.All
import Wide.All
import OpenK.AllK
import Wide.FinOn
import Lean
import PyProof.EqAt
import PyProof.EqKinds
import PyProof.TupleCall
import PyProof.NeKinds
import KE.LcSums
import PyProof.ExcBaseAll.ValueError
import KE.KTryMore
import KE.RegKTryMore
import PyProof.StrLawsRepr
import PyProof.ReprStr
import PyProof.EnumMake
import PyProof.EnumFor
import KE.KEqDict
import PyProof.Rows.Range3
import PyProof.SumWalkG
import PyProof.ZipIter
import KE.KDictOf
import PyProof.IsiH_list
import PyProof.RaisesAny
import PyProof.SumWalkG
import KE.KIsAll
import PyProof.ExcArgsOwn
import PyProof.ExcAttrAll.ValueError
import PyProof.RulesAs
import PyProof.NsDelKeeps
import PyProof.Rows.TupAdd
import KE.KDictList
import PyProof.Rows.SortStr
import PyProof.Rows.SortWalk
import PyProof.DictIter
import PyProof.DictItemsLoops
import PyProof.DictValues
import PyProof.DictWalks
import PySem.Challenge.RW_trueleaf_k59_leads_and_keeps
set_option Elab.async false
set_option linter.all false
set_option maxRecDepth 100000
set_option maxHeartbeats 4000000
open List renaming length_map→F9,length_append→Ga,replicate→Gc,length_cons→Gd,getElem?_eq_getElem→Ge,mem_cons_of_mem→Gh,mem_of_getElem?→Gj,mem_cons_self→Gk,map_append→Gm,map_cons→Gp,append_assoc→Gs,size_toArray→Gw,length_nil→Gy,take_length→Gz,length_take→GC,getElem?_map→GD,append_nil→GF,getD_eq_getElem?_getD→GL,mem_append_right→GS,toArray→GT,lookup→GU,replicate_succ→GY,not_mem_nil→G_,length_replicate→Hc,drop_eq_getElem_cons→Hg,length_range→Hh,filter_append→Hj,mem_cons→Hk,take_of_length_le→Ho,length_filter_le→Hq,sum_cons→Hv,take_add_one→HF,mem_append_left→HG,range→HQ,filterMap_cons→HR,map_map→HU,getElem?_append_right→HX,any_eq_false→Ia,flatten_cons→Ib,nodup_append→Ie,length_drop→Il,filter_cons→Im,drop_length→Ip,find?_cons→Iw,any_cons→Iy,length_singleton→Iz,flatMap_cons→IE,getElem?_append_left→IJ,all_cons→IP,sum_append→IS,map_nil→Jb,drop_eq_nil_of_le→Jc,getElem?_eq_none→Je,filter→Jp,map_congr_left→Jx,flatMap_append→Jy,take_zero→JJ,map_singleton→JK,mem_singleton→JL,foldl_append→JR,cons_append→JY,of_mem_zip→J8,foldl_cons→J_,nil_append→Ka,range_succ→Kb,length→Ke,foldl→KY,map→K1
open PySem renaming Value→F_,Shared→Gg,wpAny_bind→Gq,FuncData→Gu,sizeLine→Gv,Program→GH,starEach→GI,World→GJ,wpAny→GK,wpAny_pure→GO,mainGlobals→GP,model→GQ,Params→GV,Around→Ha,DictEntry→Hd,wpAny_mono→Hl,OsState→HA,compareOp→HB,foldedSetIterable→HE,sysModules→HI,wpAny_truthy_bool→HN,wpAny_newObj_type→HP,backTo→HV,wpAny_Call_Name_kw→HW,relabel→Ij,bootBuiltins→Iq,wpAny_execs_nil→Iv,wpAny_holding→IL,binaryOp→IM,attributeBase→IN,wpAny_passesOwn→IR,call_meets→IU,tupleKind_room_in1→IV,swapsWith→IW,sliceBounds→IZ,wpAny_pyIter_list→I0,wpAny_execs_cons→Jh,behindInMarks→Jk,codeAny→Jl,keywordEach→Jn,importedModules→Jr,letOwnedTupleGo→Js,holding→Jz,codeAny_mono→JA,assignEach→JD,typeIs_str→JH,wpAny_Assign_Name→JN,Result→JS,getMethod→JU,bindArgs→JV,getItem→J0,valueAt→J2,sliceRange→J3,cLine→J7,wpAny_loadPart'→J9,backToKw→Kc,NameKind→Kd,IsPart→Kf,subscripted→Kg,tupleKind→Kj,callerA→Kk,wpAny_standAt→Kl,builtinsNs→Kq,assign→Ks,typeLookup→Kt,GenState→Ku,standAt→Kv,wpAny_typeOf→KA,seqIndex_neg→KB,Builtin→KD,sizeLine_eq→KF,wpAny_field→KG,seqIndex_of→KH,atKey→KI,Keyword→KJ,wpAny_Name→KM,pyIter→KO,wpAny_call→KP,callWith→KQ,bindL→KR,bindC→KS,typeIs_int→KW,stored→KZ
open Option renaming some→Gb,isSome_map→JO
open Nat renaming le_refl→Gi,ne_of_lt→Gx,lt_of_le_of_lt→GA,le_of_lt→GE,lt_of_lt_of_le→GG,le_trans→GM,zero_le→GZ,le_add_right→Hs,lt_irrefl→Hu,le_succ→HJ,ne_of_gt→HM,lt_trans→HS,lt_succ_self→Ik,zero_add→Iu,lt_of_succ_lt→ID,le_of_not_lt→II,add_le_add_right→Jq,min_eq_left→Jv,not_lt_zero→Jw,toDigits→J5,mod_lt→J6,add_assoc→Kp,le_of_eq→Kx,add_comm→KC
open PySem.Heap renaming lt_size→Gn,get?_push_of_some→Go,get?_push_size→GN,SameBut→IH,size_push→I_,get?_update_other→Ja,FlyingW→J4
open Or renaming inl→Gr
open Bool renaming false_ne_true→GB,not_eq_true→Hw,and_eq_true→HC,or_eq_false_iff→IG,true_and→Jm,eq_iff_iff→Jt,false_and→JE,false_eq_true→JM,and_false→Kh,false_or→Kn,and_true→Ko
open PyProof.Rows renaming boot_isinstance→GR,callWith_type1→HH,envOfC→HK,boot_int→HL,boot_tuple→Io,boot_str→IB,boot_max→IC,boot_bool→Jd,kindOf→Ji,AllBare→Jj,subscriptTail→Km,IntsAre→KL,isTrue_and→KN,Subscript_→KU
open Option.some renaming inj→GW
open Ne renaming symm→GX
open PySem.PassesOwn renaming never→Hb,leaving→Ic
open PySem.Value renaming ref→He,str→HZ,type→IF,int→Jf,none→Jg,bool→Kr
open Array renaming mk→Hm,length_toList→Ii,append_assoc→JC
open PySem.Builtin.Str renaming occurrences→Hr
open Int renaming toNat_natCast→Hx,toNat→H_,zero_add→JB
open PySem.Str renaming empty→Hy,ofString→JZ,join→K0
open False renaming elim→HD
open PySem.Builtin.Slice renaming slicePlaces→HY,sliceAdjust→IK
open PySem.Builtin.Tuple renaming tupleExact→Ig
open PySem.Builtin.List renaming listTooLong→Ih
open PySem.Calls renaming callWith_builtin→Ir,Constant_str→IT,evalArgs_plain→Jo,spliced_cons→JG
open Sum renaming inr→IQ,inl→Ki
open PySem.Data renaming fields→IY
open ForInStep renaming yield→Ju
open True renaming intro→JF
open PySem.F renaming args_str_split_2→JI,entry_str_split→JQ,slot_str_split→JX
open PyProof.Rows.LCg renaming lst→JP
open PySem.NameKind renaming free→JT
open LawfulBEq renaming eq_of_beq→JW
open PySem.Obj renaming mapSeq→J1
open PySem.Around renaming under→Ky
open PySem.Code renaming isFrame→Kz
namespace L2
open PySem
def cy(s:Stmt):Arguments:=match s with
 |.FunctionDef _ a _ _ _ _ _ _ _ _=>a
 |_=>{ posonlyargs:=[],args:=[],vararg:=none,kwonlyargs:=[],kw_defaults:=[],kwarg:=none,defaults:=[] }
def b_(s:Stmt):List Stmt:=match s with
 |.FunctionDef _ _ b _ _ _ _ _ _ _=>b
 |_=>[]
def av(s:Stmt):Scope:=match s with
 |.FunctionDef _ _ _ _ _ _ sc _ _ _=>sc
 |_=>{ kind:=.function,names:=[],isGenerator:=false,isCoroutine:=false }

end L2
namespace K59
open PySem PySem.W L2 PyProof.Rows
noncomputable def top(i:Nat):Stmt:=PySem.Challenge.pw_trueleaf_k59_leads_and_keeps.main.body.getD i (.Pass ⟨0,0,0,0⟩)
noncomputable def bv(i j:Nat):Stmt:=match top i with|.ClassDef _ _ _ b ..=>b.getD j (.Pass ⟨0,0,0,0⟩)|_=>.Pass ⟨0,0,0,0⟩
set_option maxHeartbeats 0 in
theorem wsL:PySem.Challenge.rw_trueleaf_k59_leads_and_keeps.wellSaid=true:=by kernel_rfl
set_option maxHeartbeats 0 in
theorem wsR:PySem.Challenge.rw_trueleaf_k59_leads_and_keeps.row.wellSaid=true:=by kernel_rfl
noncomputable abbrev os(s:String):Str:=JZ s
noncomputable abbrev kh(P:GV)(s:Str):Int:=PyData.keyHash P s
noncomputable abbrev fO(n:String)(i:Nat)(d:F_)(m:String)(k:Nat)(r:Addr):Obj:=⟨.type "function",none,.func (fnOf (os n) (os n) (cy (top i)) (b_ (top i)) (av (top i)) d .none .none (.str (os m) k) none (.ref r) .none),#[]⟩
noncomputable abbrev sv(s:String)(k:Nat):F_:=.str (os s) k
noncomputable abbrev dE(P:GV)(s:String)(k:Nat)(v:F_):Hd:=⟨kh P (os s),.str (os s) k,v⟩
noncomputable abbrev cV(n q:String)(a b c:Nat)(l1 l2 l5:Int)(r0:Addr)(m:Int)(r1:Addr)(v0 v1 v2 v3:F_)(x y:Int)(d:Nat):Obj:=⟨.type "code",none,.fields #[.str (os n) a,.str (os q) b,.str (os "/claim/cut.py") c,.int l1 0,.int l2 0,.int 0 0,.int 0 0,.int l5 0,.ref r0,.bool true,.int m 0,.ref r1,v0,v1,v2,v3,.int x 0,.int y 0,.str (os "/claim/cut.py") d],#[]⟩
noncomputable abbrev fM(n q:String)(s:Stmt)(d:F_)(m:String)(k:Nat)(r:Addr):Obj:=⟨.type "function",none,.func (fnOf (os n) (os q) (cy s) (b_ s) (av s) d .none .none (.str (os m) k) none (.ref r) .none),#[]⟩
noncomputable abbrev gA(n q:String)(s:Stmt):Obj:=⟨.none,none,.func (FuncData.mk (os n) (os q) (cy s) (FuncBody.stmts (b_ s)) (av s) 0 [] .none .none .none .none none .none .none 0),#[]⟩
noncomputable abbrev gB(n q:String)(s:Stmt)(d:F_)(m:String)(k:Nat)(r:Addr):Obj:=⟨.type "function",none,.func (FuncData.mk (os n) (os q) (cy s) (FuncBody.stmts (b_ s)) (av s) 3 [] d .none .none (.str (os m) k) none (.ref r) .none 0),#[]⟩
noncomputable def kk:GV->Frag:=λP=>(nat_lit 2,⟨(.none),none,.dict ([]).toArray 0,#[]⟩)::
 (nat_lit 3,⟨(.type "dict"),none,.dict (GT (dE P "__name__" 165 (sv "law_trueleaf_k59_leads_and_keeps" 818)::dE P "__doc__" 166 (.none)::dE P "__package__" 167 (.none)::dE P "__loader__" 168 (.builtin "__main__.__loader__#opaque")::dE P "__spec__" 169 (.none)::dE P "__annotations__" 170 (.ref 6)::dE P "__builtins__" 171 (.ref 4)::dE P "__file__" 173 (sv "/claim/cut.py" 172)::dE P "__cached__" 174 (.none)::dE P "TrueleafError" 206 (.ref 24)::dE P "BadRow" 222 (.ref 37)::dE P "TooLong" 238 (.ref 49)::dE P "BadCall" 254 (.ref 61)::dE P "Deep" 270 (.ref 73)::dE P "NoShort" 286 (.ref 85)::dE P "BadWord" 302 (.ref 97)::dE P "Twice" 318 (.ref 109)::dE P "NoFoot" 334 (.ref 121)::dE P "NoMark" 350 (.ref 133)::dE P "MOST_WORDS_books" 352 (.int 400 351)::dE P "LONGEST_TEXT" 354 (.int 60 353)::dE P "LETTERS" 358 (sv "abcdefghijklmnopqrstuvwxyz" 357)::dE P "FIGURES" 360 (sv "0123456789" 359)::dE P "LONGEST_NAME" 362 (.int 12 361)::dE P "KINDS" 378 (.ref 136)::dE P "words_in" 384 (.ref 141)::dE P "is_name" 390 (.ref 146)::dE P "figures_of" 397 (.ref 153)::dE P "kind_of" 406 (.ref 160)::dE P "numbers_of" 414 (.ref 165)::dE P "MOST_DEEP" 418 (.int 20 417)::dE P "tree_of" 429 (.ref 173)::dE P "copied" 435 (.ref 178)::dE P "opens_call" 442 (.ref 185)::dE P "with_closed" 452 (.ref 192)::dE P "node_of" 461 (.ref 199)::dE P "looks_like_place" 468 (.ref 206)::dE P "MOST_WORDS_shorts" 472 (.int 400 471)::dE P "MOST_CALLS" 474 (.int 400 473)::dE P "MOST_CALLS_OF_SHORT" 476 (.int 60 475)::dE P "size_of" 486 (.ref 214)::dE P "new_short" 499 (.ref 221)::dE P "put_out" 509 (.ref 228)::dE P "by_name" 515 (.ref 233)::dE P "short_called" 525 (.ref 240)::dE P "size_among" 541 (.ref 247)::dE P "sum_of_rows" 547 (.ref 252)::dE P "words_out" 553 (.ref 257)::dE P "ALONE" 559 (.ref 258)::dE P "HEADS" 563 (.ref 259)::dE P "MOST_FOOT_WORDS" 565 (.int 39 564)::dE P "read_rows" 574 (.ref 266)::dE P "Reader" 662 (.ref 328)::dE P "is_figure" 669 (.ref 339)::dE P "LEAPS" 678 (.ref 340)::dE P "POINTING" 682 (.ref 341)::dE P "set_words" 688 (.ref 346)::dE P "Setter" 817 (.ref 432)::dE P "_law_cell_at" 827 (.ref 443)::dE P "_law_draw" 837 (.ref 450)::dE P "_law_alike" 846 (.ref 457)::dE P "_law_sign_by" 855 (.ref 464)::dE P "_law_is_name" 863 (.ref 471)::dE P "_law_form" 871 (.ref 478)::dE P "_law_name" 877 (.ref 483)::dE P "_law_plain_by" 883 (.ref 488)::dE P "_law_written" 891 (.ref 495)::dE P "_law_word" 905 (.ref 502)::dE P "_law_rows" 918 (.ref 509)::dE P "_law_named" 924 (.ref 514)::dE P "_law_text" 930 (.ref 519)::dE P "_law_titles" 936 (.ref 524)::dE P "_law_stream" 942 (.ref 529)::dE P "_law_heads" 954 (.ref 536)::dE P "_law_leads" 960 (.ref 541)::dE P "_law_spaced" 973 (.ref 548)::dE P "law" 979 (.ref 553)::[])) 77,#[]⟩) ::
 (nat_lit 15,⟨(.type "tuple"),none,(.seq #[.type "ValueError"]),#[]⟩) ::
 (nat_lit 22,⟨(.type "tuple"),none,(.seq #[]),#[]⟩) ::
 (nat_lit 23,⟨(.type "dict"),none,.dict (GT (dE P "__module__" 196 (sv "trueleaf.errors" 187)::dE P "__firstlineno__" 200 (.int 2 199)::dE P "__static_attributes__" 201 (.ref 22)::dE P "__weakref__" 203 (.ref 25)::dE P "__doc__" 204 (.none)::[])) 3,#[]⟩) ::
 (nat_lit 24,⟨(.type "type"),none,(.cls (PySem.ClassData.mk (os "TrueleafError") [.type "ValueError"] [.ref 24,.type "ValueError",.type "Exception",.type "BaseException",.type "object"] 23 (os "TrueleafError") true [] [.ref 37,.ref 49,.ref 61,.ref 73,.ref 85,.ref 97,.ref 109,.ref 121,.ref 133] false none false)),#[Gb (.ref 15),none,Gb (sv "TrueleafError" 189),Gb (sv "TrueleafError" 197),Gb (.builtin "ValueError.__new__"),Gb (.bool true)]⟩) ::
 (nat_lit 25,⟨(.type "getset_descriptor"),none,(.fields #[sv "__weakref__" 202,.ref 24,.builtin "ExceptionGroup.__weakref__",.none]),#[]⟩) ::
 (nat_lit 28,⟨(.type "tuple"),none,(.seq #[.ref 24]),#[]⟩) ::
 (nat_lit 35,⟨(.type "tuple"),none,(.seq #[]),#[]⟩) ::
 (nat_lit 36,⟨(.type "dict"),none,.dict (GT (dE P "__module__" 214 (sv "trueleaf.errors" 187)::dE P "__firstlineno__" 218 (.int 4 217)::dE P "__static_attributes__" 219 (.ref 35)::dE P "__doc__" 220 (.none)::[])) 2,#[]⟩) ::
 (nat_lit 37,⟨(.type "type"),none,(.cls (PySem.ClassData.mk (os "BadRow") [.ref 24] [.ref 37,.ref 24,.type "ValueError",.type "Exception",.type "BaseException",.type "object"] 36 (os "BadRow") true [] [] false none false)),#[Gb (.ref 28),none,Gb (sv "BadRow" 207),Gb (sv "BadRow" 215),Gb (.builtin "ValueError.__new__"),Gb (.bool true)]⟩) ::
 (nat_lit 40,⟨(.type "tuple"),none,(.seq #[.ref 24]),#[]⟩) ::
 (nat_lit 47,⟨(.type "tuple"),none,(.seq #[]),#[]⟩) ::
 (nat_lit 48,⟨(.type "dict"),none,.dict (GT (dE P "__module__" 230 (sv "trueleaf.errors" 187)::dE P "__firstlineno__" 234 (.int 6 233)::dE P "__static_attributes__" 235 (.ref 47)::dE P "__doc__" 236 (.none)::[])) 2,#[]⟩) ::
 (nat_lit 49,⟨(.type "type"),none,(.cls (PySem.ClassData.mk (os "TooLong") [.ref 24] [.ref 49,.ref 24,.type "ValueError",.type "Exception",.type "BaseException",.type "object"] 48 (os "TooLong") true [] [] false none false)),#[Gb (.ref 40),none,Gb (sv "TooLong" 223),Gb (sv "TooLong" 231),Gb (.builtin "ValueError.__new__"),Gb (.bool true)]⟩) ::
 (nat_lit 52,⟨(.type "tuple"),none,(.seq #[.ref 24]),#[]⟩) ::
 (nat_lit 59,⟨(.type "tuple"),none,(.seq #[]),#[]⟩) ::
 (nat_lit 60,⟨(.type "dict"),none,.dict (GT (dE P "__module__" 246 (sv "trueleaf.errors" 187)::dE P "__firstlineno__" 250 (.int 8 249)::dE P "__static_attributes__" 251 (.ref 59)::dE P "__doc__" 252 (.none)::[])) 2,#[]⟩) ::
 (nat_lit 61,⟨(.type "type"),none,(.cls (PySem.ClassData.mk (os "BadCall") [.ref 24] [.ref 61,.ref 24,.type "ValueError",.type "Exception",.type "BaseException",.type "object"] 60 (os "BadCall") true [] [] false none false)),#[Gb (.ref 52),none,Gb (sv "BadCall" 239),Gb (sv "BadCall" 247),Gb (.builtin "ValueError.__new__"),Gb (.bool true)]⟩) ::
 (nat_lit 64,⟨(.type "tuple"),none,(.seq #[.ref 24]),#[]⟩) ::
 (nat_lit 71,⟨(.type "tuple"),none,(.seq #[]),#[]⟩) ::
 (nat_lit 72,⟨(.type "dict"),none,.dict (GT (dE P "__module__" 262 (sv "trueleaf.errors" 187)::dE P "__firstlineno__" 266 (.int 10 265)::dE P "__static_attributes__" 267 (.ref 71)::dE P "__doc__" 268 (.none)::[])) 2,#[]⟩) ::
 (nat_lit 73,⟨(.type "type"),none,(.cls (PySem.ClassData.mk (os "Deep") [.ref 24] [.ref 73,.ref 24,.type "ValueError",.type "Exception",.type "BaseException",.type "object"] 72 (os "Deep") true [] [] false none false)),#[Gb (.ref 64),none,Gb (sv "Deep" 255),Gb (sv "Deep" 263),Gb (.builtin "ValueError.__new__"),Gb (.bool true)]⟩) ::
 (nat_lit 76,⟨(.type "tuple"),none,(.seq #[.ref 24]),#[]⟩) ::
 (nat_lit 83,⟨(.type "tuple"),none,(.seq #[]),#[]⟩) ::
 (nat_lit 84,⟨(.type "dict"),none,.dict (GT (dE P "__module__" 278 (sv "trueleaf.errors" 187)::dE P "__firstlineno__" 282 (.int 12 281)::dE P "__static_attributes__" 283 (.ref 83)::dE P "__doc__" 284 (.none)::[])) 2,#[]⟩) ::
 (nat_lit 85,⟨(.type "type"),none,(.cls (PySem.ClassData.mk (os "NoShort") [.ref 24] [.ref 85,.ref 24,.type "ValueError",.type "Exception",.type "BaseException",.type "object"] 84 (os "NoShort") true [] [] false none false)),#[Gb (.ref 76),none,Gb (sv "NoShort" 271),Gb (sv "NoShort" 279),Gb (.builtin "ValueError.__new__"),Gb (.bool true)]⟩) ::
 (nat_lit 88,⟨(.type "tuple"),none,(.seq #[.ref 24]),#[]⟩) ::
 (nat_lit 95,⟨(.type "tuple"),none,(.seq #[]),#[]⟩) ::
 (nat_lit 96,⟨(.type "dict"),none,.dict (GT (dE P "__module__" 294 (sv "trueleaf.errors" 187)::dE P "__firstlineno__" 298 (.int 14 297)::dE P "__static_attributes__" 299 (.ref 95)::dE P "__doc__" 300 (.none)::[])) 2,#[]⟩) ::
 (nat_lit 97,⟨(.type "type"),none,(.cls (PySem.ClassData.mk (os "BadWord") [.ref 24] [.ref 97,.ref 24,.type "ValueError",.type "Exception",.type "BaseException",.type "object"] 96 (os "BadWord") true [] [] false none false)),#[Gb (.ref 88),none,Gb (sv "BadWord" 287),Gb (sv "BadWord" 295),Gb (.builtin "ValueError.__new__"),Gb (.bool true)]⟩) ::
 (nat_lit 100,⟨(.type "tuple"),none,(.seq #[.ref 24]),#[]⟩) ::
 (nat_lit 107,⟨(.type "tuple"),none,(.seq #[]),#[]⟩) ::
 (nat_lit 108,⟨(.type "dict"),none,.dict (GT (dE P "__module__" 310 (sv "trueleaf.errors" 187)::dE P "__firstlineno__" 314 (.int 16 313)::dE P "__static_attributes__" 315 (.ref 107)::dE P "__doc__" 316 (.none)::[])) 2,#[]⟩) ::
 (nat_lit 109,⟨(.type "type"),none,(.cls (PySem.ClassData.mk (os "Twice") [.ref 24] [.ref 109,.ref 24,.type "ValueError",.type "Exception",.type "BaseException",.type "object"] 108 (os "Twice") true [] [] false none false)),#[Gb (.ref 100),none,Gb (sv "Twice" 303),Gb (sv "Twice" 311),Gb (.builtin "ValueError.__new__"),Gb (.bool true)]⟩) ::
 (nat_lit 112,⟨(.type "tuple"),none,(.seq #[.ref 24]),#[]⟩) ::
 (nat_lit 119,⟨(.type "tuple"),none,(.seq #[]),#[]⟩) ::
 (nat_lit 120,⟨(.type "dict"),none,.dict (GT (dE P "__module__" 326 (sv "trueleaf.errors" 187)::dE P "__firstlineno__" 330 (.int 18 329)::dE P "__static_attributes__" 331 (.ref 119)::dE P "__doc__" 332 (.none)::[])) 2,#[]⟩) ::
 (nat_lit 121,⟨(.type "type"),none,(.cls (PySem.ClassData.mk (os "NoFoot") [.ref 24] [.ref 121,.ref 24,.type "ValueError",.type "Exception",.type "BaseException",.type "object"] 120 (os "NoFoot") true [] [] false none false)),#[Gb (.ref 112),none,Gb (sv "NoFoot" 319),Gb (sv "NoFoot" 327),Gb (.builtin "ValueError.__new__"),Gb (.bool true)]⟩) ::
 (nat_lit 124,⟨(.type "tuple"),none,(.seq #[.ref 24]),#[]⟩) ::
 (nat_lit 131,⟨(.type "tuple"),none,(.seq #[]),#[]⟩) ::
 (nat_lit 132,⟨(.type "dict"),none,.dict (GT (dE P "__module__" 342 (sv "trueleaf.errors" 187)::dE P "__firstlineno__" 346 (.int 20 345)::dE P "__static_attributes__" 347 (.ref 131)::dE P "__doc__" 348 (.none)::[])) 2,#[]⟩) ::
 (nat_lit 133,⟨(.type "type"),none,(.cls (PySem.ClassData.mk (os "NoMark") [.ref 24] [.ref 133,.ref 24,.type "ValueError",.type "Exception",.type "BaseException",.type "object"] 132 (os "NoMark") true [] [] false none false)),#[Gb (.ref 124),none,Gb (sv "NoMark" 335),Gb (sv "NoMark" 343),Gb (.builtin "ValueError.__new__"),Gb (.bool true)]⟩) ::
 (nat_lit 136,⟨(.type "dict"),none,.dict (GT (dE P "#" 363 (sv "mark" 364)::dE P "@" 365 (sv "number" 366)::dE P "&" 367 (sv "page" 368)::dE P "^" 369 (sv "row" 370)::dE P "~" 371 (sv "foot" 372)::[])) 5,#[]⟩) ::
 (nat_lit 140,cV "words_in" "words_in" 379 380 381 29 1 3 137 181 138 .none .none .none (.ref 139) 382 29 383) ::
 (nat_lit 141,fO "words_in" 18 (.none) "trueleaf.signs" 355 140) ::
 (nat_lit 145,cV "is_name" "is_name" 385 386 387 31 1 3 142 181 143 .none .none .none (.ref 144) 388 31 389) ::
 (nat_lit 146,fO "is_name" 19 (.none) "trueleaf.signs" 355 145) ::
 (nat_lit 152,cV "figures_of" "figures_of" 391 392 393 35 1 3 147 181 148 .none (.ref 149) (.ref 150) (.ref 151) 395 35 396) ::
 (nat_lit 153,fO "figures_of" 20 (.none) "trueleaf.signs" 355 152) ::
 (nat_lit 159,cV "kind_of" "kind_of" 398 399 400 37 1 3 154 181 155 .none (.ref 156) (.ref 157) (.ref 158) 404 37 405) ::
 (nat_lit 160,fO "kind_of" 21 (.none) "trueleaf.signs" 355 159) ::
 (nat_lit 164,cV "numbers_of" "numbers_of" 409 410 411 46 1 3 161 181 162 .none .none .none (.ref 163) 412 46 413) ::
 (nat_lit 165,fO "numbers_of" 23 (.none) "trueleaf.heads" 407 164) ::
 (nat_lit 166,⟨(.type "tuple"),none,(.seq #[.none]),#[]⟩) ::
 (nat_lit 172,cV "tree_of" "tree_of" 419 420 421 55 2 3 167 181 168 .none (.ref 169) (.ref 170) (.ref 171) 427 55 428) ::
 (nat_lit 173,fO "tree_of" 26 (.ref 166) "trueleaf.trees" 415 172) ::
 (nat_lit 177,cV "copied" "copied" 430 431 432 74 1 3 174 181 175 .none .none .none (.ref 176) 433 74 434) ::
 (nat_lit 178,fO "copied" 27 (.none) "trueleaf.trees" 415 177) ::
 (nat_lit 184,cV "opens_call" "opens_call" 436 437 438 82 1 3 179 181 180 .none (.ref 181) (.ref 182) (.ref 183) 440 82 441) ::
 (nat_lit 185,fO "opens_call" 28 (.none) "trueleaf.trees" 415 184) ::
 (nat_lit 191,cV "with_closed" "with_closed" 443 444 445 84 2 3 186 181 187 .none (.ref 188) (.ref 189) (.ref 190) 450 84 451) ::
 (nat_lit 192,fO "with_closed" 29 (.none) "trueleaf.trees" 415 191) ::
 (nat_lit 198,cV "node_of" "node_of" 453 454 455 91 2 3 193 181 194 .none (.ref 195) (.ref 196) (.ref 197) 459 91 460) ::
 (nat_lit 199,fO "node_of" 30 (.none) "trueleaf.trees" 415 198) ::
 (nat_lit 205,cV "looks_like_place" "looks_like_place" 462 463 464 98 1 3 200 181 201 .none (.ref 202) (.ref 203) (.ref 204) 466 98 467) ::
 (nat_lit 206,fO "looks_like_place" 31 (.none) "trueleaf.trees" 415 205) ::
 (nat_lit 207,⟨(.type "tuple"),none,(.seq #[.int 0 477]),#[]⟩) ::
 (nat_lit 213,cV "size_of" "size_of" 478 479 480 104 3 3 208 181 209 .none (.ref 210) (.ref 211) (.ref 212) 484 104 485) ::
 (nat_lit 214,fO "size_of" 36 (.ref 207) "trueleaf.shorts" 469 213) ::
 (nat_lit 220,cV "new_short" "new_short" 487 488 489 106 4 3 215 181 216 .none (.ref 217) (.ref 218) (.ref 219) 497 106 498) ::
 (nat_lit 221,fO "new_short" 37 (.none) "trueleaf.shorts" 469 220) ::
 (nat_lit 227,cV "put_out" "put_out" 500 501 502 115 2 3 222 181 223 .none (.ref 224) (.ref 225) (.ref 226) 507 115 508) ::
 (nat_lit 228,fO "put_out" 38 (.none) "trueleaf.shorts" 469 227) ::
 (nat_lit 232,cV "by_name" "by_name" 510 511 512 121 1 3 229 181 230 .none .none .none (.ref 231) 513 121 514) ::
 (nat_lit 233,fO "by_name" 39 (.none) "trueleaf.shorts" 469 232) ::
 (nat_lit 239,cV "short_called" "short_called" 516 517 518 123 2 3 234 181 235 .none (.ref 236) (.ref 237) (.ref 238) 523 123 524) ::
 (nat_lit 240,fO "short_called" 40 (.none) "trueleaf.shorts" 469 239) ::
 (nat_lit 246,cV "size_among" "size_among" 526 527 528 131 3 3 241 181 242 .none (.ref 243) (.ref 244) (.ref 245) 539 131 540) ::
 (nat_lit 247,fO "size_among" 41 (.none) "trueleaf.shorts" 469 246) ::
 (nat_lit 251,cV "sum_of_rows" "sum_of_rows" 542 543 544 148 3 3 248 181 249 .none .none .none (.ref 250) 545 148 546) ::
 (nat_lit 252,fO "sum_of_rows" 42 (.none) "trueleaf.shorts" 469 251) ::
 (nat_lit 256,cV "words_out" "words_out" 548 549 550 150 3 3 253 181 254 .none .none .none (.ref 255) 551 150 552) ::
 (nat_lit 257,fO "words_out" 43 (.none) "trueleaf.shorts" 469 256) ::
 (nat_lit 258,⟨(.type "tuple"),none,(.seq #[sv ".page" 556,sv ".odd" 557,sv ".list" 558]),#[]⟩) ::
 (nat_lit 259,⟨(.type "tuple"),none,(.seq #[sv "=" 560,sv "==" 561,sv "===" 562]),#[]⟩) ::
 (nat_lit 265,cV "read_rows" "read_rows" 566 567 568 165 1 3 260 181 261 .none (.ref 262) (.ref 263) (.ref 264) 572 165 573) ::
 (nat_lit 266,fO "read_rows" 48 (.none) "trueleaf.reading" 554 265) ::
 (nat_lit 279,cV "__init__" "Reader.__init__" 587 588 589 172 1 3 274 181 275 .none (.ref 276) (.ref 277) (.ref 278) 591 172 592) ::
 (nat_lit 280,fM "__init__" "Reader.__init__" (bv 49 0) (.none) "trueleaf.reading" 554 279) ::
 (nat_lit 286,cV "read_row" "Reader.read_row" 594 595 596 178 2 3 281 181 282 .none (.ref 283) (.ref 284) (.ref 285) 600 178 601) ::
 (nat_lit 287,fM "read_row" "Reader.read_row" (bv 49 1) (.none) "trueleaf.reading" 554 286) ::
 (nat_lit 291,cV "read_let" "Reader.read_let" 603 604 605 196 2 3 288 181 289 .none .none .none (.ref 290) 606 196 607) ::
 (nat_lit 292,fM "read_let" "Reader.read_let" (bv 49 2) (.none) "trueleaf.reading" 554 291) ::
 (nat_lit 298,cV "read_foot" "Reader.read_foot" 609 610 611 205 2 3 293 181 294 .none (.ref 295) (.ref 296) (.ref 297) 616 205 617) ::
 (nat_lit 299,fM "read_foot" "Reader.read_foot" (bv 49 3) (.none) "trueleaf.reading" 554 298) ::
 (nat_lit 305,cV "read_alone" "Reader.read_alone" 619 620 621 216 2 3 300 181 301 .none (.ref 302) (.ref 303) (.ref 304) 625 216 626) ::
 (nat_lit 306,fM "read_alone" "Reader.read_alone" (bv 49 4) (.none) "trueleaf.reading" 554 305) ::
 (nat_lit 312,cV "read_words" "Reader.read_words" 628 629 630 222 2 3 307 181 308 .none (.ref 309) (.ref 310) (.ref 311) 634 222 635) ::
 (nat_lit 313,fM "read_words" "Reader.read_words" (bv 49 5) (.none) "trueleaf.reading" 554 312) ::
 (nat_lit 319,cV "add_thing" "Reader.add_thing" 637 638 639 230 2 3 314 181 315 .none (.ref 316) (.ref 317) (.ref 318) 642 230 643) ::
 (nat_lit 320,fM "add_thing" "Reader.add_thing" (bv 49 6) (.none) "trueleaf.reading" 554 319) ::
 (nat_lit 324,cV "words_out" "Reader.words_out" 645 646 647 234 3 3 321 181 322 .none .none .none (.ref 323) 648 234 649) ::
 (nat_lit 325,fM "words_out" "Reader.words_out" (bv 49 7) (.none) "trueleaf.reading" 554 324) ::
 (nat_lit 326,⟨(.type "tuple"),none,(.seq #[sv "feet" 651,sv "going_on" 652,sv "shorts" 653,sv "things" 654]),#[]⟩) ::
 (nat_lit 327,⟨(.type "dict"),none,.dict (GT (dE P "__module__" 582 (sv "trueleaf.reading" 554)::dE P "__firstlineno__" 586 (.int 170 585)::dE P "__init__" 593 (.ref 280)::dE P "read_row" 602 (.ref 287)::dE P "read_let" 608 (.ref 292)::dE P "read_foot" 618 (.ref 299)::dE P "read_alone" 627 (.ref 306)::dE P "read_words" 636 (.ref 313)::dE P "add_thing" 644 (.ref 320)::dE P "words_out" 650 (.ref 325)::dE P "__static_attributes__" 655 (.ref 326)::dE P "__dict__" 657 (.ref 329)::dE P "__weakref__" 659 (.ref 330)::dE P "__doc__" 660 (.none)::[])) 4,#[]⟩) ::
 (nat_lit 328,⟨(.type "type"),none,(.cls (PySem.ClassData.mk (os "Reader") [.type "object"] [.ref 328,.type "object"] 327 (os "Reader") true [] [] false none false)),#[none,none,Gb (sv "Reader" 575),Gb (sv "Reader" 583),Gb (.builtin "object.__new__"),Gb (.bool true)]⟩) ::
 (nat_lit 329,⟨(.type "getset_descriptor"),none,(.fields #[sv "__dict__" 656,.ref 328,.builtin "function.__dict__",.builtin "function.__dict__#set"]),#[]⟩) ::
 (nat_lit 330,⟨(.type "getset_descriptor"),none,(.fields #[sv "__weakref__" 658,.ref 328,.builtin "ExceptionGroup.__weakref__",.none]),#[]⟩) ::
 (nat_lit 338,cV "is_figure" "is_figure" 663 664 665 242 1 3 333 181 334 .none (.ref 335) (.ref 336) (.ref 337) 667 242 668) ::
 (nat_lit 339,fO "is_figure" 50 (.none) "trueleaf.reading" 554 338) ::
 (nat_lit 340,⟨(.type "dict"),none,.dict (GT (dE P "page" 672 (.int 3 673)::dE P "odd" 674 (.int 4 675)::[])) 2,#[]⟩) ::
 (nat_lit 341,⟨(.type "tuple"),none,(.seq #[sv "number" 679,sv "page" 680,sv "row" 681]),#[]⟩) ::
 (nat_lit 345,cV "set_words" "set_words" 683 684 685 247 2 3 342 181 343 .none .none .none (.ref 344) 686 247 687) ::
 (nat_lit 346,fO "set_words" 54 (.none) "trueleaf.setting" 670 345) ::
 (nat_lit 357,cV "__init__" "Setter.__init__" 701 702 703 257 3 3 354 181 355 .none .none .none (.ref 356) 704 257 705) ::
 (nat_lit 358,fM "__init__" "Setter.__init__" (bv 55 0) (.none) "trueleaf.setting" 670 357) ::
 (nat_lit 364,cV "set_thing" "Setter.set_thing" 707 708 709 268 2 3 359 181 360 .none (.ref 361) (.ref 362) (.ref 363) 713 268 714) ::
 (nat_lit 365,fM "set_thing" "Setter.set_thing" (bv 55 1) (.none) "trueleaf.setting" 670 364) ::
 (nat_lit 371,cV "set_head" "Setter.set_head" 716 717 718 281 2 3 366 181 367 .none (.ref 368) (.ref 369) (.ref 370) 722 281 723) ::
 (nat_lit 372,fM "set_head" "Setter.set_head" (bv 55 2) (.none) "trueleaf.setting" 670 371) ::
 (nat_lit 376,cV "set_list" "Setter.set_list" 725 726 727 286 1 3 373 181 374 .none .none .none (.ref 375) 728 286 729) ::
 (nat_lit 377,fM "set_list" "Setter.set_list" (bv 55 3) (.none) "trueleaf.setting" 670 376) ::
 (nat_lit 383,cV "set_run" "Setter.set_run" 731 732 733 293 4 3 378 181 379 .none (.ref 380) (.ref 381) (.ref 382) 739 293 740) ::
 (nat_lit 384,fM "set_run" "Setter.set_run" (bv 55 4) (.none) "trueleaf.setting" 670 383) ::
 (nat_lit 390,cV "set_mark" "Setter.set_mark" 742 743 744 302 2 3 385 181 386 .none (.ref 387) (.ref 388) (.ref 389) 747 302 748) ::
 (nat_lit 391,fM "set_mark" "Setter.set_mark" (bv 55 5) (.none) "trueleaf.setting" 670 390) ::
 (nat_lit 397,cV "set_word" "Setter.set_word" 750 751 752 307 3 3 392 181 393 .none (.ref 394) (.ref 395) (.ref 396) 757 307 758) ::
 (nat_lit 398,fM "set_word" "Setter.set_word" (bv 55 6) (.none) "trueleaf.setting" 670 397) ::
 (nat_lit 404,cV "next_foot" "Setter.next_foot" 760 761 762 319 2 3 399 181 400 .none (.ref 401) (.ref 402) (.ref 403) 765 319 766) ::
 (nat_lit 405,fM "next_foot" "Setter.next_foot" (bv 55 7) (.none) "trueleaf.setting" 670 404) ::
 (nat_lit 409,cV "check_marks" "Setter.check_marks" 768 769 770 325 1 3 406 181 407 .none .none .none (.ref 408) 771 325 772) ::
 (nat_lit 410,fM "check_marks" "Setter.check_marks" (bv 55 8) (.none) "trueleaf.setting" 670 409) ::
 (nat_lit 414,cV "words_told" "Setter.words_told" 774 775 776 336 1 3 411 181 412 .none .none .none (.ref 413) 777 336 778) ::
 (nat_lit 415,fM "words_told" "Setter.words_told" (bv 55 9) (.none) "trueleaf.setting" 670 414) ::
 (nat_lit 421,cV "saying_of" "Setter.saying_of" 780 781 782 342 2 3 416 181 417 .none (.ref 418) (.ref 419) (.ref 420) 787 342 788) ::
 (nat_lit 422,fM "saying_of" "Setter.saying_of" (bv 55 10) (.none) "trueleaf.setting" 670 421) ::
 (nat_lit 428,cV "number_at" "Setter.number_at" 790 791 792 353 2 3 423 181 424 .none (.ref 425) (.ref 426) (.ref 427) 798 353 799) ::
 (nat_lit 429,fM "number_at" "Setter.number_at" (bv 55 11) (.none) "trueleaf.setting" 670 428) ::
 (nat_lit 430,⟨(.type "tuple"),none,(.seq #[sv "behind_head" 801,sv "feet" 802,sv "feet_set" 803,sv "heads" 804,sv "leap" 805,sv "marks" 806,sv "numbers" 807,sv "titles" 808,sv "words" 809]),#[]⟩) ::
 (nat_lit 431,⟨(.type "dict"),none,.dict (GT (dE P "__module__" 696 (sv "trueleaf.setting" 670)::dE P "__firstlineno__" 700 (.int 255 699)::dE P "__init__" 706 (.ref 358)::dE P "set_thing" 715 (.ref 365)::dE P "set_head" 724 (.ref 372)::dE P "set_list" 730 (.ref 377)::dE P "set_run" 741 (.ref 384)::dE P "set_mark" 749 (.ref 391)::dE P "set_word" 759 (.ref 398)::dE P "next_foot" 767 (.ref 405)::dE P "check_marks" 773 (.ref 410)::dE P "words_told" 779 (.ref 415)::dE P "saying_of" 789 (.ref 422)::dE P "number_at" 800 (.ref 429)::dE P "__static_attributes__" 810 (.ref 430)::dE P "__dict__" 812 (.ref 433)::dE P "__weakref__" 814 (.ref 434)::dE P "__doc__" 815 (.none)::[])) 4,#[]⟩) ::
 (nat_lit 432,⟨(.type "type"),none,(.cls (PySem.ClassData.mk (os "Setter") [.type "object"] [.ref 432,.type "object"] 431 (os "Setter") true [] [] false none false)),#[none,none,Gb (sv "Setter" 689),Gb (sv "Setter" 697),Gb (.builtin "object.__new__"),Gb (.bool true)]⟩) ::
 (nat_lit 433,⟨(.type "getset_descriptor"),none,(.fields #[sv "__dict__" 811,.ref 432,.builtin "function.__dict__",.builtin "function.__dict__#set"]),#[]⟩) ::
 (nat_lit 434,⟨(.type "getset_descriptor"),none,(.fields #[sv "__weakref__" 813,.ref 432,.builtin "ExceptionGroup.__weakref__",.none]),#[]⟩) ::
 (nat_lit 442,cV "_law_cell_at" "_law_cell_at" 820 821 822 360 2 3 437 181 438 .none (.ref 439) (.ref 440) (.ref 441) 825 360 826) ::
 (nat_lit 443,fO "_law_cell_at" 57 (.none) "law_trueleaf_k59_leads_and_keeps" 818 442) ::
 (nat_lit 449,cV "_law_draw" "_law_draw" 828 829 830 364 3 3 444 181 445 .none (.ref 446) (.ref 447) (.ref 448) 835 364 836) ::
 (nat_lit 450,fO "_law_draw" 58 (.none) "law_trueleaf_k59_leads_and_keeps" 818 449) ::
 (nat_lit 456,cV "_law_alike" "_law_alike" 838 839 840 367 2 3 451 181 452 .none (.ref 453) (.ref 454) (.ref 455) 844 367 845) ::
 (nat_lit 457,fO "_law_alike" 59 (.none) "law_trueleaf_k59_leads_and_keeps" 818 456) ::
 (nat_lit 463,cV "_law_sign_by" "_law_sign_by" 847 848 849 385 2 3 458 181 459 .none (.ref 460) (.ref 461) (.ref 462) 853 385 854) ::
 (nat_lit 464,fO "_law_sign_by" 60 (.none) "law_trueleaf_k59_leads_and_keeps" 818 463) ::
 (nat_lit 470,cV "_law_is_name" "_law_is_name" 856 857 858 388 1 3 465 181 466 .none (.ref 467) (.ref 468) (.ref 469) 861 388 862) ::
 (nat_lit 471,fO "_law_is_name" 61 (.none) "law_trueleaf_k59_leads_and_keeps" 818 470) ::
 (nat_lit 477,cV "_law_form" "_law_form" 864 865 866 395 1 3 472 181 473 .none (.ref 474) (.ref 475) (.ref 476) 869 395 870) ::
 (nat_lit 478,fO "_law_form" 62 (.none) "law_trueleaf_k59_leads_and_keeps" 818 477) ::
 (nat_lit 482,cV "_law_name" "_law_name" 872 873 874 398 2 3 479 181 480 .none .none .none (.ref 481) 875 398 876) ::
 (nat_lit 483,fO "_law_name" 63 (.none) "law_trueleaf_k59_leads_and_keeps" 818 482) ::
 (nat_lit 487,cV "_law_plain_by" "_law_plain_by" 878 879 880 404 1 3 484 181 485 .none .none .none (.ref 486) 881 404 882) ::
 (nat_lit 488,fO "_law_plain_by" 64 (.none) "law_trueleaf_k59_leads_and_keeps" 818 487) ::
 (nat_lit 494,cV "_law_written" "_law_written" 884 885 886 412 2 3 489 181 490 .none (.ref 491) (.ref 492) (.ref 493) 889 412 890) ::
 (nat_lit 495,fO "_law_written" 65 (.none) "law_trueleaf_k59_leads_and_keeps" 818 494) ::
 (nat_lit 501,cV "_law_word" "_law_word" 892 893 894 418 6 3 496 181 497 .none (.ref 498) (.ref 499) (.ref 500) 903 418 904) ::
 (nat_lit 502,fO "_law_word" 66 (.none) "law_trueleaf_k59_leads_and_keeps" 818 501) ::
 (nat_lit 508,cV "_law_rows" "_law_rows" 906 907 908 430 3 3 503 181 504 .none (.ref 505) (.ref 506) (.ref 507) 916 430 917) ::
 (nat_lit 509,fO "_law_rows" 67 (.none) "law_trueleaf_k59_leads_and_keeps" 818 508) ::
 (nat_lit 513,cV "_law_named" "_law_named" 919 920 921 446 2 3 510 181 511 .none .none .none (.ref 512) 922 446 923) ::
 (nat_lit 514,fO "_law_named" 68 (.none) "law_trueleaf_k59_leads_and_keeps" 818 513) ::
 (nat_lit 518,cV "_law_text" "_law_text" 925 926 927 465 3 3 515 181 516 .none .none .none (.ref 517) 928 465 929) ::
 (nat_lit 519,fO "_law_text" 69 (.none) "law_trueleaf_k59_leads_and_keeps" 818 518) ::
 (nat_lit 523,cV "_law_titles" "_law_titles" 931 932 933 472 1 3 520 181 521 .none .none .none (.ref 522) 934 472 935) ::
 (nat_lit 524,fO "_law_titles" 70 (.none) "law_trueleaf_k59_leads_and_keeps" 818 523) ::
 (nat_lit 540,cV "_law_leads" "_law_leads" 955 956 957 508 2 3 537 181 538 .none .none .none (.ref 539) 958 508 959) ::
 (nat_lit 541,fO "_law_leads" 73 (.none) "law_trueleaf_k59_leads_and_keeps" 818 540) ::
 (nat_lit 547,cV "_law_spaced" "_law_spaced" 961 962 963 545 2 3 542 181 543 .none (.ref 544) (.ref 545) (.ref 546) 971 545 972) ::
 (nat_lit 548,fO "_law_spaced" 74 (.none) "law_trueleaf_k59_leads_and_keeps" 818 547) ::
 (nat_lit 552,cV "law" "law" 974 975 976 554 1 3 549 181 550 .none .none .none (.ref 551) 977 554 978) ::
 (nat_lit 553,fO "law" 75 (.none) "law_trueleaf_k59_leads_and_keeps" 818 552)::[]
noncomputable def vw:GH:={ PySem.Challenge.pw_trueleaf_k59_leads_and_keeps with main:={ PySem.Challenge.pw_trueleaf_k59_leads_and_keeps.main with body:=top 1::top 2::top 3::top 4::top 5::top 6::top 7::top 8::top 9::top 10::top 11::top 12::top 14::top 15::top 16::top 17::top 18::top 19::top 20::top 21::top 23::top 25::top 27::top 28::top 29::top 30::top 31::top 33::top 34::top 35::top 37::top 38::top 39::top 40::top 41::top 42::top 43::top 45::top 46::top 47::top 48::top 49::top 50::top 52::top 53::top 54::top 55::top 57::top 58::top 59::top 60::top 61::top 62::top 63::top 64::top 65::top 66::top 67::top 68::top 69::top 70::top 71::top 72::top 73::top 74::top 75::[] } }
noncomputable abbrev ls:List Str:=[os "KINDS",os "tree_of",os "size_of",os "LEAPS"]
noncomputable abbrev hk:Hook:=kHook kk (nat_lit 2::nat_lit 3::nat_lit 15::nat_lit 22::nat_lit 23::nat_lit 24::nat_lit 25::nat_lit 28::nat_lit 35::nat_lit 36::nat_lit 37::nat_lit 40::nat_lit 47::nat_lit 48::nat_lit 49::nat_lit 52::nat_lit 59::nat_lit 60::nat_lit 61::nat_lit 64::nat_lit 71::nat_lit 72::nat_lit 73::nat_lit 76::nat_lit 83::nat_lit 84::nat_lit 85::nat_lit 88::nat_lit 95::nat_lit 96::nat_lit 97::nat_lit 100::nat_lit 107::nat_lit 108::nat_lit 109::nat_lit 112::nat_lit 119::nat_lit 120::nat_lit 121::nat_lit 124::nat_lit 131::nat_lit 132::nat_lit 133::nat_lit 136::nat_lit 140::nat_lit 141::nat_lit 145::nat_lit 146::nat_lit 152::nat_lit 153::nat_lit 159::nat_lit 160::nat_lit 164::nat_lit 165::nat_lit 166::nat_lit 172::nat_lit 173::nat_lit 177::nat_lit 178::nat_lit 184::nat_lit 185::nat_lit 191::nat_lit 192::nat_lit 198::nat_lit 199::nat_lit 205::nat_lit 206::nat_lit 207::nat_lit 213::nat_lit 214::nat_lit 220::nat_lit 221::nat_lit 227::nat_lit 228::nat_lit 232::nat_lit 233::nat_lit 239::nat_lit 240::nat_lit 246::nat_lit 247::nat_lit 251::nat_lit 252::nat_lit 256::nat_lit 257::nat_lit 258::nat_lit 259::nat_lit 265::nat_lit 266::nat_lit 279::nat_lit 280::nat_lit 286::nat_lit 287::nat_lit 291::nat_lit 292::nat_lit 298::nat_lit 299::nat_lit 305::nat_lit 306::nat_lit 312::nat_lit 313::nat_lit 319::nat_lit 320::nat_lit 324::nat_lit 325::nat_lit 326::nat_lit 327::nat_lit 328::nat_lit 329::nat_lit 330::nat_lit 338::nat_lit 339::nat_lit 340::nat_lit 341::nat_lit 345::nat_lit 346::nat_lit 357::nat_lit 358::nat_lit 364::nat_lit 365::nat_lit 371::nat_lit 372::nat_lit 376::nat_lit 377::nat_lit 383::nat_lit 384::nat_lit 390::nat_lit 391::nat_lit 397::nat_lit 398::nat_lit 404::nat_lit 405::nat_lit 409::nat_lit 410::nat_lit 414::nat_lit 415::nat_lit 421::nat_lit 422::nat_lit 428::nat_lit 429::nat_lit 430::nat_lit 431::nat_lit 432::nat_lit 433::nat_lit 434::nat_lit 442::nat_lit 443::nat_lit 449::nat_lit 450::nat_lit 456::nat_lit 457::nat_lit 463::nat_lit 464::nat_lit 470::nat_lit 471::nat_lit 477::nat_lit 478::nat_lit 482::nat_lit 483::nat_lit 487::nat_lit 488::nat_lit 494::nat_lit 495::nat_lit 501::nat_lit 502::nat_lit 508::nat_lit 509::nat_lit 513::nat_lit 514::nat_lit 518::nat_lit 519::nat_lit 523::nat_lit 524::nat_lit 540::nat_lit 541::nat_lit 547::nat_lit 548::nat_lit 552::nat_lit 553::[]) (λ_=>by kernel_rfl)
noncomputable abbrev rr:RowW:=OpenRow.toRowW (OpenLaw.row PySem.Challenge.rw_trueleaf_k59_leads_and_keeps)
noncomputable abbrev xt:Gg->Bool:=λs=>xlAt vw [] s&&recOk (RowW.records rr) s
noncomputable def DJ:List (Addr×Obj)->Nat->Obj
 |[],_=>⟨.none,none,.fields #[],#[]⟩
 |x::_,0=>x.2
 |_::t,n+1=>DJ t n
noncomputable abbrev ao(P:GV)(i:Nat):Obj:=DJ (kk P) i
noncomputable def EM(P:GV)(t:List Hd):List Hd:=dE P "__name__" 165 (sv "trueleaf.errors" 187)::dE P "__doc__" 166 (.none)::dE P "__package__" 167 (.none)::dE P "__loader__" 168 (.builtin "__main__.__loader__#opaque")::dE P "__spec__" 169 (.none)::dE P "__annotations__" 170 (.ref 6)::dE P "__builtins__" 171 (.ref 4)::dE P "__file__" 173 (sv "/claim/cut.py" 172)::t
noncomputable def EN(P:GV)(t:List Hd):List Hd:=dE P "__cached__" 174 (.none)::dE P "TrueleafError" 206 (.ref 24)::dE P "BadRow" 222 (.ref 37)::dE P "TooLong" 238 (.ref 49)::dE P "BadCall" 254 (.ref 61)::dE P "Deep" 270 (.ref 73)::dE P "NoShort" 286 (.ref 85)::t
noncomputable def DK(P:GV):Obj:=⟨(.type "dict"),none,.dict (GT (EM P (EN P []))) 15,#[]⟩
noncomputable def EO(P:GV)(t:List Hd):List Hd:=dE P "__name__" 165 (sv "trueleaf.trees" 415)::dE P "__doc__" 166 (.none)::dE P "__package__" 167 (.none)::dE P "__loader__" 168 (.builtin "__main__.__loader__#opaque")::dE P "__spec__" 169 (.none)::dE P "__annotations__" 170 (.ref 6)::dE P "__builtins__" 171 (.ref 4)::dE P "__file__" 173 (sv "/claim/cut.py" 172)::t
noncomputable def Cq(P:GV)(t:List Hd):List Hd:=dE P "__cached__" 174 (.none)::dE P "TrueleafError" 206 (.ref 24)::dE P "BadRow" 222 (.ref 37)::dE P "TooLong" 238 (.ref 49)::dE P "BadCall" 254 (.ref 61)::dE P "Deep" 270 (.ref 73)::dE P "NoShort" 286 (.ref 85)::dE P "BadWord" 302 (.ref 97)::t
noncomputable def Cr(P:GV)(t:List Hd):List Hd:=dE P "Twice" 318 (.ref 109)::dE P "NoFoot" 334 (.ref 121)::dE P "NoMark" 350 (.ref 133)::dE P "MOST_WORDS_books" 352 (.int 400 351)::dE P "LONGEST_TEXT" 354 (.int 60 353)::dE P "LETTERS" 358 (sv "abcdefghijklmnopqrstuvwxyz" 357)::dE P "FIGURES" 360 (sv "0123456789" 359)::dE P "LONGEST_NAME" 362 (.int 12 361)::t
noncomputable def Cs(P:GV)(t:List Hd):List Hd:=dE P "KINDS" 378 (.ref 136)::dE P "words_in" 384 (.ref 141)::dE P "is_name" 390 (.ref 146)::dE P "figures_of" 397 (.ref 153)::dE P "kind_of" 406 (.ref 160)::dE P "numbers_of" 414 (.ref 165)::dE P "MOST_DEEP" 418 (.int 20 417)::dE P "tree_of" 429 (.ref 173)::t
noncomputable def DL(P:GV):Obj:=⟨(.type "dict"),none,.dict (GT (EO P (Cq P (Cr P (Cs P []))))) 32,#[]⟩
noncomputable def EQ(P:GV)(t:List Hd):List Hd:=dE P "__name__" 165 (sv "trueleaf.setting" 670)::dE P "__doc__" 166 (.none)::dE P "__package__" 167 (.none)::dE P "__loader__" 168 (.builtin "__main__.__loader__#opaque")::dE P "__spec__" 169 (.none)::dE P "__annotations__" 170 (.ref 6)::dE P "__builtins__" 171 (.ref 4)::dE P "__file__" 173 (sv "/claim/cut.py" 172)::t
noncomputable def ER(P:GV)(t:List Hd):List Hd:=dE P "copied" 435 (.ref 178)::dE P "opens_call" 442 (.ref 185)::dE P "with_closed" 452 (.ref 192)::dE P "node_of" 461 (.ref 199)::dE P "looks_like_place" 468 (.ref 206)::dE P "MOST_WORDS_shorts" 472 (.int 400 471)::dE P "MOST_CALLS" 474 (.int 400 473)::dE P "MOST_CALLS_OF_SHORT" 476 (.int 60 475)::t
noncomputable def ES(P:GV)(t:List Hd):List Hd:=dE P "size_of" 486 (.ref 214)::dE P "new_short" 499 (.ref 221)::dE P "put_out" 509 (.ref 228)::dE P "by_name" 515 (.ref 233)::dE P "short_called" 525 (.ref 240)::dE P "size_among" 541 (.ref 247)::dE P "sum_of_rows" 547 (.ref 252)::dE P "words_out" 553 (.ref 257)::t
noncomputable def ET(P:GV)(t:List Hd):List Hd:=dE P "ALONE" 559 (.ref 258)::dE P "HEADS" 563 (.ref 259)::dE P "MOST_FOOT_WORDS" 565 (.int 39 564)::dE P "read_rows" 574 (.ref 266)::dE P "Reader" 662 (.ref 328)::dE P "is_figure" 669 (.ref 339)::dE P "LEAPS" 678 (.ref 340)::dE P "POINTING" 682 (.ref 341)::t
noncomputable def DM(P:GV)(t:List Hd):List Hd:=dE P "set_words" 688 (.ref 346)::dE P "Setter" 817 (.ref 432)::t
noncomputable def DN(P:GV):Obj:=⟨(.type "dict"),none,.dict (GT (EQ P (Cq P (Cr P (Cs P (ER P (ES P (ET P (DM P []))))))))) 58,#[]⟩
noncomputable def yu(P:GV):Obj:=⟨(.none),none,(.fields #[]),#[]⟩
noncomputable def CM(P:GV):Obj:=⟨(.none),none,(.fields #[.int 2 0,.int 0 0,.ref 20,.int 4 0,.int 0 0,.ref 33,.int 6 0,.int 0 0,.ref 45,.int 8 0,.int 0 0,.ref 57,.int 10 0,.int 0 0,.ref 69,.int 12 0,.int 0 0,.ref 81]),#[]⟩
noncomputable def CN(P:GV):Obj:=⟨(.none),none,(.fields #[.int 2 0,.int 0 0,.ref 20,.int 4 0,.int 0 0,.ref 33,.int 6 0,.int 0 0,.ref 45,.int 8 0,.int 0 0,.ref 57,.int 10 0,.int 0 0,.ref 69,.int 12 0,.int 0 0,.ref 81,.int 14 0,.int 0 0,.ref 93,.int 16 0,.int 0 0,.ref 105,.int 18 0,.int 0 0,.ref 117,.int 20 0,.int 0 0,.ref 129,.int 29 0,.int 0 0,.ref 140,.int 31 0,.int 0 0,.ref 145,.int 35 0,.int 0 0,.ref 152,.int 37 0,.int 0 0,.ref 159,.int 46 0,.int 0 0,.ref 164,.int 55 0,.int 0 0,.ref 172]),#[]⟩
noncomputable def CO(P:GV):Obj:=⟨(.none),none,(.fields #[.int 2 0,.int 0 0,.ref 20,.int 4 0,.int 0 0,.ref 33,.int 6 0,.int 0 0,.ref 45,.int 8 0,.int 0 0,.ref 57,.int 10 0,.int 0 0,.ref 69,.int 12 0,.int 0 0,.ref 81,.int 14 0,.int 0 0,.ref 93,.int 16 0,.int 0 0,.ref 105,.int 18 0,.int 0 0,.ref 117,.int 20 0,.int 0 0,.ref 129,.int 29 0,.int 0 0,.ref 140,.int 31 0,.int 0 0,.ref 145,.int 35 0,.int 0 0,.ref 152,.int 37 0,.int 0 0,.ref 159,.int 46 0,.int 0 0,.ref 164,.int 55 0,.int 0 0,.ref 172,.int 74 0,.int 0 0,.ref 177,.int 82 0,.int 0 0,.ref 184,.int 84 0,.int 0 0,.ref 191,.int 91 0,.int 0 0,.ref 198,.int 98 0,.int 0 0,.ref 205,.int 104 0,.int 0 0,.ref 213,.int 106 0,.int 0 0,.ref 220,.int 115 0,.int 0 0,.ref 227,.int 121 0,.int 0 0,.ref 232,.int 123 0,.int 0 0,.ref 239,.int 131 0,.int 0 0,.ref 246,.int 148 0,.int 0 0,.ref 251,.int 150 0,.int 0 0,.ref 256,.int 165 0,.int 0 0,.ref 265,.int 170 0,.int 0 0,.ref 272,.int 242 0,.int 0 0,.ref 338,.int 247 0,.int 0 0,.ref 345,.int 255 0,.int 0 0,.ref 352]),#[]⟩
noncomputable def yv(P:GV):Obj:=⟨(.none),none,(.fields #[.int 2 0,.int 0 0,.ref 20,.int 4 0,.int 0 0,.ref 33,.int 6 0,.int 0 0,.ref 45,.int 8 0,.int 0 0,.ref 57,.int 10 0,.int 0 0,.ref 69,.int 12 0,.int 0 0,.ref 81,.int 14 0,.int 0 0,.ref 93,.int 16 0,.int 0 0,.ref 105,.int 18 0,.int 0 0,.ref 117,.int 20 0,.int 0 0,.ref 129,.int 29 0,.int 0 0,.ref 140,.int 31 0,.int 0 0,.ref 145,.int 35 0,.int 0 0,.ref 152,.int 37 0,.int 0 0,.ref 159,.int 46 0,.int 0 0,.ref 164,.int 55 0,.int 0 0,.ref 172,.int 74 0,.int 0 0,.ref 177,.int 82 0,.int 0 0,.ref 184,.int 84 0,.int 0 0,.ref 191,.int 91 0,.int 0 0,.ref 198,.int 98 0,.int 0 0,.ref 205,.int 104 0,.int 0 0,.ref 213,.int 106 0,.int 0 0,.ref 220,.int 115 0,.int 0 0,.ref 227,.int 121 0,.int 0 0,.ref 232,.int 123 0,.int 0 0,.ref 239,.int 131 0,.int 0 0,.ref 246,.int 148 0,.int 0 0,.ref 251,.int 150 0,.int 0 0,.ref 256,.int 165 0,.int 0 0,.ref 265,.int 170 0,.int 0 0,.ref 272,.int 242 0,.int 0 0,.ref 338,.int 247 0,.int 0 0,.ref 345,.int 255 0,.int 0 0,.ref 352,.int 360 0,.int 0 0,.ref 442,.int 364 0,.int 0 0,.ref 449,.int 367 0,.int 0 0,.ref 456,.int 385 0,.int 0 0,.ref 463,.int 388 0,.int 0 0,.ref 470,.int 395 0,.int 0 0,.ref 477,.int 398 0,.int 0 0,.ref 482,.int 404 0,.int 0 0,.ref 487,.int 412 0,.int 0 0,.ref 494,.int 418 0,.int 0 0,.ref 501,.int 430 0,.int 0 0,.ref 508,.int 446 0,.int 0 0,.ref 513,.int 465 0,.int 0 0,.ref 518,.int 472 0,.int 0 0,.ref 523,.int 483 0,.int 0 0,.ref 528,.int 499 0,.int 0 0,.ref 535,.int 508 0,.int 0 0,.ref 540,.int 545 0,.int 0 0,.ref 547,.int 554 0,.int 0 0,.ref 552]),#[]⟩
noncomputable def CP(P:GV):Obj:=⟨(.type "type"),none,(.cls (PySem.ClassData.mk (os "TrueleafError") [.type "ValueError"] [.ref 24,.type "ValueError",.type "Exception",.type "BaseException",.type "object"] 23 (os "TrueleafError") true [] [.ref 37,.ref 49,.ref 61,.ref 73,.ref 85] false none false)),#[Gb (.ref 15),none,Gb (sv "TrueleafError" 189),Gb (sv "TrueleafError" 197),Gb (.builtin "ValueError.__new__"),Gb (.bool true)]⟩
noncomputable abbrev aB:Obj:=⟨(.type "tuple"),none,(.seq #[]),#[]⟩
noncomputable abbrev i9:Obj:=⟨(.type "builtin_function_or_method"),none,(.fields #[.builtin "type.__prepare__",.type "type"]),#[]⟩
noncomputable abbrev aO:Obj:=⟨(.none),none,(.fields #[]),#[]⟩
noncomputable def oA(P:GV)(x3:Obj)(x12:Obj)(t:List Obj):List Obj:=boot_o_0 P::boot_o_1 P::boot_o_2 P::x3::boot_o_4 P::boot_o_5 P::boot_o_6 P::boot_o_7 P::boot_o_8 P::boot_o_9 P::boot_o_10 P::aB::x12::⟨(.type "code"),none,(.fields #[sv "<module>" 182,sv "<module>" 183,sv "/claim/cut.py" 184,.int 1 0,.int 0 0,.int 0 0,.int 0 0,.int 0 0,.ref 11,.bool false,.int 181 0,.ref 12,.none,.none,.none,.none,.int 185 0,.int 1 0,sv "/claim/cut.py" 186]),#[]⟩::⟨(.type "frame"),none,(.plain),#[Gb (.ref 13),Gb (.ref 3),Gb (.ref 3),none,Gb (sv "__main__" 164),none,Gb (.ref 0)]⟩::t
noncomputable def tS(P:GV)(x24:Obj)(t:List Obj):List Obj:=ao P 2::i9::⟨(.type "dict"),none,.dict (GT (dE P "__module__" 196 (sv "trueleaf.errors" 187)::dE P "__qualname__" 198 (sv "TrueleafError" 197)::dE P "__firstlineno__" 200 (.int 2 199)::dE P "__static_attributes__" 201 (.ref 22)::[])) 4,#[]⟩::aB::aO::⟨(.type "code"),none,(.fields #[sv "TrueleafError" 191,sv "TrueleafError" 192,sv "/claim/cut.py" 193,.int 2 0,.int 0 0,.int 0 0,.int 0 0,.int 0 0,.ref 18,.bool false,.int 181 0,.ref 19,.none,.none,.none,.none,.int 194 0,.int 2 0,sv "/claim/cut.py" 195]),#[]⟩::⟨(.type "frame"),none,(.plain),#[Gb (.ref 20),Gb (.ref 3),Gb (.ref 17),none,Gb (sv "trueleaf.errors" 187),none,Gb (.ref 0)]⟩::ao P 3::ao P 4::x24::ao P 6::⟨(.type "super"),none,(.fields #[.ref 24,.ref 24,.ref 24]),#[]⟩::⟨(.type "builtin_function_or_method"),none,(.fields #[.builtin "object.__init_subclass__",.ref 24]),#[]⟩::ao P 7::i9::⟨(.type "dict"),none,.dict (GT (dE P "__module__" 214 (sv "trueleaf.errors" 187)::dE P "__qualname__" 216 (sv "BadRow" 215)::dE P "__firstlineno__" 218 (.int 4 217)::dE P "__static_attributes__" 219 (.ref 35)::[])) 4,#[]⟩::t
noncomputable def tT(P:GV)(t:List Obj):List Obj:=aB::aO::⟨(.type "code"),none,(.fields #[sv "BadRow" 209,sv "BadRow" 210,sv "/claim/cut.py" 211,.int 4 0,.int 0 0,.int 0 0,.int 0 0,.int 0 0,.ref 31,.bool false,.int 181 0,.ref 32,.none,.none,.none,.none,.int 212 0,.int 4 0,sv "/claim/cut.py" 213]),#[]⟩::⟨(.type "frame"),none,(.plain),#[Gb (.ref 33),Gb (.ref 3),Gb (.ref 30),none,Gb (sv "trueleaf.errors" 187),none,Gb (.ref 0)]⟩::ao P 8::ao P 9::ao P 10::⟨(.type "super"),none,(.fields #[.ref 37,.ref 37,.ref 37]),#[]⟩::⟨(.type "builtin_function_or_method"),none,(.fields #[.builtin "object.__init_subclass__",.ref 37]),#[]⟩::ao P 11::i9::⟨(.type "dict"),none,.dict (GT (dE P "__module__" 230 (sv "trueleaf.errors" 187)::dE P "__qualname__" 232 (sv "TooLong" 231)::dE P "__firstlineno__" 234 (.int 6 233)::dE P "__static_attributes__" 235 (.ref 47)::[])) 4,#[]⟩::aB::aO::⟨(.type "code"),none,(.fields #[sv "TooLong" 225,sv "TooLong" 226,sv "/claim/cut.py" 227,.int 6 0,.int 0 0,.int 0 0,.int 0 0,.int 0 0,.ref 43,.bool false,.int 181 0,.ref 44,.none,.none,.none,.none,.int 228 0,.int 6 0,sv "/claim/cut.py" 229]),#[]⟩::⟨(.type "frame"),none,(.plain),#[Gb (.ref 45),Gb (.ref 3),Gb (.ref 42),none,Gb (sv "trueleaf.errors" 187),none,Gb (.ref 0)]⟩::t
noncomputable def tU(P:GV)(t:List Obj):List Obj:=ao P 12::ao P 13::ao P 14::⟨(.type "super"),none,(.fields #[.ref 49,.ref 49,.ref 49]),#[]⟩::⟨(.type "builtin_function_or_method"),none,(.fields #[.builtin "object.__init_subclass__",.ref 49]),#[]⟩::ao P 15::i9::⟨(.type "dict"),none,.dict (GT (dE P "__module__" 246 (sv "trueleaf.errors" 187)::dE P "__qualname__" 248 (sv "BadCall" 247)::dE P "__firstlineno__" 250 (.int 8 249)::dE P "__static_attributes__" 251 (.ref 59)::[])) 4,#[]⟩::aB::aO::⟨(.type "code"),none,(.fields #[sv "BadCall" 241,sv "BadCall" 242,sv "/claim/cut.py" 243,.int 8 0,.int 0 0,.int 0 0,.int 0 0,.int 0 0,.ref 55,.bool false,.int 181 0,.ref 56,.none,.none,.none,.none,.int 244 0,.int 8 0,sv "/claim/cut.py" 245]),#[]⟩::⟨(.type "frame"),none,(.plain),#[Gb (.ref 57),Gb (.ref 3),Gb (.ref 54),none,Gb (sv "trueleaf.errors" 187),none,Gb (.ref 0)]⟩::ao P 16::ao P 17::ao P 18::⟨(.type "super"),none,(.fields #[.ref 61,.ref 61,.ref 61]),#[]⟩::t
noncomputable def tV(P:GV)(t:List Obj):List Obj:=⟨(.type "builtin_function_or_method"),none,(.fields #[.builtin "object.__init_subclass__",.ref 61]),#[]⟩::ao P 19::i9::⟨(.type "dict"),none,.dict (GT (dE P "__module__" 262 (sv "trueleaf.errors" 187)::dE P "__qualname__" 264 (sv "Deep" 263)::dE P "__firstlineno__" 266 (.int 10 265)::dE P "__static_attributes__" 267 (.ref 71)::[])) 4,#[]⟩::aB::aO::⟨(.type "code"),none,(.fields #[sv "Deep" 257,sv "Deep" 258,sv "/claim/cut.py" 259,.int 10 0,.int 0 0,.int 0 0,.int 0 0,.int 0 0,.ref 67,.bool false,.int 181 0,.ref 68,.none,.none,.none,.none,.int 260 0,.int 10 0,sv "/claim/cut.py" 261]),#[]⟩::⟨(.type "frame"),none,(.plain),#[Gb (.ref 69),Gb (.ref 3),Gb (.ref 66),none,Gb (sv "trueleaf.errors" 187),none,Gb (.ref 0)]⟩::ao P 20::ao P 21::ao P 22::⟨(.type "super"),none,(.fields #[.ref 73,.ref 73,.ref 73]),#[]⟩::⟨(.type "builtin_function_or_method"),none,(.fields #[.builtin "object.__init_subclass__",.ref 73]),#[]⟩::ao P 23::i9::⟨(.type "dict"),none,.dict (GT (dE P "__module__" 278 (sv "trueleaf.errors" 187)::dE P "__qualname__" 280 (sv "NoShort" 279)::dE P "__firstlineno__" 282 (.int 12 281)::dE P "__static_attributes__" 283 (.ref 83)::[])) 4,#[]⟩::t
noncomputable def tW(P:GV)(t:List Obj):List Obj:=aB::aO::⟨(.type "code"),none,(.fields #[sv "NoShort" 273,sv "NoShort" 274,sv "/claim/cut.py" 275,.int 12 0,.int 0 0,.int 0 0,.int 0 0,.int 0 0,.ref 79,.bool false,.int 181 0,.ref 80,.none,.none,.none,.none,.int 276 0,.int 12 0,sv "/claim/cut.py" 277]),#[]⟩::⟨(.type "frame"),none,(.plain),#[Gb (.ref 81),Gb (.ref 3),Gb (.ref 78),none,Gb (sv "trueleaf.errors" 187),none,Gb (.ref 0)]⟩::ao P 24::ao P 25::ao P 26::⟨(.type "super"),none,(.fields #[.ref 85,.ref 85,.ref 85]),#[]⟩::⟨(.type "builtin_function_or_method"),none,(.fields #[.builtin "object.__init_subclass__",.ref 85]),#[]⟩::t
noncomputable def vP(P:GV)(t:List Obj):List Obj:=ao P 27::i9::⟨(.type "dict"),none,.dict (GT (dE P "__module__" 294 (sv "trueleaf.errors" 187)::dE P "__qualname__" 296 (sv "BadWord" 295)::dE P "__firstlineno__" 298 (.int 14 297)::dE P "__static_attributes__" 299 (.ref 95)::[])) 4,#[]⟩::aB::aO::⟨(.type "code"),none,(.fields #[sv "BadWord" 289,sv "BadWord" 290,sv "/claim/cut.py" 291,.int 14 0,.int 0 0,.int 0 0,.int 0 0,.int 0 0,.ref 91,.bool false,.int 181 0,.ref 92,.none,.none,.none,.none,.int 292 0,.int 14 0,sv "/claim/cut.py" 293]),#[]⟩::⟨(.type "frame"),none,(.plain),#[Gb (.ref 93),Gb (.ref 3),Gb (.ref 90),none,Gb (sv "trueleaf.errors" 187),none,Gb (.ref 0)]⟩::ao P 28::ao P 29::ao P 30::⟨(.type "super"),none,(.fields #[.ref 97,.ref 97,.ref 97]),#[]⟩::⟨(.type "builtin_function_or_method"),none,(.fields #[.builtin "object.__init_subclass__",.ref 97]),#[]⟩::ao P 31::i9::⟨(.type "dict"),none,.dict (GT (dE P "__module__" 310 (sv "trueleaf.errors" 187)::dE P "__qualname__" 312 (sv "Twice" 311)::dE P "__firstlineno__" 314 (.int 16 313)::dE P "__static_attributes__" 315 (.ref 107)::[])) 4,#[]⟩::aB::t
noncomputable def vQ(P:GV)(t:List Obj):List Obj:=aO::⟨(.type "code"),none,(.fields #[sv "Twice" 305,sv "Twice" 306,sv "/claim/cut.py" 307,.int 16 0,.int 0 0,.int 0 0,.int 0 0,.int 0 0,.ref 103,.bool false,.int 181 0,.ref 104,.none,.none,.none,.none,.int 308 0,.int 16 0,sv "/claim/cut.py" 309]),#[]⟩::⟨(.type "frame"),none,(.plain),#[Gb (.ref 105),Gb (.ref 3),Gb (.ref 102),none,Gb (sv "trueleaf.errors" 187),none,Gb (.ref 0)]⟩::ao P 32::ao P 33::ao P 34::⟨(.type "super"),none,(.fields #[.ref 109,.ref 109,.ref 109]),#[]⟩::⟨(.type "builtin_function_or_method"),none,(.fields #[.builtin "object.__init_subclass__",.ref 109]),#[]⟩::ao P 35::i9::⟨(.type "dict"),none,.dict (GT (dE P "__module__" 326 (sv "trueleaf.errors" 187)::dE P "__qualname__" 328 (sv "NoFoot" 327)::dE P "__firstlineno__" 330 (.int 18 329)::dE P "__static_attributes__" 331 (.ref 119)::[])) 4,#[]⟩::aB::aO::⟨(.type "code"),none,(.fields #[sv "NoFoot" 321,sv "NoFoot" 322,sv "/claim/cut.py" 323,.int 18 0,.int 0 0,.int 0 0,.int 0 0,.int 0 0,.ref 115,.bool false,.int 181 0,.ref 116,.none,.none,.none,.none,.int 324 0,.int 18 0,sv "/claim/cut.py" 325]),#[]⟩::⟨(.type "frame"),none,(.plain),#[Gb (.ref 117),Gb (.ref 3),Gb (.ref 114),none,Gb (sv "trueleaf.errors" 187),none,Gb (.ref 0)]⟩::ao P 36::t
noncomputable def vR(P:GV)(t:List Obj):List Obj:=ao P 37::ao P 38::⟨(.type "super"),none,(.fields #[.ref 121,.ref 121,.ref 121]),#[]⟩::⟨(.type "builtin_function_or_method"),none,(.fields #[.builtin "object.__init_subclass__",.ref 121]),#[]⟩::ao P 39::i9::⟨(.type "dict"),none,.dict (GT (dE P "__module__" 342 (sv "trueleaf.errors" 187)::dE P "__qualname__" 344 (sv "NoMark" 343)::dE P "__firstlineno__" 346 (.int 20 345)::dE P "__static_attributes__" 347 (.ref 131)::[])) 4,#[]⟩::aB::aO::⟨(.type "code"),none,(.fields #[sv "NoMark" 337,sv "NoMark" 338,sv "/claim/cut.py" 339,.int 20 0,.int 0 0,.int 0 0,.int 0 0,.int 0 0,.ref 127,.bool false,.int 181 0,.ref 128,.none,.none,.none,.none,.int 340 0,.int 20 0,sv "/claim/cut.py" 341]),#[]⟩::⟨(.type "frame"),none,(.plain),#[Gb (.ref 129),Gb (.ref 3),Gb (.ref 126),none,Gb (sv "trueleaf.errors" 187),none,Gb (.ref 0)]⟩::ao P 40::ao P 41::ao P 42::⟨(.type "super"),none,(.fields #[.ref 133,.ref 133,.ref 133]),#[]⟩::⟨(.type "builtin_function_or_method"),none,(.fields #[.builtin "object.__init_subclass__",.ref 133]),#[]⟩::t
noncomputable def vS(P:GV)(t:List Obj):List Obj:=ao P 43::aB::aO::gA "words_in" "words_in" (top 18)::ao P 44::ao P 45::aB::aO::gA "is_name" "is_name" (top 19)::ao P 46::ao P 47::aB::aO::⟨(.type "tuple"),none,(.seq #[sv "number" 394]),#[]⟩::aB::gA "figures_of" "figures_of" (top 20)::t
noncomputable def tX(P:GV)(t:List Obj):List Obj:=ao P 48::ao P 49::aB::aO::⟨(.type "tuple"),none,(.seq #[sv "word" 401,sv "first" 402,sv "rest" 403]),#[]⟩::aB::gA "kind_of" "kind_of" (top 21)::ao P 50::ao P 51::aB::aO::gA "numbers_of" "numbers_of" (top 23)::ao P 52::ao P 53::ao P 54::aB::t
noncomputable def tY(P:GV)(t:List Obj):List Obj:=aO::⟨(.type "tuple"),none,(.seq #[sv "words" 422,sv "count" 423,sv "nodes" 424,sv "pending" 425,sv "word" 426]),#[]⟩::aB::gA "tree_of" "tree_of" (top 26)::ao P 55::ao P 56::t
noncomputable def ww(P:GV)(t:List Obj):List Obj:=aB::aO::gA "copied" "copied" (top 27)::ao P 57::ao P 58::aB::aO::⟨(.type "tuple"),none,(.seq #[sv "word" 439]),#[]⟩::aB::gA "opens_call" "opens_call" (top 28)::ao P 59::ao P 60::aB::aO::⟨(.type "tuple"),none,(.seq #[sv "call" 446,sv "last" 447,sv "arguments" 448,sv "nodes" 449]),#[]⟩::aB::t
noncomputable def wx(P:GV)(t:List Obj):List Obj:=gA "with_closed" "with_closed" (top 29)::ao P 61::ao P 62::aB::aO::⟨(.type "tuple"),none,(.seq #[sv "word" 456,sv "count" 457,sv "k" 458]),#[]⟩::aB::gA "node_of" "node_of" (top 30)::ao P 63::ao P 64::aB::aO::⟨(.type "tuple"),none,(.seq #[sv "word" 465]),#[]⟩::aB::gA "looks_like_place" "looks_like_place" (top 31)::ao P 65::t
noncomputable def wz(P:GV)(t:List Obj):List Obj:=ao P 66::ao P 67::aB::aO::⟨(.type "tuple"),none,(.seq #[sv "shorts" 481,sv "nodes" 482,sv "count" 483]),#[]⟩::aB::gA "size_of" "size_of" (top 36)::ao P 68::ao P 69::aB::aO::⟨(.type "tuple"),none,(.seq #[sv "shorts" 490,sv "name" 491,sv "count" 492,sv "nodes" 493,sv "size" 494,sv "row" 495,sv "calls" 496]),#[]⟩::aB::gA "new_short" "new_short" (top 37)::ao P 70::ao P 71::t
noncomputable def wA(P:GV)(t:List Obj):List Obj:=aB::aO::⟨(.type "tuple"),none,(.seq #[sv "shorts" 503,sv "nodes" 504,sv "named" 505,sv "size" 506]),#[]⟩::aB::gA "put_out" "put_out" (top 38)::ao P 72::ao P 73::aB::aO::gA "by_name" "by_name" (top 39)::ao P 74::ao P 75::aB::aO::⟨(.type "tuple"),none,(.seq #[sv "named" 519,sv "call" 520,sv "name" 521,sv "short" 522]),#[]⟩::aB::t
noncomputable def wB(P:GV)(t:List Obj):List Obj:=gA "short_called" "short_called" (top 40)::ao P 76::ao P 77::aB::aO::⟨(.type "tuple"),none,(.seq #[sv "named" 529,sv "nodes" 530,sv "count" 531,sv "row" 532,sv "calls" 533,sv "node" 534,sv "short" 535,sv "k" 536,sv "argument" 537,sv "size" 538]),#[]⟩::aB::gA "size_among" "size_among" (top 41)::ao P 78::ao P 79::aB::aO::gA "sum_of_rows" "sum_of_rows" (top 42)::ao P 80::ao P 81::aB::t
noncomputable def wC(P:GV)(t:List Obj):List Obj:=aO::gA "words_out" "words_out" (top 43)::ao P 82::ao P 83::ao P 84::ao P 85::aB::aO::⟨(.type "tuple"),none,(.seq #[sv "rows" 569,sv "reader" 570,sv "row" 571]),#[]⟩::aB::gA "read_rows" "read_rows" (top 48)::ao P 86::ao P 87::aB::i9::⟨(.type "dict"),none,.dict (GT (dE P "__module__" 582 (sv "trueleaf.reading" 554)::dE P "__qualname__" 584 (sv "Reader" 583)::dE P "__firstlineno__" 586 (.int 170 585)::dE P "__init__" 593 (.ref 280)::dE P "read_row" 602 (.ref 287)::dE P "read_let" 608 (.ref 292)::dE P "read_foot" 618 (.ref 299)::dE P "read_alone" 627 (.ref 306)::dE P "read_words" 636 (.ref 313)::dE P "add_thing" 644 (.ref 320)::dE P "words_out" 650 (.ref 325)::dE P "__static_attributes__" 655 (.ref 326)::[])) 12,#[]⟩::t
noncomputable def wD(P:GV)(t:List Obj):List Obj:=aB::⟨(.none),none,(.fields #[.int 172 0,.int 4 0,.ref 279,.int 178 0,.int 4 0,.ref 286,.int 196 0,.int 4 0,.ref 291,.int 205 0,.int 4 0,.ref 298,.int 216 0,.int 4 0,.ref 305,.int 222 0,.int 4 0,.ref 312,.int 230 0,.int 4 0,.ref 319,.int 234 0,.int 4 0,.ref 324]),#[]⟩::⟨(.type "code"),none,(.fields #[sv "Reader" 577,sv "Reader" 578,sv "/claim/cut.py" 579,.int 170 0,.int 0 0,.int 0 0,.int 0 0,.int 0 0,.ref 270,.bool false,.int 181 0,.ref 271,.none,.none,.none,.none,.int 580 0,.int 170 0,sv "/claim/cut.py" 581]),#[]⟩::⟨(.type "frame"),none,(.plain),#[Gb (.ref 272),Gb (.ref 3),Gb (.ref 269),none,Gb (sv "trueleaf.reading" 554),none,Gb (.ref 0)]⟩::aB::aO::⟨(.type "tuple"),none,(.seq #[sv "self" 590]),#[]⟩::aB::gA "__init__" "Reader.__init__" (bv 49 0)::ao P 88::ao P 89::aB::aO::⟨(.type "tuple"),none,(.seq #[sv "self" 597,sv "words" 598,sv "first" 599]),#[]⟩::aB::gA "read_row" "Reader.read_row" (bv 49 1)::t
noncomputable def wE(P:GV)(t:List Obj):List Obj:=ao P 90::ao P 91::aB::aO::gA "read_let" "Reader.read_let" (bv 49 2)::ao P 92::ao P 93::aB::aO::⟨(.type "tuple"),none,(.seq #[sv "self" 612,sv "words" 613,sv "name" 614,sv "text" 615]),#[]⟩::aB::gA "read_foot" "Reader.read_foot" (bv 49 3)::ao P 94::ao P 95::aB::aO::t
noncomputable def wF(P:GV)(t:List Obj):List Obj:=⟨(.type "tuple"),none,(.seq #[sv "self" 622,sv "words" 623,sv "first" 624]),#[]⟩::aB::gA "read_alone" "Reader.read_alone" (bv 49 4)::ao P 96::ao P 97::aB::aO::⟨(.type "tuple"),none,(.seq #[sv "self" 631,sv "words" 632,sv "read" 633]),#[]⟩::aB::gA "read_words" "Reader.read_words" (bv 49 5)::ao P 98::ao P 99::aB::aO::⟨(.type "tuple"),none,(.seq #[sv "self" 640,sv "thing" 641]),#[]⟩::aB::t
noncomputable def wG(P:GV)(t:List Obj):List Obj:=gA "add_thing" "Reader.add_thing" (bv 49 6)::ao P 100::ao P 101::aB::aO::gA "words_out" "Reader.words_out" (bv 49 7)::ao P 102::ao P 103::ao P 104::ao P 105::ao P 106::ao P 107::ao P 108::⟨(.type "super"),none,(.fields #[.ref 328,.ref 328,.ref 328]),#[]⟩::⟨(.type "builtin_function_or_method"),none,(.fields #[.builtin "object.__init_subclass__",.ref 328]),#[]⟩::aB::t
noncomputable def wH(P:GV)(t:List Obj):List Obj:=aO::⟨(.type "tuple"),none,(.seq #[sv "word" 666]),#[]⟩::aB::gA "is_figure" "is_figure" (top 50)::ao P 109::ao P 110::ao P 111::ao P 112::aB::aO::gA "set_words" "set_words" (top 54)::ao P 113::ao P 114::aB::i9::⟨(.type "dict"),none,.dict (GT (dE P "__module__" 696 (sv "trueleaf.setting" 670)::dE P "__qualname__" 698 (sv "Setter" 697)::dE P "__firstlineno__" 700 (.int 255 699)::dE P "__init__" 706 (.ref 358)::dE P "set_thing" 715 (.ref 365)::dE P "set_head" 724 (.ref 372)::dE P "set_list" 730 (.ref 377)::dE P "set_run" 741 (.ref 384)::dE P "set_mark" 749 (.ref 391)::dE P "set_word" 759 (.ref 398)::dE P "next_foot" 767 (.ref 405)::dE P "check_marks" 773 (.ref 410)::dE P "words_told" 779 (.ref 415)::dE P "saying_of" 789 (.ref 422)::dE P "number_at" 800 (.ref 429)::dE P "__static_attributes__" 810 (.ref 430)::[])) 16,#[]⟩::t
noncomputable def wI(P:GV)(t:List Obj):List Obj:=aB::⟨(.none),none,(.fields #[.int 257 0,.int 4 0,.ref 357,.int 268 0,.int 4 0,.ref 364,.int 281 0,.int 4 0,.ref 371,.int 286 0,.int 4 0,.ref 376,.int 293 0,.int 4 0,.ref 383,.int 302 0,.int 4 0,.ref 390,.int 307 0,.int 4 0,.ref 397,.int 319 0,.int 4 0,.ref 404,.int 325 0,.int 4 0,.ref 409,.int 336 0,.int 4 0,.ref 414,.int 342 0,.int 4 0,.ref 421,.int 353 0,.int 4 0,.ref 428]),#[]⟩::⟨(.type "code"),none,(.fields #[sv "Setter" 691,sv "Setter" 692,sv "/claim/cut.py" 693,.int 255 0,.int 0 0,.int 0 0,.int 0 0,.int 0 0,.ref 350,.bool false,.int 181 0,.ref 351,.none,.none,.none,.none,.int 694 0,.int 255 0,sv "/claim/cut.py" 695]),#[]⟩::⟨(.type "frame"),none,(.plain),#[Gb (.ref 352),Gb (.ref 3),Gb (.ref 349),none,Gb (sv "trueleaf.setting" 670),none,Gb (.ref 0)]⟩::aB::aO::gA "__init__" "Setter.__init__" (bv 55 0)::ao P 115::ao P 116::aB::aO::⟨(.type "tuple"),none,(.seq #[sv "self" 710,sv "thing" 711,sv "kind" 712]),#[]⟩::aB::gA "set_thing" "Setter.set_thing" (bv 55 1)::ao P 117::ao P 118::t
noncomputable def wJ(P:GV)(t:List Obj):List Obj:=aB::aO::⟨(.type "tuple"),none,(.seq #[sv "self" 719,sv "k" 720,sv "number" 721]),#[]⟩::aB::gA "set_head" "Setter.set_head" (bv 55 2)::ao P 119::ao P 120::aB::aO::gA "set_list" "Setter.set_list" (bv 55 3)::ao P 121::ao P 122::aB::aO::⟨(.type "tuple"),none,(.seq #[sv "self" 734,sv "lead" 735,sv "words" 736,sv "by_head" 737,sv "word" 738]),#[]⟩::aB::t
noncomputable def wK(P:GV)(t:List Obj):List Obj:=gA "set_run" "Setter.set_run" (bv 55 4)::ao P 123::ao P 124::aB::aO::⟨(.type "tuple"),none,(.seq #[sv "self" 745,sv "name" 746]),#[]⟩::aB::gA "set_mark" "Setter.set_mark" (bv 55 5)::ao P 125::ao P 126::aB::aO::⟨(.type "tuple"),none,(.seq #[sv "self" 753,sv "lead" 754,sv "word" 755,sv "foot" 756]),#[]⟩::aB::gA "set_word" "Setter.set_word" (bv 55 6)::ao P 127::t
noncomputable def wL(P:GV)(t:List Obj):List Obj:=ao P 128::aB::aO::⟨(.type "tuple"),none,(.seq #[sv "self" 763,sv "name" 764]),#[]⟩::aB::gA "next_foot" "Setter.next_foot" (bv 55 7)::ao P 129::ao P 130::aB::aO::gA "check_marks" "Setter.check_marks" (bv 55 8)::ao P 131::ao P 132::aB::aO::gA "words_told" "Setter.words_told" (bv 55 9)::t
noncomputable def wM(P:GV)(t:List Obj):List Obj:=ao P 133::ao P 134::aB::aO::⟨(.type "tuple"),none,(.seq #[sv "self" 783,sv "word" 784,sv "kind" 785,sv "rest" 786]),#[]⟩::aB::gA "saying_of" "Setter.saying_of" (bv 55 10)::ao P 135::ao P 136::aB::aO::⟨(.type "tuple"),none,(.seq #[sv "self" 793,sv "k" 794,sv "number" 795,sv "text" 796,sv "at" 797]),#[]⟩::aB::gA "number_at" "Setter.number_at" (bv 55 11)::ao P 137::ao P 138::t
noncomputable def wN(P:GV)(t:List Obj):List Obj:=ao P 139::ao P 140::ao P 141::ao P 142::ao P 143::⟨(.type "super"),none,(.fields #[.ref 432,.ref 432,.ref 432]),#[]⟩::⟨(.type "builtin_function_or_method"),none,(.fields #[.builtin "object.__init_subclass__",.ref 432]),#[]⟩::t
noncomputable def z8(P:GV)(t:List Obj):List Obj:=aB::aO::⟨(.type "tuple"),none,(.seq #[sv "script" 823,sv "k" 824]),#[]⟩::aB::gA "_law_cell_at" "_law_cell_at" (top 57)::ao P 144::ao P 145::aB::aO::⟨(.type "tuple"),none,(.seq #[sv "cell" 831,sv "k" 832,sv "many" 833,sv "number" 834]),#[]⟩::aB::gA "_law_draw" "_law_draw" (top 58)::ao P 146::ao P 147::aB::aO::t
noncomputable def z9(P:GV)(t:List Obj):List Obj:=⟨(.type "tuple"),none,(.seq #[sv "found" 841,sv "due" 842,sv "k" 843]),#[]⟩::aB::gA "_law_alike" "_law_alike" (top 59)::ao P 148::ao P 149::aB::aO::⟨(.type "tuple"),none,(.seq #[sv "cell" 850,sv "k" 851,sv "some" 852]),#[]⟩::aB::gA "_law_sign_by" "_law_sign_by" (top 60)::ao P 150::ao P 151::aB::aO::⟨(.type "tuple"),none,(.seq #[sv "word" 859,sv "sign" 860]),#[]⟩::aB::t
noncomputable def z_(P:GV)(t:List Obj):List Obj:=gA "_law_is_name" "_law_is_name" (top 61)::ao P 152::ao P 153::aB::aO::⟨(.type "tuple"),none,(.seq #[sv "cell" 867,sv "wide" 868]),#[]⟩::aB::gA "_law_form" "_law_form" (top 62)::ao P 154::ao P 155::aB::aO::gA "_law_name" "_law_name" (top 63)::ao P 156::ao P 157::aB::t
noncomputable def Aa(P:GV)(t:List Obj):List Obj:=aO::gA "_law_plain_by" "_law_plain_by" (top 64)::ao P 158::ao P 159::aB::aO::⟨(.type "tuple"),none,(.seq #[sv "kind" 887,sv "rest" 888]),#[]⟩::aB::gA "_law_written" "_law_written" (top 65)::ao P 160::ao P 161::aB::aO::⟨(.type "tuple"),none,(.seq #[sv "first" 895,sv "kind" 896,sv "cell" 897,sv "at" 898,sv "marks" 899,sv "feet" 900,sv "many" 901,sv "rest" 902]),#[]⟩::aB::gA "_law_word" "_law_word" (top 66)::t
noncomputable def Ab(P:GV)(t:List Obj):List Obj:=ao P 162::ao P 163::aB::aO::⟨(.type "tuple"),none,(.seq #[sv "script" 909,sv "ways" 910,sv "kinds" 911,sv "rows" 912,sv "cell" 913,sv "way" 914,sv "kind" 915]),#[]⟩::aB::gA "_law_rows" "_law_rows" (top 67)::ao P 164::ao P 165::aB::aO::gA "_law_named" "_law_named" (top 68)::ao P 166::ao P 167::aB::aO::t
noncomputable def Ac(P:GV)(t:List Obj):List Obj:=gA "_law_text" "_law_text" (top 69)::ao P 168::ao P 169::aB::aO::gA "_law_titles" "_law_titles" (top 70)::ao P 170::ao P 171::aB::aO::gA "_law_stream" "_law_stream" (top 71)::cV "_law_stream" "_law_stream" 937 938 939 483 2 3 525 181 526 .none .none .none (.ref 527) 940 483 941::gB "_law_stream" "_law_stream" (top 71) (.none) "law_trueleaf_k59_leads_and_keeps" 818 528::aB::aO::⟨(.type "tuple"),none,(.seq #[sv "stream" 946,sv "titles" 947,sv "heads" 948,sv "at" 949,sv "kind" 950,sv "rest" 951]),#[]⟩::t
noncomputable def Ad(P:GV)(t:List Obj):List Obj:=aB::gA "_law_heads" "_law_heads" (top 72)::cV "_law_heads" "_law_heads" 943 944 945 499 2 3 530 181 531 .none (.ref 532) (.ref 533) (.ref 534) 952 499 953::gB "_law_heads" "_law_heads" (top 72) (.none) "law_trueleaf_k59_leads_and_keeps" 818 535::aB::aO::gA "_law_leads" "_law_leads" (top 73)::ao P 172::ao P 173::aB::aO::⟨(.type "tuple"),none,(.seq #[sv "rows" 964,sv "first" 965,sv "spaced" 966,sv "k" 967,sv "row" 968,sv "ahead" 969,sv "end" 970]),#[]⟩::aB::gA "_law_spaced" "_law_spaced" (top 74)::ao P 174::ao P 175::t
noncomputable def Ae(P:GV)(t:List Obj):List Obj:=aB::aO::gA "law" "law" (top 75)::ao P 176::ao P 177::t
noncomputable def zzhA(P:GV):Heap:=⟨⟨(oA P (boot_o_3 P) (yu P) [])⟩,{}⟩
noncomputable def zzhB(P:GV):Heap:=⟨⟨(oA P (boot_o_3 P) (yu P) [])⟩,{}⟩
noncomputable def zzh1(P:GV):Heap:=⟨⟨(oA P (DK P) (CM P) (tS P (CP P) (tT P (tU P (tV P (tW P []))))))⟩,{}⟩
noncomputable def zzh2(P:GV):Heap:=⟨⟨(oA P (DL P) (CN P) (tS P (ao P 5) (tT P (tU P (tV P (tW P (vP P (vQ P (vR P (vS P (tX P (tY P []))))))))))))⟩,{}⟩
noncomputable def zzh3(P:GV):Heap:=⟨⟨(oA P (DN P) (CO P) (tS P (ao P 5) (tT P (tU P (tV P (tW P (vP P (vQ P (vR P (vS P (tX P (tY P (ww P (wx P (wz P (wA P (wB P (wC P (wD P (wE P (wF P (wG P (wH P (wI P (wJ P (wK P (wL P (wM P (wN P [])))))))))))))))))))))))))))))⟩,{}⟩
noncomputable def zzh4(P:GV):Heap:=⟨⟨(oA P (ao P 1) (yv P) (tS P (ao P 5) (tT P (tU P (tV P (tW P (vP P (vQ P (vR P (vS P (tX P (tY P (ww P (wx P (wz P (wA P (wB P (wC P (wD P (wE P (wF P (wG P (wH P (wI P (wJ P (wK P (wL P (wM P (wN P (z8 P (z9 P (z_ P (Aa P (Ab P (Ac P (Ad P (Ae P [])))))))))))))))))))))))))))))))))))))⟩,{}⟩
noncomputable def zzhF(P:GV):Heap:=⟨⟨(oA P (ao P 1) (yv P) (tS P (ao P 5) (tT P (tU P (tV P (tW P (vP P (vQ P (vR P (vS P (tX P (tY P (ww P (wx P (wz P (wA P (wB P (wC P (wD P (wE P (wF P (wG P (wH P (wI P (wJ P (wK P (wL P (wM P (wN P (z8 P (z9 P (z_ P (Aa P (Ab P (Ac P (Ad P (Ae P [])))))))))))))))))))))))))))))))))))))⟩,{}⟩
noncomputable abbrev zzbE:List Stmt:=behindTheImports PySem.Challenge.pw_trueleaf_k59_leads_and_keeps
noncomputable abbrev zzev:Env:={ scope:=PySem.Challenge.pw_trueleaf_k59_leads_and_keeps.main.scope,locals:=mainNs,globals:=mainNs,cells:=[],code:=.ref 13,frame:=some 14 }
noncomputable abbrev zzcE:Code:=.body zzbE zzev
noncomputable abbrev zzbF:List Frame:=[topFrame (PySem.Pos.mk 0 0 0 0)]
set_option maxHeartbeats 0 in
theorem zzpreL(w:GJ)(os:HA):topGo PySem.treeTable PySem.Challenge.pw_trueleaf_k59_leads_and_keeps w 11 (some (.ref 6)) 12 ⟨boot_heap w.params,Hm [],boot_drawn,boot_toks,os⟩ (topStub PySem.Challenge.pw_trueleaf_k59_leads_and_keeps)=some (⟨zzhA w.params,Hm [],⟨0,0,0,0⟩,187,os⟩,⟨denote PySem.treeTable zzcE,zzcE,PySem.Pos.mk 0 0 0 0,zzbF⟩):=by kernel_rfl
set_option maxHeartbeats 0 in
theorem zzblkL(w:GJ)(os:HA):segRun PySem.treeTable PySem.Challenge.pw_trueleaf_k59_leads_and_keeps w 11 (some (.ref 6)) 1 1 ⟨zzhA w.params,Hm [],⟨0,0,0,0⟩,187,os⟩ (blockOf zzbE zzev zzcE (PySem.Pos.mk 0 0 0 0) zzbF)=some (.next,⟨zzhB w.params,Hm [],⟨0,0,0,0⟩,187,os⟩,zzcE,PySem.Pos.mk 0 0 0 0):=by kernel_rfl
set_option maxHeartbeats 0 in
theorem zzseg0(w:GJ)(os:HA):segRun PySem.treeTable PySem.Challenge.pw_trueleaf_k59_leads_and_keeps w 11 (some (.ref 6)) 1 1261 ⟨zzhB w.params,Hm [],⟨0,0,0,0⟩,187,os⟩ (piecesOf ((zzbE.drop 0).take 7) zzev zzcE (PySem.Pos.mk 0 0 0 0) zzbF)=some (.next,⟨zzh1 w.params,Hm [],⟨0,0,0,0⟩,287,os⟩,zzcE,PySem.Pos.mk 12 0 13 8):=by kernel_rfl
def zzsegP1(w:GJ):Prop:=∀os:HA,segRun PySem.treeTable PySem.Challenge.pw_trueleaf_k59_leads_and_keeps w 11 (some (.ref 6)) 1 1191 ⟨zzh1 w.params,Hm [],⟨0,0,0,0⟩,287,os⟩ (piecesOf ((zzbE.drop 7).take 20) zzev zzcE (PySem.Pos.mk 12 0 13 8) zzbF)=some (.next,⟨zzh2 w.params,Hm [],⟨0,0,0,0⟩,430,os⟩,zzcE,PySem.Pos.mk 55 0 73 16)
set_option maxHeartbeats 0 in
theorem zzsegF1(w:GJ):zzsegP1 (w.withFollow "special-get-raises" false):=λos=>by kernel_rfl
set_option maxHeartbeats 0 in
theorem zzsegT1(w:GJ):zzsegP1 (w.withFollow "special-get-raises" true):=λos=>by kernel_rfl
theorem zzseg1(w:GJ)(os:HA):segRun PySem.treeTable PySem.Challenge.pw_trueleaf_k59_leads_and_keeps w 11 (some (.ref 6)) 1 1191 ⟨zzh1 w.params,Hm [],⟨0,0,0,0⟩,287,os⟩ (piecesOf ((zzbE.drop 7).take 20) zzev zzcE (PySem.Pos.mk 12 0 13 8) zzbF)=some (.next,⟨zzh2 w.params,Hm [],⟨0,0,0,0⟩,430,os⟩,zzcE,PySem.Pos.mk 55 0 73 16):=byRow2 "special-get-raises" (P:=zzsegP1) zzsegF1 zzsegT1 w os
def zzsegP2(w:GJ):Prop:=∀os:HA,segRun PySem.treeTable PySem.Challenge.pw_trueleaf_k59_leads_and_keeps w 11 (some (.ref 6)) 1 1647 ⟨zzh2 w.params,Hm [],⟨0,0,0,0⟩,430,os⟩ (piecesOf ((zzbE.drop 27).take 29) zzev zzcE (PySem.Pos.mk 55 0 73 16) zzbF)=some (.next,⟨zzh3 w.params,Hm [],⟨0,0,0,0⟩,818,os⟩,zzcE,PySem.Pos.mk 255 0 358 21)
set_option maxHeartbeats 0 in
theorem zzsegF2(w:GJ):zzsegP2 (w.withFollow "special-get-raises" false):=λos=>by kernel_rfl
set_option maxHeartbeats 0 in
theorem zzsegT2(w:GJ):zzsegP2 (w.withFollow "special-get-raises" true):=λos=>by kernel_rfl
theorem zzseg2(w:GJ)(os:HA):segRun PySem.treeTable PySem.Challenge.pw_trueleaf_k59_leads_and_keeps w 11 (some (.ref 6)) 1 1647 ⟨zzh2 w.params,Hm [],⟨0,0,0,0⟩,430,os⟩ (piecesOf ((zzbE.drop 27).take 29) zzev zzcE (PySem.Pos.mk 55 0 73 16) zzbF)=some (.next,⟨zzh3 w.params,Hm [],⟨0,0,0,0⟩,818,os⟩,zzcE,PySem.Pos.mk 255 0 358 21):=byRow2 "special-get-raises" (P:=zzsegP2) zzsegF2 zzsegT2 w os
set_option maxHeartbeats 0 in
theorem zzseg3(w:GJ)(os:HA):segRun PySem.treeTable PySem.Challenge.pw_trueleaf_k59_leads_and_keeps w 11 (some (.ref 6)) 1 572 ⟨zzh3 w.params,Hm [],⟨0,0,0,0⟩,818,os⟩ (piecesOf ((zzbE.drop 56).take 20) zzev zzcE (PySem.Pos.mk 255 0 358 21) zzbF)=some (.next,⟨zzh4 w.params,Hm [],⟨0,0,0,0⟩,980,os⟩,zzcE,PySem.Pos.mk 554 0 573 62):=by kernel_rfl
set_option maxHeartbeats 0 in
theorem zzfinL(w:GJ)(os:HA):topRun PySem.treeTable PySem.Challenge.pw_trueleaf_k59_leads_and_keeps w 11 (some (.ref 6)) 2 ⟨zzh4 w.params,Hm [],⟨0,0,0,0⟩,980,os⟩ ⟨doneF .next,zzcE,PySem.Pos.mk 554 0 573 62,zzbF⟩=some ⟨zzhF w.params,Hm [],⟨0,0,0,0⟩,980,os⟩:=by kernel_rfl
set_option maxHeartbeats 0 in
theorem zzbodyE:zzbE=(((zzbE.drop 0).take 7)++(((zzbE.drop 7).take 20)++(((zzbE.drop 27).take 29)++(((zzbE.drop 56).take 20)++[])))):=by kernel_rfl
theorem zzrunL(w:GJ)(os:HA):topRun PySem.treeTable PySem.Challenge.pw_trueleaf_k59_leads_and_keeps w 11 (some (.ref 6)) (12+(1+(1261+(1191+(1647+(572+2)))))) ⟨boot_heap w.params,Hm [],boot_drawn,boot_toks,os⟩ (topStub PySem.Challenge.pw_trueleaf_k59_leads_and_keeps)=some ⟨zzhF w.params,Hm [],⟨0,0,0,0⟩,980,os⟩:=by
 have k0:topRun PySem.treeTable PySem.Challenge.pw_trueleaf_k59_leads_and_keeps w 11 (some (.ref 6)) (1261+(1191+(1647+(572+2)))) ⟨zzhB w.params,Hm [],⟨0,0,0,0⟩,187,os⟩ (restOf (((zzbE.drop 0).take 7)++(((zzbE.drop 7).take 20)++(((zzbE.drop 27).take 29)++(((zzbE.drop 56).take 20)++[])))) zzev zzcE (PySem.Pos.mk 0 0 0 0) zzbF)=some ⟨zzhF w.params,Hm [],⟨0,0,0,0⟩,980,os⟩:=piece_app (zzseg0 w os) (piece_app (zzseg1 w os) (piece_app (zzseg2 w os) (piece_app (zzseg3 w os) (piece_nil (env:=zzev) (q:=PySem.Pos.mk 0 0 0 0) (zzfinL w os)))));have k1:topRun PySem.treeTable PySem.Challenge.pw_trueleaf_k59_leads_and_keeps w 11 (some (.ref 6)) (1261+(1191+(1647+(572+2)))) ⟨zzhB w.params,Hm [],⟨0,0,0,0⟩,187,os⟩ (restOf zzbE zzev zzcE (PySem.Pos.mk 0 0 0 0) zzbF)=some ⟨zzhF w.params,Hm [],⟨0,0,0,0⟩,980,os⟩:=(congrArg (λb=>topRun PySem.treeTable PySem.Challenge.pw_trueleaf_k59_leads_and_keeps w 11 (some (.ref 6)) (1261+(1191+(1647+(572+2)))) ⟨zzhB w.params,Hm [],⟨0,0,0,0⟩,187,os⟩ (restOf b zzev zzcE (PySem.Pos.mk 0 0 0 0) zzbF)) zzbodyE).trans k0;exact go_top (zzpreL w os) (piece_block (zzblkL w os) k1)
set_option maxHeartbeats 0 in
theorem zzopE:opening PySem.Challenge.pw_trueleaf_k59_leads_and_keeps=plainProg PySem.Challenge.pw_trueleaf_k59_leads_and_keeps.main.scope.names:=by kernel_rfl
set_option maxHeartbeats 0 in
theorem EU(w:GJ):((boot_heap w.params).isNs GP&&(Hm []:Array Ku).size==0,(boot_heap w.params).objs.size,(boot_heap w.params).nsMap GP "__annotations__")=(true,11,some (.ref 6)):=by kernel_rfl
set_option maxHeartbeats 0 in
theorem zzlkA(w:GJ)(os:HA):staticsOk (Jr PySem.Challenge.pw_trueleaf_k59_leads_and_keeps.main.body) (boot_heap w.params) (zzhF w.params)=true:=by kernel_rfl
set_option maxHeartbeats 0 in
theorem zzlkB(w:GJ)(os:HA):namesBound PySem.Challenge.pw_trueleaf_k59_leads_and_keeps (zzhF w.params)=true:=by kernel_rfl
set_option maxHeartbeats 0 in
theorem zzlkC(w:GJ)(os:HA):gensDone (⟨zzhF w.params,Hm [],⟨0,0,0,0⟩,980,os⟩)=true:=by kernel_rfl
set_option maxHeartbeats 0 in
theorem zzlkD(w:GJ)(os:HA):laidKept (boot_heap w.params) (zzhF w.params)=true:=by kernel_rfl
noncomputable abbrev zzzF(w:GJ)(os:HA):Gg:=⟨zzhF w.params,Hm [],⟨0,0,0,0⟩,980,os⟩
set_option maxHeartbeats 0 in
theorem zzlc0(w:GJ)(os:HA):seen ((recsOf vw).map (·.name)) (ownsOf vw) [] { zzzF w os with gens:=#[] }=expectedOf vw:=by kernel_rfl
set_option maxHeartbeats 0 in
theorem zzlc1(w:GJ)(os:HA):(zzzF w os).heap.bltView=bltViewBooted:=by kernel_rfl
set_option maxHeartbeats 0 in
theorem zzlc2(w:GJ)(os:HA):((zzzF w os).heap.keysOk (looseW vw ls) ((recsOf vw).map (·.name)) ((litsOf vw).map (·.1)) ((clssOf vw (looseW vw ls)).map (·.name))&&(zzzF w os).heap.accountedOkI (Jr PySem.Challenge.pw_trueleaf_k59_leads_and_keeps.main.body)&&(zzzF w os).heap.isNs GP&&(zzzF w os).heap.isNs Kq&&tablesOk vw (zzzF w os).heap&&xt (zzzF w os)&&(if true=true then(zzzF w os).gens.size==0 else !leftWithCleanup (zzzF w os).gens))=true:=by kernel_rfl
set_option maxHeartbeats 0 in
theorem zzlc3(w:GJ)(os:HA):tabsOk vw (zzzF w os)=true:=by kernel_rfl
set_option maxHeartbeats 0 in
theorem zzlc4(w:GJ)(os:HA):pinSeenD vw (drecsOf vw) (zzzF w os)=pinGoodD (drecsOf vw):=by kernel_rfl
set_option maxHeartbeats 0 in
theorem zzlc5(w:GJ)(os:HA):plainSeenE vw (looseW vw ls) (zzzF w os)=plainGoodE vw (looseW vw ls):=by kernel_rfl
set_option maxHeartbeats 0 in
theorem zzlc6(w:GJ)(os:HA):plainSeenD vw ls (zzzF w os)=plainGoodD vw ls:=by kernel_rfl
set_option maxHeartbeats 0 in
theorem zzlc7(w:GJ)(os:HA):wideSeen vw (zzzF w os)=wideGood vw:=by kernel_rfl
set_option maxHeartbeats 0 in
theorem zzlc8(w:GJ)(os:HA):clsSeenW vw ls (zzzF w os)=clsGoodW vw ls:=by kernel_rfl
theorem zzmk9{A B C D E F G H I:Type}{a a':A}{b b':B}{c c':C}{d d':D}{e e':E}{f f':F}{g g':G}{h h':H}{i i':I}(zzh0:a=a')(zzh1:b=b')(zzh2:c=c')(zzh3:d=d')(zzh4:e=e')(zzh5:f=f')(zzh6:g=g')(zzh7:h=h')(zzh8:i=i'):(a,b,c,d,e,f,g,h,i)=(a',b',c',d',e',f',g',h',i'):=by
 subst zzh0 zzh1 zzh2 zzh3 zzh4 zzh5 zzh6 zzh7 zzh8;rfl
theorem zzlkO(w:GJ)(os:HA):openSeen vw ls (Jr PySem.Challenge.pw_trueleaf_k59_leads_and_keeps.main.body) xt true (zzzF w os)=openGood vw ls:=zzmk9 (zzlc0 w os) (zzlc1 w os) (zzlc2 w os) (zzlc3 w os) (zzlc4 w os) (zzlc5 w os) (zzlc6 w os) (zzlc7 w os) (zzlc8 w os)
set_option maxHeartbeats 0 in
theorem EV(w:GJ)(os:HA):Hook.obs hk (⟨zzhF w.params,Hm [],⟨0,0,0,0⟩,980,os⟩)=Hook.val hk w:=by kernel_rfl
theorem zzlkP(w:GJ)(os:HA):(staticsOk (Jr PySem.Challenge.pw_trueleaf_k59_leads_and_keeps.main.body) (boot_heap w.params) (zzhF w.params)&&namesBound PySem.Challenge.pw_trueleaf_k59_leads_and_keeps (zzhF w.params)&&gensDone (⟨zzhF w.params,Hm [],⟨0,0,0,0⟩,980,os⟩)&&laidKept (boot_heap w.params) (zzhF w.params))=true:=by rw[zzlkA w os,zzlkB w os,zzlkC w os,zzlkD w os];rfl
theorem left:LeftO PySem.Challenge.pw_trueleaf_k59_leads_and_keeps vw ls xt (Hook.obs hk) (Hook.val hk) 9460:=
 LeftO.of_pieces (boot_open zzopE (by decide) (λs=>rfl)) EU zzrunL (by decide) λw=>funext λos=>Prod.ext (zzlkP w os) (Prod.ext (zzlkO w os) (EV w os))

end K59
set_option maxHeartbeats 4000000
namespace L2
open PySem PySem.Spec PyProof.Rows

abbrev Key:=Sum Int Str
def mC:Key->F_->Bool
 |.inl k,v=>Value.isInt k v
 |.inr x,v=>Value.isStrOf x v
def DO(w:GJ):Key->Int
 |.inl k=>hashInt k
 |.inr x=>hashStr w x
theorem di:∀{k:Key} {v:F_},mC k v=true->(∃i t,k=Ki i/\v=Jf i t)\/(∃x t,k=IQ x/\v=HZ x t)
 |.inl i,v,h=>by
  obtain⟨t,e⟩:=Value.isInt_shape (k:=i) (v:=v) h;exact .inl ⟨i,t,rfl,e⟩
 |.inr x,v,h=>by
  obtain⟨t,e⟩:=Value.isStrOf_shape (x:=x) (v:=v) h;exact .inr ⟨x,t,rfl,e⟩
theorem Af(i:Int)(t:Tok):mC (.inl i) (.int i t)=true:=by simp[mC,Value.isInt]
theorem Ag(x:Str)(t:Tok):mC (.inr x) (.str x t)=true:=by simp[mC,Value.isStrOf]
theorem DP(a b:Int):decide ((Ki a:Key)=Ki b)=(a==b):=by
 by_cases e:a=b
 .subst e;simp
 .have h:¬ (Ki a:Key)=Ki b:=λq=>e (Sum.inl.inj q);rw[decide_eq_false h];exact(beq_eq_false_iff_ne.mpr e).symm
theorem DQ(a b:Str):decide ((IQ a:Key)=IQ b)=decide (a=b):=by
 by_cases e:a=b
 .subst e;simp
 .have h:¬ (IQ a:Key)=IQ b:=λq=>e (Sum.inr.inj q);rw[decide_eq_false h,decide_eq_false e]
theorem DR(a:Int)(b:Str):decide ((Ki a:Key)=IQ b)=false:=decide_eq_false (λq=>nomatch q)
theorem DS(a:Str)(b:Int):decide ((IQ a:Key)=Ki b)=false:=decide_eq_false (λq=>nomatch q)

def bz(prog:GH)(w:GJ):PySem.KeyKind prog w Key where
 is:=mC
 hash:=DO w
 inj:=λv a b ha hb=>by
  rcases di ha with⟨i,t,rfl,rfl⟩|⟨x,t,rfl,rfl⟩
  .rcases di hb with⟨j,u,rfl,e⟩|⟨y,u,rfl,e⟩
   .injection e with e1 _;rw[e1]
   .exact nomatch e
  .rcases di hb with⟨j,u,rfl,e⟩|⟨y,u,rfl,e⟩
   .exact nomatch e
   .injection e with e1 _;rw[e1]
 byValue:=λk v h=>by
  rcases di h with⟨i,t,rfl,rfl⟩|⟨x,t,rfl,rfl⟩<;>rfl
 pyHash:=λhv h=>by
  rcases di hv with⟨i,t,rfl,rfl⟩|⟨x,t,rfl,rfl⟩
  .exact wpAny_pyHash_int h
  .exact wpAny_pyHash_str h
 eqBool:=λhu hv h=>by
  rcases di hu with⟨i,t,rfl,rfl⟩|⟨x,t,rfl,rfl⟩
  .rcases di hv with⟨j,u,rfl,rfl⟩|⟨y,u,rfl,rfl⟩
   .rw[DP]at h;exact wpAny_eqBool_int h
   .rw[DR]at h;exact SeqAt.EqAt.int_str i t y u _ _ _ _ h
  .rcases di hv with⟨j,u,rfl,rfl⟩|⟨y,u,rfl,rfl⟩
   .rw[DS]at h;exact SeqAt.EqAt.str_int x t j u _ _ _ _ h
   .rw[DQ]at h;exact wpAny_eqBool_str h
 «strs»:=λk x t v h=>by
  rcases di h with⟨i,u,rfl,e⟩|⟨y,u,rfl,e⟩
  .exact nomatch e
  .injection e with e1 _;subst e1;cases v<;>rfl

theorem yg(prog:GH)(w:GJ)(i:Int)(t:Tok):(bz prog w).is (.inl i) (.int i t)=true:=Af i t
theorem yh(prog:GH)(w:GJ)(x:Str)(t:Tok):(bz prog w).is (.inr x) (.str x t)=true:=Ag x t

inductive V where
 |non|bl (b:Bool)|int (i:Int)|str (x:Str)|byt (b:Array UInt8)|flt (b:UInt64)|ref (a:Addr)|ty (n:String)
 deriving DecidableEq

def bi:V->F_->Prop
 |.non,u=>u=Jg
 |.bl b,u=>u=Kr b
 |.int i,u=>∃t,u=Jf i t
 |.str x,u=>∃t,u=HZ x t
 |.byt b,u=>∃t,u=Value.bytes b t
 |.flt b,u=>∃t,u=Value.float b t
 |.ref a,u=>u=He a
 |.ty n,u=>u=IF n

abbrev a8:List V->List F_->Prop:=Paired bi
theorem a8.length{xs:List V}{us:List F_}(r:a8 xs us):xs.length=us.length:=Paired.length r
theorem a8.get:∀{xs:List V} {us:List F_} {i:Nat} {x:V},a8 xs us->xs[i]?=some x->∃u,us[i]?=some u/\bi x u
 |_,_,_,_,.nil,e=>by simp at e
 |_,_,0,_,.cons r _,e=>by simp at e;subst e;exact⟨_,rfl,r⟩
 |_,_,i+1,x,.cons _ t,e=>by
  obtain⟨u,h1,h2⟩:=a8.get (i:=i) (x:=x) t (by simpa using e);exact⟨u,by simpa using h1,h2⟩
theorem a8.set{x:V}{u:F_}(r:bi x u):∀{xs:List V} {us:List F_} (i:Nat),a8 xs us->a8 (xs.set i x) (us.set i u)
 |_,_,_,.nil=>.nil
 |_,_,0,.cons _ t=>.cons r t
 |_,_,i+1,.cons q t=>.cons q (a8.set r i t)
theorem a8.append:∀{xs ys:List V} {us ws:List F_},a8 xs us->a8 ys ws->a8 (xs++ys) (us++ws)
 |_,_,_,_,.nil,s=>s
 |_,_,_,_,.cons r t,s=>.cons r (a8.append t s)
theorem a8.take:∀{xs:List V} {us:List F_} (n:Nat),a8 xs us->a8 (xs.take n) (us.take n)
 |_,_,0,_=>.nil
 |_,_,_+1,.nil=>.nil
 |_,_,n+1,.cons r t=>.cons r (a8.take n t)
theorem a8.drop:∀{xs:List V} {us:List F_} (n:Nat),a8 xs us->a8 (xs.drop n) (us.drop n)
 |_,_,0,r=>r
 |_,_,_+1,.nil=>.nil
 |_,_,n+1,.cons _ t=>a8.drop n t
def gU:Option V->Option F_->Prop
 |some v,some u=>bi v u
 |none,none=>True
 |_,_=>False
def KV{κ:Type}:List (κ×V)->List (κ×F_)->Prop:=Paired λ(p:κ×V) (q:κ×F_)=>p.1=q.1/\bi p.2 q.2

def kV:Key->V
 |.inl i=>.int i
 |.inr x=>.str x

inductive HO where
  |lst (xs:List V)
  |tup (xs:List V)
  |dK (kvs:List (Key×V))|dT (kvs:List (List Key×V))
  |set (S:Int->Bool) (n:Nat)
  |ins (C dx:Addr) (fs:List (Str×V))
  |own (x:Addr)
  |xd (fs:List (Str×V))
  |met (f x:Addr)
  |rng (lo hi:Int)
  |frz (o:Obj) (u:HO)
  |tbl (ps:Array F_)
  |ext (φ:Heap->Prop)

abbrev Hp:=Addr->Option HO
def upd(H:Hp)(a:Addr)(o:HO):Hp:=λb=>if b=a then some o else H b
theorem ac{H:Hp}{a:Addr}{o:HO}:upd H a o a=some o:=by unfold upd;rw[if_pos rfl]
theorem aj{H:Hp}{a b:Addr}{o:HO}(h:b≠a):upd H a o b=H b:=by unfold upd;rw[if_neg h]
theorem EW{H:Hp}{a b:Addr}{o u:HO}(h:H a=some o)(h':H b=some u)(d:o≠u):a≠b:=by
 intro e;subst e;rw[h]at h';exact d (GW h')
theorem cr{H:Hp}{a b:Addr}{o:HO}(h:H a=some o)(h':H b=none):a≠b:=by
 intro e;subst e;rw[h]at h';cases h'

section
variable (P:GH)(w:GJ)
def cE(H:Hp)(h:Heap)(a:Addr):HO->Prop
 |.lst xs=>xs.length<=Gv/\∃(its:List F_) (n:Nat),a8 xs its/\h.get? a=some { cls:=.type "list",data:=.seq its.toArray n }
 |.tup xs=>xs.length<=Gv/\∃its:List F_,a8 xs its/\IsTup h a its.toArray
 |.dK kvs=>kvs.length<=Gv/\(a==HI)=false/\∃vs,KV kvs vs/\h.DictOf (bz P w) a vs
 |.dT kvs=>kvs.length<=Gv/\(a==HI)=false/\∃xs:List (List Key×Addr×F_),
   Paired (λ(p:List Key×V) (q:List Key×Addr×F_)=>p.1=q.1/\H q.2.1=some (.tup (p.1.map kV))/\bi p.2 q.2.2) kvs xs/\
   ∃o es ep,h.get? a=some o/\o.ExactDict/\o.data=.dict es ep/\es.toList=xs.map (entryOfKey (Kj (bz P w)))/\(xs.map (·.1)).Nodup
 |.set S n=>h.SetOf (intKind P w) a S n
 |.ins C dx fs=>H dx=some (.own a)/\fs.length<=1000/\dx≠a/\h.get? a=some (PySem.W.instObj C dx)/\
   ∃mA,h.Ns1 dx mA/\(∀f,gU (fs.lookup f) (mA f))/\PySem.Within mA (fs.map (·.1))
 |.own _=>∃o,h.get? a=some o
 |.xd fs=>∃mA,h.Ns1 a mA/\∀f,gU (fs.lookup f) (mA f)
 |.rng lo hi=>∃t u v,h.get? a=some { cls:=.type "range",data:=.fields #[.int lo t,.int hi u,.int 1 v] }
 |.frz o u=>h.get? a=some o/\cE H h a u
 |.tbl ps=>h.get? a=some { cls:=.none,data:=.fields ps }
 |.met f x=>h.get? a=some (PySem.W.methodObj (.ref f) (.ref x))
 |.ext φ=>φ h/\(∃o,h.get? a=some o)/\∀h1 h2:Heap,φ h1->(∀o,h1.get? a=some o->h2.get? a=some o)->φ h2
def HOk(H:Hp)(h:Heap):Prop:=∀a o,H a=some o->cE P w H h a o
end

section
variable {P:GH}{w:GJ}{H H':Hp}{h h':Heap}{a:Addr}{o:HO}
theorem cE.lt(x:cE P w H h a o):a<h.objs.size:=by
 cases o with
 |lst xs=>obtain⟨_,_,_,_,e⟩:=x;exact Gn e
 |tup xs=>obtain⟨_,_,_,p⟩:=x;exact p.lt
 |dK kvs=>obtain⟨_,_,_,_,o,_,_,e,_⟩:=x;exact Gn e
 |dT kvs=>obtain⟨_,_,_,_,o,_,_,e,_⟩:=x;exact Gn e
 |set S n=>obtain⟨o,_,_,_,e,_⟩:=x;exact Gn e
 |ins C dx fs=>obtain⟨_,_,_,e,_⟩:=x;exact Gn e
 |own y=>obtain⟨_,e⟩:=x;exact Gn e
 |xd fs=>obtain⟨_,⟨_,_,_,e,_⟩,_⟩:=x;exact Gn e
 |rng lo hi=>obtain⟨_,_,_,e⟩:=x;exact Gn e
 |frz ob u=>obtain⟨e,_⟩:=x;exact Gn e
 |tbl ps=>exact Gn (show h.get? a=some _ from x)
 |met f y=>exact Gn (show h.get? a=some _ from x)
 |ext φ=>obtain⟨_,⟨_,e⟩,_⟩:=x;exact Gn e
theorem Paired.mapP{α β:Type}{F G:α->β->Prop}:∀{l₁:List α} {l₂:List β},Paired F l₁ l₂->(∀a b,F a b->G a b)->Paired G l₁ l₂
 |_,_,.nil,_=>.nil
 |_,_,.cons r t,f=>.cons (f _ _ r) (Paired.mapP t f)
theorem cE.stay(x:cE P w H h a o)(k:∀b u,(b=a\/H b=some (.own a))->h.get? b=some u->h'.get? b=some u)
  (ho:∀b,H b=some (.own a)->H' b=some (.own a))(ht:∀b xs,H b=some (.tup xs)->H' b=some (.tup xs)):cE P w H' h' a o:=by
 induction o with
 |lst xs=>obtain⟨z,its,n,r,e⟩:=x;exact⟨z,its,n,r,k _ _ (.inl rfl) e⟩
 |tup xs=>obtain⟨z,its,r,ob,e,c⟩:=x;exact⟨z,its,r,ob,k _ _ (.inl rfl) e,c⟩
 |dK kvs=>obtain⟨z,y,vs,r,ob,es,ep,e,c⟩:=x;exact⟨z,y,vs,r,ob,es,ep,k _ _ (.inl rfl) e,c⟩
 |dT kvs =>
  obtain⟨z,y,xs,r,ob,es,ep,e,c⟩:=x;exact⟨z,y,xs,Paired.mapP r λp q z=>⟨z.1,ht _ _ z.2.1,z.2.2⟩,ob,es,ep,k _ _ (.inl rfl) e,c⟩
 |set S n=>obtain⟨ob,es,ep,t,e,c⟩:=x;exact⟨ob,es,ep,t,k _ _ (.inl rfl) e,c⟩
 |ins C dx fs =>
  obtain⟨d,z,ne,e,mA,⟨od,es,ep,e2,c⟩,r⟩:=x;exact⟨ho _ d,z,ne,k _ _ (.inl rfl) e,mA,⟨od,es,ep,k _ _ (.inr d) e2,c⟩,r⟩
 |own y=>obtain⟨ob,e⟩:=x;exact⟨ob,k _ _ (.inl rfl) e⟩
 |xd fs=>obtain⟨mA,⟨od,es,ep,e,c⟩,r⟩:=x;exact⟨mA,⟨od,es,ep,k _ _ (.inl rfl) e,c⟩,r⟩
 |rng lo hi=>obtain⟨t,u,v,e⟩:=x;exact⟨t,u,v,k _ _ (.inl rfl) e⟩
 |frz ob u ih=>obtain⟨e,q⟩:=x;exact⟨k _ _ (.inl rfl) e,ih q⟩
 |tbl ps =>
  have e:h.get? a=some { cls:=.none,data:=.fields ps }:=x;show h'.get? a=some { cls:=.none,data:=.fields ps };exact k a _ (.inl rfl) e
 |met f y =>
  have e:h.get? a=some (PySem.W.methodObj (.ref f) (.ref y)):=x;show h'.get? a=some (PySem.W.methodObj (.ref f) (.ref y));exact k a _ (.inl rfl) e
 |ext φ=>obtain⟨p,⟨o,e⟩,st⟩:=x;exact⟨st _ _ p λo q=>k _ _ (.inl rfl) q,⟨o,k _ _ (.inl rfl) e⟩,st⟩
theorem HOk.lt(x:HOk P w H h)(e:H a=some o):a<h.objs.size:=(x a o e).lt
theorem HOk.fresh(x:HOk P w H h)(e:h.objs.size<=a):H a=none:=by
 cases q:H a with
 |none=>rfl
 |some u=>exact absurd (GG (x.lt q) e) (Hu _)
theorem HOk.kept(x:HOk P w H h)(k:∀b u,h.get? b=some u->h'.get? b=some u):HOk P w H h':=λa o e =>
 (x a o e).stay (λb u _ q=>k b u q) (λ_ q=>q) λ_ _ q=>q
theorem HOk.laid(x:HOk P w H h)(k:∀b u,h.get? b=some u->h'.get? b=some u)(hp:h.objs.size<=a)(new:cE P w (upd H a o) h' a o):HOk P w (upd H a o) h':=λb u e=>by
 have hn:=x.fresh hp;by_cases hb:b=a
 .subst hb;rw[ac]at e;cases e;exact new
 .rw[aj hb]at e;exact(x b u e).stay (λc v _ q=>k c v q) (λc q=>by rw[aj (cr q hn)];exact q) λc xs q=>by rw[aj (cr q hn)];exact q
end

def Rd(H:Hp)(a:Addr)(u:HO):Prop:=H a=some u\/∃o,H a=some (.frz o u)
theorem Rd.ok{P:GH}{w:GJ}{H:Hp}{h:Heap}{a:Addr}{u:HO}(r:Rd H a u)(x:HOk P w H h):cE P w H h a u:=by
 rcases r with r|⟨o,r⟩
 .exact x a u r
 .obtain⟨_,q⟩:=x a _ r;exact q
def Mut:Option HO->Prop
 |some (.lst _)=>True
 |some (.dK _)=>True
 |some (.dT _)=>True
 |some (.set _ _)=>True
 |some (.ins _ _ _)=>True
 |some (.ext _)=>True
 |_=>False
section
variable {P:GH}{w:GJ}{H:Hp}{h h':Heap}{x e:Addr}{o':HO}
theorem HOk.write(ok:HOk P w H h)(mu:Mut (H x))(he:e=x\/H e=some (.own x))(k:∀b u,b≠e->h.get? b=some u->h'.get? b=some u)(heo:∃u,h'.get? e=some u)
  (new:cE P w (upd H x o') h' x o'):HOk P w (upd H x o') h':=λb u q=>by
 have nown:∀c y,H c=some (.own y)->c≠x:=λc y r z=>by subst z;rw[r]at mu;exact mu
 have ntup:∀c xs,H c=some (.tup xs)->c≠x:=λc xs r z=>by subst z;rw[r]at mu;exact mu
 by_cases hb:b=x
 .subst hb;rw[ac]at q;cases q;exact new
 .rw[aj hb]at q;by_cases hbe:b=e
  .have q':H b=some (.own x):=by
    rcases he with z|z
    .exact absurd (hbe.trans z) hb
    .rw[hbe];exact z
   rw[q]at q';cases q';obtain⟨v,hv⟩:=heo;exact⟨v,by rw[hbe];exact hv⟩
  .refine(ok b u q).stay (λc v hc r=>k c v ?_ r) (λc r=>by rw[aj (nown c b r)];exact r) λc xs r=>by rw[aj (ntup c xs r)];exact r
   rcases hc with rfl|hc
   .exact hbe
   .rintro rfl;rcases he with z|z
    .exact nown c b hc z
    .rw[hc]at z;cases z;exact hb rfl
end

structure Un(fs ex:List Addr)(H H':Hp)(h h':Heap):Prop where
 keep:∀b o,h.get? b=some o->H b=none->b∉fs->b∉ex->h'.get? b=some o
 slot:∀b o,h.get? b=some o->H b=none->b∈fs->b∉ex->∃sl,h'.get? b=some { o with slots:=sl }
 free:∀b o,h.get? b=some o->H b=none->b∉ex->H' b=none
 there:∀b o,h.get? b=some o->b∉ex->∃o',h'.get? b=some o'
 tups:∀b xs,H b=some (.tup xs)->H' b=some (.tup xs)
 frzs:∀b o u,H b=some (.frz o u)->H' b=some (.frz o u)
 tbls:∀b ps,H b=some (.tbl ps)->∃more,H' b=some (.tbl (ps++more))
section
variable {fs fs' ex ex':List Addr}{H H1 H2:Hp}{h h1 h2 h':Heap}{a x e:Addr}{o:HO}
theorem Un.any(u:Un fs ex H H1 h h1){b:Addr}{ob:Obj}(q:h.get? b=some ob)(n:H b=none)(hx:b∉ex):∃sl,h1.get? b=some { ob with slots:=sl }:=by
 by_cases hb:b∈fs
 .exact u.slot b ob q n hb hx
 .exact⟨ob.slots,u.keep b ob q n hb hx⟩
theorem Un.trans(a:Un fs ex H H1 h h1)(b:Un fs ex H1 H2 h1 h2):Un fs ex H H2 h h2 where
 keep:=λc ob q n hc hx=>b.keep c ob (a.keep c ob q n hc hx) (a.free c ob q n hx) hc hx
 slot:=λc ob q n hc hx=>by
  obtain⟨sl,e1⟩:=a.slot c ob q n hc hx;obtain⟨sl',e2⟩:=b.slot c _ e1 (a.free c ob q n hx) hc hx;exact⟨sl',e2⟩
 free:=λc ob q n hx=>by
  obtain⟨o',e1⟩:=a.there c ob q hx;exact b.free c o' e1 (a.free c ob q n hx) hx
 there:=λc ob q hx=>by
  obtain⟨o',e1⟩:=a.there c ob q hx;exact b.there c o' e1 hx
 tups:=λc xs q=>b.tups c xs (a.tups c xs q)
 frzs:=λc ob xs q=>b.frzs c ob xs (a.frzs c ob xs q)
 tbls:=λc ps q=>by
  obtain⟨m1,e1⟩:=a.tbls c ps q;obtain⟨m2,e2⟩:=b.tbls c _ e1;exact⟨m1++m2,by rw[e2,JC]⟩
theorem Un.kept(k:∀b u,h.get? b=some u->h'.get? b=some u):Un fs ex H H h h':=
 ⟨λb ob q _ _ _=>k b ob q,λb ob q _ _ _=>⟨ob.slots,k b ob q⟩,λ_ _ _ n _=>n,λb ob q _=>⟨ob,k b ob q⟩,λ_ _ q=>q,λ_ _ _ q=>q,λ_ ps q=>⟨#[],by rw[q];simp⟩⟩
theorem Un.refl:Un fs ex H H h h:=Un.kept λ_ _ q=>q
theorem Un.laid(k:∀b u,h.get? b=some u->h'.get? b=some u)(hp:h.objs.size<=a)(hn:H a=none):Un fs ex H (upd H a o) h h' where
 keep:=λb u q _ _ _=>k b u q
 slot:=λb u q _ _ _=>⟨u.slots,k b u q⟩
 free:=λb u q n _=>by rw[aj (Gx (GG (Gn q) hp))];exact n
 there:=λb u q _=>⟨u,k b u q⟩
 tups:=λb xs q=>by rw[aj (cr q hn)];exact q
 frzs:=λb u xs q=>by rw[aj (cr q hn)];exact q
 tbls:=λb ps q=>⟨#[],by rw[aj (cr q hn),q];simp⟩
theorem Un.write(mu:Mut (H x))(he:e=x\/H e=some (.own x))(k:∀b u,b≠e->h.get? b=some u->h'.get? b=some u)(heo:∃u,h'.get? e=some u):Un fs ex H (upd H x o) h h':=by
 have hx:∀b,H b=none->b≠x:=λb n z=>by subst z;rw[n]at mu;exact mu
 have hb:∀b,H b=none->b≠e:=λb n z=>by
  subst z;rcases he with r|r
  .exact hx b n r
  .rw[n]at r;cases r
 have hm:∀b u,H b=some u->¬ Mut (some u)->b≠x:=λb u q nm z=>by subst z;rw[q]at mu;exact nm mu
 refine⟨λb u q n _ _=>k b u (hb b n) q,λb u q n _ _=>⟨u.slots,k b u (hb b n) q⟩,λb u q n _=>by rw[aj (hx b n)];exact n,λb u q _=>?_,
  λb xs q=>by rw[aj (hm b _ q λz=>z)];exact q,λb u xs q=>by rw[aj (hm b _ q λz=>z)];exact q,λb ps q=>⟨#[],by rw[aj (hm b _ q λz=>z),q];simp⟩⟩
 by_cases hbe:b=e
 .subst hbe;exact heo
 .exact⟨u,k b u hbe q⟩
end

def trk(h:Heap)(H:Hp):List Addr:=(HQ h.objs.size).filter λa=>(H a).isSome
def oB(h:Heap)(H:Hp):Heap:=PySem.W.hideAll h (trk h H)
theorem Ah(h:Heap)(H:Hp):(oB h H).objs.size=h.objs.size:=PySem.W.hideAll_size _ _
theorem Bq{h:Heap}{H:Hp}{b:Addr}{o:Obj}(e:h.get? b=some o)(n:H b=none):(oB h H).get? b=some o:=
 PySem.W.hideAll_get _ e λhm=>by
  have q:(H b).isSome=true:=(List.mem_filter.mp hm).2;rw[n]at q;simp at q
theorem CQ{h:Heap}{H:Hp}{b:Addr}{o:Obj}(e:(oB h H).get? b=some o):h.get? b=some o/\H b=none:=by
 have e':h.get? b=some o:=PySem.W.of_hideAll (trk h H) e;refine⟨e',?_⟩;cases q:H b with
 |none=>rfl
 |some x =>
  have hm:b∈trk h H:=List.mem_filter.mpr ⟨List.mem_range.mpr (Gn e'),by simp[q]⟩;have z:(oB h H).get? b=none:=PySem.W.hideAll_none (trk h H) hm;rw[z]at e;cases e


structure Mod(K:PySem.W.Frag)(mg:Str->Option F_)(base:Heap):Prop where
 kin:K.In base
 glob:base.Ns GP mg
 blt:∃mb,base.Ns Kq mb/\∀x:Str,x≠"__name__"->mb x=Iq x
 nolimit:base.NoLimit

structure Cx where
 prog:GH
 w:GJ
 K:PySem.W.Frag
 mg:Str->Option F_
 base:Heap
 A:Ha
 N:List Str
 s₀:Gg
 H₀:Hp
 env:Env
 outer:List Env
 stack:List Env
 ex:List Addr
 fn:Str->Bool
 calm:Bool
 pn:List (Addr×Obj)
 xe:F_->Gg->Prop
def frs(l:List Env):List Addr:=l.filterMap (·.frame)
abbrev Cx.fs(X:Cx):List Addr:=frs X.outer

def Vis(sc:Scope)(x:Str):Prop:=sc.names.lookup x=some .local\/sc.names.lookup x=some .cell\/sc.names.lookup x=some .free
def Loc(sc:Scope)(x:Str):Prop:=sc.names.lookup x=some .local\/sc.names.lookup x=some .cell
def Ft(env:Env)(h:Heap)(m:Str->Option F_)(x:Str)(u:F_):Prop:=
 (env.kindOf x=some .local/\m x=some u)\/((env.kindOf x=some .cell\/env.kindOf x=some .free)/\∃c,env.cells.lookup x=some c/\h.IsCell c (some u))

structure Cx.Ok(X:Cx):Prop where
 mod:Mod X.K X.mg X.base
 kind:X.env.scope.kind=.function
 glob:X.env.globals=GP
 blt:X.env.builtins=Kq
 above:X.s₀.heap.objs.size<=X.env.locals
 inj:∀x y c,X.env.cells.lookup x=some c->X.env.cells.lookup y=some c->x=y
 has:∀x,(X.env.kindOf x=some .cell\/X.env.kindOf x=some .free)->∃c,X.env.cells.lookup x=some c
 cab:∀x c,X.fn x=true->X.env.cells.lookup x=some c->X.s₀.heap.objs.size<=c
 hd:X.calm=true->X.A.handled=none
 frames:X.A.frames=some X.stack
 stk:X.stack=X.outer\/(X.stack=X.env::X.outer/\X.env.frame=some X.env.locals)
 exf:∀b∈X.ex,b≠X.env.locals/\∀x c,X.env.cells.lookup x=some c->c≠b
 bs:∀b o,X.base.get? b=some o->X.s₀.heap.get? b=some o/\X.H₀ b=none
 bsz:X.base.objs.size<=X.s₀.heap.objs.size
 noex:∀b o,X.base.get? b=some o->b∉X.ex
 exfs:∀b∈X.ex,b∉X.fs
 funs:X.s₀.heap.FunFrames X.base X.outer
 frf:∀b∈X.fs,X.H₀ b=none

structure Inv(X:Cx)(pins:List (Addr×Obj))(σ:List (Option V))(H:Hp)(s:Gg):Prop where
 ok:X.Ok
 os:s.os=X.s₀.os
 bare:Jj s.gens
 base:Un X.fs X.ex X.H₀ H X.s₀.heap s.heap
 loc:∃m,s.heap.Ns X.env.locals m/\∀(i:Nat) (x:Str) (v:V),X.N[i]?=some x->σ[i]?=some (some v)->Vis X.env.scope x->∃u,bi v u/\Ft X.env s.heap m x u
 cell:∀x c,X.env.cells.lookup x=some c->∃v,s.heap.IsCell c v
 free:H X.env.locals=none
 freeC:∀x c,X.env.cells.lookup x=some c->H c=none
 pin:∀p∈X.pn++pins,s.heap.get? p.1=some p.2/\H p.1=none/\p.1≠X.env.locals/\p.1∉X.fs/\∀v,p.2.data≠.cell v
 hok:HOk X.prog X.w H s.heap
 len:σ.length=X.N.length

section
variable {X:Cx}{pins:List (Addr×Obj)}{σ:List (Option V)}{H H':Hp}{s:Gg}{h':Heap}

theorem Cx.Ok.nofr(ok:X.Ok){b:Addr}{o:Obj}(e:X.base.get? b=some o):b∉X.fs:=λhb=>by
 have:=(ok.funs.mem hb).1;rw[e]at this;cases this
theorem Inv.bs(I:Inv X pins σ H s):∀b o,X.base.get? b=some o->s.heap.get? b=some o/\H b=none:=λb o e =>
 ⟨I.base.keep b o (I.ok.bs b o e).1 (I.ok.bs b o e).2 (I.ok.nofr e) (I.ok.noex b o e),I.base.free b o (I.ok.bs b o e).1 (I.ok.bs b o e).2 (I.ok.noex b o e)⟩
theorem Inv.bk(I:Inv X pins σ H s):∀b o,X.base.get? b=some o->s.heap.get? b=some o:=λb o e=>(I.bs b o e).1
theorem Inv.mod(I:Inv X pins σ H s):Mod X.K X.mg X.base:=I.ok.mod
theorem Inv.kIn(I:Inv X pins σ H s):X.K.In s.heap:=I.ok.mod.kin.keeps I.bk
theorem Inv.lt(I:Inv X pins σ H s):X.env.locals<s.heap.objs.size:=let⟨_,hn,_⟩:=I.loc;hn.lt
theorem Inv.sz(I:Inv X pins σ H s):X.s₀.heap.objs.size<=s.heap.objs.size:=GM I.ok.above (GE I.lt)
theorem Inv.nofs(I:Inv X pins σ H s){a:Addr}(h:s.heap.objs.size<=a):a∉X.fs:=λhb=>by
 obtain⟨_,o,ho,_⟩:=I.ok.funs.mem hb;exact absurd (GG (Gn ho) (GM I.sz h)) (Hu _)
theorem Inv.cne(I:Inv X pins σ H s):∀x c,X.env.cells.lookup x=some c->c≠X.env.locals:=λx c e z=>by
 obtain⟨v,o,ho,hd⟩:=I.cell x c e;obtain⟨m,⟨o',es,ep,ho',hd',_⟩,_⟩:=I.loc;rw[z,ho']at ho;cases ho;rw[hd']at hd;cases hd
theorem Inv.funs(I:Inv X pins σ H s):s.heap.FunFrames X.base X.outer:=by
 have all:∀(l:List Env),(∀b∈frs l,b∈X.fs)->X.s₀.heap.FunFrames X.base l->s.heap.FunFrames X.base l:=by
  intro l;induction l with
  |nil=>intro _ _;trivial
  |cons env r ih =>
   intro hs hl;obtain⟨hk,⟨L,o,hf,hn,ho,hd⟩,hr⟩:=hl;have hL:L∈X.fs:=hs L (by unfold frs;rw[HR,hf];exact Gk);obtain⟨sl,e⟩:=I.base.slot L o ho (I.ok.frf L hL) hL λz=>I.ok.exfs L z hL;exact⟨hk,⟨L,_,hf,hn,e,hd⟩,ih (λb hb=>hs b (by unfold frs;rw[HR,hf];exact Gh _ hb)) hr⟩
 exact all X.outer (λ_ hb=>hb) I.ok.funs

theorem Inv.stack(I:Inv X pins σ H s):s.heap.FunFrames X.base X.stack:=by
 rcases I.ok.stk with e|⟨e,hf⟩
 .rw[e];exact I.funs
 .rw[e];obtain⟨m,hn,_⟩:=I.loc;refine .cons (by rw[I.ok.kind];decide) hf hn ?_ I.funs;exact Heap.get?_none_of_le (GM I.ok.bsz I.ok.above)
theorem Inv.stkSub(I:Inv X pins σ H s):∀b∈frs X.stack,b∈X.env.locals::X.fs:=λb hb=>by
 rcases I.ok.stk with e|⟨e,hf⟩
 .rw[e]at hb;exact Gh _ hb
 .rw[e]at hb;unfold frs at hb;rw[HR,hf]at hb;exact hb
theorem Inv.stkFree(I:Inv X pins σ H s):∀b∈frs X.stack,H b=none:=λb hb=>by
 rcases List.mem_cons.mp (I.stkSub b hb)with e|hb
 .rw[e];exact I.free
 .obtain⟨_,o,ho,_⟩:=I.ok.funs.mem hb;exact I.base.free b o ho (I.ok.frf b hb) λz=>I.ok.exfs b z hb

theorem Inv.step{g':Array Ku}{t':Nat}{d':Drawn}{ch:List Addr}(I:Inv X pins σ H s)
  (hch:∀b∈ch,(b∈X.ex\/X.s₀.heap.objs.size<=b)/\b≠X.env.locals/\(∀x c,X.env.cells.lookup x=some c->c≠b)/\∀p∈X.pn++pins,p.1≠b)
  (keep:∀b o,b≠X.env.locals->b∉X.fs->b∉ch->s.heap.get? b=some o->H b=none->h'.get? b=some o)
  (slot:∀b o,b≠X.env.locals->b∈X.fs->b∉ch->s.heap.get? b=some o->H b=none->∃sl,h'.get? b=some { o with slots:=sl })(free:∀b o,b∉ch->s.heap.get? b=some o->H b=none->H' b=none)
  (there:∀b o,b∉ch->s.heap.get? b=some o->∃o',h'.get? b=some o')
  (tups:∀b xs,H b=some (.tup xs)->H' b=some (.tup xs))(frzs:∀b o u,H b=some (.frz o u)->H' b=some (.frz o u))(tbls:∀b ps,H b=some (.tbl ps)->∃more,H' b=some (.tbl (ps++more)))
  (ns:∀m,s.heap.Ns X.env.locals m->h'.Ns X.env.locals m)(hok:HOk X.prog X.w H' h')(hg:Jj g') :
  Inv X pins σ H' { s with heap:=h',gens:=g',drawn:=d',toks:=t' }:=by
 have neL:∀b o,X.s₀.heap.get? b=some o->b≠X.env.locals:=λb o e=>Gx (GG (Gn e) I.ok.above);have neC:∀b o,X.s₀.heap.get? b=some o->b∉X.ex->b∉ch:=λb o e hx hb=>by
  rcases(hch b hb).1 with z|z
  .exact hx z
  .exact absurd (GG (Gn e) z) (Hu _)
 have cellK:∀x c,X.env.cells.lookup x=some c->∀v,s.heap.IsCell c v->h'.IsCell c v:=λx c e v ⟨o,ho,hd⟩=>by
  have nch:c∉ch:=λz=>(hch c z).2.2.1 x c e rfl;by_cases hc:c∈X.fs
  .obtain⟨sl,q⟩:=slot c o (I.cne x c e) hc nch ho (I.freeC x c e);exact⟨_,q,hd⟩
  .exact⟨o,keep c o (I.cne x c e) hc nch ho (I.freeC x c e),hd⟩
 refine⟨I.ok,I.os,hg,⟨λb o e n hb hx=>?_,λb o e n hb hx=>?_,λb o e n hx=>?_,λb o e hx=>?_,λb xs e=>tups b xs (I.base.tups b xs e),λb o xs e=>frzs b o xs (I.base.frzs b o xs e),λb ps e=>?_⟩,?_,λx c e=>?_,?_,λx c e=>?_,λp hp=>?_,hok,I.len⟩
 .exact keep b o (neL b o e) hb (neC b o e hx) (I.base.keep b o e n hb hx) (I.base.free b o e n hx)
 .obtain⟨sl,e1⟩:=I.base.slot b o e n hb hx;obtain⟨sl',e2⟩:=slot b _ (neL b o e) hb (neC b o e hx) e1 (I.base.free b o e n hx);exact⟨sl',e2⟩
 .obtain⟨o',e1⟩:=I.base.there b o e hx;exact free b o' (neC b o e hx) e1 (I.base.free b o e n hx)
 .obtain⟨o',e1⟩:=I.base.there b o e hx;exact there b o' (neC b o e hx) e1
 .obtain⟨m1,e1⟩:=I.base.tbls b ps e;obtain⟨m2,e2⟩:=tbls b _ e1;exact⟨m1++m2,by rw[e2,JC]⟩
 .obtain⟨m,hn,hl⟩:=I.loc;refine⟨m,ns m hn,λi x v e1 e2 e3=>?_⟩;obtain⟨u,r,l⟩:=hl i x v e1 e2 e3;refine⟨u,r,?_⟩;rcases l with l|⟨k,c,e,z⟩
  .exact .inl l
  .exact .inr ⟨k,c,e,cellK x c e _ z⟩
 .obtain⟨v,z⟩:=I.cell x c e;exact⟨v,cellK x c e v z⟩
 .obtain⟨m,⟨o,_,_,ho,_⟩,_⟩:=I.loc;exact free _ o (λz=>(hch _ z).2.1 rfl) ho I.free
 .obtain⟨v,o,ho,hd⟩:=I.cell x c e;exact free c o (λz=>(hch c z).2.2.1 x c e rfl) ho (I.freeC x c e)
 .obtain⟨e,n,ne,nf,d⟩:=I.pin p hp;have nch:p.1∉ch:=λz=>(hch p.1 z).2.2.2 p hp rfl;exact⟨keep p.1 p.2 ne nf nch e n,free p.1 p.2 nch e n,ne,nf,d⟩
theorem Inv.un{t':Nat}(I:Inv X pins σ H s)(u:Un X.fs [] H H' s.heap h')(hok:HOk X.prog X.w H' h'):Inv X pins σ H' { s with heap:=h',toks:=t' }:=by
 obtain⟨m,⟨o,es,ep,ho,r⟩,_⟩:=id I.loc;obtain⟨sl,hL⟩:=u.any ho I.free (by simp);exact I.step (g':=s.gens) (d':=s.drawn) (ch:=[]) (λ_ z=>nomatch z) (λb o _ hb _ e n=>u.keep b o e n hb (by simp)) (λb o _ hb _ e n=>u.slot b o e n hb (by simp)) (λb o _ e n=>u.free b o e n (by simp)) (λb o _ e=>u.there b o e (by simp)) u.tups u.frzs u.tbls (λm' hm=>by
  obtain⟨o',es',ep',ho',r'⟩:=hm;rw[ho]at ho';cases ho';exact⟨_,es',ep',hL,r'⟩) hok I.bare
theorem Inv.call{g':Array Ku}{t':Nat}{d':Drawn}{ch:List Addr}(I:Inv X pins σ H s)(u:Un (frs X.stack) ch H H' s.heap h')(hok:HOk X.prog X.w H' h')(hg:Jj g')
  (hch:∀b∈ch,(b∈X.ex\/X.s₀.heap.objs.size<=b)/\b≠X.env.locals/\(∀x c,X.env.cells.lookup x=some c->c≠b)/\∀p∈X.pn++pins,p.1≠b) :
  Inv X pins σ H' { s with heap:=h',gens:=g',drawn:=d',toks:=t' }:=by
 obtain⟨m,⟨o,es,ep,ho,r⟩,_⟩:=id I.loc;obtain⟨sl,hL⟩:=u.any ho I.free λz=>(hch _ z).2.1 rfl;exact I.step (ch:=ch) hch (λb o hL hb hc e n=>u.keep b o e n (λz=>(List.mem_cons.mp (I.stkSub b z)).elim hL hb) hc) (λb o _ _ hc e n=>u.any e n hc) (λb o hc e n=>u.free b o e n hc) (λb o hc e=>u.there b o e hc) u.tups u.frzs u.tbls (λm' hm=>by
  obtain⟨o',es',ep',ho',r'⟩:=hm;rw[ho]at ho';cases ho';exact⟨_,es',ep',hL,r'⟩) hok hg
theorem Inv.turned{t':Nat}{it:Addr}(I:Inv X pins σ H s)(k:∀b o,b≠it->s.heap.get? b=some o->h'.get? b=some o)(hn:H it=none)(hL:it≠X.env.locals)
  (h1:it∈X.ex\/X.s₀.heap.objs.size<=it)(h2:∀x c,X.env.cells.lookup x=some c->c≠it)(h3:∀p∈X.pn++pins,p.1≠it):Inv X pins σ H { s with heap:=h',toks:=t' }:=by
 have nit:∀b u,H b=some u->b≠it:=λb u e z=>by rw[z,hn]at e;cases e
 refine I.step (g':=s.gens) (d':=s.drawn) (ch:=[it]) (λb hb=>?_) (λb o _ _ hc e _=>k b o (λz=>hc (by simp[z])) e) (λb o _ _ hc e _=>⟨o.slots,k b o (λz=>hc (by simp[z])) e⟩) (λ_ _ _ _ n=>n)
  (λb o hc e=>⟨o,k b o (λz=>hc (by simp[z])) e⟩) (λ_ _ e=>e) (λ_ _ _ e=>e) (λb ps e=>⟨#[],by rw[e];simp⟩) (λm hm=>?_) (λb u e=>?_) I.bare
 .have e:b=it:=by simpa using hb
  subst e;exact⟨h1,hL,h2,h3⟩
 .obtain⟨o,es,ep,ho,r⟩:=hm;exact⟨o,es,ep,k _ o (GX hL) ho,r⟩
 .refine(I.hok b u e).stay (λc v hc q=>k c v ?_ q) (λ_ q=>q) λ_ _ q=>q;rcases hc with z|z
  .rw[z];exact nit b u e
  .exact nit c _ z
theorem Inv.tok(I:Inv X pins σ H s)(t:Nat):Inv X pins σ H { s with toks:=t }:=I.un (h':=s.heap) (t':=t) Un.refl I.hok
theorem Inv.kept{t':Nat}(I:Inv X pins σ H s)(k:∀b u,s.heap.get? b=some u->h'.get? b=some u):Inv X pins σ H { s with heap:=h',toks:=t' }:=I.un (Un.kept k) (I.hok.kept k)
theorem Inv.laid{a:Addr}{o:HO}{t':Nat}(I:Inv X pins σ H s)(k:∀b u,s.heap.get? b=some u->h'.get? b=some u)(hp:s.heap.objs.size<=a)(new:cE X.prog X.w (upd H a o) h' a o) :
  Inv X pins σ (upd H a o) { s with heap:=h',toks:=t' }:=I.un (Un.laid k hp (I.hok.fresh hp)) (I.hok.laid k hp new)
theorem Inv.write{x e:Addr}{o:HO}{t':Nat}(I:Inv X pins σ H s)(mu:Mut (H x))(he:e=x\/H e=some (.own x))(k:∀b u,b≠e->s.heap.get? b=some u->h'.get? b=some u)(heo:∃u,h'.get? e=some u)
  (new:cE X.prog X.w (upd H x o) h' x o):Inv X pins σ (upd H x o) { s with heap:=h',toks:=t' }:=I.un (Un.write mu he k heo) (I.hok.write mu he k heo new)
theorem Inv.pins_of{pins':List (Addr×Obj)}(I:Inv X pins σ H s)(h:∀p∈pins',s.heap.get? p.1=some p.2/\H p.1=none/\p.1≠X.env.locals/\p.1∉X.fs/\∀v,p.2.data≠.cell v):Inv X pins' σ H s:=
 ⟨I.ok,I.os,I.bare,I.base,I.loc,I.cell,I.free,I.freeC,λp hp=>(List.mem_append.mp hp).elim (λz=>I.pin p (HG _ z)) (h p),I.hok,I.len⟩

theorem wO{N:List Str}(hN:N.Nodup){i j:Nat}{x:Str}(a:N[i]?=some x)(b:N[j]?=some x):i=j:=by
 obtain⟨h1,e1⟩:=List.getElem?_eq_some_iff.mp a;obtain⟨h2,e2⟩:=List.getElem?_eq_some_iff.mp b;exact(List.getElem_inj hN).mp (e1.trans e2.symm)

theorem u0{M:Model}{A:Ha}{E:F_->Gg->Prop}{i:Nat}{x:Str}{v:V}{u:F_}{Q:Unit->Gg->Prop}(I:Inv X pins σ H s)(hN:X.N.Nodup)(hi:X.N[i]?=some x)(hx:Loc X.env.scope x)(r:bi v u)
  (h:∀s',Inv X pins (σ.set i (some v)) H s'->(∃a,IH a s.heap s'.heap/\(a=X.env.locals\/X.env.cells.lookup x=some a))->Q () s')(hf:X.fn x=true\/X.env.scope.names.lookup x=some .local:=by first|exact .inl rfl|exact .inr rfl|assumption):GK M A (storeName X.env x u) Q E s:=by
 obtain⟨m,hn,hl⟩:=id I.loc;have hcls:(X.env.scope.kind==.class||(X.env.scope.kind==.module&&X.env.locals != X.env.globals))=false:=by rw[I.ok.kind];rfl
 have hiσ:i<σ.length:=by rw[I.len];exact(List.getElem?_eq_some_iff.mp hi).1
 have cne:=I.cne;have tracked:∀{a:Addr} {h':Heap},(∃o,s.heap.get? a=some o/\H a=none)->IH a s.heap h'->HOk X.prog X.w H h':=λ{a h'} ha hs b ob e=>by
  obtain⟨_,_,hfree⟩:=ha;refine(I.hok b ob e).stay (λc w' hc q=>(hs.2 c ?_).trans q) (λ_ q=>q) λ_ _ q=>q;rintro rfl;rcases hc with rfl|hc
  .rw[hfree]at e;cases e
  .rw[hfree]at hc;cases hc
 rcases hx with hk|hk
 .refine wpAny_storeName_local hk hn (λh' hn' hs=>?_) hcls;obtain⟨oL,_,_,hoL,_⟩:=id hn;refine h _ ⟨I.ok,I.os,I.bare,⟨λb o e n hb hx=>?_,λb o e n hb hx=>?_,I.base.free,λb o e hx=>?_,I.base.tups,I.base.frzs,I.base.tbls⟩,⟨_,hn',λj y v' e1 e2 e3=>?_⟩,λy c e=>?_,I.free,I.freeC,λp hp=>?_,tracked ⟨oL,hoL,I.free⟩ hs,by simpa using I.len⟩ ⟨_,hs,.inl rfl⟩
  .exact(hs.2 b (Gx (GG (Gn e) I.ok.above))).trans (I.base.keep b o e n hb hx)
  .obtain⟨sl,e1⟩:=I.base.slot b o e n hb hx;exact⟨sl,(hs.2 b (Gx (GG (Gn e) I.ok.above))).trans e1⟩
  .obtain⟨o',e1⟩:=I.base.there b o e hx;exact⟨o',(hs.2 b (Gx (GG (Gn e) I.ok.above))).trans e1⟩
  .by_cases hj:j=i
   .subst hj;rw[hi]at e1;cases e1;rw[List.getElem?_set_self hiσ]at e2;cases e2;exact⟨u,r,.inl ⟨hk,by simp⟩⟩
   .rw[List.getElem?_set_ne (GX hj)]at e2;obtain⟨u',r',q⟩:=hl j y v' e1 e2 e3;refine⟨u',r',?_⟩;rcases q with⟨k,e⟩|⟨k,c,e,z⟩
    .refine .inl ⟨k,?_⟩;have:y≠x:=λe=>hj (wO hN e1 (e▸hi));simp[this,e]
    .exact .inr ⟨k,c,e,z.sameBut hs (cne y c e)⟩
  .obtain⟨w',z⟩:=I.cell y c e;exact⟨w',z.sameBut hs (cne y c e)⟩
  .obtain⟨e,n,ne,nf,d⟩:=I.pin p hp;exact⟨(hs.2 p.1 ne).trans e,n,ne,nf,d⟩
 .have hfn:X.fn x=true:=by
   rcases hf with z|z
   .exact z
   .rw[z]at hk;cases hk
  obtain⟨c,hc⟩:=I.ok.has x (.inl hk);obtain⟨w',z⟩:=I.cell x c hc;refine wpAny_storeName_cell I.ok.kind hk hc z (λh' hc' hs=>?_);obtain⟨oc,hoc,hocd⟩:=id z;refine h { s with heap:=h' } ⟨I.ok,I.os,I.bare,⟨λb o e n hb hx=>?_,λb o e n hb hx=>?_,I.base.free,λb o e hx=>?_,I.base.tups,I.base.frzs,I.base.tbls⟩,⟨m,hn.sameBut hs (GX (cne x c hc)),λj y v' e1 e2 e3=>?_⟩,λy c' e=>?_,I.free,I.freeC,λp hp=>?_,tracked ⟨oc,hoc,I.freeC x c hc⟩ hs,by simpa using I.len⟩ ⟨c,hs,.inr hc⟩
  .exact(hs.2 b (Gx (GG (Gn e) (I.ok.cab x c hfn hc)))).trans (I.base.keep b o e n hb hx)
  .obtain⟨sl,e1⟩:=I.base.slot b o e n hb hx;exact⟨sl,(hs.2 b (Gx (GG (Gn e) (I.ok.cab x c hfn hc)))).trans e1⟩
  .obtain⟨o',e1⟩:=I.base.there b o e hx;exact⟨o',(hs.2 b (Gx (GG (Gn e) (I.ok.cab x c hfn hc)))).trans e1⟩
  .by_cases hj:j=i
   .subst hj;rw[hi]at e1;cases e1;rw[List.getElem?_set_self hiσ]at e2;cases e2;exact⟨u,r,.inr ⟨.inl hk,c,hc,hc'⟩⟩
   .rw[List.getElem?_set_ne (GX hj)]at e2;obtain⟨u',r',q⟩:=hl j y v' e1 e2 e3;refine⟨u',r',?_⟩;rcases q with q|⟨k,c',e,z'⟩
    .exact .inl q
    .refine .inr ⟨k,c',e,z'.sameBut hs ?_⟩;rintro rfl;exact hj (wO hN e1 (I.ok.inj _ _ _ e hc▸hi))
  .by_cases hcc:c'=c
   .subst hcc;exact⟨_,hc'⟩
   .obtain⟨w2,z2⟩:=I.cell y c' e;exact⟨w2,z2.sameBut hs hcc⟩
  .obtain⟨e,n,ne,nf,d⟩:=I.pin p hp;refine⟨(hs.2 p.1 ?_).trans e,n,ne,nf,d⟩;intro q;rw[q,hoc]at e;have q':oc=p.2:=GW e;exact d w' (by rw[<-q'];exact hocd)
theorem oC{M:Model}{A:Ha}{E:F_->Gg->Prop}{i:Nat}{x:Str}{v:V}{u:F_}{Q:Unit->Gg->Prop}(I:Inv X pins σ H s)(hN:X.N.Nodup)(hi:X.N[i]?=some x)(hx:Loc X.env.scope x)(r:bi v u)
  (h:∀s',Inv X pins (σ.set i (some v)) H s'->Q () s')(hf:X.fn x=true\/X.env.scope.names.lookup x=some .local:=by first|exact .inl rfl|exact .inr rfl|assumption):GK M A (storeName X.env x u) Q E s:=
 u0 I hN hi hx r (λs' I' _=>h s' I') hf
theorem Inv.call'{s':Gg}{ch:List Addr}(I:Inv X pins σ H s)(ho:s'.os=s.os)(u:Un (frs X.stack) ch H H' s.heap s'.heap)(hok:HOk X.prog X.w H' s'.heap)(hg:Jj s'.gens)
  (hch:∀b∈ch,(b∈X.ex\/X.s₀.heap.objs.size<=b)/\b≠X.env.locals/\(∀x c,X.env.cells.lookup x=some c->c≠b)/\∀p∈X.pn++pins,p.1≠b):Inv X pins σ H' s':=by
 obtain⟨h',g',d',t',o'⟩:=s';have e:o'=s.os:=ho;subst e;exact I.call (g':=g') (t':=t') (d':=d') u hok hg hch
end

abbrev XK:=F_->Option Addr->Hp->Prop
abbrev St:=List (Option V)
abbrev VK:=V->Hp->Prop
abbrev TE:=St->Hp->VK->Prop
abbrev TT:=St->Hp->(Bool->Hp->Prop)->Prop
abbrev TA:=St->Hp->(List V->Hp->Prop)->Prop
structure eX where
 nx:St->Hp->Prop
 rt:VK
 bk:St->Hp->Prop:=λ_ _=>False
 ct:St->Hp->Prop:=λ_ _=>False
abbrev TS:=eX->St->Hp->Prop

def EP(X:Cx)(pins:List (Addr×Obj))(σ:St)(Q:VK)(u:F_)(s':Gg):Prop:=∃v H',Inv X pins σ H' s'/\bi v u/\Q v H'
def TP(X:Cx)(pins:List (Addr×Obj))(σ:St)(Q:Bool->Hp->Prop)(b:Bool)(s':Gg):Prop:=∃H',Inv X pins σ H' s'/\Q b H'
def AP(X:Cx)(pins:List (Addr×Obj))(σ:St)(Q:List V->Hp->Prop)(us:List F_)(s':Gg):Prop:=∃vs H',Inv X pins σ H' s'/\a8 vs us/\Q vs H'
def SP(X:Cx)(pins:List (Addr×Obj))(D:eX)(f:Flow)(s':Gg):Prop:=
 match f with
 |.next=>∃σ' H',Inv X pins σ' H' s'/\D.nx σ' H'
 |.brk=>∃σ' H',Inv X pins σ' H' s'/\D.bk σ' H'
 |.cont=>∃σ' H',Inv X pins σ' H' s'/\D.ct σ' H'
 |.ret u=>∃v σ' H',Inv X pins σ' H' s'/\bi v u/\D.rt v H'

def PE(X:Cx)(e:Expr)(t:TE):Prop:=
 ∀(pins:List (Addr×Obj)) (s:Gg) (σ:St) (H:Hp) (Q:VK),Inv X pins σ H s->t σ H Q->GK (GQ X.prog X.w) X.A (eval e X.env) (EP X pins σ Q) X.xe s
def PT(X:Cx)(e:Expr)(t:TT):Prop:=
 ∀(pins:List (Addr×Obj)) (s:Gg) (σ:St) (H:Hp) (Q:Bool->Hp->Prop),Inv X pins σ H s->t σ H Q->GK (GQ X.prog X.w) X.A (isTrue e X.env (eval e X.env)) (TP X pins σ Q) X.xe s
def PW(X:Cx)(e:Expr)(t:TT):Prop:=
 ∀(whole:Sem F_) (pins:List (Addr×Obj)) (s:Gg) (σ:St) (H:Hp) (Q:Bool->Hp->Prop),Inv X pins σ H s->t σ H Q->GK (GQ X.prog X.w) X.A (isTrue e X.env whole) (TP X pins σ Q) X.xe s
theorem PW.pt{X:Cx}{e:Expr}{t:TT}(h:PW X e t):PT X e t:=h _
def PA(X:Cx)(es:List Expr)(t:TA):Prop:=
 ∀(pos:Pos) (pins:List (Addr×Obj)) (s:Gg) (σ:St) (H:Hp) (Q:List V->Hp->Prop),Inv X pins σ H s->t σ H Q->GK (GQ X.prog X.w) X.A (spliced (HV pos (GI es X.env))) (AP X pins σ Q) X.xe s
def PS(X:Cx)(st:Stmt)(t:TS):Prop:=
 ∀(pins:List (Addr×Obj)) (s:Gg) (σ:St) (H:Hp) (D:eX),Inv X pins σ H s->t D σ H->GK (GQ X.prog X.w) X.A (exec st X.env) (SP X pins D) X.xe s
def PSs(X:Cx)(st:List Stmt)(t:TS):Prop:=
 ∀(pins:List (Addr×Obj)) (s:Gg) (σ:St) (H:Hp) (D:eX),Inv X pins σ H s->t D σ H->GK (GQ X.prog X.w) X.A (execs st X.env) (SP X pins D) X.xe s
theorem thn{α:Type}{t:Sem α}{Q Q':α->Gg->Prop}{M:Model}{A:Ha}{E:F_->Gg->Prop}{s:Gg}(h:GK M A t Q E s)(hQ:∀a s,Q a s->Q' a s):GK M A t Q' E s:=Hl h hQ λ_ _ x=>x
section
variable {X:Cx}

def Br(i:Nat):TE:=λσ H Q=>∃v,σ[i]?=some (some v)/\Q v H
def tC(v:V):TE:=λ_ H Q=>Q v H
theorem DT{i:Nat}{x:Str}{pos:Pos}(hN:X.N[i]?=some x)(hv:Vis X.env.scope x)(hd:(x==("__debug__" : Str))=false:=by decide)(hcd:(x==("__classdict__" : Str))=false:=by decide):PE X (.Name x pos) (Br i):=by
 intro pins s σ H Q I h;obtain⟨v,e,h⟩:=h;obtain⟨m,hn,hl⟩:=I.loc;obtain⟨u,r,l⟩:=hl i x v hN e hv;have fin:EP X pins σ Q u s:=⟨v,H,I,r,h⟩;rcases l with⟨hk,hm⟩|⟨hk,c,hc,hcell⟩
 .exact KM (wpAny_loadName_local I.ok.kind hk hn hm fin) hd
 .rcases hk with hk|hk
  .exact KM (wpAny_loadName_cell I.ok.kind hk hc hcell fin) hd
  .exact KM (wpAny_loadName_free I.ok.kind hk hc hcell fin hcd) hd
theorem ah{i j pos}:PE X (.Constant (.int i) j pos) (tC (.int i)):=λ_ _ _ H _ I h=>wpAny_Constant_int ⟨.int i,H,I.tok _,⟨_,rfl⟩,h⟩
theorem cN{b j pos}:PE X (.Constant (.bool b) j pos) (tC (.bl b)):=λ_ _ _ H _ I h=>Constant_bool ⟨.bl b,H,I,rfl,h⟩
theorem Ai{j pos}:PE X (.Constant .none j pos) (tC .non):=λ_ _ _ H _ I h=>Constant_none ⟨.non,H,I,rfl,h⟩
theorem aq{x j pos}:PE X (.Constant (.str x) j pos) (tC (.str x)):=λ_ _ _ H _ I h=>IT ⟨.str x,H,I.tok _,⟨_,rfl⟩,h⟩

def Gl(X:Cx)(x:Str):Prop:=X.env.kindOf x=some .globalImplicit
theorem jJ{E:F_->Gg->Prop}{pins:List (Addr×Obj)}{s:Gg}{σ:St}{H:Hp}{x:Str}{u:F_}{pos:Pos}{Q:F_->Gg->Prop}(I:Inv X pins σ H s)(hg:Gl X x)(hm:X.mg x=some u)(h:Q u s)
  (hd:(x==("__debug__" : Str))=false:=by decide):GK (GQ X.prog X.w) X.A (eval (.Name x pos) X.env) Q E s:=
 Calls.Name_function_global I.ok.kind hg (Calls.loadGlobal_global (by rw[I.ok.glob];exact I.mod.glob.keeps I.bk) hm h) hd
theorem lD{E:F_->Gg->Prop}{pins:List (Addr×Obj)}{s:Gg}{σ:St}{H:Hp}{x:Str}{u:F_}{pos:Pos}{Q:F_->Gg->Prop}(I:Inv X pins σ H s)(hg:Gl X x)(hm:X.mg x=none)(hv:Iq x=some u)(h:Q u s)
  (hn:x≠"__name__":=by decide)(hd:(x==("__debug__" : Str))=false:=by decide):GK (GQ X.prog X.w) X.A (eval (.Name x pos) X.env) Q E s:=by
 obtain⟨mb,h1,h2⟩:=I.mod.blt;exact Calls.Name_function_global I.ok.kind hg (Calls.loadGlobal_builtin (by rw[I.ok.glob];exact I.mod.glob.keeps I.bk) hm (by rw[I.ok.blt];exact h1.keeps I.bk) ((h2 x hn).trans hv) h) hd
theorem c6{x:Str}{v:V}{u:F_}{pos:Pos}(hg:Gl X x)(hm:X.mg x=some u)(r:bi v u)(hd:(x==("__debug__" : Str))=false:=by decide):PE X (.Name x pos) (tC v):=
 λ_ _ _ H _ I h=>jJ I hg hm ⟨v,H,I,r,h⟩ hd
theorem e_{x:Str}{v:V}{u:F_}{pos:Pos}(hg:Gl X x)(hm:X.mg x=none)(hv:Iq x=some u)(r:bi v u)(hn:x≠"__name__":=by decide)(hd:(x==("__debug__" : Str))=false:=by decide):PE X (.Name x pos) (tC v):=
 λ_ _ _ H _ I h=>lD I hg hm hv ⟨v,H,I,r,h⟩ hn hd

variable {a b:Expr}{ta tb:TE}{pos:Pos}
def tB(t:TE):TT:=λσ H Q=>t σ H λx H1=>∃c,x=.bl c/\Q c H1
theorem dL{e:Expr}{t:TE}(h:PE X e t)(he:∀whole,isTrue e X.env whole=(do let v<-whole;Kv e.pos;Jz [v] (truthy v)):=by intro _;rfl):PT X e (tB t):=by
 intro pins s σ H Q I hw;refine isTrue_plain (thn (h pins s σ H _ I hw) λv s1 ⟨x,H1,I1,r1,q1⟩=>?_) (he _);obtain⟨d,rfl,q⟩:=q1;cases r1;exact HN ⟨H1,I1,q⟩

variable {tA tB':TT}{rest:List Expr}
def DU(t u:TT):TT:=λσ H Q=>t σ H λc H1=>if c=true then u σ H1 Q else Q false H1
def tOr(t u:TT):TT:=λσ H Q=>t σ H λc H1=>if c=true then Q true H1 else u σ H1 Q
def Fu(t:TT):TT:=λσ H Q=>t σ H λc H1=>Q (!c) H1
theorem dU(ha:PT X a tA):PW X (.BoolOp .And [a] pos) tA:=by
 intro wh pins s σ H Q I h;refine KN (thn (ha pins s σ H Q I h) λc s1 e=>?_);cases c with
 |true=>exact isTrue_and_nil e
 |false=>exact e
theorem i7(ha:PT X a tA):PW X (.BoolOp .Or [a] pos) tA:=by
 intro wh pins s σ H Q I h;refine isTrue_or (thn (ha pins s σ H Q I h) λc s1 e=>?_);cases c with
 |false=>exact isTrue_or_nil e
 |true=>exact e
theorem fF(ha:PT X a tA)(hb:PW X (.BoolOp .And (b::rest) pos) tB'):PW X (.BoolOp .And (a::b::rest) pos) (DU tA tB'):=by
 intro wh pins s σ H Q I h;refine KN (thn (ha pins s σ H _ I h) λc s1 ⟨H1,I1,q1⟩=>?_);cases c with
 |true=>exact hb wh pins s1 σ H1 Q I1 q1
 |false=>exact⟨H1,I1,q1⟩
theorem iE(ha:PT X a tA)(hb:PW X (.BoolOp .Or (b::rest) pos) tB'):PW X (.BoolOp .Or (a::b::rest) pos) (tOr tA tB'):=by
 intro wh pins s σ H Q I h;refine isTrue_or (thn (ha pins s σ H _ I h) λc s1 ⟨H1,I1,q1⟩=>?_);cases c with
 |true=>exact⟨H1,I1,q1⟩
 |false=>exact hb wh pins s1 σ H1 Q I1 q1
theorem lE(ha:PT X a tA):PT X (.UnaryOp .Not a pos) (Fu tA):=by
 intro pins s σ H Q I h;exact isTrue_not (ha pins s σ H (λc H1=>Q (!c) H1) I h)
def EX(ta tb:TE):TE:=λσ H Q=>ta σ H λx H1=>∃c,x=.bl c/\if c=true then tb σ H1 Q else Q (.bl false) H1
def Fv(ta tb:TE):TE:=λσ H Q=>ta σ H λx H1=>∃c,x=.bl c/\if c=true then Q (.bl true) H1 else tb σ H1 Q
def EY(ta:TE):TE:=λσ H Q=>ta σ H λx H1=>∃c,x=.bl c/\Q (.bl (!c)) H1
theorem jw{op}{t:TE}(h:PE X a t):PE X (.BoolOp op [a] pos) t:=λpins s σ H Q I hw=>BoolOp_one (h pins s σ H Q I hw)
theorem j6(ha:PE X a ta)(hb:PE X (.BoolOp .And (b::rest) pos) tb):PE X (.BoolOp .And (a::b::rest) pos) (EX ta tb):=by
 intro pins s σ H Q I h;refine BoolOp_and (thn (ha pins s σ H _ I h) λv s1 ⟨x,H1,I1,r1,q1⟩=>?_);obtain⟨c,rfl,q1⟩:=q1;cases r1;refine HN ?_;cases c with
 |true=>exact hb pins s1 σ H1 Q I1 q1
 |false=>exact⟨.bl false,H1,I1,rfl,q1⟩
theorem Ct(ha:PE X a ta)(hb:PE X (.BoolOp .Or (b::rest) pos) tb):PE X (.BoolOp .Or (a::b::rest) pos) (Fv ta tb):=by
 intro pins s σ H Q I h;refine BoolOp_or (thn (ha pins s σ H _ I h) λv s1 ⟨x,H1,I1,r1,q1⟩=>?_);obtain⟨c,rfl,q1⟩:=q1;cases r1;refine HN ?_;cases c with
 |false=>exact hb pins s1 σ H1 Q I1 q1
 |true=>exact⟨.bl true,H1,I1,rfl,q1⟩
theorem DV(ha:PE X a ta):PE X (.UnaryOp .Not a pos) (EY ta):=by
 intro pins s σ H Q I h;refine UnaryOp_ (thn (ha pins s σ H _ I h) λv s1 ⟨x,H1,I1,r1,q1⟩=>?_);obtain⟨c,rfl,q1⟩:=q1;cases r1;exact not_of (HN ⟨.bl (!c),H1,I1,rfl,q1⟩)
end

def SqL(K:PySem.W.Frag)(H:Hp)(a:Addr)(xs:List V):Prop:=
 Rd H a (.lst xs)\/
  ∃(o:Obj) (its:Array F_) (n:Nat),K.lookup a=some o/\o.cls=.type "list"/\o.dict=none/\o.data=.seq its n/\its.size<=Gv/\a8 xs its.toList
def SqT(K:PySem.W.Frag)(H:Hp)(a:Addr)(xs:List V):Prop:=
 Rd H a (.tup xs)\/
  ∃(o:Obj) (its:Array F_) (n:Nat),K.lookup a=some o/\o.cls=.type "tuple"/\o.data=.seq its n/\its.size<=Gv/\a8 xs its.toList
def Fw:F_->Option V
 |.none=>some .non
 |.bool b=>some (.bl b)
 |.int i _=>some (.int i)
 |.str x _=>some (.str x)
 |.bytes b _=>some (.byt b)
 |.float b _=>some (.flt b)
 |.ref a=>some (.ref a)
 |.type n=>some (.ty n)
 |_=>none
theorem bi.abs{x:V}{u:F_}(r:bi x u):Fw u=some x:=by
 cases x with
 |non=>cases r;rfl
 |bl _=>cases r;rfl
 |int _=>obtain⟨t,rfl⟩:=r;rfl
 |str _=>obtain⟨t,rfl⟩:=r;rfl
 |byt _=>obtain⟨t,rfl⟩:=r;rfl
 |flt _=>obtain⟨t,rfl⟩:=r;rfl
 |ref _=>cases r;rfl
 |ty _=>cases r;rfl
theorem bi.inj{x y:V}{u:F_}(r:bi x u)(q:bi y u):x=y:=GW (r.abs.symm.trans q.abs)
theorem a8.inj:∀{xs ys:List V} {us:List F_},a8 xs us->a8 ys us->xs=ys
 |_,_,_,.nil,.nil=>rfl
 |_,_,_,.cons r t,.cons r' t'=>by rw[r.inj r',a8.inj t t']
section
variable {X:Cx}{pins:List (Addr×Obj)}{σ:St}{H:Hp}{s:Gg}{a:Addr}{xs ys:List V}
theorem SqL.of{K:PySem.W.Frag}(h:H a=some (.lst xs)):SqL K H a xs:=.inl (.inl h)
theorem SqT.of{K:PySem.W.Frag}(h:H a=some (.tup xs)):SqT K H a xs:=.inl (.inl h)
theorem Inv.list(I:Inv X pins σ H s)(h:SqL X.K H a xs):∃its:List F_,a8 xs its/\PlainL s.heap a its.toArray/\xs.length<=Gv:=by
 rcases h with h|⟨o,its,n,hk,hc,hd,hs,hz,r⟩
 .obtain⟨z,its,n,r,e⟩:=h.ok I.hok;exact⟨its,r,⟨_,n,e,rfl,rfl,rfl⟩,z⟩
 .refine⟨its.toList,r,⟨o,n,I.kIn a o hk,hc,hd,by simpa using hs⟩,?_⟩;have e:=r.length;simp only[Ii]at e;omega
theorem Inv.tuple(I:Inv X pins σ H s)(h:SqT X.K H a xs):∃its:List F_,a8 xs its/\IsTup s.heap a its.toArray/\xs.length<=Gv:=by
 rcases h with h|⟨o,its,n,hk,hc,hs,hz,r⟩
 .obtain⟨z,its,r,p⟩:=h.ok I.hok;exact⟨its,r,p,z⟩
 .refine⟨its.toList,r,⟨o,I.kIn a o hk,hc,n,by simpa using hs⟩,?_⟩;have e:=r.length;simp only[Ii]at e;omega
theorem Inv.list_inj(I:Inv X pins σ H s)(h:SqL X.K H a xs)(h':SqL X.K H a ys):xs=ys:=by
 obtain⟨its,r,⟨o,n,e,_,_,d⟩,_⟩:=I.list h;obtain⟨its',r',⟨o',n',e',_,_,d'⟩,_⟩:=I.list h';rw[e]at e';cases e';rw[d]at d';injection d' with d1 _;have:its=its':=by simpa using congrArg Array.toList d1
 subst this;exact r.inj r'
end

abbrev Cx.wish(X:Cx)(E:F_->Gg->Prop):Cx:={ X with xe:=E }
abbrev Cx.nox(X:Cx):Cx:=X.wish λ_ _=>False
theorem Cx.Ok.wish{X:Cx}(ok:X.Ok)(E:F_->Gg->Prop):(X.wish E).Ok:=
 ⟨ok.mod,ok.kind,ok.glob,ok.blt,ok.above,ok.inj,ok.has,ok.cab,ok.hd,ok.frames,ok.stk,ok.exf,ok.bs,ok.bsz,ok.noex,ok.exfs,ok.funs,ok.frf⟩
theorem Cx.Ok.unwish{X:Cx}{E:F_->Gg->Prop}(ok:(X.wish E).Ok):X.Ok:=
 ⟨ok.mod,ok.kind,ok.glob,ok.blt,ok.above,ok.inj,ok.has,ok.cab,ok.hd,ok.frames,ok.stk,ok.exf,ok.bs,ok.bsz,ok.noex,ok.exfs,ok.funs,ok.frf⟩
section
variable {X:Cx}{pins:List (Addr×Obj)}{σ:St}{H:Hp}{s:Gg}{E:F_->Gg->Prop}
theorem Inv.wish(I:Inv X pins σ H s)(E:F_->Gg->Prop):Inv (X.wish E) pins σ H s:=⟨I.ok.wish E,I.os,I.bare,I.base,I.loc,I.cell,I.free,I.freeC,I.pin,I.hok,I.len⟩
theorem Inv.unwish(I:Inv (X.wish E) pins σ H s):Inv X pins σ H s:=⟨I.ok.unwish,I.os,I.bare,I.base,I.loc,I.cell,I.free,I.freeC,I.pin,I.hok,I.len⟩
theorem SP.unwish{D:eX}{f:Flow}{s':Gg}(h:SP (X.wish E) pins D f s'):SP X pins D f s':=by
 cases f with
 |next=>obtain⟨σ',H',I,q⟩:=h;exact⟨σ',H',I.unwish,q⟩
 |brk=>obtain⟨σ',H',I,q⟩:=h;exact⟨σ',H',I.unwish,q⟩
 |cont=>obtain⟨σ',H',I,q⟩:=h;exact⟨σ',H',I.unwish,q⟩
 |ret u=>obtain⟨v,σ',H',I,r,q⟩:=h;exact⟨v,σ',H',I.unwish,r,q⟩
theorem PSs.nox{st:List Stmt}{t:TS}(h:PSs X.nox st t):PSs X st t:=λpins s σ H D I hw =>
 Hl (h pins s σ H D (I.wish _) hw) (λ_ _ q=>q.unwish) λ_ _ z=>HD z
end

section
variable {X:Cx}{st:Stmt}{rest:List Stmt}{t u:TS}{e:Expr}{te:TE}{pos:Pos}
def fV:TS:=λD σ H=>D.nx σ H
def Bs(t u:TS):TS:=λD σ H=>t { D with nx:=u D } σ H
theorem aK:PSs X [] fV:=λ_ _ σ H _ I h=>Iv ⟨σ,H,I,h⟩
theorem ag(h1:PS X st t)(h2:PSs X rest u):PSs X (st::rest) (Bs t u):=by
 intro pins s σ H D I h;refine Jh (thn (h1 pins s σ H { D with nx:=u D } I h) λf s1 q=>?_);cases f with
 |next =>
  obtain⟨σ',H',I',q⟩:=q;exact h2 pins s1 σ' H' D I' q
 |ret v=>exact q
 |brk=>exact q
 |cont=>exact q
theorem ai(h1:PS X st t):PSs X [st] t:=by
 intro pins s σ H D I h;refine Jh (thn (h1 pins s σ H D I h) λf s1 q=>?_);cases f with
 |next=>exact Iv q
 |ret v=>exact q
 |brk=>exact q
 |cont=>exact q
theorem Inv.quiet{pins:List (Addr×Obj)}{σ:St}{H:Hp}{s:Gg}(I:Inv X pins σ H s):interactive X.env=false:=by simp[interactive,I.ok.kind]
def EZ(te:TE):TS:=λD σ H=>te σ H λ_ H1=>D.nx σ H1
theorem bj(he:PE X e te)(hs:IW e none pos.line X.env=pure false:=by rfl):PS X (.Expr e pos) (EZ te):=by
 intro pins s σ H D I h;exact wpAny_Expr_any (thn (he pins s σ H _ I h) λv s1 ⟨x,H1,I1,r1,q1⟩=>⟨σ,H1,I1,q1⟩) I.quiet hs
def Fx(te:TE):TS:=λD σ H=>te σ H D.rt
theorem aP(he:PE X e te):PS X (.Return (some e) pos) (Fx te):=by
 intro pins s σ H D I h;exact wpAny_Return_some (thn (he pins s σ H _ I h) λv s1 ⟨x,H1,I1,r1,q1⟩=>⟨x,σ,H1,I1,r1,q1⟩)
def E1:TS:=λD _ H=>D.rt .non H
theorem CS:PS X (.Return none pos) E1:=λ_ _ σ H _ I h=>wpAny_Return_none ⟨.non,σ,H,I,rfl,h⟩
def DW(c:TT)(t u:TS):TS:=λD σ H=>c σ H λb H1=>if b=true then t D σ H1 else u D σ H1
theorem aI{c:Expr}{a b:List Stmt}{tc:TT}(hc:PT X c tc)(ha:PSs X a t)(hb:PSs X b u):PS X (.If c a b pos) (DW tc t u):=by
 intro pins s σ H D I h;refine wpAny_If (thn (hc pins s σ H _ I h) λd s1 ⟨H1,I1,q1⟩=>?_);cases d with
 |true=>exact ha pins s1 σ H1 D I1 q1
 |false=>exact hb pins s1 σ H1 D I1 q1
def Aj:TS:=λ_ _ _=>False
theorem fW:PS X st Aj:=λ_ _ _ _ _ _ h=>h.elim
theorem gW{sts:List Stmt}:PSs X sts Aj:=λ_ _ _ _ _ _ h=>h.elim
end

abbrev TG:=V->St->Hp->(St->Hp->Prop)->Prop
abbrev TGs:=List V->St->Hp->(St->Hp->Prop)->Prop
def PG(X:Cx)(target:Expr)(t:TG):Prop:=
 ∀(pins:List (Addr×Obj)) (s:Gg) (σ:St) (H:Hp) (v:V) (u:F_) (Q:St->Hp->Prop),Inv X pins σ H s->bi v u->t v σ H Q->
  GK (GQ X.prog X.w) X.A (Ks target X.env u) (λ_ s'=>∃σ' H',Inv X pins σ' H' s'/\Q σ' H') X.xe s
def PGs(X:Cx)(ts:List Expr)(t:TGs):Prop:=
 ∀(pins:List (Addr×Obj)) (s:Gg) (σ:St) (H:Hp) (vs:List V) (us:List F_) (Q:St->Hp->Prop),Inv X pins σ H s->a8 vs us->t vs σ H Q->
  GK (GQ X.prog X.w) X.A (assignInOrder ((JD ts X.env).map (·.2)) us) (λ_ s'=>∃σ' H',Inv X pins σ' H' s'/\Q σ' H') X.xe s
abbrev Bt:=V->V->V->Hp->(Hp->Prop)->Prop
def DX(X:Cx)(t:Bt):Prop:=
 ∀(pins:List (Addr×Obj)) (s:Gg) (σ:St) (H:Hp) (o i v:V) (ov iv u:F_) (Q:Hp->Prop),Inv X pins σ H s->bi o ov->bi i iv->bi v u->t o i v H Q->
  GK (GQ X.prog X.w) X.A (setItem ov iv u) (λ_ s'=>∃H',Inv X pins σ H' s'/\Q H') X.xe s
section
variable {X:Cx}{pos:Pos}
def bD(i:Nat):TG:=λv σ H Q=>Q (σ.set i (some v)) H
theorem aS{i:Nat}{x:Str}(hN:X.N.Nodup)(hi:X.N[i]?=some x)(hx:Loc X.env.scope x)(hf:X.fn x=true\/X.env.scope.names.lookup x=some .local:=by first|exact .inl rfl|exact .inr rfl|assumption):PG X (.Name x pos) (bD i):=by
 intro pins s σ H v u Q I r h;exact wpAny_assign_Name (oC I hN hi hx r (λs' I'=>⟨_,H,I',h⟩) hf)
def Bu:TGs:=λvs σ H Q=>vs=[]/\Q σ H
def rR(t:TG)(u:TGs):TGs:=λvs σ H Q=>∃v r,vs=v::r/\t v σ H λσ' H'=>u r σ' H' Q
theorem dW:PGs X [] Bu:=by
 intro pins s σ H vs us Q I r h;obtain⟨e,h⟩:=h;subst e;cases r;exact assignInOrder_nil ⟨σ,H,I,h⟩
theorem bf{e:Expr}{es:List Expr}{t:TG}{u:TGs}(h1:PG X e t)(h2:PGs X es u)
  (hs:(JD (e::es) X.env).map (·.2)=Ks e X.env::(JD es X.env).map (·.2):=by rfl):PGs X (e::es) (rR t u):=by
 intro pins s σ H vs us Q I r h;obtain⟨v,vr,e1,h⟩:=h;subst e1;cases r with
 |cons r rr =>
  rw[hs];refine assignInOrder_cons (thn (h1 pins s σ H _ _ _ I r h) λ_ s1 ⟨σ1,H1,I1,q1⟩=>?_);exact h2 pins s1 σ1 H1 _ _ Q I1 rr q1
def Bv(K:PySem.W.Frag)(n:Nat)(t:TGs):TG:=λv σ H Q=>∃a xs,v=.ref a/\SqT K H a xs/\xs.length=n/\t xs σ H Q
theorem fc{es:List Expr}{k:Nat}{t:TGs}{n:Nat}(hc:X.calm=true)(h:PGs X es t)
  (hn:(JD es X.env).length=n:=by rfl)(hst:(JD es X.env).findIdx? (·.1)=none:=by rfl):PG X (.Tuple es k pos) (Bv X.K n t):=by
 intro pins s σ H v u Q I r hw;obtain⟨a,xs,e1,hq,hl,hw⟩:=hw;subst e1;cases r;obtain⟨its,rv,ht,hz⟩:=I.tuple hq;refine assign_Tuple_tuple (I.ok.hd hc) ht (by simp[hn,<-hl,rv.length]) hst λh' hx=>?_;have I1:Inv X pins σ H { s with heap:=h' }:=I.kept (t':=s.toks) λb o e=>hx b o (Gx (Gn e)) e;exact h pins _ σ H xs _ Q I1 (by simpa using rv) hw
def Fy(to ti:TE)(t:Bt):TG:=λv σ H Q=>to σ H λo H1=>ti σ H1 λi H2=>t o i v H2 λH3=>Q σ H3
theorem nQ{o i:Expr}{to ti:TE}{t:Bt}(ho:PE X o to)(hi:PE X i ti)(hs:DX X t)
  (ha:∀ v,Ks (.Subscript o i pos) X.env v=(do
   let ov<-Jz [v] (eval o X.env)
   let iv<-Jz [v,ov] (eval i X.env)
   Kv pos
   Jz [v,ov,iv] (setItem ov iv v)
   release [v,ov,iv] []):=by intro _;rfl):PG X (.Subscript o i pos) (Fy to ti t):=by
 intro pins s σ H v u Q I r h;rw[ha];refine Gq (IL (thn (ho pins s σ H _ I h) λov s1 ⟨x,H1,I1,r1,q1⟩=>?_));refine Gq (IL (thn (hi pins s1 σ H1 _ I1 q1) λiv s2 ⟨y,H2,I2,r2,q2⟩=>?_));refine Gq (Kl (Gq (IL (thn (hs pins s2 σ H2 x y v ov iv u _ I2 r1 r2 r q2) λ_ s3 ⟨H3,I3,q3⟩=>?_))));exact wpAny_release ⟨σ,H3,I3,q3⟩
def qg(te:TE)(g:TG):TS:=λD σ H=>te σ H λx H1=>g x σ H1 D.nx
theorem nR{tg e:Expr}{te:TE}{g:TG}(he:PE X e te)(hg:PG X tg g)(hs:swapsWithSole [tg] e pos.line X.env=pure false:=by rfl)(hw:swappedStores [tg] e X.env=pure none:=by rfl)
  (h1:(JD [tg] X.env).map (·.2)=[Ks tg X.env]:=by rfl):PS X (.Assign [tg] e pos) (qg te g):=by
 intro pins s σ H D I h;refine wpAny_Assign_stores (thn (he pins s σ H _ I h) λv s1 ⟨x,H1,I1,r1,q1⟩=>?_) hs hw;rw[h1];exact thn (hg pins s1 σ H1 x v _ I1 r1 q1) λ_ s2 q=>q
theorem aA{i:Nat}{x:Str}{e:Expr}{te:TE}{pos':Pos}(hN:X.N.Nodup)(hi:X.N[i]?=some x)(hx:Loc X.env.scope x)(he:PE X e te)(hs:IW e (some (.Name x pos')) pos.line X.env=pure false:=by rfl)(hf:X.fn x=true\/X.env.scope.names.lookup x=some .local:=by first|exact .inl rfl|exact .inr rfl|assumption) :
  PS X (.Assign [.Name x pos'] e pos) (qg te (bD i)):=by
 intro pins s σ H D I h;refine JN (thn (he pins s σ H _ I h) λv s1 ⟨y,H1,I1,r1,q1⟩=>?_) hs;exact oC I1 hN hi hx r1 (λs2 I2=>⟨_,H1,I2,q1⟩) hf
end

section
variable {X:Cx}{pos:Pos}
end

structure It where
 go:Nat->Hp->Prop
 yld:Nat->Hp->V->Hp->Prop
 stop:Nat->Hp->Prop
def qh(X:Cx)(pins:List (Addr×Obj))(H:Hp)(b:Addr):Prop:=
 H b=none/\b≠X.env.locals/\b∉X.fs/\(b∈X.ex\/X.s₀.heap.objs.size<=b)/\(∀x c,X.env.cells.lookup x=some c->c≠b)/\∀p∈X.pn++pins,p.1≠b
theorem Inv.fpOk{X:Cx}{pins:List (Addr×Obj)}{σ:St}{H H':Hp}{s:Gg}{b:Addr}(I:Inv X pins σ H s)(hb:s.heap.objs.size<=b)(hn:H' b=none):qh X pins H' b:=by
 refine⟨hn,HM (GG I.lt hb),I.nofs hb,.inr (GM I.sz hb),λx c e z=>?_,λp hp z=>?_⟩
 .obtain⟨v,q⟩:=I.cell x c e;exact absurd (GG q.lt (by rw[z];exact hb)) (Hu _)
 .exact absurd (GG (Gn (I.pin p hp).1) (by rw[z];exact hb)) (Hu _)
structure oE(P:GH)(w:GJ)(K:PySem.W.Frag)(tg:Expr)(J:It)(fp:List Addr)(it:Addr)(tn:Nat->Heap->Prop):Prop where
 mem:it∈fp
 obj:∀i h,tn i h->∀b∈fp,∃o,h.get? b=some o/\∀v,o.data≠.cell v
 keep:∀i h h',tn i h->(∀b∈fp,∀o,h.get? b=some o->h'.get? b=some o)->tn i h'
 item:∀(X:Cx),X.prog=P->X.w=w->X.K=K->X.calm=true->∀(i:Nat) (pins:List (Addr×Obj)) (s:Gg) (σ:St) (H:Hp) (E:F_->Gg->Prop),Inv X pins σ H s->(∀b∈fp,qh X pins H b)->tn i s.heap->J.go i H->
  GK (GQ P w) X.A (pyNext (.ref it)) (λr s1=>∃u,r=some u/\
   GK (GQ P w) X.A (Js tg (.ref it) u) (λ_ s2=>∃x H',Inv X pins σ H' s2/\bi x u/\J.yld i H x H'/\tn (i+1) s2.heap/\∀b∈fp,H' b=none) E s1) E s
 done:∀(X:Cx),X.prog=P->X.w=w->X.K=K->X.calm=true->∀(i:Nat) (pins:List (Addr×Obj)) (s:Gg) (σ:St) (H:Hp) (E:F_->Gg->Prop),Inv X pins σ H s->(∀b∈fp,qh X pins H b)->tn i s.heap->J.stop i H->
  GK (GQ P w) X.A (pyNext (.ref it)) (λr s1=>r=none/\Inv X pins σ H s1) E s
 self:∀(A:Ha) (i:Nat) (s:Gg) (Q:F_->Gg->Prop) (E:F_->Gg->Prop),tn i s.heap->Q (.ref it) s->GK (GQ P w) A (KO (.ref it)) Q E s
abbrev TI:=St->Hp->(It->Hp->Prop)->Prop
def PIE(X:Cx)(pins:List (Addr×Obj))(σ:St)(tg:Expr)(R:It->Hp->Prop)(itv:F_)(s2:Gg):Prop:=
 ∃(it:Addr) (fp:List Addr) (tn:Nat->Heap->Prop) (J:It) (H':Hp),itv=.ref it/\Inv X pins σ H' s2/\oE X.prog X.w X.K tg J fp it tn/\tn 0 s2.heap/\(∀b∈fp,qh X pins H' b)/\R J H'
def PI(X:Cx)(tg iter:Expr)(wi:TI):Prop:=
 ∀(pins:List (Addr×Obj)) (s:Gg) (σ:St) (H:Hp) (R:It->Hp->Prop),Inv X pins σ H s->wi σ H R->
  GK (GQ X.prog X.w) X.A (eval iter X.env) (λv s1=>GK (GQ X.prog X.w) X.A (KO v) (PIE X pins σ tg R) X.xe s1) X.xe s

theorem vT{M:Model}{A:Ha}{E:F_->Gg->Prop}{s:Gg}{tg:Expr}{it:Addr}{u:F_}{o:Obj}{n:String}{vs:Array F_}{Q:Unit->Gg->Prop}(ho:s.heap.get? it=some o)(hc:o.cls=.type n)(hd:o.data=.fields vs)
  (hn:["enumerate","zip","dict_itemiterator","dict_reverseitemiterator","odict_iterator","itertools.zip_longest","itertools.pairwise"].contains n=false)(hQ:Q () s):GK M A (Js tg (.ref it) u) Q E s:=by
 unfold Js;cases tg<;>first
  |exact GO hQ
  |(cases u<;>first
    |exact GO hQ
    | (refine Gq (wpAny_load ho ?_)
       rw[hc,hd];show GK M A (if(["enumerate","zip","dict_itemiterator","dict_reverseitemiterator","odict_iterator","itertools.zip_longest","itertools.pairwise"].contains n&&vs[0]?==some (rawInt _))=true then _ else _) Q E s;rw[if_neg (by intro h;rw[hn,JE]at h;cases h)];exact GO hQ))

def Itl(K:PySem.W.Frag)(a:Addr):It:=
 ⟨λi H=>∃xs x,SqL K H a xs/\xs[i]?=some x,λi H x H'=>H'=H/\∀xs,SqL K H a xs->xs[i]?=some x,λi H=>∃xs,SqL K H a xs/\xs.length<=i⟩
def Itr(lo:Int)(n:Nat):It:=⟨λi _=>i<n,λi H x H'=>H'=H/\x=.int (lo+i),λi _=>n<=i⟩
theorem Ak{P:GH}{w:GJ}{K:PySem.W.Frag}{tg:Expr}(a it:Addr):oE P w K tg (Itl K a) [it] it (λi h=>h.IsListIter it a i) where
 mem:=by simp
 obj:=λi h st b hb=>by
  have e:b=it:=by simpa using hb
  subst e;obtain⟨o,e,c,d⟩:=st;exact⟨o,e,λv z=>by rw[d]at z;cases z⟩
 keep:=λi h h' st k=>st.at λo e=>k it (by simp) o e
 item:=by
  intro X hP hw hK hc i pins s σ H E I hf st hg;subst hP hw hK;obtain⟨xs,x,hq,hx⟩:=hg;obtain⟨its,rv,p,hz⟩:=I.list hq;obtain⟨u,hu,ru⟩:=rv.get hx;obtain⟨f0,f1,f2,f3,f4,f5⟩:=hf it (by simp);refine wpAny_pyNext_list_item st p.isList (x:=u) (by simpa using hu) λh' st' sb=>?_;have I1:Inv X pins σ H { s with heap:=h' }:=I.turned (t':=s.toks) (λb o hb e=>(sb.2 b hb).trans e) f0 f1 f3 f4 f5;obtain⟨o,e,c,d⟩:=id st';exact⟨u,rfl,vT (s:={ s with heap:=h' }) e c d (by decide) ⟨x,H,I1,ru,⟨rfl,λys hy=>by rw[I.list_inj hy hq];exact hx⟩,st',λb hb=>(hf b hb).1⟩⟩
 done:=by
  intro X hP hw hK hc i pins s σ H E I hf st hg;subst hP hw hK;obtain⟨xs,hq,hx⟩:=hg;obtain⟨its,rv,p,hz⟩:=I.list hq;obtain⟨f0,f1,f2,f3,f4,f5⟩:=hf it (by simp);have hl:=rv.length;exact wpAny_pyNext_list_end (I.ok.hd hc) st p.isList (by simp;omega) λh' eb=>⟨rfl,I.turned (t':=s.toks) (λb o hb e=>eb b o hb e) f0 f1 f3 f4 f5⟩
 self:=λ_ _ _ _ _ st h=>wpAny_pyIter_listiter st h
theorem y8{P:GH}{w:GJ}{K:PySem.W.Frag}{tg:Expr}(it:Addr)(lo:Int)(n:Nat):oE P w K tg (Itr lo n) [it] it (λi h=>IsRangeIter h it (lo+(i:Nat)*1) ((n:Int)-(i:Nat)) 1) where
 mem:=by simp
 obj:=λi h st b hb=>by
  have e:b=it:=by simpa using hb
  subst e;exact⟨_,st,λv z=>by
   have z':IY _=Data.cell v:=z;cases z'⟩
 keep:=λi h h' st k=>k it (by simp) _ st
 item:=by
  intro X hP hw hK hc i pins s σ H E I hf st hg;subst hP hw hK;obtain⟨f0,f1,f2,f3,f4,f5⟩:=hf it (by simp);have W:=Walks.range (prog:=X.prog) (w:=X.w) (I.ok.hd hc) it lo 1 n;refine W.item i s _ _ hg st λv h' tk hv st' kk=>?_;obtain⟨t,rfl⟩:=hv;have I1:Inv X pins σ H { s with heap:=h',toks:=tk }:=I.turned (λb o hb e=>kk b o (by simpa using hb) e) f0 f1 f3 f4 f5;refine⟨_,rfl,vT (s:={ s with heap:=h',toks:=tk }) (n := "range_iterator") st' rfl rfl (by decide) ⟨.int (lo+i),H,I1,⟨t,?_⟩,⟨rfl,rfl⟩,st',λb hb=>(hf b hb).1⟩⟩;rw[Int.mul_one]
 done:=by
  intro X hP hw hK hc i pins s σ H E I hf st hg;subst hP hw hK;obtain⟨f0,f1,f2,f3,f4,f5⟩:=hf it (by simp);exact wpAny_pyNext_range_end (I.ok.hd hc) st (by have:n<=i:=hg;omega) λh' eb=>⟨rfl,I.turned (t':=s.toks) (λb o hb e=>eb b o hb e) f0 f1 f3 f4 f5⟩
 self:=λ_ _ _ _ _ st h=>wpAny_pyIter_rangeiter st h
section
variable {X:Cx}{tg:Expr}
def Cu(K:PySem.W.Frag)(tl:TE):TI:=λσ H R=>tl σ H λx H1=>∃a,x=.ref a/\(∃xs,SqL K H1 a xs)/\R (Itl K a) H1
theorem bq{l:Expr}{tl:TE}(hl:PE X l tl):PI X tg l (Cu X.K tl):=by
 intro pins s σ H R I h;refine thn (hl pins s σ H _ I h) λv s1 ⟨x,H1,I1,r1,q1⟩=>?_;obtain⟨a,e,⟨xs,hq⟩,q⟩:=q1;subst e;cases r1;obtain⟨its,rv,p,hz⟩:=I1.list hq;refine I0 p.isList ?_;refine⟨s1.heap.objs.size,[s1.heap.objs.size],_,_,H1,rfl,I1.kept (t':=s1.toks) λb o e=>Go _ e,Ak a _,⟨_,GN _ rfl,rfl,rfl⟩,λb hb=>?_,q⟩;have e:b=s1.heap.objs.size:=by simpa using hb
 subst e;exact I1.fpOk (Gi _) (I1.hok.fresh (Gi _))
theorem wP{pins:List (Addr×Obj)}{σ:St}{H:Hp}{s:Gg}{R:It->Hp->Prop}{E:F_->Gg->Prop}{lo hi:Int}{t u v:Tok}{tk:Nat}(I:Inv X pins σ H s)(h1:-(2^62)<=lo)(h2:lo<2^62)(h3:-(2^62)<=hi)(h4:hi<2^62)
  (q:R (Itr lo (hi-lo).toNat) H):GK (GQ X.prog X.w) X.A (KO (.ref s.heap.objs.size)) (PIE X pins σ tg R) E { s with heap:=s.heap.push { cls:=.type "range",data:=.fields #[.int lo t,.int hi u,.int 1 v] },toks:=tk }:=by
 refine wpAny_pyIter_range (IsRange.new ..) (small_one h1 h2 h3 h4) ?_;have I1:Inv X pins σ H { s with heap:=s.heap.push { cls:=.type "range",data:=.fields #[.int lo t,.int hi u,.int 1 v] },toks:=tk }:=I.kept λb o e=>Go _ e;refine⟨(s.heap.push { cls:=.type "range",data:=.fields #[.int lo t,.int hi u,.int 1 v] }).objs.size,[(s.heap.push { cls:=.type "range",data:=.fields #[.int lo t,.int hi u,.int 1 v] }).objs.size],_,_,H,rfl,
  I1.kept (t':=tk) λb o e=>Go _ e,y8 _ lo (hi-lo).toNat,?_,λb hb=>?_,q⟩
 .have e1:lo+((0:Nat):Int)*1=lo:=by simp
  have e2:(((hi-lo).toNat:Nat):Int)-((0:Nat):Int)=Builtin.Range.rangeSize lo hi 1:=by rw[rangeSize_one];split<;>omega
  show IsRangeIter _ _ (lo+((0:Nat):Int)*1) ((((hi-lo).toNat:Nat):Int)-((0:Nat):Int)) 1;rw[e1,e2];exact GN _ rfl
 .have e:b=(s.heap.push { cls:=.type "range",data:=.fields #[.int lo t,.int hi u,.int 1 v] }).objs.size:=by simpa using hb
  subst e;exact I1.fpOk (Gi _) (I1.hok.fresh (Gi _))
def E3(ta:TA):TI:=λσ H R=>ta σ H λvs H1=>∃j:Int,vs=[.int j]/\-(2^62)<=j/\j<2^62/\R (Itr 0 j.toNat) H1
def E4(ta:TA):TI:=λσ H R=>ta σ H λvs H1=>∃i j:Int,vs=[.int i,.int j]/\(-(2^62)<=i/\i<2^62/\-(2^62)<=j/\j<2^62)/\R (Itr i (j-i).toNat) H1
theorem mD{a:Expr}{ta:TA}{p pos:Pos}(hg:Gl X "range")(hm:X.mg "range" = none)(ha:PA X [a] ta)(hs:GI [a] X.env=[(false,eval a X.env)]:=by rfl):PI X tg (.Call (.Name "range" p) [a] [] pos) (E3 ta):=by
 intro pins s σ H R I h;refine Call_ (lD I hg hm boot_range (HH (thn (ha pos pins s σ H _ I h) λus s1 ⟨vs,H1,I1,r1,q1⟩=>?_) hs rfl));obtain⟨j,e,q1,q2,q⟩:=q1;subst e;cases r1 with
 |cons r rr =>
  cases rr;obtain⟨t,rfl⟩:=r;exact call_range_1 (wP I1 (by omega) (by omega) q1 q2 (by simpa using q))
theorem u5{a b:Expr}{ta:TA}{p pos:Pos}(hg:Gl X "range")(hm:X.mg "range" = none)(ha:PA X [a,b] ta)(hs:GI [a,b] X.env=[(false,eval a X.env),(false,eval b X.env)]:=by rfl)(hs2:GI [b] X.env=[(false,eval b X.env)]:=by rfl) :
  PI X tg (.Call (.Name "range" p) [a,b] [] pos) (E4 ta):=by
 intro pins s σ H R I h;refine Call_ (lD I hg hm boot_range (HH (thn (ha pos pins s σ H _ I h) λus s1 ⟨vs,H1,I1,r1,q1⟩=>?_) (by rw[hs,hs2]) (by rw[hs2];rfl)));obtain⟨i,j,e,⟨q1,q2,q3,q4⟩,q⟩:=q1;subst e;cases r1 with
 |cons r rr =>
  cases rr with
  |cons r' rr =>
   cases rr;obtain⟨t,rfl⟩:=r;obtain⟨t',rfl⟩:=r';exact call_range_2 (wP I1 q1 q2 q3 q4 q)

def DY(wi:TI)(g:TG)(tb:TS):TS:=λD σ H=>wi σ H λJ H1=>∃W:Nat->Nat->St->Hp->Prop,(∃m,W 0 m σ H1)/\∀i m σ H,W i m σ H->
 (J.stop i H/\D.nx σ H)\/(J.go i H/\∃N:St->Hp->Prop,(∀σ' H',N σ' H'->∃m',m'<m/\W (i+1) m' σ' H')/\∀x H',J.yld i H x H'->g x σ H' λσ2 H2=>tb { D with nx:=N,ct:=N,bk:=D.nx } σ2 H2)
def qi(fp:List Addr)(h:Heap):List (Addr×Obj):=fp.filterMap λb=>(h.get? b).map λo=>(b,o)
theorem kW{fp:List Addr}{h:Heap}{b:Addr}{o:Obj}(hb:b∈fp)(e:h.get? b=some o):(b,o)∈qi fp h:=List.mem_filterMap.mpr ⟨b,hb,by rw[e];rfl⟩
theorem Al{fp:List Addr}{h:Heap}{p:Addr×Obj}(hp:p∈qi fp h):p.1∈fp/\h.get? p.1=some p.2:=by
 obtain⟨b,hb,e⟩:=List.mem_filterMap.mp hp;cases q:h.get? b with
 |none=>rw[q]at e;cases e
 |some o =>
  rw[q]at e;have e':(b,o)=p:=GW e;subst e';exact⟨hb,q⟩
theorem Inv.pinned{pins:List (Addr×Obj)}{σ:St}{H:Hp}{s:Gg}{fp:List Addr}(I:Inv X pins σ H s)(hf:∀b∈fp,qh X pins H b)(ho:∀b∈fp,∃o,s.heap.get? b=some o/\∀v,o.data≠.cell v):Inv X (pins++qi fp s.heap) σ H s:=
 I.pins_of λp hp=>(List.mem_append.mp hp).elim (λz=>I.pin p (GS _ z)) λz=>by
  obtain⟨hb,e⟩:=Al z;obtain⟨f0,f1,f2,_⟩:=hf p.1 hb;obtain⟨o,e',d⟩:=ho p.1 hb;rw[e]at e';cases e';exact⟨e,f0,f1,f2,d⟩
theorem Inv.unpinned{pins pl:List (Addr×Obj)}{σ:St}{H:Hp}{s:Gg}(I:Inv X (pins++pl) σ H s):Inv X pins σ H s:=I.pins_of λp hp=>I.pin p (GS _ (HG _ hp))
theorem cA{iter:Expr}{body:List Stmt}{wi:TI}{g:TG}{tb:TS}{pos:Pos}(hp:PassesOwn (GQ X.prog X.w) X.A X.env X.xe)(hc:X.calm=true)(hi:PI X tg iter wi)(hg:PG X tg g)(hb:PSs X body tb)
  (hs:∀x,HE iter X.env x=pure x:=by intro _;rfl):PS X (.For tg iter body [] pos) (DY wi g tb):=by
 intro pins s σ H D I h;refine wpAny_For (thn (hi pins s σ H _ I h) λv s1 h1=>thn h1 λitv s2 h2=>?_) hs;obtain⟨it,fp,tn,J,H2,e,I2,T,st2,f2,W,⟨m0,w0⟩,turn⟩:=h2;subst e
 -- what stays true of the iterator's objects through the loop
 have stat:∀{H':Hp},(∀b∈fp,H' b=none)->∀b∈fp,qh X pins H' b:=λhn b hb=>⟨hn b hb,(f2 b hb).2⟩;refine codeAny_forLoop_any (λn s'=>∃i σ' H',Inv X pins σ' H' s'/\tn i s'.heap/\(∀b∈fp,H' b=none)/\W i n σ' H') ?_ m0 ⟨0,σ,H2,I2,st2,λb hb=>(f2 b hb).1,w0⟩;rintro n s3 ⟨i,σ3,H3,I3,st3,fr3,w3⟩;rcases turn i n σ3 H3 w3 with⟨stop,qn⟩|⟨go,N,hN,step⟩
 .refine IR hp (thn (T.done X rfl rfl rfl hc i pins s3 σ3 H3 X.xe I3 (stat fr3) st3 stop) λr s4 ⟨hr,I4⟩=>?_);subst hr;exact Iv ⟨σ3,H3,I4,qn⟩
 .refine IR hp (thn (T.item X rfl rfl rfl hc i pins s3 σ3 H3 X.xe I3 (stat fr3) st3 go) λr s4 ⟨u,hr,h4⟩=>?_);subst hr;refine IR hp (thn h4 λ_ s5 ⟨x,H5,I5,r5,y5,st5,fr5⟩=>?_);have I5':=I5.pinned (stat fr5) (T.obj _ _ st5);refine IR hp (thn (hg _ s5 σ3 H5 x u _ I5' r5 (step x H5 y5)) λ_ s6 ⟨σ6,H6,I6,q6⟩=>?_);refine IR hp (thn (hb _ s6 σ6 H6 _ I6 q6) λf s7 q7=>?_);have again:∀{σ7:St} {H7:Hp},Inv X (pins++qi fp s5.heap) σ7 H7 s7->N σ7 H7->∃m,m<n/\∃i σ' H',Inv X pins σ' H' s7/\tn i s7.heap/\(∀b∈fp,H' b=none)/\W i m σ' H':=λ{σ7 H7} I7 n7=>by
   obtain⟨m',hm,w7⟩:=hN σ7 H7 n7;refine⟨m',hm,i+1,σ7,H7,I7.unpinned,T.keep _ _ _ st5 λb hb o e=>(I7.pin (b,o) (GS _ (GS _ (kW hb e)))).1,λb hb=>?_,w7⟩;obtain⟨o,e,d⟩:=T.obj _ _ st5 b hb;exact(I7.pin (b,o) (GS _ (GS _ (kW hb e)))).2.1
  cases f with
  |next=>obtain⟨σ7,H7,I7,n7⟩:=q7;exact again I7 n7
  |cont=>obtain⟨σ7,H7,I7,n7⟩:=q7;exact again I7 n7
  |brk=>obtain⟨σ7,H7,I7,q7⟩:=q7;exact⟨σ7,H7,I7.unpinned,q7⟩
  |ret v=>obtain⟨x7,σ7,H7,I7,r7,q7⟩:=q7;exact⟨x7,σ7,H7,I7.unpinned,r7,q7⟩
end

theorem cK{K:PySem.W.Frag}{a:Addr}{xs:List V}{g:TG}{tb:TS}{D:eX}{σ:St}{H:Hp}(Pv:Nat->St->Hp->Prop)(h0:Pv 0 σ H)(hl:∀i σ H,i<=xs.length->Pv i σ H->SqL K H a xs)
  (hs:∀i x σ H,xs[i]?=some x->Pv i σ H->g x σ H λσ2 H2=>tb { D with nx:=Pv (i+1),ct:=Pv (i+1),bk:=D.nx } σ2 H2)(hd:∀σ H,Pv xs.length σ H->D.nx σ H) :
  ∃W:Nat->Nat->St->Hp->Prop,(∃m,W 0 m σ H)/\∀i m σ H,W i m σ H->
   ((Itl K a).stop i H/\D.nx σ H)\/((Itl K a).go i H/\∃N:St->Hp->Prop,(∀σ' H',N σ' H'->∃m',m'<m/\W (i+1) m' σ' H')/\∀x H',(Itl K a).yld i H x H'->g x σ H' λσ2 H2=>tb { D with nx:=N,ct:=N,bk:=D.nx } σ2 H2):=by
 refine⟨λi m σ H=>m=xs.length-i/\i<=xs.length/\Pv i σ H,⟨xs.length,by simp,GZ _,h0⟩,?_⟩;rintro i m σ H ⟨rfl,hi,p⟩;have q:=hl i σ H hi p;by_cases hlt:i<xs.length
 .refine .inr ⟨⟨xs,xs[i],q,by simp[hlt]⟩,Pv (i+1),λσ' H' p'=>⟨xs.length-(i+1),by omega,rfl,hlt,p'⟩,λx H' y=>?_⟩;obtain⟨e,y⟩:=y;subst e;exact hs i x σ _ (y xs q) p
 .have e:i=xs.length:=by omega
  subst e;exact .inl ⟨⟨xs,q,Gi _⟩,hd σ H p⟩
theorem jp{lo:Int}{n:Nat}{g:TG}{tb:TS}{D:eX}{σ:St}{H:Hp}(Pv:Nat->St->Hp->Prop)(h0:Pv 0 σ H)
  (hs:∀i σ H,i<n->Pv i σ H->g (.int (lo+i)) σ H λσ2 H2=>tb { D with nx:=Pv (i+1),ct:=Pv (i+1),bk:=D.nx } σ2 H2)(hd:∀σ H,Pv n σ H->D.nx σ H) :
  ∃W:Nat->Nat->St->Hp->Prop,(∃m,W 0 m σ H)/\∀i m σ H,W i m σ H->
   ((Itr lo n).stop i H/\D.nx σ H)\/((Itr lo n).go i H/\∃N:St->Hp->Prop,(∀σ' H',N σ' H'->∃m',m'<m/\W (i+1) m' σ' H')/\∀x H',(Itr lo n).yld i H x H'->g x σ H' λσ2 H2=>tb { D with nx:=N,ct:=N,bk:=D.nx } σ2 H2):=by
 refine⟨λi m σ H=>m=n-i/\i<=n/\Pv i σ H,⟨n,by simp,GZ _,h0⟩,?_⟩;rintro i m σ H ⟨rfl,hi,p⟩;by_cases hlt:i<n
 .refine .inr ⟨hlt,Pv (i+1),λσ' H' p'=>⟨n-(i+1),by omega,rfl,hlt,p'⟩,λx H' y=>?_⟩;obtain⟨e,y⟩:=y;subst e y;exact hs i σ _ hlt p
 .have e:i=n:=by omega
  subst e;exact .inl ⟨Gi _,hd σ H p⟩

abbrev R2:=V->V->Hp->VK->Prop
def OpR(X:Cx)(f:F_->F_->Sem F_)(r:R2):Prop:=
 ∀(pins:List (Addr×Obj)) (s:Gg) (σ:St) (H:Hp) (x y:V) (v u:F_) (Q:VK),Inv X pins σ H s->bi x v->bi y u->r x y H Q->
  GK (GQ X.prog X.w) X.A (f v u) (EP X pins σ Q) X.xe s
def UnR(X:Cx)(f:F_->Sem F_)(r:V->Hp->VK->Prop):Prop:=
 ∀(pins:List (Addr×Obj)) (s:Gg) (σ:St) (H:Hp) (x:V) (v:F_) (Q:VK),Inv X pins σ H s->bi x v->r x H Q->
  GK (GQ X.prog X.w) X.A (f v) (EP X pins σ Q) X.xe s
def i_(X:Cx)(f:F_)(r:List V->Hp->VK->Prop):Prop:=
 ∀(pins:List (Addr×Obj)) (s:Gg) (σ:St) (H:Hp) (xs:List V) (us:List F_) (Q:VK),Inv X pins σ H s->a8 xs us->r xs H Q->
  GK (GQ X.prog X.w) X.A (call f us) (EP X pins σ Q) X.xe s
def tOp(r:R2)(ta tb:TE):TE:=λσ H Q=>ta σ H λx H1=>tb σ H1 λy H2=>r x y H2 Q
def tUn(r:V->Hp->VK->Prop)(ta:TE):TE:=λσ H Q=>ta σ H λx H1=>r x H1 Q
def rI(C:Int->Int->Prop)(g:Int->Int->V):R2:=λx y H Q=>∃i j,x=.int i/\y=.int j/\C i j/\Q (g i j) H
def rI0(g:Int->Int->V):R2:=λx y H Q=>∃i j,x=.int i/\y=.int j/\Q (g i j) H
def rU(g:Int->V):V->Hp->VK->Prop:=λx H Q=>∃i,x=.int i/\Q (g i) H

section
variable {X:Cx}{a b c:Expr}{ta tb tc:TE}{pos:Pos}

theorem Bw(ha:PE X a ta)(hb:PE X b tb){pins:List (Addr×Obj)}{s:Gg}{σ:St}{H:Hp}{R:V->V->Hp->Prop}(I:Inv X pins σ H s)
  (h:ta σ H λx H1=>tb σ H1 λy H2=>R x y H2){Q:F_->Gg->Prop}{f:F_->F_->Sem F_}
  (hf:∀v u s2 x y H2,Inv X pins σ H2 s2->bi x v->bi y u->R x y H2->GK (GQ X.prog X.w) X.A (f v u) Q X.xe s2) :
  GK (GQ X.prog X.w) X.A (eval a X.env) (λv s₁=>GK (GQ X.prog X.w) X.A (eval b X.env) (λu s₂=>GK (GQ X.prog X.w) X.A (f v u) Q X.xe s₂) X.xe s₁) X.xe s:=by
 refine thn (ha pins s σ H _ I h) λv s1 ⟨x,H1,I1,r1,q1⟩=>?_;refine thn (hb pins s1 σ H1 _ I1 q1) λu s2 ⟨y,H2,I2,r2,q2⟩=>?_;exact hf v u s2 x y H2 I2 r1 r2 q2

theorem aG{op:Operator}{r:R2}(ho:OpR X (IM op) r)(ha:PE X a ta)(hb:PE X b tb):PE X (.BinOp a op b pos) (tOp r ta tb):=by
 intro pins s σ H Q I h;exact wpAny_BinOp (Bw ha hb I h λv u s2 x y H2 I2 rx ry q=>ho pins s2 σ H2 x y v u Q I2 rx ry q)
theorem rS{op:UnaryOp}{r:V->Hp->VK->Prop}(ho:UnR X (unaryOp op) r)(ha:PE X a ta):PE X (.UnaryOp op a pos) (tUn r ta):=by
 intro pins s σ H Q I h;exact UnaryOp_ (thn (ha pins s σ H _ I h) λv s1 ⟨x,H1,I1,r1,q1⟩=>ho pins s1 σ H1 x v Q I1 r1 q1)
theorem opI{f:F_->F_->Sem F_}{C:Int->Int->Prop}{g:Int->Int->Int}
  (rule:∀(i j:Int) (t u:Tok) (s:Gg) (Q:F_->Gg->Prop) (E:F_->Gg->Prop),C i j->Q (.int (g i j) s.toks) { s with toks:=s.toks+1 }->GK (GQ X.prog X.w) X.A (f (.int i t) (.int j u)) Q E s) :
  OpR X f (rI C λi j=>.int (g i j)):=by
 intro pins s σ H x y v u Q I rx ry h;obtain⟨i,j,rfl,rfl,hc,q⟩:=h;obtain⟨t,rfl⟩:=rx;obtain⟨t',rfl⟩:=ry;exact rule i j t t' s _ _ hc ⟨.int (g i j),H,I.tok _,⟨_,rfl⟩,q⟩
theorem DZ{f:F_->F_->Sem F_}{g:Int->Int->Int}
  (rule:∀(i j:Int) (t u:Tok) (s:Gg) (Q:F_->Gg->Prop) (E:F_->Gg->Prop),Q (.int (g i j) s.toks) { s with toks:=s.toks+1 }->GK (GQ X.prog X.w) X.A (f (.int i t) (.int j u)) Q E s) :
  OpR X f (rI0 λi j=>.int (g i j)):=by
 intro pins s σ H x y v u Q I rx ry h;obtain⟨i,j,rfl,rfl,q⟩:=h;obtain⟨t,rfl⟩:=rx;obtain⟨t',rfl⟩:=ry;exact rule i j t t' s _ _ ⟨.int (g i j),H,I.tok _,⟨_,rfl⟩,q⟩
theorem Bx{f:F_->F_->Sem F_}{g:Int->Int->Bool}
  (rule:∀(i j:Int) (t u:Tok) (s:Gg) (Q:F_->Gg->Prop) (E:F_->Gg->Prop),Q (.bool (g i j)) s->GK (GQ X.prog X.w) X.A (f (.int i t) (.int j u)) Q E s) :
  OpR X f (rI0 λi j=>.bl (g i j)):=by
 intro pins s σ H x y v u Q I rx ry h;obtain⟨i,j,rfl,rfl,q⟩:=h;obtain⟨t,rfl⟩:=rx;obtain⟨t',rfl⟩:=ry;exact rule i j t t' s _ _ ⟨.bl (g i j),H,I,rfl,q⟩

def Fz(i j:Int):Prop:=0<j/\j<1073741824
def FA(i j:Int):Prop:=0<=j/\j<=1000000/\i.natAbs<2^64
def By(i j:Int):Prop:=(-(2^64)<i/\i<2^64)\/(-(2^64)<j/\j<2^64)
theorem By.ok{i j:Int}(h:By i j):IntMulOk i j:=by
 rcases h with⟨h1,h2⟩|⟨h1,h2⟩
 .exact .of_left (intBits_le_64 h1 h2)
 .exact .of_right (intBits_le_64 h1 h2)
theorem ca:OpR X (IM .Add) (rI0 λi j=>.int (i+j)):=DZ λ_ _ _ _ _ _ _ q=>add_int q
theorem j7:OpR X (IM .Sub) (rI0 λi j=>.int (i-j)):=DZ λ_ _ _ _ _ _ _ q=>sub_int q
theorem tZ:OpR X (IM .Mult) (rI By λi j=>.int (i*j)):=opI λ_ _ _ _ _ _ _ hc q=>mul_int q hc.ok
theorem yw:OpR X (IM .FloorDiv) (rI Fz λi j=>.int (i/j)):=opI λi j _ _ _ _ _ hc q=>by
 have h1:(0:Int)<j:=hc.1;have h2:j<1073741824:=hc.2;exact floordiv_int (by omega) (by rw[Int.fdiv_eq_ediv_of_nonneg i (by omega)];exact q) (.inl (PyProof.noPylong_small (by omega)))
theorem nS:OpR X (IM .Mod) (rI (λ_ j=>0<j) λi j=>.int (i%j)):=opI λi j _ _ _ _ _ hc q=>by
 have h1:(0:Int)<j:=hc;exact mod_int' (by omega) (by rw[Int.fmod_eq_emod_of_nonneg i (by omega)];exact q)
theorem D0:OpR X (IM .Pow) (rI FA λi j=>.int (i^j.toNat)):=opI λ_ _ _ _ _ _ _ hc q=>pow_int_small hc.1 hc.2.1 hc.2.2 q
theorem unI{f:F_->Sem F_}{g:Int->Int}
  (rule:∀(i:Int) (t:Tok) (s:Gg) (Q:F_->Gg->Prop) (E:F_->Gg->Prop),Q (.int (g i) s.toks) { s with toks:=s.toks+1 }->GK (GQ X.prog X.w) X.A (f (.int i t)) Q E s) :
  UnR X f (rU λi=>.int (g i)):=by
 intro pins s σ H x v Q I rx h;obtain⟨i,rfl,q⟩:=h;obtain⟨t,rfl⟩:=rx;exact rule i t s _ _ ⟨.int (g i),H,I.tok _,⟨_,rfl⟩,q⟩
theorem nT:UnR X (unaryOp .USub) (rU λi=>.int (-i)):=unI λ_ _ _ _ _ q=>neg_int q
end

def D1:V->V->Bool
 |.non,.non=>true|.non,.int _=>true|.int _,.non=>true|.non,.bl _=>true|.bl _,.non=>true|.non,.str _=>true|.str _,.non=>true
 |.int _,.int _=>true|.bl _,.bl _=>true|.str _,.str _=>true|.byt _,.byt _=>true
 |.int _,.str _=>true|.str _,.int _=>true|.bl _,.str _=>true|.str _,.bl _=>true
 |_,_=>false
def rEq:R2:=λx y H Q=>D1 x y=true/\Q (.bl (decide (x=y))) H
def rNe:R2:=λx y H Q=>D1 x y=true/\Q (.bl (!decide (x=y))) H

theorem yx{i j:Int}:decide (V.int i=V.int j)=(i==j):=by
 rw[Jt];simp
theorem Am{i j:Bool}:decide (V.bl i=V.bl j)=(i==j):=by
 rw[Jt];simp
theorem yy{i j:Str}:decide (V.str i=V.str j)=(i==j):=by
 rw[Jt];simp
theorem yz{i j:Array UInt8}:decide (V.byt i=V.byt j)=(i.toList==j.toList):=by
 rw[Jt];cases i;cases j;simp

section
variable {X:Cx}{a b c:Expr}{ta tb tc:TE}{pos:Pos}
theorem bL{pins:List (Addr×Obj)}{σ:St}{H:Hp}{s:Gg}{Q:VK}{k k':Bool}(I:Inv X pins σ H s)(q:Q (.bl k) H)(e:k=k'):EP X pins σ Q (.bool k') s:=by
 subst e;exact⟨.bl k,H,I,rfl,q⟩
theorem bn:OpR X (HB .Eq) rEq:=by
 intro pins s σ H x y v u Q I rx ry h;obtain⟨hs,q⟩:=h;cases x with
 |non =>
  cases rx;cases y with
  |non=>cases ry;exact PySem.EqNone.eq_none_none (bL I q (by simp))
  |bl j=>cases ry;exact PySem.EqNone.eq_none_bool (bL I q (by simp))
  |int j=>obtain⟨t',rfl⟩:=ry;exact PySem.EqNone.eq_none_int (bL I q (by simp))
  |str j=>obtain⟨t',rfl⟩:=ry;exact PySem.EqNone.eq_none_str (bL I q (by simp))
  |_=>exact absurd (show false=true from hs) GB
 |bl i =>
  cases rx;cases y with
  |non=>cases ry;exact PySem.EqNone.eq_bool_none (bL I q (by simp))
  |bl j=>cases ry;exact eq_bool (bL I q Am)
  |str j=>obtain⟨t',rfl⟩:=ry;exact PySem.EqMixed.eq_bool_str (bL I q (by simp))
  |_=>exact absurd (show false=true from hs) GB
 |int i =>
  obtain⟨t,rfl⟩:=rx;cases y with
  |non=>cases ry;exact PySem.EqNone.eq_int_none (bL I q (by simp))
  |int j=>obtain⟨t',rfl⟩:=ry;exact eq_int (bL I q yx)
  |str j=>obtain⟨t',rfl⟩:=ry;exact PySem.EqMixed.eq_int_str (bL I q (by simp))
  |_=>exact absurd (show false=true from hs) GB
 |str i =>
  obtain⟨t,rfl⟩:=rx;cases y with
  |non=>cases ry;exact PySem.EqNone.eq_str_none (bL I q (by simp))
  |bl j=>cases ry;exact PySem.EqMixed.eq_str_bool (bL I q (by simp))
  |int j=>obtain⟨t',rfl⟩:=ry;exact PySem.EqMixed.eq_str_int (bL I q (by simp))
  |str j=>obtain⟨t',rfl⟩:=ry;exact eq_str (bL I q yy)
  |_=>exact absurd (show false=true from hs) GB
 |byt i =>
  obtain⟨t,rfl⟩:=rx;cases y with
  |byt j=>obtain⟨t',rfl⟩:=ry;exact PySem.W.eq_bytes (bL I q yz)
  |_=>exact absurd (show false=true from hs) GB
 |_=>cases y<;>exact absurd (show false=true from hs) GB
theorem iF:OpR X (HB .NotEq) rNe:=by
 intro pins s σ H x y v u Q I rx ry h;obtain⟨hs,q⟩:=h;cases x with
 |non =>
  cases rx;cases y with
  |non=>cases ry;exact PySem.EqNone.ne_none_none (bL I q (by simp))
  |bl j=>cases ry;exact PySem.EqNone.ne_none_bool (bL I q (by simp))
  |int j=>obtain⟨t',rfl⟩:=ry;exact PySem.EqNone.ne_none_int (bL I q (by simp))
  |str j=>obtain⟨t',rfl⟩:=ry;exact PySem.EqNone.ne_none_str (bL I q (by simp))
  |_=>exact absurd (show false=true from hs) GB
 |bl i =>
  cases rx;cases y with
  |non=>cases ry;exact PySem.EqNone.ne_bool_none (bL I q (by simp))
  |bl j=>cases ry;exact ne_bool (bL I q (congrArg not Am))
  |str j=>obtain⟨t',rfl⟩:=ry;exact PySem.EqMixed.ne_bool_str (bL I q (by simp))
  |_=>exact absurd (show false=true from hs) GB
 |int i =>
  obtain⟨t,rfl⟩:=rx;cases y with
  |non=>cases ry;exact PySem.EqNone.ne_int_none (bL I q (by simp))
  |int j=>obtain⟨t',rfl⟩:=ry;exact ne_int (bL I q (congrArg not yx))
  |str j=>obtain⟨t',rfl⟩:=ry;exact PySem.EqMixed.ne_int_str (bL I q (by simp))
  |_=>exact absurd (show false=true from hs) GB
 |str i =>
  obtain⟨t,rfl⟩:=rx;cases y with
  |non=>cases ry;exact PySem.EqNone.ne_str_none (bL I q (by simp))
  |bl j=>cases ry;exact PySem.EqMixed.ne_str_bool (bL I q (by simp))
  |int j=>obtain⟨t',rfl⟩:=ry;exact PySem.EqMixed.ne_str_int (bL I q (by simp))
  |str j=>obtain⟨t',rfl⟩:=ry;exact ne_str (bL I q (congrArg not yy))
  |_=>exact absurd (show false=true from hs) GB
 |byt i =>
  obtain⟨t,rfl⟩:=rx;cases y with
  |byt j=>obtain⟨t',rfl⟩:=ry;exact PySem.W.ne_bytes (bL I q (congrArg not yz))
  |_=>exact absurd (show false=true from hs) GB
 |_=>cases y<;>exact absurd (show false=true from hs) GB

theorem vU:OpR X (HB .Lt) (rI0 λi j=>.bl (decide (i<j))):=Bx λ_ _ _ _ _ _ _ q=>lt_int q
theorem Cv:OpR X (HB .LtE) (rI0 λi j=>.bl (decide (i<=j))):=Bx λ_ _ _ _ _ _ _ q=>le_int q
theorem ja:OpR X (HB .Gt) (rI0 λi j=>.bl (decide (j<i))):=Bx λ_ _ _ _ _ _ _ q=>gt_int q
theorem j9:OpR X (HB .In) (λx y H Q=>∃i j,x=.str i/\y=.str j/\Q (.bl (!(Hr j i 0 j.length 1).isEmpty)) H):=by
 intro pins s σ H x y v u Q I rx ry h;obtain⟨i,j,rfl,rfl,q⟩:=h;obtain⟨t,rfl⟩:=rx;obtain⟨t',rfl⟩:=ry;exact in_str (bL I q rfl)

theorem D2:OpR X (HB .Is) (λx y H Q=>y=.non/\Q (.bl (decide (x=.non))) H):=by
 intro pins s σ H x y v u Q I rx ry h;obtain⟨rfl,q⟩:=h;cases ry;refine is_none_gen (bL I q ?_);cases x<;>first
  |(cases rx;rfl)
  |(obtain⟨t,rfl⟩:=rx;rfl)
theorem qj:OpR X (HB .NotIn) (λx y H Q=>∃i j,x=.str i/\y=.str j/\Q (.bl (!(!(Hr j i 0 j.length 1).isEmpty))) H):=by
 intro pins s σ H x y v u Q I rx ry h;obtain⟨i,j,rfl,rfl,q⟩:=h;obtain⟨t,rfl⟩:=rx;obtain⟨t',rfl⟩:=ry;exact notIn_str (bL I q rfl)
theorem nomark(b:Expr){op:CmpOp}(h:op≠.In:=by decide)(h2:op≠.NotIn:=by decide):Jk op b=false:=by
 have e1:(op==CmpOp.In)=false:=by cases op<;>first|rfl|exact absurd rfl h
 have e2:(op==CmpOp.NotIn)=false:=by cases op<;>first|rfl|exact absurd rfl h2
 cases b<;>simp[Jk,e1,e2]
theorem dA{op:CmpOp}{r:R2}(ho:OpR X (HB op) r)(ha:PE X a ta)(hb:PE X b tb)(hm:Jk op b=false):PE X (.Compare a [op] [b] pos) (tOp r ta tb):=by
 intro pins s σ H Q I h;exact wpAny_Compare1 (Bw ha hb I h λv u s2 x y H2 I2 rx ry q=>ho pins s2 σ H2 x y v u Q I2 rx ry q) hm
def Cw(t:TE):TT:=λσ H Q=>t σ H λx H'=>∃k,x=.bl k/\Q k H'
theorem au{op:CmpOp}{r:R2}(ho:OpR X (HB op) r)(ha:PE X a ta)(hb:PE X b tb)(hm:Jk op b=false):PT X (.Compare a [op] [b] pos) (Cw (tOp r ta tb)):=by
 intro pins s σ H Q I h;refine wpAny_isTrue_Compare1 (thn (ha pins s σ H _ I h) λv s1 ⟨x,H1,I1,r1,q1⟩=>thn (hb pins s1 σ H1 _ I1 q1) λu s2 ⟨y,H2,I2,r2,q2⟩ =>
  thn (ho pins s2 σ H2 x y v u _ I2 r1 r2 q2) λc s3 ⟨z,H3,I3,r3,k,e,q3⟩=>?_) hm
 subst e;cases r3;exact HN ⟨H3,I3,q3⟩
theorem lG:(Gv:Nat)<2^63:=by rw[KF];decide
theorem dH:OpR X (IM .Add) (λx y H Q=>∃i j,x=.str i/\y=.str j/\i.length+j.length<=Gv/\Q (.str (i++j)) H):=by
 intro pins s σ H x y v u Q I rx ry h;obtain⟨i,j,rfl,rfl,hz,q⟩:=h;obtain⟨t,rfl⟩:=rx;obtain⟨t',rfl⟩:=ry;exact add_str (λt' tk=>⟨.str (i++j),H,I.tok _,⟨_,rfl⟩,q⟩) hz
theorem jb{x:V}{us:List F_}(r:a8 [x] us):∃u,us=[u]/\bi x u:=by
 cases r with
 |cons r1 r2=>cases r2;exact⟨_,rfl,r1⟩
theorem vV{x y:V}{us:List F_}(r:a8 [x,y] us):∃u w',us=[u,w']/\bi x u/\bi y w':=by
 cases r with
 |cons r1 r2 =>
  cases r2 with
  |cons r3 r4=>cases r4;exact⟨_,_,rfl,r1,r3⟩
theorem mE(hc:X.calm=true):i_ X (.builtin "max") (λxs H Q=>∃i j,xs=[.int i,.int j]/\Q (.int (if j>i then j else i)) H):=by
 intro pins s σ H xs us Q I r h;obtain⟨i,j,rfl,q⟩:=h;obtain⟨u,w',rfl,⟨t,rfl⟩,⟨t',rfl⟩⟩:=vV r;refine max_two_ints (I.ok.hd hc) λh' tk k=>⟨_,H,I.kept k,?_,q⟩;by_cases hj:j>i
 .rw[if_pos hj,if_pos hj];exact⟨_,rfl⟩
 .rw[if_neg hj,if_neg hj];exact⟨_,rfl⟩
theorem mF:i_ X (.type "int") (λxs H Q=>(∃i,xs=[.int i]/\Q (.int i) H)\/∃k,xs=[.bl k]/\Q (.int (if k then 1 else 0)) H):=by
 intro pins s σ H xs us Q I r h;rcases h with⟨i,rfl,q⟩|⟨k,rfl,q⟩
 .obtain⟨u,rfl,t,rfl⟩:=jb r;exact call_int_int ⟨.int i,H,I,⟨_,rfl⟩,q⟩
 .obtain⟨u,rfl,r1⟩:=jb r;cases r1;exact call_int_bool ⟨.int (if k then 1 else 0),H,I.tok _,⟨_,rfl⟩,q⟩
theorem qk:i_ X (.type "str") (λxs H Q=>∃i,xs=[.int i]/\i.natAbs.log2<1920/\Q (.str (toString i)) H):=by
 intro pins s σ H xs us Q I r h;obtain⟨i,rfl,hz,q⟩:=h;obtain⟨u,rfl,t,rfl⟩:=jb r;exact PySem.P.str_of_int hz ⟨.str _,H,I.tok _,⟨_,rfl⟩,q⟩
def FB(K:PySem.W.Frag)(x:V)(H:Hp)(n:Nat):Prop:=
 match x with
 |.str y=>y.length<=Gv/\n=y.length
 |.byt y=>y.size<=Gv/\n=y.size
 |.ref p=>(∃xs,SqL K H p xs/\n=xs.length)\/∃xs,SqT K H p xs/\n=xs.length
 |_=>False
theorem oF:i_ X (.builtin "len") (λxs H Q=>∃x n,xs=[x]/\FB X.K x H n/\Q (.int n) H):=by
 intro pins s σ H xs us Q I r h;obtain⟨x,n,rfl,e,q⟩:=h;obtain⟨u,rfl,rx⟩:=jb r;have hl:=lG;have hs:Gv=16777216:=KF;cases x with
 |str y =>
  obtain⟨t,rfl⟩:=rx;obtain⟨hy,e'⟩:y.length<=Gv/\n=y.length:=e;subst e';exact len_str (by omega) ⟨.int _,H,I.tok _,⟨_,rfl⟩,q⟩
 |byt y =>
  obtain⟨t,rfl⟩:=rx;obtain⟨hy,e'⟩:y.size<=Gv/\n=y.size:=e;subst e';exact PySem.W.len_bytes (by omega) ⟨.int _,H,I.tok _,⟨_,rfl⟩,q⟩
 |ref p =>
  cases rx;have e':(∃xs,SqL X.K H p xs/\n=xs.length)\/∃xs,SqT X.K H p xs/\n=xs.length:=e;rcases e' with⟨xs,hx,e'⟩|⟨xs,hx,e'⟩
  .subst e';obtain⟨its,r',pl,hz⟩:=I.list hx;have hlen:=r'.length;exact Calls.call_len_list pl.isList (by simp only[Gw];omega) ⟨.int xs.length,H,I.tok _,⟨_,by simp only[Gw];rw[hlen]⟩,q⟩
  .subst e';obtain⟨its,r',pl,hz⟩:=I.tuple hx;have hlen:=r'.length;exact len_tuple pl (by simp only[Gw];omega) ⟨.int xs.length,H,I.tok _,⟨_,by simp only[Gw];rw[hlen]⟩,q⟩
 |_=>exact(show False from e).elim
end

structure sK(h:Heap)(x dx C:Addr)(mA:Str->Option F_):Prop where
 obj:h.get? x=some (PySem.W.instObj C dx)
 ns:h.Ns1 dx mA
 ne:dx≠x

theorem An{h:Heap}{dx:Addr}{mA:Str->Option F_}(n:h.Ns1 dx mA):∃od,h.get? dx=some od/\∀name,PySem.W.lookIn name od=some (mA name):=by
 obtain⟨o,es,ep,ho,hd,hk,_,hm⟩:=n;refine⟨o,ho,λname=>?_⟩;have e:=hm name;unfold nsFind findBy at e;rw[<-Array.find?_toList]at e;unfold PySem.W.lookIn;rw[hd];dsimp only
 split
 .rename_i y q
  rw[q]at e;exact congrArg some e
 .rename_i q
  rw[q]at e;have a:es.toList.any (·.refKey)=false:=by
   rw[Ia];intro y hy;obtain⟨z,t,hkey⟩:=hk y (Array.mem_toList_iff.mp hy);simp[DictEntry.refKey,hkey]
  have a':¬ es.toList.any (·.refKey)=true:=by rw[a];exact GB
  rw[if_neg a'];exact congrArg some e

theorem sK.look{h:Heap}{x dx C:Addr}{mA:Str->Option F_}(I:sK h x dx C mA):∃od,PySem.W.InstAt h x (PySem.W.instObj C dx) C (some od)/\∀name,PySem.W.lookIn name od=some (mA name):=
 let⟨od,ho,hl⟩:=An I.ns
 ⟨od,⟨I.obj,rfl,rfl,ho⟩,hl⟩

section
variable {prog:GH}{w:GJ}{A:Ha}{E:F_->Gg->Prop}{s:Gg}{K:PySem.W.Frag}{x dx C f:Addr}{mA:Str->Option F_}{name:Str}{v:F_}

theorem CT{expr:Bool}{Q:F_->Gg->Prop}(X:K.In s.heap)(I:sK s.heap x dx C mA)(hg:PySem.W.plainGet K C name=true)(hh:PySem.W.hasDictIn K C=true)
  (ha:PySem.W.findIn K (.ref C) name=some none)(hv:mA name=some v)(hv':PySem.W.handedIn v=true)(h:Q v { s with toks:=s.toks+1 }) :
  GK (GQ prog w) A (getAttr (.ref x) name expr) Q E s:=by
 obtain⟨od,J,hl⟩:=I.look;exact PySem.W.get_value X J (PySem.W.plainGet_of hg).1 (PySem.W.findObj_own hh ha rfl (by rw[hl,hv])) hv' h

theorem Bz{pl:Sem Bool}{Q:F_×List F_->Gg->Prop}(X:K.In s.heap)(I:sK s.heap x dx C mA)(hg:PySem.W.plainGet K C name=true)
  (hf:PySem.W.findIn K (.ref C) name=some (some (.ref f)))(ht:PySem.W.isFn K (.ref f)=true)(hv:mA name=none)(h:Q (.ref f,[.ref x]) s) :
  GK (GQ prog w) A (JU (.ref x) name pl) Q E s:=by
 obtain⟨od,J,hl⟩:=I.look;exact PySem.W.method_fn X J (PySem.W.plainGet_of hg).1 (PySem.W.plainGet_of hg).2 hf (beq_iff_eq.mp ht) (by show(PySem.W.lookIn name od).map (·.isSome)=some false;rw[hl,hv];rfl) h

theorem CU{ns:List Str}{Q:Unit->Gg->Prop}(X:K.In s.heap)(I:sK s.heap x dx C mA)
  (hs:PySem.W.findIn K (.ref C) "__setattr__" = some (some (.builtin "object.__setattr__")))(hp:PySem.W.plainOver K C=true)(ht:PySem.W.takerIn K C name=some none)(hh:PySem.W.hasDictIn K C=true)
  (hw:PySem.Within mA ns)(hsz:ns.length<=Gv)
  (h:∀h',sK h' x dx C (λy=>if y=name then some v else mA y)->IH dx s.heap h'->Q () { s with heap:=h',toks:=s.toks+2 }) :
  GK (GQ prog w) A (setAttr (.ref x) name v) Q E s:=by
 obtain⟨od,J,hl⟩:=I.look;refine PySem.W.set_plain X J hs (PySem.W.osa_open (s:={ s with toks:=s.toks+1 }) (r:=none) X J hp ht λb=>?_);obtain⟨cd,hc,hd'⟩:=PySem.W.any_some hh;have hx:s.heap.get? x=some ⟨.ref C,some dx,.plain,#[]⟩:=I.obj;refine Gq (GO (Gq (Gq (wpAny_loadPart hx (Gq (PySem.W.Looks.here (s:={ s with toks:=s.toks+1 }) (PySem.W.looks_clsIn X hc) ?_))))));rw[hd'];refine GO (a:=some dx) (Gq (GO (Gq ?_)));refine wpAny_nsSet1 (s:={ s with toks:=s.toks+1 }) I.ns λh' hn2 hs2=>?_;obtain⟨oD,esD,epD,hoD,hdD,hcD⟩:=hn2.count (PySem.Within.cons name v hw);refine Gq (wpAny_lookBehind hoD (by rw[hdD];exact pastItsLine_dict (GM hcD (by rw[Gd];omega))) ?_);exact GO (h _ ⟨(hs2.2 _ (GX I.ne)).trans I.obj,hn2,I.ne⟩ hs2)

theorem BA{R:JS->Gg->Prop}{vs:List F_}{kw:List (Str×F_)}(X:K.In s.heap)(hm:PySem.W.makesIn K C=true)
  (hi:PySem.W.findIn K (.ref C) "__init__" = some (some (.ref f)))(hf:PySem.W.typeIn K (.ref f)=some (.type "function"))
  (h:Jl (GQ prog w) (A.under (.builtin "type.__call__" ⟨.ref C :: vs,kw⟩)) (.call (.ref f) ⟨.ref (s.heap.objs.size+1) :: vs,kw⟩) (PySem.W.InitBack (s.heap.objs.size+1) R)
   { s with heap:=(s.heap.push PySem.W.emptyDict).push (PySem.W.instObj C s.heap.objs.size) }) :
  Jl (GQ prog w) A (.call (.ref C) ⟨vs,kw⟩) R s:=by
 obtain⟨hh,g,d,t,os⟩:=s;exact PySem.W.make_core (PySem.W.makes_of X hm) (PySem.W.looks_findIn X hi) (λself=>PySem.W.bind_fn X self hf) (.inl rfl) h
end

def bS(f:Str)(v:V):List (Str×V)->List (Str×V)
 |[]=>[(f,v)]
 |(g,x)::r=>if g=f then(g,v)::r else(g,x)::bS f v r
theorem su(f g:Str)(v:V):∀fs:List (Str×V),(bS f v fs).lookup g=if g=f then some v else fs.lookup g
 |[]=>by
  show GU g [(f,v)]=_;by_cases h:g=f
  .have hb:(g==f)=true:=beq_iff_eq.mpr h;simp only[GU,hb,if_pos h]
  .have hb:(g==f)=false:=beq_eq_false_iff_ne.mpr h;simp only[GU,hb,if_neg h]
 |(k,x)::r=>by
  have ih:=su f g v r;rw[show bS f v ((k,x)::r)=(if k=f then(k,v)::r else(k,x)::bS f v r)from rfl];by_cases hk:k=f
  .rw[if_pos hk];by_cases h:g=k
   .have hb:(g==k)=true:=beq_iff_eq.mpr h;simp only[GU,hb,if_pos (h.trans hk)]
   .have hb:(g==k)=false:=beq_eq_false_iff_ne.mpr h;simp only[GU,hb,if_neg (λe:g=f=>h (e.trans hk.symm))]
  .rw[if_neg hk];by_cases h:g=k
   .have hb:(g==k)=true:=beq_iff_eq.mpr h;simp only[GU,hb,if_neg (λe:g=f=>hk (h.symm.trans e))]
   .have hb:(g==k)=false:=beq_eq_false_iff_ne.mpr h;simp only[GU,hb];exact ih
theorem ql(f:Str)(v:V):∀fs:List (Str×V),f∈(bS f v fs).map (·.1)/\∀g,g∈fs.map (·.1)->g∈(bS f v fs).map (·.1)
 |[]=>⟨by simp[bS],λg h=>by simp at h⟩
 |(k,x)::r=>by
  obtain⟨i1,i2⟩:=ql f v r;rw[show bS f v ((k,x)::r)=(if k=f then(k,v)::r else(k,x)::bS f v r)from rfl];by_cases hk:k=f
  .rw[if_pos hk];subst hk;exact⟨by simp,λg h=>by simpa using h⟩
  .rw[if_neg hk];refine⟨?_,λg h=>?_⟩
   .rw[Gp];exact Gh _ i1
   .rw[Gp]at h⊢;rcases List.mem_cons.mp h with e|e
    .exact List.mem_cons.mpr (.inl e)
    .exact Gh _ (i2 g e)
theorem sx(f:Str)(v:V):∀fs:List (Str×V),(bS f v fs).length<=fs.length+1
 |[]=>by simp[bS]
 |(k,x)::r=>by
  have ih:=sx f v r;rw[show bS f v ((k,x)::r)=(if k=f then(k,v)::r else(k,x)::bS f v r)from rfl];by_cases hk:k=f
  .rw[if_pos hk,Gd,Gd];omega
  .rw[if_neg hk,Gd,Gd];omega

theorem gU.some_of{v:V}{o:Option F_}(r:gU (some v) o):∃u,o=some u/\bi v u:=by
 cases o with
 |none=>exact(show False from r).elim
 |some u=>exact⟨u,rfl,r⟩
theorem gU.none_of{o:Option F_}(r:gU none o):o=none:=by
 cases o with
 |none=>rfl
 |some u=>exact(show False from r).elim
theorem Ao{v:V}{u:F_}(r:bi v u):PySem.W.handedIn u=true:=by
 cases v with
 |non=>cases (show u=Jg from r);rfl
 |bl b=>cases (show u=Kr b from r);rfl
 |int i=>obtain⟨t,e⟩:=(show ∃t,u=Jf i t from r);cases e;rfl
 |str x=>obtain⟨t,e⟩:=(show ∃t,u=HZ x t from r);cases e;rfl
 |byt b=>obtain⟨t,e⟩:=(show ∃t,u=Value.bytes b t from r);cases e;rfl
 |flt b=>obtain⟨t,e⟩:=(show ∃t,u=Value.float b t from r);cases e;rfl
 |ref a=>cases (show u=He a from r);rfl
 |ty n=>cases (show u=IF n from r);rfl

section
variable {P:GH}{w:GJ}{H H':Hp}{h h':Heap}{a C dx:Addr}{fs fs':List (Str×V)}
theorem ux(hok:HOk P w H h)(e:H a=some (.ins C dx fs)):∃mA,sK h a dx C mA/\(∀f,gU (fs.lookup f) (mA f))/\PySem.Within mA (fs.map (·.1))/\fs.length<=1000/\H dx=some (.own a):=by
 obtain⟨d,z,ne,ob,mA,n,r,q⟩:=(show cE P w H h a (.ins C dx fs)from hok a _ e);exact⟨mA,⟨ob,n,ne⟩,r,q,z,d⟩
end

structure Cls(K:PySem.W.Frag)(C:Addr):Prop where
 pg:PySem.W.plainGet K C Hy=true
 hd:PySem.W.hasDictIn K C=true
 po:PySem.W.plainOver K C=true
 sa:PySem.W.findIn K (.ref C) "__setattr__" = some (some (.builtin "object.__setattr__"))
theorem Cls.get{K:PySem.W.Frag}{C:Addr}(c:Cls K C)(f:Str):PySem.W.plainGet K C f=true:=c.pg
def dj(K:PySem.W.Frag)(C:Addr)(f:Str):Prop:=PySem.W.findIn K (.ref C) f=some none
theorem dj.taker{K:PySem.W.Frag}{C:Addr}{f:Str}(n:dj K C f):PySem.W.takerIn K C f=some none:=by
 unfold PySem.W.takerIn;rw[show PySem.W.findIn K (.ref C) f=some none from n];rfl
structure y9(K:PySem.W.Frag)(C:Addr)(m:Str)(f:Addr):Prop where
 at_:PySem.W.findIn K (.ref C) m=some (some (.ref f))
 fn:PySem.W.isFn K (.ref f)=true
 kp:PySem.W.keepIn K (.ref f)=true

section
variable {X:Cx}{pins:List (Addr×Obj)}{σ:St}{H:Hp}{s:Gg}{a C dx:Addr}{fs:List (Str×V)}{f:Str}{v:V}{A:Ha}{E:F_->Gg->Prop}

theorem y_{b:Bool}{Q:F_->Gg->Prop}(I:Inv X pins σ H s)(e:H a=some (.ins C dx fs))(c:Cls X.K C)(n:dj X.K C f)(l:fs.lookup f=some v)
  (h:∀u s',Inv X pins σ H s'->bi v u->Q u s'):GK (GQ X.prog X.w) A (getAttr (.ref a) f b) Q E s:=by
 obtain⟨mA,O,r,_,_,_⟩:=ux I.hok e;obtain⟨u,hu,ru⟩:=gU.some_of (v:=v) (o:=mA f) (by rw[<-l];exact r f);exact CT I.kIn O (c.get f) c.hd n hu (Ao ru) (h u _ (I.tok _) ru)

theorem t0{m:Str}{g:Addr}{pl:Sem Bool}{Q:F_×List F_->Gg->Prop}(I:Inv X pins σ H s)(e:H a=some (.ins C dx fs))(c:Cls X.K C)(k:y9 X.K C m g)(l:fs.lookup m=none)
  (h:Q (.ref g,[.ref a]) s):GK (GQ X.prog X.w) A (JU (.ref a) m pl) Q E s:=by
 obtain⟨mA,O,r,_,_,_⟩:=ux I.hok e;have hn:mA m=none:=gU.none_of (by rw[<-l];exact r m);exact Bz I.kIn O (c.get m) k.at_ k.fn hn h

theorem za{y:V}{u:F_}{Q:Unit->Gg->Prop}(I:Inv X pins σ H s)(e:H a=some (.ins C dx fs))(c:Cls X.K C)(n:dj X.K C f)(hl:fs.length<1000)(ry:bi y u)
  (h:∀s',Inv X pins σ (upd H a (.ins C dx (bS f y fs))) s'->Q () s'):GK (GQ X.prog X.w) A (setAttr (.ref a) f u) Q E s:=by
 obtain⟨mA,O,r,wi,_,ho⟩:=ux I.hok e;have hz:(fs.map (·.1)).length<=Gv:=by rw[F9,KF];omega
 refine CU I.kIn O c.sa c.po n.taker c.hd wi hz λh' O' sb=>h _ ?_;have hd:∃o,h'.get? dx=some o:=let⟨o,_,_,e',_⟩:=O'.ns;⟨o,e'⟩;refine I.write (x:=a) (e:=dx) (by rw[e];exact JF) (.inr ho) (λb q hb z=>(sb.2 b hb).trans z) hd ?_;refine⟨by rw[aj O.ne];exact ho,?_,O.ne,O'.obj,_,O'.ns,λg=>?_,λg hg=>?_⟩
 .have:=sx f y fs;omega
 .show gU ((bS f y fs).lookup g) (if g=f then some u else mA g);rw[su];by_cases q:g=f
  .rw[if_pos q,if_pos q];exact ry
  .rw[if_neg q,if_neg q];exact r g
 .by_cases q:g=f
  .rw[q];exact(ql f y fs).1
  .refine(ql f y fs).2 g (wi g λz=>hg ?_);show(if g=f then some u else mA g)=none;rw[if_neg q];exact z

theorem Inv.made(I:Inv X pins σ H s):Inv X pins σ (upd (upd H s.heap.objs.size (.own (s.heap.objs.size+1))) (s.heap.objs.size+1) (.ins C s.heap.objs.size []))
  { s with heap:=(s.heap.push PySem.W.emptyDict).push (PySem.W.instObj C s.heap.objs.size) }:=by
 have e1:(s.heap.push PySem.W.emptyDict).get? s.heap.objs.size=some PySem.W.emptyDict:=GN s.heap rfl;have e2:((s.heap.push PySem.W.emptyDict).push (PySem.W.instObj C s.heap.objs.size)).get? (s.heap.objs.size+1)=some (PySem.W.instObj C s.heap.objs.size):=by
  have:=GN (s.heap.push PySem.W.emptyDict) (o:=PySem.W.instObj C s.heap.objs.size) rfl
  rwa[I_]at this
 have e3:(s.heap.push PySem.W.emptyDict).Ns s.heap.objs.size (λ_=>none):=⟨PySem.W.emptyDict,#[],_,e1,rfl,(λe he=>absurd he (by simp)),λ_=>rfl⟩;have I1:=I.laid (a:=s.heap.objs.size) (o:=.own (s.heap.objs.size+1)) (h':=s.heap.push PySem.W.emptyDict) (t':=s.toks) (λb u q=>Go _ q) (Gi _) ⟨_,e1⟩;refine I1.laid (a:=s.heap.objs.size+1) (o:=.ins C s.heap.objs.size []) (t':=s.toks) (λb u q=>Go _ q) (Kx (I_ _ _)) ?_;have ne:s.heap.objs.size≠s.heap.objs.size+1:=Gx (Ik _);refine⟨by rw[aj ne,ac],GZ _,ne,e2,λ_=>none,(Heap.Ns1.of_empty e3).at λo q=>Go _ q,λ_=>JF,λy hy=>absurd rfl hy⟩

theorem CV{prog:GH}{w:GJ}{env:Env}{e:Expr}{f:Str}{pos:Pos}{s:Gg}{Q:F_->Gg->Prop}(hb:IN e f env (eval e env)=eval e env)
  (h:GK (GQ prog w) A (eval e env) (λo s₁=>GK (GQ prog w) A (getAttr o f true) Q E s₁) E s):GK (GQ prog w) A (eval (.Attribute e f pos) env) Q E s:=
 Attribute_any_ h (by rw[arm_eval_Attribute,hb])
end

def FC(K:PySem.W.Frag)(ta:TE)(f:Str):TE:=λσ H Q=>ta σ H λx H1=>∃a C dx fs v,x=.ref a/\H1 a=some (.ins C dx fs)/\Cls K C/\dj K C f/\fs.lookup f=some v/\Q v H1
def FD(K:PySem.W.Frag)(ta tv:TE)(f:Str):TS:=λD σ H=>tv σ H λy H1=>ta σ H1 λx H2=>∃a C dx fs,x=.ref a/\H2 a=some (.ins C dx fs)/\Cls K C/\dj K C f/\fs.length<1000/\
 D.nx σ (upd H2 a (.ins C dx (bS f y fs)))
section
variable {X:Cx}{o e value:Expr}{f:Str}{pos pos' tpos:Pos}{ta tv:TE}
theorem br(he:PE X e ta)(hb:IN e f X.env (eval e X.env)=eval e X.env):PE X (.Attribute e f pos) (FC X.K ta f):=by
 intro pins s σ H Q I h;refine CV hb (thn (he pins s σ H _ I h) λu s1 ⟨x,H1,I1,rx,a,C,dx,fs,v,ex,ea,c,n,l,q⟩=>?_);subst ex;obtain rfl:u=He a:=rx;exact y_ I1 ea c n l λu' s2 I2 ru=>⟨v,H1,I2,ru,q⟩
theorem c7(ha:PE X o ta)(hv:PE X value tv)(hs:IW value (some (.Attribute o f pos')) pos.line X.env=pure false):PS X (.Assign [.Attribute o f pos'] value pos) (FD X.K ta tv f):=by
 intro pins s σ H D I h;refine plainObj_wpAny_Assign_Attribute (thn (hv pins s σ H _ I h) λu s1 ⟨y,H1,I1,ry,q⟩=>thn (ha pins s1 σ H1 _ I1 q) λov s2 ⟨x,H2,I2,rx,a,C,dx,fs,ex,ea,c,n,l,q2⟩=>?_) hs;subst ex;obtain rfl:ov=He a:=rx;exact za I2 ea c n l ry λs3 I3=>⟨σ,_,I3,q2⟩
end

section
variable {X:Cx}{pins:List (Addr×Obj)}{σ:St}{H:Hp}{s:Gg}{A:Ha}{E:F_->Gg->Prop}{Q:F_->Gg->Prop}{c:F_}{b:Bool}
end

structure cx(k:Nat)(A:Ha):Prop where
 hd:A.handled=none
 dp:A.depth+3*k+5<recursionLimit
 un:A.units+16*k+200<J7
theorem cx.mono{j k:Nat}{A:Ha}(r:cx k A)(h:j<=k):cx j A:=⟨r.hd,by have:=r.dp;omega,by have:=r.un;omega⟩
theorem cx.deeper{k:Nat}{A:Ha}(r:cx (k+1) A)(env:Env):cx k (A.deeper env):=
 ⟨r.hd,by have:=r.dp;show A.depth+1+3*k+5<_;omega,by have:=r.un;show A.units+3+16*k+200<_;omega⟩
theorem zb{A:Ha}{C:Addr}{us:List F_}{kw:List (Str×F_)}:(A.under (.builtin "type.__call__" ⟨.ref C::us,kw⟩)).depth=A.depth+1:=by
 first|rfl|simp[Ky,Code.weight,Code.isCreation,Code.isGuard,Code.isCaller,Code.frames,Kz,guardIds]
theorem zc{A:Ha}{C:Addr}{us:List F_}{kw:List (Str×F_)}:(A.under (.builtin "type.__call__" ⟨.ref C::us,kw⟩)).units=A.units+1:=by
 first|rfl|simp[Ky,Code.cUnits,Code.frames,Kz]
theorem cx.make{k:Nat}{A:Ha}(r:cx (k+1) A)(C:Addr)(us:List F_)(kw:List (Str×F_)):cx k (A.under (.builtin "type.__call__" ⟨.ref C::us,kw⟩)):=
 ⟨r.hd,by have:=r.dp;rw[zb];omega,by have:=r.un;rw[zc];omega⟩
theorem cx.depth{k:Nat}{A:Ha}(r:cx k A):A.depth<recursionLimit:=by have:=r.dp;omega
theorem cx.units{k:Nat}{A:Ha}(r:cx k A):A.units+64<J7:=by have:=r.un;omega
def sL:TA:=λ_ H Q=>Q [] H
def vW(ta:TE)(tr:TA):TA:=λσ H Q=>ta σ H λx H1=>tr σ H1 λxs H2=>Q (x::xs) H2
section
variable {X:Cx}{e:Expr}{es:List Expr}{te:TE}{t:TA}{pos:Pos}
theorem ae:PA X [] sL:=λ_ _ _ _ H Q I h=>Calls.spliced_nil ⟨[],H,I,.nil,h⟩
theorem aa(ha:PE X e te)(hr:PA X es t)(hs:GI (e::es) X.env=(false,eval e X.env)::GI es X.env:=by rfl):PA X (e::es) (vW te t):=by
 intro pos pins s σ H Q I h;rw[hs];show GK _ _ (spliced ((false,eval e X.env)::HV pos (GI es X.env))) _ _ s;refine JG (thn (ha pins s σ H _ I h) λu s1 ⟨x,H1,I1,r1,q1⟩=>?_);exact thn (hr pos pins s1 σ H1 _ I1 q1) λus s2 ⟨xs,H2,I2,r2,q2⟩=>⟨x::xs,H2,I2,.cons r1 r2,q2⟩

def FE(t:TA):TE:=λσ H Q=>t σ H λxs H1=>xs.length<=Gv/\∀p,H1 p=none->Q (.ref p) (upd H1 p (.tup xs))
def D3(t:TA):TE:=λσ H Q=>t σ H λxs H1=>xs.length<=Gv/\∀p,H1 p=none->Q (.ref p) (upd H1 p (.lst xs))
theorem bp{x1}(h:PA X es t):PE X (.Tuple es x1 pos) (FE t):=by
 intro pins s σ H Q I hq;refine wpAny_Tuple_spliced (thn (h pos pins s σ H _ I hq) λus s1 ⟨xs,H1,I1,r,z,q⟩=>⟨by rw[<-r.length];exact z,?_⟩);have hf:H1 s1.heap.objs.size=none:=I1.hok.fresh (Gi _);refine⟨.ref s1.heap.objs.size,upd H1 s1.heap.objs.size (.tup xs),I1.laid (t':=s1.toks) (λb u e=>Go _ e) (Gi _) ?_,rfl,q _ hf⟩;exact⟨z,us,r,⟨_,GN _ rfl,rfl,_,rfl⟩⟩
theorem aQ(h:PA X es t):PE X (.List es pos) (D3 t):=by
 intro pins s σ H Q I hq;refine wpAny_List_spliced (thn (h pos pins s σ H _ I hq) λus s1 ⟨xs,H1,I1,r,z,q⟩=>⟨by rw[<-r.length];exact z,?_⟩);have hf:H1 s1.heap.objs.size=none:=I1.hok.fresh (Gi _);refine⟨.ref s1.heap.objs.size,upd H1 s1.heap.objs.size (.lst xs),I1.laid (t':=s1.toks) (λb u e=>Go _ e) (Gi _) ?_,rfl,q _ hf⟩;exact⟨z,us,0,r,GN _ rfl⟩
end

abbrev Sp:=List V->Hp->VK->XK->Prop
abbrev CXT:=List Env->Hp->Gg->XK->F_->Gg->Prop

structure sM(P:GH)(w:GJ)(K:PySem.W.Frag)(mg:Str->Option F_)(base:Heap)(A:Ha)(outer:List Env)(s:Gg)(H:Hp):Prop where
 frames:A.frames=some outer
 mod:Mod K mg base
 bs:∀b o,base.get? b=some o->s.heap.get? b=some o/\H b=none
 bsz:base.objs.size<=s.heap.objs.size
 funs:s.heap.FunFrames base outer
 frf:∀b∈frs outer,H b=none
 hok:HOk P w H s.heap
 bare:Jj s.gens
def CE(outer:List Env)(P:GH)(w:GJ)(H:Hp)(s:Gg)(Q:VK)(u:F_)(s':Gg):Prop:=
 ∃v H',s'.os=s.os/\Jj s'.gens/\Un (frs outer) [] H H' s.heap s'.heap/\HOk P w H' s'.heap/\bi v u/\Q v H'
def CR(CX:CXT)(outer:List Env)(P:GH)(w:GJ)(H:Hp)(s:Gg)(Q:VK)(E:XK)(r:JS)(s':Gg):Prop:=
 match r with
 |.ok (.ret u)=>CE outer P w H s Q u s'
 |.ok _=>False
 |.error e=>CX outer H s E e s'
structure a_(P:GH)(w:GJ)(K:PySem.W.Frag)(mg:Str->Option F_)(base:Heap)(CX:CXT)(k:Nat)(f:Addr)(fd:Gu)(ps:List Str)(sp:Sp):Prop where
 len:∀vs H Q E,sp vs H Q E->vs.length=ps.length
 run:∀(A:Ha) (outer:List Env) (s:Gg) (H:Hp) (args:Args) (us:List F_) (vs:List V) (Q:VK) (E:XK),cx k A->sM P w K mg base A outer s H->BindsTo s fd args (ps.zip us)->a8 vs us->sp vs H Q E->
  Jl (GQ P w) A (.call (.ref f) args) (CR CX outer P w H s Q E) s
theorem sM.make{P:GH}{w:GJ}{K:PySem.W.Frag}{mg:Str->Option F_}{base:Heap}{A:Ha}{outer:List Env}{s:Gg}{H:Hp}(e:sM P w K mg base A outer s H)(C:Addr)(us:List F_)(kw:List (Str×F_)) :
  sM P w K mg base (A.under (.builtin "type.__call__" ⟨.ref C::us,kw⟩)) outer s H:=⟨by first|exact e.frames|(simpa[Ky,Code.envs,Kz,pushEnvs]using e.frames),e.mod,e.bs,e.bsz,e.funs,e.frf,e.hok,e.bare⟩
section
variable {X:Cx}{pins:List (Addr×Obj)}{σ:St}{H:Hp}{s s':Gg}
theorem Inv.env0(I:Inv X pins σ H s):sM X.prog X.w X.K X.mg X.base X.A X.stack s H:=
 ⟨I.ok.frames,I.ok.mod,I.bs,GM I.ok.bsz I.sz,I.stack,I.stkFree,I.hok,I.bare⟩
theorem Inv.after{Q:VK}{u:F_}(I:Inv X pins σ H s)(h:CE X.stack X.prog X.w H s Q u s'):EP X pins σ Q u s':=by
 obtain⟨v,H',os,bare,un,hok,r,q⟩:=h;obtain⟨hh,g,d,t,os'⟩:=s';obtain rfl:os'=s.os:=os;exact⟨v,H',I.call (h':=hh) (g':=g) (d':=d) (t':=t) (ch:=[]) un hok bare (λb z=>absurd z (by simp)),r,q⟩
end

def zd(sp:Sp)(dvs:List V)(E:XK)(t:TA):TE:=λσ H Q=>t σ H λvs H1=>sp (vs++dvs) H1 Q E
def vX(C:Addr)(m:Str)(sp:Sp)(dvs:List V)(E:XK)(ta:TE)(t:TA):TE:=λσ H Q=>ta σ H λx H1=>∃a dx fs,x=.ref a/\H1 a=some (.ins C dx fs)/\fs.lookup m=none/\
 t σ H1 λvs H2=>sp (x::(vs++dvs)) H2 Q E
def vY(C:Addr)(sp:Sp)(dvs:List V)(E:XK)(t:TA):TE:=λσ H Q=>t σ H λvs H1=>∀x dx,H1 x=none->H1 dx=none->dx≠x->
 sp (.ref x::(vs++dvs)) (upd (upd H1 dx (.own x)) x (.ins C dx [])) (λv H2=>v=.non/\Q (.ref x) H2) E

def gR(K:PySem.W.Frag)(fd:Gu)(ps:List Str)(ds:List F_):Prop:=
 ∀(s:Gg) (us:List F_),K.In s.heap->(us++ds).length=ps.length->BindsTo s fd ⟨us,[]⟩ (ps.zip (us++ds))
theorem gR.all{K:PySem.W.Frag}{fd:Gu}{ps:List Str}(h:∀us:List F_,us.length=ps.length->JV fd ⟨us,[]⟩=pure (ps.zip us)):gR K fd ps []:=λs us _ hl=>by
 rw[GF]at hl⊢;exact .of_eq (h us hl)

def fG(CX:CXT)(X:Cx)(E:XK):Prop:=∀(pins:List (Addr×Obj)) (σ:St) (H:Hp) (s:Gg) (e:F_) (s':Gg),Inv X pins σ H s->CX X.stack H s E e s'->X.xe e s'

section
variable {X:Cx}{CX:CXT}{k:Nat}{f C:Addr}{fd:Gu}{ps:List Str}{sp:Sp}{dvs:List V}{ds:List F_}{E:XK}{x m:Str}{p pos apos:Pos}{e o:Expr}{es:List Expr}{ta:TE}{t:TA}

theorem wQ{pins:List (Addr×Obj)}{σ:St}{H:Hp}{s:Gg}{Q:VK}{us:List F_}{vs:List V}(F:a_ X.prog X.w X.K X.mg X.base CX k f fd ps sp)(hr:cx k X.A)(hb:gR X.K fd ps ds)(hd:a8 dvs ds)(hx:fG CX X E)
  (I:Inv X pins σ H s)(r:a8 vs us)(h:sp (vs++dvs) H Q E):GK (GQ X.prog X.w) X.A (call (.ref f) us) (EP X pins σ Q) X.xe s:=by
 have r2:a8 (vs++dvs) (us++ds):=r.append hd;have hl:(us++ds).length=ps.length:=by rw[<-r2.length];exact F.len _ _ _ _ h
 refine KP (JA (F.run X.A X.stack s H ⟨us,[]⟩ (us++ds) (vs++dvs) Q E hr I.env0 (hb s us I.kIn hl) r2 h) λr s' hq=>?_);cases r with
 |error e=>exact hx pins σ H s e s' I hq
 |ok fl =>
  cases fl with
  |ret u=>exact I.after hq
  |next=>exact HD hq
  |brk=>exact HD hq
  |cont=>exact HD hq

theorem yA(F:a_ X.prog X.w X.K X.mg X.base CX k f fd ps sp)(hr:cx k X.A)(hg:Gl X x)(hm:X.mg x=some (.ref f))(hk:PySem.W.keepIn X.K (.ref f)=true)(hb:gR X.K fd ps ds)(hd:a8 dvs ds)(hx:fG CX X E)
  (ha:PA X (e::es) t)(hdb:(x==("__debug__" : Str))=false:=by decide)(he:GI (e::es) X.env=(false,eval e X.env)::GI es X.env:=by rfl)(hpl:(HV pos (GI es X.env)).any (·.1)=false:=by rfl) :
  PE X (.Call (.Name x p) (e::es) [] pos) (zd sp dvs E t):=by
 intro pins s σ H Q I h;refine HW (jJ I hg hm ?_ hdb);refine PySem.W.callWith_K (h₀:=X.base) I.ok.mod.kin hk (thn (ha pos pins s σ H _ I h) λus s1 ⟨vs,H1,I1,r,q⟩=>⟨I1.kIn,?_⟩) he hpl;exact wQ F hr hb hd hx I1 r q
theorem CW{pl:Sem Bool}(he:PE X o ta)(c:Cls X.K C)(hm:y9 X.K C m f)(F:a_ X.prog X.w X.K X.mg X.base CX k f fd ps sp)(hr:cx k X.A)(hb:gR X.K fd ps ds)(hd:a8 dvs ds)(hx:fG CX X E)(ha:PA X (e::es) t)
  (hst:GI (e::es) X.env=(false,eval e X.env)::GI es X.env:=by rfl)(hpl:(HV pos (GI es X.env)).any (·.1)=false:=by rfl)
  (ht:eval (.Call (.Attribute o m apos) (e :: es) [] pos) X.env=(do
   let ov<-eval o X.env
   Kv apos.atName
   let(f,first)<-Jz [ov] (JU ov m pl)
   KQ pos f first (HV pos (GI (e::es) X.env)) (Kc pos (Jn [] X.env))):=by rfl) :
  PE X (.Call (.Attribute o m apos) (e::es) [] pos) (vX C m sp dvs E ta t):=by
 intro pins s σ H Q I h;refine PySem.W.methodCall_KW (pl:=pl) (thn (he pins s σ H _ I h) λu s1 ⟨x,H1,I1,rx,a,dx,fs,ex,ea,l,q⟩=>?_) ht;subst ex;obtain rfl:u=He a:=rx;refine t0 I1 ea c hm l ?_;refine PySem.W.callWith_K (first:=[.ref a]) (h₀:=X.base) I.ok.mod.kin hm.kp (thn (ha pos pins s1 σ H1 _ I1 q) λus s2 ⟨vs,H2,I2,r,q2⟩=>⟨I2.kIn,?_⟩) hst hpl
 exact wQ (us:=.ref a::us) (vs:=.ref a::vs) F hr hb hd hx I2 (.cons rfl r) q2
theorem BB{pl:Sem Bool}(he:PE X o ta)(c:Cls X.K C)(hm:y9 X.K C m f)(F:a_ X.prog X.w X.K X.mg X.base CX k f fd ps sp)(hr:cx k X.A)(hb:gR X.K fd ps ds)(hd:a8 dvs ds)(hx:fG CX X E)
  (ht:eval (.Call (.Attribute o m apos) [] [] pos) X.env=(do
   let ov<-eval o X.env
   Kv apos.atName
   let(f,first)<-Jz [ov] (JU ov m pl)
   KQ pos f first (HV pos (GI [] X.env)) (Kc pos (Jn [] X.env))):=by rfl) :
  PE X (.Call (.Attribute o m apos) [] [] pos) (vX C m sp dvs E ta sL):=by
 intro pins s σ H Q I h;refine PySem.W.methodCall_KW (pl:=pl) (thn (he pins s σ H _ I h) λu s1 ⟨x,H1,I1,rx,a,dx,fs,ex,ea,l,q⟩=>?_) ht;subst ex;obtain rfl:u=He a:=rx;refine t0 I1 ea c hm l ?_;exact PySem.W.callWith_K0 (first:=[.ref a]) I1.kIn hm.kp (wQ (us:=[.ref a]) (vs:=[.ref a]) F hr hb hd hx I1 (.cons rfl .nil) q)

structure Mk(K:PySem.W.Frag)(C f:Addr):Prop where
 makes:PySem.W.makesIn K C=true
 init:PySem.W.findIn K (.ref C) "__init__" = some (some (.ref f))
 fn:PySem.W.isFn K (.ref f)=true
 kp:PySem.W.keepIn K (.ref C)=true

theorem wR{pins:List (Addr×Obj)}{σ:St}{H:Hp}{s:Gg}{Q:VK}{us:List F_}{vs:List V}(M:Mk X.K C f)(F:a_ X.prog X.w X.K X.mg X.base CX k f fd ps sp)(hr:cx (k+1) X.A)(hb:gR X.K fd ps ds)(hd:a8 dvs ds)
  (hx:fG CX X E)(I:Inv X pins σ H s)(r:a8 vs us)
  (h:∀x dx,H x=none->H dx=none->dx≠x->sp (.ref x::(vs++dvs)) (upd (upd H dx (.own x)) x (.ins C dx [])) (λv H2=>v=.non/\Q (.ref x) H2) E) :
  GK (GQ X.prog X.w) X.A (call (.ref C) us) (EP X pins σ Q) X.xe s:=by
 have hq:=h (s.heap.objs.size+1) s.heap.objs.size (I.hok.fresh (HJ _)) (I.hok.fresh (Gi _)) (Gx (Ik _));have I2:=Inv.made (C:=C) I;have r2:a8 (V.ref (s.heap.objs.size+1)::(vs++dvs)) (He (s.heap.objs.size+1)::(us++ds)):=.cons rfl (r.append hd);have hl:(He (s.heap.objs.size+1)::us++ds).length=ps.length:=by
  have e:=r2.length;rw[F.len _ _ _ _ hq]at e;exact e.symm
 refine KP (BA (f:=f) I.kIn M.makes M.init (beq_iff_eq.mp M.fn) (JA (F.run _ X.stack _ _ ⟨He (s.heap.objs.size+1)::us,[]⟩ (He (s.heap.objs.size+1)::(us++ds)) _ _ E (hr.make C us [])
  (I2.env0.make C us []) (hb _ (He (s.heap.objs.size+1)::us) I2.kIn hl) r2 hq) λr s' hq'=>?_))
 cases r with
 |error e=>exact hx pins σ _ _ e s' I2 hq'
 |ok fl =>
  cases fl with
  |ret u =>
   obtain⟨v,H',I3,rv,ev,q3⟩:=I2.after hq';subst ev;exact⟨rv,⟨V.ref (s.heap.objs.size+1),H',I3,rfl,q3⟩⟩
  |next=>exact HD hq'
  |brk=>exact HD hq'
  |cont=>exact HD hq'
theorem CY(M:Mk X.K C f)(F:a_ X.prog X.w X.K X.mg X.base CX k f fd ps sp)(hr:cx (k+1) X.A)(hg:Gl X x)(hm:X.mg x=some (.ref C))(hb:gR X.K fd ps ds)(hd:a8 dvs ds)(hx:fG CX X E)
  (ha:PA X (e::es) t)(hdb:(x==("__debug__" : Str))=false:=by decide)(he:GI (e::es) X.env=(false,eval e X.env)::GI es X.env:=by rfl)(hpl:(HV pos (GI es X.env)).any (·.1)=false:=by rfl) :
  PE X (.Call (.Name x p) (e::es) [] pos) (vY C sp dvs E t):=by
 intro pins s σ H Q I h;refine HW (jJ I hg hm ?_ hdb);refine PySem.W.callWith_K (h₀:=X.base) I.ok.mod.kin M.kp (thn (ha pos pins s σ H _ I h) λus s1 ⟨vs,H1,I1,r,q⟩=>⟨I1.kIn,?_⟩) he hpl;exact wR M F hr hb hd hx I1 r q
theorem BC(M:Mk X.K C f)(F:a_ X.prog X.w X.K X.mg X.base CX k f fd ps sp)(hr:cx (k+1) X.A)(hg:Gl X x)(hm:X.mg x=some (.ref C))(hb:gR X.K fd ps ds)(hd:a8 dvs ds)(hx:fG CX X E)
  (hdb:(x==("__debug__" : Str))=false:=by decide):PE X (.Call (.Name x p) [] [] pos) (vY C sp dvs E sL):=by
 intro pins s σ H Q I h;refine HW (jJ I hg hm ?_ hdb);exact PySem.W.callWith_K0 I.kIn M.kp (wR (us:=[]) M F hr hb hd hx I .nil h)
end

section
variable {X:Cx}{CX:CXT}{k:Nat}{f C:Addr}{fd:Gu}{ps ks:List Str}{sp:Sp}{E:XK}{x m:Str}{p pos apos kpos:Pos}{e o:Expr}{es:List Expr}{kws:List KJ}{te ta:TE}{t tk:TA}{nm:Option Str}
variable {g:List F_->List F_->List F_}{gV:List V->List V->List V}
end

structure aL(N P:List Str)(sc:Scope):Prop where
 kind:sc.kind=.function
 co:sc.isCoroutine=false
 gen:sc.isGenerator=false
 nd:N.Nodup
 pre:N.take P.length=P
 par:∀x∈P,sc.names.lookup x=some .local\/sc.names.lookup x=some .cell
 nofree:∀y∈sc.names,y.2≠.free

theorem u6{Ji:Str->Option Kd}{x:Str}:∀{binds:List (Str×F_)} {m:Str->Option F_},(∀v,(x,v)∉binds)->KR Ji binds m x=m x
 |[],_,_=>rfl
 |(n,v)::r,m,h=>by
  unfold KR;rw[u6 λw hw=>h w (Gh _ hw)]
  split
  .have:x≠n:=by rintro rfl;exact h v Gk
   simp[this]
  .rfl
theorem u7{Ji:Str->Option Kd}{x:Str}:∀{binds:List (Str×F_)} {m:Str->Option F_},(∀v,(x,v)∉binds)->KS Ji binds m x=m x
 |[],_,_=>rfl
 |(n,v)::r,m,h=>by
  unfold KS;rw[u7 λw hw=>h w (Gh _ hw)]
  split
  .rfl
  .have:x≠n:=by rintro rfl;exact h v Gk
   simp[this]
theorem u8{Ji:Str->Option Kd}{x:Str}{v:F_}:∀{P:List Str} {vs:List F_} {i:Nat} {m:Str->Option F_},P.Nodup->P[i]?=some x->vs[i]?=some v->Ji x=some .local->
  KR Ji (P.zip vs) m x=some v
 |[],_,_,_,_,h,_,_=>by simp at h
 |_::_,[],_,_,_,_,h,_=>by simp at h
 |p::P,w::vs,0,m,nd,h1,h2,hk=>by
  simp at h1 h2;subst h1;subst h2;show KR Ji ((p,w)::P.zip vs) m p=_;unfold KR;rw[u6 λv hv=>(List.nodup_cons.mp nd).1 (J8 hv).1,if_pos hk];simp
 |p::P,w::vs,i+1,m,nd,h1,h2,hk=>by
  show KR Ji ((p,w)::P.zip vs) m x=_;unfold KR;exact u8 (i:=i) (List.nodup_cons.mp nd).2 (by simpa using h1) (by simpa using h2) hk
theorem u9{Ji:Str->Option Kd}{x:Str}{v:F_}:∀{P:List Str} {vs:List F_} {i:Nat} {m:Str->Option F_},P.Nodup->P[i]?=some x->vs[i]?=some v->Ji x≠some .local->
  KS Ji (P.zip vs) m x=some v
 |[],_,_,_,_,h,_,_=>by simp at h
 |_::_,[],_,_,_,_,h,_=>by simp at h
 |p::P,w::vs,0,m,nd,h1,h2,hk=>by
  simp at h1 h2;subst h1;subst h2;show KS Ji ((p,w)::P.zip vs) m p=_;unfold KS;rw[u7 λv hv=>(List.nodup_cons.mp nd).1 (J8 hv).1,if_neg hk];simp
 |p::P,w::vs,i+1,m,nd,h1,h2,hk=>by
  show KS Ji ((p,w)::P.zip vs) m x=_;unfold KS;exact u9 (i:=i) (List.nodup_cons.mp nd).2 (by simpa using h1) (by simpa using h2) hk

def jc(N:List Str)(vs:List V):St:=vs.map some++Gc (N.length-vs.length) none

def mS(CX:CXT)(P:GH)(w:GJ)(K:PySem.W.Frag)(mg:Str->Option F_)(base:Heap)(N:List Str)(qual:Str)(scope:Scope)(f:Addr)(cd:F_)(A:Ha)(outer:List Env)(s:Gg)(H:Hp)(E:XK):Cx where
 prog:=P
 w:=w
 K:=K
 mg:=mg
 base:=base
 A:=A.deeper (HK qual scope s.heap.objs.size f cd)
 N:=N
 s₀:=s
 H₀:=H
 env:=HK qual scope s.heap.objs.size f cd
 outer:=outer
 stack:=HK qual scope s.heap.objs.size f cd::outer
 ex:=[]
 calm:=true
 fn:=λ_=>true
 pn:=[]
 xe:=λe s'=>GK (GQ P w) (A.deeper (HK qual scope s.heap.objs.size f cd)) (leaving (HK qual scope s.heap.objs.size f cd) e) (λ_ s''=>CX outer H s E e s'') (λe' s''=>CX outer H s E e' s'') s'

theorem wS{sc:Scope}{n:Nat}{x:Str}(h:sc.names.lookup x=some .cell):∃c,(cellsFrom n sc.names []).lookup x=some c:=by
 have q:=PySem.W.cellsFrom_some sc.names n [] (.inl h);exact Option.isSome_iff_exists.mp q

theorem Ap{CX:CXT}{P:GH}{w:GJ}{K:PySem.W.Frag}{mg:Str->Option F_}{base:Heap}{N ps:List Str}{qual:Str}{scope:Scope}{f:Addr}{cd:F_}{A:Ha}{outer:List Env}{s s1:Gg}{H:Hp}{E:XK}{us:List F_}{vs:List V}
  (S:aL N ps scope)(hd:A.handled=none)(e0:sM P w K mg base A outer s H)(hl:vs.length=ps.length)(r:a8 vs us)
  (x:InCallC s s.heap.objs.size (KR (HK qual scope s.heap.objs.size f cd).kindOf (ps.zip us) λ_=>none) (cellsFrom (s.heap.objs.size+1) scope.names []) (KS (HK qual scope s.heap.objs.size f cd).kindOf (ps.zip us) λ_=>none) s1) :
  Inv (mS CX P w K mg base N qual scope f cd A outer s H E) [] (jc N vs) H s1:=by
 have hpl:ps.length<=N.length:=by have:=congrArg Ke S.pre;rw[GC]at this;omega
 obtain⟨h1,tk,rfl,hk⟩:=x.done;have noA:∀b:Addr,b∉(mS CX P w K mg base N qual scope f cd A outer s H E).ex:=λb z=>absurd (show b∈([]:List Addr)from z) (by simp);refine⟨⟨e0.mod,S.kind,rfl,rfl,Gi _,λy z c h1 h2=>?_,λy hy=>?_,λy c _ h=>?_,λ_=>hd,Around.frames_deeper e0.frames,.inr ⟨rfl,rfl⟩,λb z=>absurd z (noA b),e0.bs,e0.bsz,λb _ _=>noA b,λb z=>absurd z (noA b),e0.funs,e0.frf⟩,
  rfl,e0.bare,Un.kept hk,⟨_,x.toInCall.ns,λi y v h1 h2 h3=>?_⟩,λy c h=>⟨_,x.cell y c h⟩,e0.hok.fresh (Gi _),λy c h=>?_,λp hp=>absurd (show p∈([]:List (Addr×Obj))from hp) (by simp),e0.hok.kept hk,?_⟩
 .exact name_of_addr x.apart (PySem.mem_of_lookup h1) (PySem.mem_of_lookup h2)
 .have hy:scope.names.lookup y=some .cell\/scope.names.lookup y=some .free:=hy;rcases hy with hy|hy
  .exact wS hy
  .exact absurd rfl (S.nofree _ (PySem.mem_of_lookup hy))
 .exact GE (x.above y c (PySem.mem_of_lookup h))
 .have hi:i<vs.length:=by
   unfold jc at h2;by_cases hi:i<vs.length
   .exact hi
   .rw[HX (by simpa using hi)]at h2;rw[List.getElem?_replicate]at h2
    split at h2<;>cases h2
  have ha:vs[i]?=some v:=by
   unfold jc at h2;rw[IJ (by simpa using hi),GD]at h2;cases e:vs[i]? with
   |none=>rw[e]at h2;cases h2
   |some a=>rw[e]at h2;cases h2;rfl
  obtain⟨u,hu,rv⟩:=r.get ha;have hp:ps[i]?=some y:=by
   rw[<-S.pre,List.getElem?_take_of_lt (by omega)];exact h1
  have ndP:ps.Nodup:=by rw[<-S.pre];exact S.nd.sublist (List.take_sublist _ _)
  refine⟨u,rv,?_⟩;rcases S.par y (Gj hp)with k|k
  .exact .inl ⟨k,u8 ndP hp hu k⟩
  .obtain⟨c,e⟩:=wS (n:=s.heap.objs.size+1) k;refine .inr ⟨.inl k,c,e,?_⟩;have q:=x.cell y c e;rw[u9 ndP hp hu (by show scope.names.lookup y≠_;rw[k];decide)]at q;exact q
 .exact e0.hok.fresh (GE (x.above y c (PySem.mem_of_lookup h)))
 .unfold jc;show _=N.length;rw[Ga,F9,Hc];omega

theorem ze{CX:CXT}{P:GH}{w:GJ}{K:PySem.W.Frag}{mg:Str->Option F_}{base:Heap}{k:Nat}{f:Addr}{name qual:Str}{params:Arguments}{body:List Stmt}{scope:Scope}{dV kV doc pm cdv ct oc:F_}{an od:Option Addr}
  {osl:Array (Option F_)}{N ps:List Str}{sp:Sp}(lk:K.lookup f=some ⟨oc,od,.func (PySem.W.fnOf name qual params body scope dV kV doc pm an cdv ct),osl⟩)(hcd:PySem.W.codeIn K cdv qual=true)(S:aL N ps scope)
  (len:∀vs H Q E,sp vs H Q E->vs.length=ps.length)
  (hbody:∀ (A:Ha) (outer:List Env) (s:Gg) (H:Hp) (vs:List V) (Q:VK) (E:XK),cx k (A.deeper (HK qual scope s.heap.objs.size f cdv))→sp vs H Q E →
   ∃t,PSs (mS CX P w K mg base N qual scope f cdv A outer s H E) body t/\t { nx:=λ_ H'=>Q .non H',rt:=Q } (jc N vs) H) :
  a_ P w K mg base CX (k+1) f (PySem.W.fnOf name qual params body scope dV kV doc pm an cdv ct) ps sp:=by
 refine⟨len,λA outer s H args us vs Q E hr e0 hb r hsp=>?_⟩;have hl:=len _ _ _ _ hsp;have KX:K.In s.heap:=e0.mod.kin.keeps λb o e=>(e0.bs b o e).1;have lim:s.heap.NoLimit:=e0.mod.nolimit.keeps λb o e=>(e0.bs b o e).1;have hkind:∀y∈ps.zip us,scope.names.lookup y.1=some .local\/(scope.names.lookup y.1=some .cell/\((cellsFrom (s.heap.objs.size+1) scope.names []).lookup y.1).isSome=true):=λ⟨n,v⟩ hy=>by
  rcases S.par n (J8 hy).1 with q|q
  .exact .inl q
  .exact .inr ⟨q,PySem.W.cellsFrom_some _ _ _ (.inl q)⟩
 refine codeAny_call_function hr.depth (KX _ _ lk) rfl S.co S.gen rfl (PySem.W.codeRec_of KX hcd) (hb _ _ _ _ ?_);refine wpAny_newFunctionEnv_cells S.kind hkind λenv he s1 x=>?_;subst he;refine⟨lim.keeps x.toInCall.keep,codeAny_func ?_⟩;obtain⟨t,ht,hq⟩:=hbody A outer s H vs Q E (hr.deeper _) hsp;have I:Inv (mS CX P w K mg base N qual scope f cdv A outer s H E) [] (jc N vs) H s1:=Ap S hr.hd e0 hl r x;refine Hl (ht [] s1 (jc N vs) H _ I hq) (λfl s' hs=>?_) λe s' hs=>hs;have fin:∀{σ':St} {H':Hp} {v:V} {u:F_},Inv (mS CX P w K mg base N qual scope f cdv A outer s H E) [] σ' H' s'->bi v u->Q v H'->CE outer P w H s Q u s':=
  λ{σ' H' v u} J rv q=>⟨v,H',J.os,J.bare,J.base,J.hok,rv,q⟩
 cases fl with
 |ret u =>
  obtain⟨v,σ',H',J,rv,q⟩:=hs;exact fin J rv q
 |next =>
  obtain⟨σ',H',J,q⟩:=hs;exact fin (v:=V.non) (u:=Jg) J rfl q
 |brk =>
  obtain⟨_,_,_,q⟩:=hs;exact HD q
 |cont =>
  obtain⟨_,_,_,q⟩:=hs;exact HD q
section
variable {X:Cx}{x:Str}{p pos:Pos}{e:Expr}{es:List Expr}{t:TA}{id T:String}{r:List V->Hp->VK->Prop}

def tCB(r:List V->Hp->VK->Prop)(t:TA):TE:=λσ H Q=>t σ H λvs H1=>r vs H1 Q
theorem aH(hc:i_ X (.builtin id) r)(hg:Gl X x)(hm:X.mg x=none)(hv:Iq x=some (.builtin id))(ha:PA X (e::es) t)(hn:x≠"__name__":=by decide)(hdb:(x==("__debug__" : Str))=false:=by decide)
  (he:GI (e::es) X.env=(false,eval e X.env)::GI es X.env:=by rfl)(hpl:(HV pos (GI es X.env)).any (·.1)=false:=by rfl):PE X (.Call (.Name x p) (e::es) [] pos) (tCB r t):=by
 intro pins s σ H Q I h;refine HW (lD I hg hm hv ?_ hn hdb);exact PyProof.Rows.callWith_builtin1 (thn (ha pos pins s σ H _ I h) λus s1 ⟨vs,H1,I1,r1,q1⟩=>hc pins s1 σ H1 vs us Q I1 r1 q1) he hpl
theorem gX(hc:i_ X (.type T) r)(hg:Gl X x)(hm:X.mg x=none)(hv:Iq x=some (.type T))(ha:PA X (e::es) t)(hn:x≠"__name__":=by decide)(hdb:(x==("__debug__" : Str))=false:=by decide)
  (he:GI (e::es) X.env=(false,eval e X.env)::GI es X.env:=by rfl)(hpl:(HV pos (GI es X.env)).any (·.1)=false:=by rfl):PE X (.Call (.Name x p) (e::es) [] pos) (tCB r t):=by
 intro pins s σ H Q I h;refine HW (lD I hg hm hv ?_ hn hdb);exact HH (thn (ha pos pins s σ H _ I h) λus s1 ⟨vs,H1,I1,r1,q1⟩=>hc pins s1 σ H1 vs us Q I1 r1 q1) he hpl
end
end L2

namespace HT
open PySem PyProof.Rows

section
open PySem.SeqAt
open PySem.AutoSeq1 (wpAny_loadPart')
open PySem.MeetsSeq PySem.MeetsSeq2 PySem.MeetsSeq3

end

section
variable {prog:GH}{w:GJ}{A:Ha}{E:F_->Gg->Prop}{s:Gg}

def sIx(n d:Nat):Option Int->Nat
 |none=>d
 |some v=>if v<0 then(v+(n:Int)).toNat else min v.toNat n
theorem sIx_none(n d:Nat):sIx n d none=d:=rfl
theorem sIx_nat(n d k:Nat):sIx n d (some (k:Int))=min k n:=by
 show(if(k:Int)<0 then((k:Int)+(n:Int)).toNat else min (k:Int).toNat n)=min k n;rw[if_neg (by omega),Hx]
theorem sIx_le(n d:Nat)(hd:d<=n)(o:Option Int):sIx n d o<=n:=by
 cases o with
 |none=>exact hd
 |some v =>
  show(if v<0 then(v+(n:Int)).toNat else min v.toNat n)<=n;by_cases hv:v<0
  .rw[if_pos hv];omega
  .rw[if_neg hv];exact Nat.min_le_right _ _
theorem jK(v:Int)(n d:Nat):(if v<0 then max (v+(n:Int)) 0 else min v (n:Int))=((sIx n d (some v):Nat):Int):=by
 show(if v<0 then max (v+(n:Int)) 0 else min v (n:Int))=(((if v<0 then(v+(n:Int)).toNat else min v.toNat n):Nat):Int);by_cases hv:v<0
 .simp only[if_pos hv];omega
 .simp only[if_neg hv];omega
theorem zf(lo hi:Option Int)(n:Nat):IK lo hi 1 (n:Int)=(((sIx n 0 lo:Nat):Int),((sIx n n hi:Nat):Int)):=by
 have h1:¬ ((1:Int)<0):=by omega
 unfold IK;simp only[h1,if_false];refine Prod.ext ?_ ?_
 .cases lo with
  |none=>rfl
  |some v=>exact jK v n 0
 .cases hi with
  |none=>rfl
  |some v=>exact jK v n n
theorem zg(i j:Nat):HY (i:Int) (j:Int) 1=j-i:=by
 unfold HY;have h1:(1:Int)>0:=by omega
 simp only[h1,if_true,Int.ediv_one]
 split<;>omega
theorem t4{v:F_}{o:Option Int}{Q:Option Int->Gg->Prop}(p:Kf v o)(h:Q o s):GK (GQ prog w) A (Builtin.Slice.slicePartIndex v) Q E s:=by
 cases p with
 |none=>exact slicePart_none h
 |int i t=>exact slicePart_int h
theorem sN{sl:Addr}{vl vu:F_}{lo hi:Option Int}{n:Nat}{Q:Int×Int×Nat->Gg->Prop}(hs:s.heap.IsSliceOf sl vl vu .none)(pl:Kf vl lo)(pu:Kf vu hi)
  (h:Q (((sIx n 0 lo:Nat):Int),1,sIx n n hi-sIx n 0 lo) s):GK (GQ prog w) A (Builtin.Slice.sliceApplied (.ref sl) (pure (n:Int))) Q E s:=by
 obtain⟨os,hos,hcs,hds⟩:=id hs;unfold Builtin.Slice.sliceApplied Builtin.Slice.sliceFields;refine Gq (Gq (KG hos hds (x:=vl) rfl (Gq (KG hos hds (x:=vu) rfl (Gq (KG hos hds (x:=.none) rfl (GO ?_)))))));refine Gq (slicePart_none ?_);show GK _ _ (if((1:Int)==0)=true then _ else _) _ _ s;rw[if_neg (by decide)];refine Gq (t4 pl (Gq (t4 pu (Gq (GO ?_)))));show GK _ _ (match IK lo hi 1 (n:Int)with|(lo,hi)=>pure (lo,(1:Int),HY lo hi 1)) _ _ s
 rw[zf lo hi n];show GK _ _ (pure (((sIx n 0 lo:Nat):Int),(1:Int),HY ((sIx n 0 lo:Nat):Int) ((sIx n n hi:Nat):Int) 1)) _ _ s;rw[zg];exact GO h
theorem BD(xs:Array F_)(i k:Nat):((HQ k).filterMap λ(m:Nat)=>xs[((i:Int)+(m:Int)*1).toNat]?).toArray=((xs.toList.drop i).take k).toArray:=by
 have e:(λ(m:Nat)=>xs[((i:Int)+(m:Int)*1).toNat]?)=λm=>xs[i+m]?:=by
  funext m
  have:((i:Int)+(m:Int)*1).toNat=i+m:=by omega
  rw[this]
 rw[e];have:=pick_run xs i k;rw[List.filterMap_map]at this;have e2:((λx=>xs[x]?)∘λx=>i+x)=λm=>xs[i+m]?:=rfl;rw[e2]at this;rw[this]

theorem getItem_tuple_cut{t sl:Addr}{items:Array F_}{vl vu:F_}{lo hi:Option Int}{Q:F_->Gg->Prop}(ht:IsTup s.heap t items)(hs:s.heap.IsSliceOf sl vl vu .none)(pl:Kf vl lo)(pu:Kf vu hi)
  (hw:¬ (sIx items.size 0 lo=0/\sIx items.size items.size hi=items.size))
  (h:Q (.ref s.heap.objs.size) { s with heap:=s.heap.push { cls:=.type "tuple",data:=.seq ((items.toList.drop (sIx items.size 0 lo)).take (sIx items.size items.size hi-sIx items.size 0 lo)).toArray } })
  (hsz:items.size<=Gv):GK (GQ prog w) A (J0 (.ref t) (.ref sl)) Q E s:=by
 have htake:sizeOk (.seq ((items.toList.drop (sIx items.size 0 lo)).take (sIx items.size items.size hi-sIx items.size 0 lo)).toArray):=by
  show((items.toList.drop (sIx items.size 0 lo)).take (sIx items.size items.size hi-sIx items.size 0 lo)).toArray.size<=Gv;rw[Gw,GC,Il,Ii];omega
 have hj:sIx items.size items.size hi<=items.size:=sIx_le _ _ (Gi _) hi;obtain⟨os,hos,hcs,hds⟩:=id hs;have hTs:s.TypeIs (.ref sl) "slice":=⟨os,hos,hcs⟩;unfold J0
 try with_reducible refine IL ?_
 first|refine Gq (GO ?_)|skip
 refine Gq (wpAny_sequenceKey ht.typeIs (by decide) ?_);refine Gq (wpAny_callSpecial?_slot (name:=JZ "__getitem__") ht.typeIs PyProof.Rows.slot_tuple_getitem
  (wpAny_call_entry PyProof.Rows.slot_tuple_getitem ht.typeIs entry_tuple_getitem ?_ (args_tuple_getitem _ _)))
 show GK _ _ (Builtin.Tuple.tupleItemsOf (.ref t) >>= _) _ _ s;refine Gq (tupleItemsOf_ ht ?_);refine Gq (KA hTs ?_);rw[if_pos (by decide)];refine Gq (sN hs pl pu ?_);have hno:¬ ((((sIx items.size 0 lo:Nat):Int)==0&&(1:Int)==1&&(sIx items.size items.size hi-sIx items.size 0 lo)==items.size)=true):=by
  intro q;rw[HC,HC]at q;have q1:((sIx items.size 0 lo:Nat):Int)=0:=JW q.1.1;have q2:sIx items.size items.size hi-sIx items.size 0 lo=items.size:=JW q.2;exact hw ⟨by omega,by omega⟩
 show GK _ _ (if(((sIx items.size 0 lo:Nat):Int)==0&&(1:Int)==1&&(sIx items.size items.size hi-sIx items.size 0 lo)==items.size)=true then _ else _) _ _ s;rw[if_neg hno,BD]
 first
  |exact Gq (m:=Ig _) (HP (GO ⟨_,rfl,GO h⟩) htake)
  |exact Gq (m:=Ig _) (HP (Gq (GO (GO ⟨_,rfl,GO h⟩))) htake)
  |exact Gq (Gq (m:=Ig _) (HP (GO (GO ⟨_,rfl,GO h⟩)) htake))
  |exact Gq (Gq (m:=Ig _) (HP (GO ⟨_,rfl,GO h⟩) htake))
end
end HT

namespace L2
open PySem PySem.Spec PyProof.Rows

abbrev TO:=St->Hp->(Option Int->Hp->Prop)->Prop
def PO(X:Cx)(e:Option Expr)(t:TO):Prop:=
 ∀(pins:List (Addr×Obj)) (s:Gg) (σ:St) (H:Hp) (Q:Option Int->Hp->Prop),Inv X pins σ H s->t σ H Q->
  GK (GQ X.prog X.w) X.A (evalPart e X.env) (λu s'=>∃o H',Inv X pins σ H' s'/\Kf u o/\Q o H') X.xe s
def CZ:TO:=λ_ H Q=>Q none H
def E5(t:TE):TO:=λσ H Q=>t σ H λx H1=>∃i,x=.int i/\Q (some i) H1

section
variable {X:Cx}{e:Expr}{te:TE}{lo hi:Option Expr}{tl th:TO}{pos p2:Pos}

theorem eJ:PO X none CZ:=by
 intro pins s σ H Q I h;rw[evalPart_none];exact GO ⟨none,H,I,.none,h⟩
theorem dB(h:PE X e te):PO X (some e) (E5 te):=by
 intro pins s σ H Q I hw;rw[evalPart_some];refine thn (h pins s σ H _ I hw) λu s1 ⟨x,H1,I1,r1,q1⟩=>?_;obtain⟨i,rfl,q⟩:=q1;obtain⟨t,rfl⟩:=r1;exact⟨some i,H1,I1,.int i t,q⟩

def SlR(X:Cx)(r:V->Option Int->Option Int->Hp->VK->Prop):Prop:=
 ∀(pins:List (Addr×Obj)) (s:Gg) (σ:St) (H:Hp) (x:V) (v vl vu:F_) (lo hi:Option Int) (sl:Addr) (Q:VK),Inv X pins σ H s->bi x v->s.heap.IsSliceOf sl vl vu .none->Kf vl lo->Kf vu hi->r x lo hi H Q->
  ∃T id,Kt (.type T) "__getitem__" = pure (some (.builtin id))/\s.TypeIs v T/\GK (GQ X.prog X.w) X.A (J0 v (.ref sl)) (EP X pins σ Q) X.xe s
def tSl(r:V->Option Int->Option Int->Hp->VK->Prop)(te:TE)(tl th:TO):TE:=λσ H Q=>te σ H λx H1=>tl σ H1 λl H2=>th σ H2 λu H3=>r x l u H3 Q
theorem dm{r:V->Option Int->Option Int->Hp->VK->Prop}(hr:SlR X r)(he:PE X e te)(hl:PO X lo tl)(hu:PO X hi th):PE X (.Subscript e (.Slice lo hi none p2) pos) (tSl r te tl th):=by
 intro pins s σ H Q I h;refine KU (thn (he pins s σ H _ I h) λv s1 ⟨x,H1,I1,r1,q1⟩=>?_);refine wpAny_Slice (thn (hl pins s1 σ H1 _ I1 q1) λvl s2 ⟨l,H2,I2,pl,q2⟩=>thn (hu pins s2 σ H2 _ I2 q2) λvu s3 ⟨u,H3,I3,pu,q3⟩=>?_);rw[evalPart_none];refine GO ?_;have I4:Inv X pins σ H3 { s3 with heap:=s3.heap.push { cls:=.type "slice",data:=.fields #[vl,vu,.none] } }:=I3.kept (t':=s3.toks) λb ob q=>Go _ q;obtain⟨T,id,hT,ht,hg⟩:=hr pins { s3 with heap:=s3.heap.push { cls:=.type "slice",data:=.fields #[vl,vu,.none] } } σ H3 x v vl vu l u s3.heap.objs.size Q I4 r1 (Heap.IsSliceOf.new ..) pl pu q3;show GK (GQ X.prog X.w) X.A (Km e (.Slice lo hi none p2) v (.ref s3.heap.objs.size)) (EP X pins σ Q) X.xe { s3 with heap:=s3.heap.push { cls:=.type "slice",data:=.fields #[vl,vu,.none] } };exact tail_any (ops:=[.ref s3.heap.objs.size,v]) ht hT hg (by with_unfolding_all rfl)

def fX(xs:List V)(lo hi:Option Int):List V:=(xs.drop (HT.sIx xs.length 0 lo)).take (HT.sIx xs.length xs.length hi-HT.sIx xs.length 0 lo)
theorem sy(xs:List V)(lo hi:Option Int):(fX xs lo hi).length<=xs.length:=by
 unfold fX;rw[GC,Il];omega
def D4(K:PySem.W.Frag):V->Option Int->Option Int->Hp->VK->Prop:=λx lo hi H Q=>∃a xs,x=.ref a/\SqT K H a xs/\
 ¬ (HT.sIx xs.length 0 lo=0/\HT.sIx xs.length xs.length hi=xs.length)/\∀p,H p=none->Q (.ref p) (upd H p (.tup (fX xs lo hi)))
theorem D5:SlR X (D4 X.K):=by
 intro pins s σ H x v vl vu lo hi sl Q I rx hs pl pu h;obtain⟨a,xs,rfl,hx,hw,q⟩:=h;cases rx;obtain⟨its,r,ht,hz⟩:=I.tuple hx;have hlen:its.toArray.size=xs.length:=by rw[Gw];exact r.length.symm
 refine⟨"tuple",_,PyProof.Rows.slot_tuple_getitem.lookup,ht.typeIs,?_⟩;refine HT.getItem_tuple_cut ht hs pl pu (by rw[hlen];exact hw) ?_ (by rw[hlen];exact hz);rw[hlen];refine⟨.ref s.heap.objs.size,_,I.laid (t':=s.toks) (o:=.tup (fX xs lo hi)) (λb ob q=>Go _ q) (Gi _) ?_,rfl,q _ (I.hok.fresh (Gi _))⟩;exact⟨GM (sy xs lo hi) hz,_,(r.drop (HT.sIx xs.length 0 lo)).take (HT.sIx xs.length xs.length hi-HT.sIx xs.length 0 lo),IsTup.new _ _⟩

end

def ixN(n:Nat)(i:Int):Option Nat:=if 0<=i then(if i<n then some i.toNat else none)else if -(n:Int)<=i then some (i+n).toNat else none
def atI{α:Type}(xs:List α)(i:Int):Option α:=(ixN xs.length i).bind λj=>xs[j]?
theorem yB{n:Nat}{i:Int}{j:Nat}(h:ixN n i=some j):seqIndex? i n=some j/\j<n/\-(n:Int)<=i/\i<n:=by
 unfold ixN at h;by_cases h0:0<=i
 .rw[if_pos h0]at h;by_cases h1:i<n
  .rw[if_pos h1]at h;have e:i.toNat=j:=GW h;exact⟨by rw[KH h0 h1,e],by omega,by omega,h1⟩
  .rw[if_neg h1]at h;cases h
 .rw[if_neg h0]at h;by_cases h1:-(n:Int)<=i
  .rw[if_pos h1]at h;have e:(i+n).toNat=j:=GW h;exact⟨by rw[KB (by omega) h1,e],by omega,h1,by omega⟩
  .rw[if_neg h1]at h;cases h
theorem uy{α:Type}{xs:List α}{i:Int}{v:α}(h:atI xs i=some v):∃j,seqIndex? i xs.length=some j/\xs[j]?=some v/\j<xs.length/\-(xs.length:Int)<=i/\i<xs.length:=by
 unfold atI at h;cases e:ixN xs.length i with
 |none=>rw[e]at h;cases h
 |some j =>
  rw[e]at h;obtain⟨h1,h2,h3,h4⟩:=yB e;exact⟨j,h1,h,h2,h3,h4⟩
theorem cF{α:Type}{xs:List α}{j:Nat}{v:α}(h:xs[j]?=some v):atI xs (j:Int)=some v:=by
 have hj:j<xs.length:=(List.getElem?_eq_some_iff.mp h).1;have e:ixN xs.length (j:Int)=some j:=by
  unfold ixN;rw[if_pos (by omega),if_pos (by omega)];simp
 unfold atI;rw[e];exact h
def C0(b:Expr):Prop:=∀o i,Kg b false o i=operate [o,i] (J0 o i)
def IxR(X:Cx)(r:R2):Prop:=
 ∀(value slice:Expr) (pins:List (Addr×Obj)) (s:Gg) (σ:St) (H:Hp) (x y:V) (v u:F_) (Q:VK),Inv X pins σ H s->bi x v->bi y u->r x y H Q->
  Kg slice false v u=operate [v,u] (J0 v u)->GK (GQ X.prog X.w) X.A (Km value slice v u) (EP X pins σ Q) X.xe s
def MtR(X:Cx)(id:String)(r:V->List V->Hp->VK->Prop):Prop:=
 ∀(pins:List (Addr×Obj)) (s:Gg) (σ:St) (H:Hp) (x:V) (xs:List V) (v:F_) (us:List F_) (Q:VK),Inv X pins σ H s->bi x v->a8 xs us->r x xs H Q->
  GK (GQ X.prog X.w) X.A (call (.builtin id) (v::us)) (EP X pins σ Q) X.xe s
section
variable {X:Cx}{a b:Expr}{ta tb:TE}{pos:Pos}
theorem IxR.or{r r':R2}(h:IxR X r)(h':IxR X r'):IxR X (λx y H Q=>r x y H Q\/r' x y H Q):=by
 intro value slice pins s σ H x y v u Q I rx ry q hs;rcases q with q|q
 .exact h value slice pins s σ H x y v u Q I rx ry q hs
 .exact h' value slice pins s σ H x y v u Q I rx ry q hs
theorem aJ{r:R2}(hr:IxR X r)(ha:PE X a ta)(hb:PE X b tb)(hs:C0 b):PE X (.Subscript a b pos) (tOp r ta tb):=by
 intro pins s σ H Q I h;exact KU (Bw ha hb I h λv u s2 x y H2 I2 rx ry q=>hr a b pins s2 σ H2 x y v u Q I2 rx ry q (hs _ _))

def BE(K:PySem.W.Frag):R2:=λx y H Q=>∃p xs i v,x=.ref p/\y=.int i/\SqL K H p xs/\atI xs i=some v/\Q v H
def lH(K:PySem.W.Frag):R2:=λx y H Q=>∃p xs i v,x=.ref p/\y=.int i/\SqT K H p xs/\atI xs i=some v/\Q v H
def D6:R2:=λx y H Q=>∃z i c,x=.str z/\y=.int i/\z.length<=Gv/\atI z.cps.toList i=some c/\Q (.str ⟨#[c]⟩) H
theorem bN:IxR X (BE X.K):=by
 intro value slice pins s σ H x y v u Q I rx ry h hs;obtain⟨p,xs,i,z,rfl,rfl,hq,he,q⟩:=h;cases rx;obtain⟨t,rfl⟩:=ry;obtain⟨its,r,pl,hz⟩:=I.list hq;obtain⟨j,h1,h2,h3,h4,h5⟩:=uy he;obtain⟨w,ew,rw'⟩:=r.get h2;have hl:=r.length;have hn:=lG;have fin:EP X pins σ Q w s:=⟨z,H,I,rw',q⟩;by_cases h0:0<=i
 .have hj:i.toNat=j:=by
   rw[KH h0 h5]at h1;exact GW h1
  exact item_listR pl.isList h0 (by omega) (by rw[hj];simpa using ew) fin hs
 .have hj:(i+(its.toArray.size:Int)).toNat=j:=by
   rw[KB (by omega) h4]at h1;rw[Gw,<-hl];exact GW h1
  exact subscriptTail_builtinR (x:=w) pl.isList.typeIs slot_list_getitem.lookup
   (wpAny_getItem_list_neg (Q:=λr s'=>r=w/\EP X pins σ Q r s') pl.isList (by omega) (by rw[Gw]<;>omega) (by omega) (by rw[hj];simpa using ew) ⟨rfl,fin⟩) hs
theorem bC:IxR X (lH X.K):=by
 intro value slice pins s σ H x y v u Q I rx ry h hs;obtain⟨p,xs,i,z,rfl,rfl,hq,he,q⟩:=h;cases rx;obtain⟨t,rfl⟩:=ry;obtain⟨its,r,pl,hz⟩:=I.tuple hq;obtain⟨j,h1,h2,h3,h4,h5⟩:=uy he;obtain⟨w,ew,rw'⟩:=r.get h2;have hl:=r.length;have hn:=lG;have fin:EP X pins σ Q w s:=⟨z,H,I,rw',q⟩;exact subscriptTail_builtinR (x:=w) pl.typeIs slot_tuple_getitem.lookup
  (getItem_tuple (j:=j) (Q:=λr s'=>r=w/\EP X pins σ Q r s') pl (by omega) (by omega) (by rw[Gw,<-hl];exact h1) (by simpa using ew) ⟨rfl,fin⟩) hs
theorem ef:IxR X D6:=by
 intro value slice pins s σ H x y v u Q I rx ry h hs;obtain⟨z,i,c,rfl,rfl,hz,he,q⟩:=h;obtain⟨t,rfl⟩:=rx;obtain⟨t',rfl⟩:=ry;obtain⟨j,h1,h2,h3,h4,h5⟩:=uy he;have hl:z.cps.toList.length=z.length:=by simp[Str.length]
 rw[hl]at h1 h4 h5;have hn:=lG;exact tail_any (JH s z t) slot_str_getitem.lookup (getItem_str (c:=c) (by
  have e1:decide (i < -(2^63:Int))=false:=decide_eq_false (by omega);have e2:decide (i>=2^63)=false:=decide_eq_false (by omega);rw[e1,e2,Bool.or_false]) (by rw[h1];simpa using h2) ⟨.str ⟨#[c]⟩,H,I.tok _,⟨_,rfl⟩,q⟩) hs
def rIx(K:PySem.W.Frag):R2:=λx y H Q=>BE K x y H Q\/lH K x y H Q\/D6 x y H Q
theorem Aq:IxR X (rIx X.K):=bN.or (bC.or ef)

theorem zh(its:List F_)(n j:Nat)(u:F_):J1 (·.setIfInBounds j u) { cls:=.type "list",data:=.seq its.toArray n }={ cls:=.type "list",data:=.seq (its.set j u).toArray n }:=by
 simp[J1]
theorem Inv.lst{pins:List (Addr×Obj)}{σ:St}{H:Hp}{s:Gg}{p:Addr}{xs:List V}(I:Inv X pins σ H s)(h:H p=some (.lst xs)) :
  ∃(its:List F_) (n:Nat),a8 xs its/\s.heap.get? p=some { cls:=.type "list",data:=.seq its.toArray n }/\xs.length<=Gv:=by
 obtain⟨z,its,n,r,e⟩:=I.hok p _ h;exact⟨its,n,r,e,z⟩
theorem Inv.lstUpd{pins:List (Addr×Obj)}{σ:St}{H:Hp}{s:Gg}{p:Addr}{xs ys:List V}{its its':List F_}{n n':Nat}{f:Obj->Obj}(I:Inv X pins σ H s)(h:H p=some (.lst xs))
  (ho:s.heap.get? p=some { cls:=.type "list",data:=.seq its.toArray n })(hf:f { cls:=.type "list",data:=.seq its.toArray n }={ cls:=.type "list",data:=.seq its'.toArray n' })(r:a8 ys its')(hz:ys.length<=Gv)(t:Nat) :
  Inv X pins σ (upd H p (.lst ys)) { s with heap:=s.heap.update p f,toks:=t }:=by
 have e:(s.heap.update p f).get? p=some { cls:=.type "list",data:=.seq its'.toArray n' }:=by
  rw[Heap.get?_update_self f ho (by rw[hf]<;>rfl),hf]
 refine I.write (x:=p) (e:=p) (by rw[h];trivial) (.inl rfl) (λb u hb q=>(Ja _ _ (GX hb)).trans q) ⟨_,e⟩ ?_;exact⟨hz,its',n',r,e⟩
def E6:V->V->V->Hp->(Hp->Prop)->Prop:=λo i v H Q=>∃p xs k j,o=.ref p/\i=.int k/\H p=some (.lst xs)/\ixN xs.length k=some j/\Q (upd H p (.lst (xs.set j v)))
theorem jL:DX X E6:=by
 intro pins s σ H o i v ov iv u Q I ro ri rv h;obtain⟨p,xs,k,j,rfl,rfl,hp,hj,q⟩:=h;cases ro;obtain⟨t,rfl⟩:=ri;obtain⟨its,n,r,ho,hz⟩:=I.lst hp;obtain⟨h1,h2,h3,h4⟩:=yB hj;have hl:=r.length;have hn:=lG;have I':Inv X pins σ (upd H p (.lst (xs.set j v))) { s with heap:=s.heap.update p (J1 (·.setIfInBounds j u)) }:=
  I.lstUpd hp ho (zh its n j u) (r.set rv j) (by rw[List.length_set];exact hz) s.toks
 by_cases h0:0<=k
 .have hk:k.toNat=j:=by
   rw[KH h0 h4]at h1;exact GW h1
  exact PySem.W.ki_setAt ho h0 (by omega) (by rw[Gw,<-hl];exact h4) (by rw[hk];exact⟨_,I',q⟩)
 .have hk:(k+(its.toArray.size:Int)).toNat=j:=by
   rw[KB (by omega) h3]at h1;rw[Gw,<-hl];exact GW h1
  exact PySem.W.ki_setBack ho (by omega) (by rw[Gw,<-hl];exact h3) (by omega) (by rw[hk];exact⟨_,I',q⟩)

theorem wT(lo hi:Option Int)(n:Nat):(IZ lo hi none n).1=((HT.sIx n 0 lo:Nat):Int)/\(IZ lo hi none n).2.1=((HT.sIx n n hi:Nat):Int)/\(IZ lo hi none n).2.2=1:=by
 refine⟨?_,?_,rfl⟩
 .cases lo with
  |none=>simp[IZ,HT.sIx]
  |some i =>
   simp only[IZ,HT.sIx,Option.getD_none,show(1:Int)>0 by decide,if_true];by_cases h:i<0
   .simp only[h,if_true]<;>omega
   .simp only[h,if_false]<;>omega
 .cases hi with
  |none=>simp[IZ,HT.sIx]
  |some i =>
   simp only[IZ,HT.sIx,Option.getD_none,show(1:Int)>0 by decide,if_true];by_cases h:i<0
   .simp only[h,if_true]<;>omega
   .simp only[h,if_false]<;>omega
theorem vA(its:List F_)(lo hi:Option Int):slicePick its.toArray lo hi none=((its.drop (HT.sIx its.length 0 lo)).take (HT.sIx its.length its.length hi-HT.sIx its.length 0 lo)).toArray:=by
 obtain⟨h1,h2,h3⟩:=wT lo hi its.toArray.size;unfold slicePick;rw[h1,h2,h3];simp only[sliceRange_one,pick_run,Gw]<;>rfl
def FG(K:PySem.W.Frag):V->Option Int->Option Int->Hp->VK->Prop:=λx lo hi H Q=>∃a xs,x=.ref a/\SqL K H a xs/\∀p,H p=none->Q (.ref p) (upd H p (.lst (fX xs lo hi)))
theorem nU:SlR X (FG X.K):=by
 intro pins s σ H x v vl vu lo hi sl Q I rx hs pl pu h;obtain⟨a,xs,rfl,hx,q⟩:=h;cases rx;obtain⟨its,r,ht,hz⟩:=I.list hx;have hlen:=r.length;refine⟨"list",_,slot_list_getitem.lookup,ht.isList.typeIs,?_⟩;refine wpAny_getItem_list_slice ht.isList hs pl pu .none (by simp) ?_ (by rw[Gw]<;>omega)
 rw[vA,<-hlen];refine⟨.ref s.heap.objs.size,_,I.laid (t':=s.toks) (o:=.lst (fX xs lo hi)) (λb ob q=>Go _ q) (Gi _) ?_,rfl,q _ (I.hok.fresh (Gi _))⟩;exact⟨GM (sy xs lo hi) hz,_,0,(r.drop (HT.sIx xs.length 0 lo)).take (HT.sIx xs.length xs.length hi-HT.sIx xs.length 0 lo),GN _ rfl⟩

def jd:V->Bool
 |.non=>true
 |.bl _=>true
 |.int _=>true
 |.str _=>true
 |_=>false
def eqV:V->V->Bool
 |.non,.non=>true
 |.bl a,.bl b=>a==b
 |.bl a,.int b=>(if a then 1 else 0)==b
 |.int a,.bl b=>a==(if b then 1 else 0)
 |.int a,.int b=>a==b
 |.str a,.str b=>a==b
 |_,_=>false
theorem D7{A:Ha}{s:Gg}{y x:V}{u v:F_}(ry:bi y u)(rx:bi x v)(fy:jd y=true)(fx:jd x=true):SeqAt.EqAt A s u v (eqV y x):=by
 cases y with
 |non =>
  cases ry;cases x with
  |non=>cases rx;exact SeqAt.EqAt.same _
  |bl b=>cases rx;exact SeqAt.EqAt.none_bool b
  |int b=>obtain⟨t,rfl⟩:=rx;exact SeqAt.EqAt.none_int b t
  |str b=>obtain⟨t,rfl⟩:=rx;exact SeqAt.EqAt.none_str b t
  |_=>exact absurd (show false=true from fx) GB
 |bl a =>
  cases ry;cases x with
  |non=>cases rx;exact SeqAt.EqAt.bool_none a
  |bl b=>cases rx;exact SeqAt.EqAt.bool_bool a b
  |int b=>obtain⟨t,rfl⟩:=rx;exact SeqAt.EqAt.bool_int a b t
  |str b=>obtain⟨t,rfl⟩:=rx;exact SeqAt.EqAt.bool_str a b t
  |_=>exact absurd (show false=true from fx) GB
 |int a =>
  obtain⟨t',rfl⟩:=ry;cases x with
  |non=>cases rx;exact SeqAt.EqAt.int_none a t'
  |bl b=>cases rx;exact SeqAt.EqAt.int_bool a t' b
  |int b=>obtain⟨t,rfl⟩:=rx;exact SeqAt.EqAt.int_int a t' b t
  |str b=>obtain⟨t,rfl⟩:=rx;exact SeqAt.EqAt.int_str a t' b t
  |_=>exact absurd (show false=true from fx) GB
 |str a =>
  obtain⟨t',rfl⟩:=ry;cases x with
  |non=>cases rx;exact SeqAt.EqAt.str_none a t'
  |bl b=>cases rx;exact SeqAt.EqAt.str_bool a t' b
  |int b=>obtain⟨t,rfl⟩:=rx;exact SeqAt.EqAt.str_int a t' b t
  |str b=>obtain⟨t,rfl⟩:=rx;exact SeqAt.EqAt.str_str a t' b t
  |_=>exact absurd (show false=true from fx) GB
 |_=>exact absurd (show false=true from fy) GB
def eqU(x:V)(u:F_):Bool:=match u with
 |.none=>eqV .non x
 |.bool b=>eqV (.bl b) x
 |.int i _=>eqV (.int i) x
 |.str z _=>eqV (.str z) x
 |_=>false
theorem wU{x y:V}{u:F_}(r:bi y u)(f:jd y=true):eqU x u=eqV y x:=by
 cases y with
 |non=>cases r;rfl
 |bl b=>cases r;rfl
 |int i=>obtain⟨t,rfl⟩:=r;rfl
 |str z=>obtain⟨t,rfl⟩:=r;rfl
 |_=>exact absurd (show false=true from f) GB
theorem nX{x:V}:∀{xs:List V} {us:List F_},a8 xs us->xs.all jd=true->us.any (eqU x)=xs.any λy=>eqV y x
 |_,_,.nil,_=>rfl
 |y::xs,u::us,.cons r t,f=>by
  rw[IP,HC]at f;rw[Iy,Iy,wU r f.1,nX t f.2]
theorem jM{A:Ha}{s:Gg}{x:V}{v:F_}(rx:bi x v)(fx:jd x=true):∀{xs:List V} {us:List F_},a8 xs us->xs.all jd=true->∀u∈us,SeqAt.EqAt A s u v (eqU x u)
 |_,_,.nil,_=>λu hu=>by cases hu
 |y::xs,u::us,.cons r t,f=>λu' hu=>by
  rw[IP,HC]at f;rcases List.mem_cons.mp hu with rfl|hu
  .rw[wU r f.1];exact D7 r rx f.1 fx
  .exact jM rx fx t f.2 u' hu
def inV(x:V)(xs:List V):Bool:=xs.any λy=>eqV y x
def rIn(K:PySem.W.Frag)(neg:Bool):R2:=λx y H Q=>∃p xs,y=.ref p/\(SqL K H p xs\/SqT K H p xs)/\jd x=true/\xs.all jd=true/\Q (.bl (if neg then !inV x xs else inV x xs)) H
theorem gY:OpR X (HB .In) (rIn X.K false):=by
 intro pins s σ H x y v u Q I rx ry h;obtain⟨p,xs,rfl,hq,fx,fs,q⟩:=h;cases ry;rcases hq with hq|hq
 .obtain⟨its,r,pl,hz⟩:=I.list hq;refine SeqAt.in_listAt (eqU x) pl.isList (λw hw=>jM rx fx r fs w (by simpa using hw)) ⟨.bl _,H,I,rfl,?_⟩;rw[show its.toArray.any (eqU x)=its.any (eqU x) by simp,nX r fs];exact q
 .obtain⟨its,r,pl,hz⟩:=I.tuple hq;refine SeqAt.in_tupleAt (eqU x) pl (λw hw=>jM rx fx r fs w (by simpa using hw)) ⟨.bl _,H,I,rfl,?_⟩;rw[show its.toArray.any (eqU x)=its.any (eqU x) by simp,nX r fs];exact q
theorem wV:OpR X (HB .NotIn) (rIn X.K true):=by
 intro pins s σ H x y v u Q I rx ry h;obtain⟨p,xs,rfl,hq,fx,fs,q⟩:=h;cases ry;rcases hq with hq|hq
 .obtain⟨its,r,pl,hz⟩:=I.list hq;refine SeqAt.notIn_listAt (eqU x) pl.isList (λw hw=>jM rx fx r fs w (by simpa using hw)) ⟨.bl _,H,I,rfl,?_⟩;rw[show its.toArray.any (eqU x)=its.any (eqU x) by simp,nX r fs];exact q
 .obtain⟨its,r,pl,hz⟩:=I.tuple hq;refine SeqAt.notIn_tupleAt (eqU x) pl (λw hw=>jM rx fx r fs w (by simpa using hw)) ⟨.bl _,H,I,rfl,?_⟩;rw[show its.toArray.any (eqU x)=its.any (eqU x) by simp,nX r fs];exact q
theorem bw:i_ X (.builtin "len") (λxs H Q=>∃p ys,xs=[.ref p]/\(SqL X.K H p ys\/SqT X.K H p ys)/\Q (.int ys.length) H):=by
 intro pins s σ H xs us Q I r h;obtain⟨p,ys,rfl,hq,q⟩:=h;obtain⟨u,rfl,rx⟩:=jb r;cases rx;have hn:=lG;rcases hq with hq|hq
 .obtain⟨its,r',pl,hz⟩:=I.list hq;have hlen:=r'.length;exact Calls.call_len_list pl.isList (by simp only[Gw]<;>omega) ⟨.int ys.length,H,I.tok _,⟨s.toks+1,by rw[Gw,hlen]⟩,q⟩
 .obtain⟨its,r',pl,hz⟩:=I.tuple hq;have hlen:=r'.length;exact len_tuple pl (by simp only[Gw]<;>omega) ⟨.int ys.length,H,I.tok _,⟨s.toks+1,by rw[Gw,hlen]⟩,q⟩
theorem dq:i_ X (.builtin "len") (λxs H Q=>∃z,xs=[.str z]/\z.length<=Gv/\Q (.int z.length) H):=by
 intro pins s σ H xs us Q I r h;obtain⟨z,rfl,hz,q⟩:=h;obtain⟨u,rfl,t,rfl⟩:=jb r;have hn:=lG;exact len_str (by omega) ⟨.int z.length,H,I.tok _,⟨_,rfl⟩,q⟩
def tyV(K:PySem.W.Frag)(T:String)(x:V)(H:Hp):Prop:=match x with
 |.str _=>T = "str"
 |.int _=>T = "int"
 |.ref p=>(T = "list"/\∃xs,SqL K H p xs)\/(T = "tuple"/\∃o,K.lookup p=some o/\o.cls=.type "tuple"/\o.dict=none)\/
   (T = "dict"/\((∃kvs,H p=some (.dK kvs))\/∃kvs,H p=some (.dT kvs)))\/(T = "set"/\∃S n,H p=some (.set S n))
 |_=>False
theorem D8{pins:List (Addr×Obj)}{σ:St}{H:Hp}{s:Gg}{T:String}{x:V}{v:F_}(I:Inv X pins σ H s)(r:bi x v)(ty:tyV X.K T x H) :
  s.TypeIs v T/\∀a,v=.ref a->∃ob,s.heap.get? a=some ob/\ob.dict=none:=by
 cases x with
 |str z =>
  obtain⟨t,rfl⟩:=r;cases (show T = "str" from ty);exact⟨JH s z t,λ_ e=>nomatch e⟩
 |int i =>
  obtain⟨t,rfl⟩:=r;cases (show T = "int" from ty);exact⟨KW s i t,λ_ e=>nomatch e⟩
 |ref p =>
  cases r;rcases ty with⟨rfl,xs,hq⟩|⟨rfl,o,hk,hc,hd⟩|⟨rfl,hk⟩|⟨rfl,S,n,hk⟩
  .obtain⟨its,_,pl,_⟩:=I.list hq;refine⟨pl.isList.typeIs,λa e=>?_⟩;cases e;obtain⟨o,n,e,c,hd,_⟩:=pl;exact⟨o,e,hd⟩
  .refine⟨⟨o,I.kIn p o hk,hc⟩,λa e=>?_⟩;cases e;exact⟨o,I.kIn _ o hk,hd⟩
  .have z:∃o,s.heap.get? p=some o/\o.ExactDict:=by
    rcases hk with⟨kvs,hk⟩|⟨kvs,hk⟩
    .obtain⟨_,_,_,_,o,_,_,e,ex,_⟩:=I.hok p _ hk;exact⟨o,e,ex⟩
    .obtain⟨_,_,_,_,o,_,_,e,ex,_⟩:=I.hok p _ hk;exact⟨o,e,ex⟩
   obtain⟨o,e,ex⟩:=z;refine⟨⟨o,e,ex.1⟩,λa e2=>?_⟩;cases e2;exact⟨o,e,ex.2.1⟩
  .obtain⟨o,_,_,_,e,ex,_⟩:=I.hok p _ hk;refine⟨⟨o,e,ex.1⟩,λa e2=>?_⟩;cases e2;exact⟨o,e,ex.2.1⟩
 |_=>exact HD ty
def tBM(K:PySem.W.Frag)(T:String)(r:V->List V->Hp->VK->Prop)(to:TE)(t:TA):TE:=λσ H Q=>to σ H λx H1=>tyV K T x H1/\t σ H1 λxs H2=>r x xs H2 Q
variable {o e:Expr}{es:List Expr}{to:TE}{t:TA}{name:Str}{apos cpos:Pos}{T id:String}{r:V->List V->Hp->VK->Prop}
theorem cG(pa:PlainAttrs T)(slot:Slot T name id)(hty:typeOf (.builtin id)=pure (.type "method_descriptor"))(hm:MtR X id r)(ho:PE X o to)(ha:PA X (e::es) t)
  (hbase:IN o name X.env (eval o X.env)=eval o X.env:=by rfl)
  (hfew:((HV cpos (GI (e :: es) X.env)).all (fun x=>!x.1) && (Kc cpos (Jn [] X.env)).all (fun x=>x.1.isSome)
   && decide ((e::es).length+([]:List KJ).length+(if([]:List KJ).isEmpty then 0 else 1)<30))=true:=by rfl)
  (hline:(apos.endLine==cpos.line)=true:=by rfl) (hs:GI (e::es) X.env=(false,eval e X.env)::GI es X.env:=by rfl) (hplain:(HV cpos (GI es X.env)).any (·.1)=false:=by rfl) :
  PE X (.Call (.Attribute o name apos) (e::es) [] cpos) (tBM X.K T r to t):=by
 intro pins s σ H Q I h;refine wpAny_Call_method_late hbase hfew hline rfl (thn (ho pins s σ H _ I h) λv s1 ⟨x,H1,I1,r1,ty,q1⟩=>?_);obtain⟨h1,h2⟩:=D8 I1 r1 ty;refine⟨T,id,pa,slot,hty,h1,h2,?_⟩;have hA:=ha cpos pins s1 σ H1 _ I1 q1;rw[hs]at hA⊢;refine Ir (by show(false||(HV cpos (GI es X.env)).any (·.1))=false;rw[hplain]<;>rfl) (Jo ?_)
 exact thn hA λus s2 ⟨vs,H2,I2,r2,q2⟩=>hm pins s2 σ H2 x vs v us Q I2 r1 r2 q2
end

def MtM(X:Cx)(id:String)(r:V->List V->Hp->VK->Prop):Prop:=
 ∀(pins:List (Addr×Obj)) (s:Gg) (σ:St) (H:Hp) (x:V) (xs:List V) (v:F_) (us:List F_) (Q:VK),Inv X pins σ H s->bi x v->a8 xs us->r x xs H Q->
  GK (GQ X.prog X.w) X.A (call (.builtin id) (v::us)) (EP X pins σ Q) X.xe s

theorem a8.one:∀{x:V} {us:List F_},a8 [x] us->∃u,us=[u]/\bi x u
 |_,_,.cons r .nil=>⟨_,rfl,r⟩
theorem a8.rep{xs:List V}{us:List F_}(h:a8 xs us):∀k:Nat,a8 (Gc k xs).flatten (Gc k us).flatten
 |0=>.nil
 |k+1=>by
  rw[GY,GY,Ib,Ib];exact a8.append h (a8.rep h k)
theorem u_(its:List F_):∀(k:Nat) (acc:List F_),
  KY (λx1 x2=>x1++x2) acc.toArray (Gc k its.toArray)=(acc++(Gc k its).flatten).toArray
 |0,acc=>by simp
 |k+1,acc=>by
  have e:acc.toArray++its.toArray=(acc++its).toArray:=by simp
  have e2:(acc++its)++(Gc k its).flatten=acc++(Gc (k+1) its).flatten:=by
   rw[GY,Ib,Gs]
  rw[<-e2,<-u_ its k (acc++its),<-e,GY,J_]

section
variable {X:Cx}{pins:List (Addr×Obj)}{σ:St}{H:Hp}{s:Gg}{l b:Addr}{xs ys zs:List V}

theorem Inv.lset{its its':List F_}{n:Nat}{f:Array F_->Array F_}{t':Nat}(I:Inv X pins σ H s)(hH:H l=some (.lst xs))
  (e:s.heap.get? l=some { cls:=.type "list",data:=.seq its.toArray n })(hf:f its.toArray=its'.toArray)(hv:a8 ys its')(hz:ys.length<=Gv) :
  Inv X pins σ (upd H l (.lst ys)) { s with heap:=s.heap.update l (J1 f),toks:=t' }:=by
 have q:=PySem.IsL.update e f;rw[hf]at q;refine I.write (x:=l) (e:=l) (by rw[hH];exact trivial) (.inl rfl) (λb' u hb hu=>(Ja s.heap (J1 f) (GX hb)).trans hu) ⟨_,q⟩ ?_;exact⟨hz,its',_,hv,q⟩
theorem Inv.lnew{its:List F_}{t':Nat}(I:Inv X pins σ H s)(hv:a8 ys its)(hz:ys.length<=Gv) :
  Inv X pins σ (upd H s.heap.objs.size (.lst ys)) { s with heap:=s.heap.push { cls:=.type "list",data:=.seq its.toArray },toks:=t' }:=
 I.laid (λ_ _ q=>Go _ q) (Gi _) ⟨hz,its,0,hv,GN _ rfl⟩
theorem Inv.fresh(I:Inv X pins σ H s):H s.heap.objs.size=none:=I.hok.fresh (Gi _)
theorem Inv.lstM(I:Inv X pins σ H s)(hH:H l=some (.lst xs)):xs.length<=Gv/\∃(its:List F_) (n:Nat),a8 xs its/\xs.length=its.length/\s.heap.get? l=some { cls:=.type "list",data:=.seq its.toArray n }:=by
 obtain⟨z,its,n,r,e⟩:=I.hok l _ hH;exact⟨z,its,n,r,r.length,e⟩

theorem wW{n:Nat}(h:n<=Gv):Ih n=false:=by
 unfold Ih;exact decide_eq_false (by omega)
end

section
variable {X:Cx}

def C1:V->List V->Hp->VK->Prop:=λx vs H Q=>∃l xs y,x=.ref l/\vs=[y]/\H l=some (.lst xs)/\xs.length<Gv/\Q .non (upd H l (.lst (xs++[y])))
theorem cB:MtM X "list.append" C1:=by
 intro pins s σ H x vs v us Q I rx rv h;obtain⟨l,xs,y,rfl,rfl,hH,hz,q⟩:=h;cases rx;obtain⟨u,rfl,ru⟩:=rv.one;obtain⟨z,its,n,r,hl,e⟩:=I.lstM hH;refine IU F.slot_list_append ⟨_,e,rfl⟩ F.entry_list_append (F.args_list_append_2 _ _) (PySem.list_append l its.toArray n u (by rw[Gw];omega)) ⟨e,?_⟩;refine⟨.non,_,I.lset (its':=its++[u]) hH e (by simp) (r.append (.cons ru .nil)) ?_,rfl,q⟩;rw[Ga,Iz];omega

def C2:V->List V->Hp->VK->Prop:=λx vs H Q=>∃l b xs zs,x=.ref l/\vs=[.ref b]/\H l=some (.lst xs)/\H b=some (.lst zs)/\xs.length+zs.length<=Gv/\Q .non (upd H l (.lst (xs++zs)))
theorem j_:MtM X "list.extend" C2:=by
 intro pins s σ H x vs v us Q I rx rv h;obtain⟨l,b,xs,zs,rfl,rfl,hH,hB,hz,q⟩:=h;cases rx;obtain⟨u,rfl,ru⟩:=rv.one;cases ru;obtain⟨z,its,n,r,hl,e⟩:=I.lstM hH;obtain⟨z2,its2,n2,r2,hl2,e2⟩:=I.lstM hB;have hsz:its.toArray.size+its2.toArray.size<=Gv:=by rw[Gw,Gw];omega
 have hlong:¬ (!its.toArray.isEmpty&&Ih (its.toArray.size+its2.toArray.size))=true:=by
  rw[wW hsz,Kh];exact GB
 refine IU F.slot_list_extend ⟨_,e,rfl⟩ F.entry_list_extend (F.args_list_extend_2 _ _)
  (AutoSeq1.list_extend_list_list_0 l its.toArray n b its2.toArray n2 hlong (by rw[Gw];omega) (by omega)) ⟨e,e2,?_⟩
 refine⟨.non,_,I.lset (its':=its++its2) hH e (by simp) (r.append r2) ?_,rfl,q⟩;rw[Ga];omega

def FH:R2:=λx y H Q=>∃l b xs zs,x=.ref l/\y=.ref b/\H l=some (.lst xs)/\H b=some (.lst zs)/\xs.length+zs.length<=Gv/\∀p,H p=none->Q (.ref p) (upd H p (.lst (xs++zs)))
theorem gg:OpR X (IM .Add) FH:=by
 intro pins s σ H x y v u Q I rx ry h;obtain⟨l,b,xs,zs,rfl,rfl,hH,hB,hz,q⟩:=h;cases rx;cases ry;obtain⟨z,its,n,r,hl,e⟩:=I.lstM hH;obtain⟨z2,its2,n2,r2,hl2,e2⟩:=I.lstM hB;refine PySem.P.add_list e e2 ?_ (by rw[Gw,Gw];omega);have ea:its.toArray++its2.toArray=(its++its2).toArray:=by simp
 rw[ea];exact⟨.ref _,_,I.lnew (t':=s.toks) (r.append r2) (by rw[Ga];omega),rfl,q _ I.fresh⟩
def FI:R2:=λx y H Q=>∃l k xs,x=.ref l/\y=.int k/\H l=some (.lst xs)/\-(2^63)<=k/\k<2^63/\xs.length*k.toNat<=Gv/\
 ∀p,H p=none->Q (.ref p) (upd H p (.lst (Gc k.toNat xs).flatten))
theorem yC{α:Type}(xs:List α)(k:Nat):(Gc k xs).flatten.length=k*xs.length:=by
 induction k with
 |zero=>simp
 |succ k ih=>rw[GY,Ib,Ga,ih,Nat.succ_mul,KC]
theorem kg:OpR X (IM .Mult) FI:=by
 intro pins s σ H x y v u Q I rx ry h;obtain⟨l,k,xs,rfl,rfl,hH,h1,h2,hz,q⟩:=h;cases rx;obtain⟨t,rfl⟩:=ry;obtain⟨z,its,n,r,hl,e⟩:=I.lstM hH;have hlen:its.toArray.size*k.toNat<=Gv:=by rw[Gw,<-hl];exact hz
 have hcap:¬ its.toArray.size*k.toNat>(2^63-1)/8:=by
  have:(Gv:Nat)<=(2^63-1)/8:=by decide
  omega
 have hfit:¬ (!Builtin.List.listFitsIndex k)=true:=by
  rw[fitsIndex_both h1 h2];exact GB
 have hlong:¬ Ih (its.toArray.size*k.toNat)=true:=by
  rw[wW hlen];exact GB
 have hnew:KY (λx1 x2=>x1++x2) #[] (Gc (if its.toArray.isEmpty=true then 0 else k.toNat) its.toArray)=(Gc k.toNat its).flatten.toArray:=by
  have f0:∀m:Nat,KY (λx1 x2=>x1++x2) #[] (Gc m its.toArray)=(Gc m its).flatten.toArray:=λm=>by
   have:=u_ its m [];rw[Ka]at this;exact this
  rw[f0];cases its with
  |nil=>simp
  |cons a r'=>rw[if_neg (by simp)]
 refine wpAny_binaryOp_repeat_ref (T := "list") (U := "int") (by decide) ⟨_,e,rfl⟩ (λs'=>KW s' k t) noFill_list_mul F.fills_int_mul F.slot_int_rmul repeat_list F.slot_int_index.lookup
  (IU F.slot_int_rmul (KW s k t) F.entry_int_rmul (F.args_int_rmul_2 _ _) (int___rmul___int_list k t l its.toArray n)
   ⟨e,rfl,⟨_,e,rfl⟩,IU F.slot_list_mul ⟨_,e,rfl⟩ F.entry_list_mul (F.args_list_mul_2 _ _) (AutoListH.list___mul___list_int_3 l its.toArray n k t hfit hcap hlong) ⟨e,?_⟩⟩)
 rw[hnew];exact⟨.ref _,_,I.lnew (t':=s.toks) (r.rep k.toNat) (by rw[yC,Nat.mul_comm];exact hz),rfl,q _ I.fresh⟩

end

section
variable {prog:GH}{w:GJ}{A:Ha}{E:F_->Gg->Prop}{s:Gg}
end

section
variable {X:Cx}
end

section
variable {κ:Type}[DecidableEq κ]
def cX(kvs:List (κ×V))(k:κ):Option V:=(kvs.find? λkv=>decide (kv.1=k)).map (·.2)
def jg(kvs:List (κ×V))(k:κ)(v:V):List (κ×V):=
 if(kvs.any λkv=>decide (kv.1=k))=true then kvs.map (λkv=>if kv.1=k then(kv.1,v)else kv)else kvs++[(k,v)]
theorem lI{p:κ×V}{r:List (κ×V)}{k:κ}(e:p.1=k):cX (p::r) k=some p.2:=by simp[cX,Iw,e]
theorem dY{p:κ×V}{r:List (κ×V)}{k:κ}(e:¬ p.1=k):cX (p::r) k=cX r k:=by simp[cX,Iw,e]
theorem sO(k:κ):∀kvs:List (κ×V),(kvs.any λkv=>decide (kv.1=k))=(cX kvs k).isSome
 |[]=>rfl
 |p::r=>by
  rw[Iy];by_cases e:p.1=k
  .simp only[lI e,decide_eq_true e,Bool.true_or,Option.isSome_some]
  .rw[dY e,decide_eq_false e,Kn];exact sO k r
theorem mT(kvs:List (κ×V))(k:κ)(v:V):(jg kvs k v).length<=kvs.length+1:=by
 unfold jg
 split
 .rw[F9];omega
 .rw[Ga,Gd,Gy];omega
theorem wX{kvs:List (κ×V)}{k:κ}(v:V)(h:cX kvs k=none):jg kvs k v=kvs++[(k,v)]:=by
 unfold jg;rw[sO,h];exact if_neg (by decide)

theorem gU.isSome_eq{o:Option V}{u:Option F_}(r:gU o u):o.isSome=u.isSome:=by
 cases o with
 |none=>cases u with
  |none=>rfl
  |some _=>exact(show False from r).elim
 |some _=>cases u with
  |none=>exact(show False from r).elim
  |some _=>rfl
theorem KV.val{kvs:List (κ×V)}{vs:List (κ×F_)}(r:KV kvs vs)(k:κ):gU (cX kvs k) (J2 vs k):=by
 unfold KV at r;induction r with
 |nil=>exact JF
 |@cons p q ps qs h t ih =>
  obtain⟨h1,h2⟩:=h;by_cases e:p.1=k
  .have e':q.1=k:=h1.symm.trans e;have b:J2 (q::qs) k=some q.2:=by simp[J2,Iw,e']
   rw[lI e,b];exact h2
  .have e':¬ q.1=k:=λz=>e (h1.trans z);have b:J2 (q::qs) k=J2 qs k:=by simp[J2,Iw,e']
   rw[dY e,b];exact ih
theorem KV.any{kvs:List (κ×V)}{vs:List (κ×F_)}(r:KV kvs vs)(k:κ):(kvs.any λkv=>decide (kv.1=k))=vs.any λkv=>decide (kv.1=k):=by
 unfold KV at r;induction r with
 |nil=>rfl
 |cons h t ih=>rw[Iy,Iy,ih,h.1]
theorem KV.repl{kvs:List (κ×V)}{vs:List (κ×F_)}(r:KV kvs vs)(k:κ){y:V}{u:F_}(ry:bi y u) :
  KV (kvs.map λkv=>if kv.1=k then(kv.1,y)else kv) (vs.map λkv=>if kv.1=k then(kv.1,u)else kv):=by
 unfold KV at r⊢;induction r with
 |nil=>exact .nil
 |@cons p q ps qs h t ih =>
  rw[Gp,Gp];refine .cons ?_ ih;obtain⟨h1,h2⟩:=h;by_cases e:p.1=k
  .rw[if_pos e,if_pos (h1.symm.trans e)];exact⟨h1,ry⟩
  .rw[if_neg e,if_neg (λz=>e (h1.trans z))];exact⟨h1,h2⟩
theorem KV.put{kvs:List (κ×V)}{vs:List (κ×F_)}(r:KV kvs vs)(k:κ){y:V}{u:F_}(ry:bi y u):KV (jg kvs k y) (KZ vs k u):=by
 unfold jg KZ;rw[r.any k];by_cases e:(vs.any λkv=>decide (kv.1=k))=true
 .rw[if_pos e,if_pos e];exact r.repl k ry
 .rw[if_neg e,if_neg e];exact Paired.snoc r ⟨rfl,ry⟩
theorem KV.length{kvs:List (κ×V)}{vs:List (κ×F_)}(r:KV kvs vs):kvs.length=vs.length:=Paired.length r
end


theorem mH{P:GH}{w:GJ}{k:Key}{u:F_}(r:bi (kV k) u):(bz P w).is k u=true:=by
 cases k with
 |inl i=>obtain⟨t,e⟩:=(show ∃t,u=Jf i t from r);subst e;exact yg P w i t
 |inr x=>obtain⟨t,e⟩:=(show ∃t,u=HZ x t from r);subst e;exact yh P w x t
theorem va{P:GH}{w:GJ}:∀{ks:List Key} {us:List F_},a8 (ks.map kV) us->ItemsAre (bz P w) ks us
 |[],_,r=>by rw[Jb]at r;cases r;exact .nil
 |k::ks,_,r=>by
  rw[Gp]at r;cases r with
  |cons h t=>exact .cons (mH h) (va t)

abbrev KT(H:Hp):List (List Key×V)->List (List Key×Addr×F_)->Prop:=Paired λp q=>p.1=q.1/\H q.2.1=some (.tup (p.1.map kV))/\bi p.2 q.2.2
theorem KT.val{H:Hp}{kvs:List (List Key×V)}{xs:List (List Key×Addr×F_)}(r:KT H kvs xs)(k:List Key):gU (cX kvs k) ((KI xs k).map (·.2)):=by
 induction r with
 |nil=>exact JF
 |@cons p q ps qs h t ih =>
  obtain⟨h1,_,h2⟩:=h;by_cases e:p.1=k
  .have e':q.1=k:=h1.symm.trans e;have b:KI (q::qs) k=some q.2:=by simp[KI,Iw,e']
   rw[lI e,b];exact h2
  .have e':¬ q.1=k:=λz=>e (h1.trans z);have b:KI (q::qs) k=KI qs k:=by simp[KI,Iw,e']
   rw[dY e,b];exact ih
theorem KT.repl{H:Hp}{kvs:List (List Key×V)}{xs:List (List Key×Addr×F_)}(r:KT H kvs xs)(k:List Key){y:V}{u:F_}(ry:bi y u) :
  KT H (kvs.map λkv=>if kv.1=k then(kv.1,y)else kv) (xs.map (putAt k u)):=by
 induction r with
 |nil=>exact .nil
 |@cons p q ps qs h t ih =>
  rw[Gp,Gp];refine .cons ?_ ih;obtain⟨h1,h2,h3⟩:=h;unfold putAt;by_cases e:p.1=k
  .rw[if_pos e,if_pos (h1.symm.trans e)];exact⟨h1,h2,ry⟩
  .rw[if_neg e,if_neg (λz=>e (h1.trans z))];exact⟨h1,h2,h3⟩
theorem KT.put{H:Hp}{kvs:List (List Key×V)}{xs:List (List Key×Addr×F_)}(r:KT H kvs xs)(k:List Key){b:Addr}{y:V}{u:F_}(hb:H b=some (.tup (k.map kV)))(ry:bi y u) :
  KT H (jg kvs k y) (storedH xs k b u):=by
 have e:(kvs.any λkv=>decide (kv.1=k))=(KI xs k).isSome:=by
  rw[sO,(r.val k).isSome_eq,JO]
 unfold jg storedH;rw[e];by_cases q:(KI xs k).isSome=true
 .rw[if_pos q,if_pos q];exact r.repl k ry
 .rw[if_neg q,if_neg q];exact Paired.snoc r ⟨rfl,hb,ry⟩
theorem KT.keeps{H H':Hp}{kvs:List (List Key×V)}{xs:List (List Key×Addr×F_)}(r:KT H kvs xs)(ht:∀b ys,H b=some (.tup ys)->H' b=some (.tup ys)):KT H' kvs xs:=
 Paired.mapP r λ_ _ z=>⟨z.1,ht _ _ z.2.1,z.2.2⟩

section
variable {P:GH}{w:GJ}{H:Hp}{h:Heap}{a:Addr}
theorem Cy{u:HO}(ok:HOk P w H h)(e:Rd H a u):cE P w H h a u:=e.ok ok
theorem rT{kvs:List (Key×V)}(ok:HOk P w H h)(e:Rd H a (.dK kvs)):kvs.length<=Gv/\(a==HI)=false/\∃vs,KV kvs vs/\h.DictOf (bz P w) a vs:=
 show cE P w H h a (.dK kvs)from Cy ok e
theorem E7{kvs:List (Key×V)}(ok:HOk P w H h)(e:H a=some (.dK kvs)):kvs.length<=Gv/\(a==HI)=false/\∃vs,KV kvs vs/\h.DictOf (bz P w) a vs:=rT ok (.inl e)
theorem qm{ks:List Key}(ok:HOk P w H h)(e:H a=some (.tup (ks.map kV))):(Kj (bz P w)).is h ks a:=by
 obtain⟨_,its,r,o,h1,h2,n,h3⟩:=(show cE P w H h a (.tup (ks.map kV))from ok a _ e);exact⟨o,its.toArray,n,h1,h2,h3,by simpa using va r⟩
theorem rV{kvs:List (List Key×V)}(ok:HOk P w H h)(e:Rd H a (.dT kvs)):kvs.length<=Gv/\(a==HI)=false/\
  ∃xs,KT H kvs xs/\h.DictOfH (Kj (bz P w)) a xs:=by
 obtain⟨z,y,xs,r,o,es,ep,h1,h2,h3,h4,h5⟩:=(show cE P w H h a (.dT kvs)from Cy ok e);refine⟨z,y,xs,r,o,es,ep,h1,h2,h3,h4,λx hx=>?_,h5⟩;have all:∀{l:List (List Key×V)} {m:List (List Key×Addr×F_)},KT H l m->∀x∈m,(Kj (bz P w)).is h x.1 x.2.1:=by
  intro l m q;induction q with
  |nil=>intro x hx;exact nomatch hx
  |@cons p q ps qs hq t ih =>
   intro x hx;rcases List.mem_cons.mp hx with e|hx
   .subst e;exact qm ok (by rw[<-hq.1];exact hq.2.1)
   .exact ih x hx
 exact all r x hx
theorem E8{kvs:List (List Key×V)}(ok:HOk P w H h)(e:H a=some (.dT kvs)):kvs.length<=Gv/\(a==HI)=false/\
  ∃xs,KT H kvs xs/\h.DictOfH (Kj (bz P w)) a xs:=rV ok (.inl e)
end

def gZ(H:Hp)(a:Addr)(y:V)(r:Option V):Prop:=
 (∃kvs k,Rd H a (.dK kvs)/\y=kV k/\r=cX kvs k)\/∃kvs k b,Rd H a (.dT kvs)/\y=.ref b/\H b=some (.tup (k.map kV))/\r=cX kvs k
def uz(H:Hp)(a:Addr)(y v:V)(H':Hp):Prop:=
 (∃kvs k,H a=some (.dK kvs)/\y=kV k/\kvs.length<Gv/\H'=upd H a (.dK (jg kvs k v)))\/
 ∃kvs k b,H a=some (.dT kvs)/\y=.ref b/\H b=some (.tup (k.map kV))/\kvs.length<Gv/\H'=upd H a (.dT (jg kvs k v))
theorem gZ.k{H:Hp}{a:Addr}{kvs:List (Key×V)}{k:Key}(e:H a=some (.dK kvs)):gZ H a (kV k) (cX kvs k):=.inl ⟨kvs,k,.inl e,rfl,rfl⟩
theorem uz.k{H:Hp}{a:Addr}{kvs:List (Key×V)}{k:Key}{v:V}(e:H a=some (.dK kvs))(hl:kvs.length<Gv):uz H a (kV k) v (upd H a (.dK (jg kvs k v))):=.inl ⟨kvs,k,e,rfl,hl,rfl⟩
section
variable {X:Cx}{pins:List (Addr×Obj)}{σ:St}{H:Hp}{s:Gg}{a:Addr}{y v:V}{u r:F_}{o:Option V}{A:Ha}{E:F_->Gg->Prop}

theorem Inv.big(I:Inv X pins σ H s):HI<s.heap.objs.size:=by
 have h:GP<s.heap.objs.size:=(I.mod.glob.keeps I.bk).lt;exact HS (by decide) h

theorem Ar{Q:F_->Gg->Prop}(hu:A.units+1<J7)(I:Inv X pins σ H s)(g:gZ H a y (some v))(ry:bi y u)(h:∀w' s',Inv X pins σ H s'->bi v w'->Q w' s') :
  GK (GQ X.prog X.w) A (J0 (.ref a) u) Q E s:=by
 rcases g with⟨kvs,k,e,ey,l⟩|⟨kvs,k,b,e,ey,eb,l⟩
 .subst ey;obtain⟨z,hd,vs,rel,dd⟩:=rT I.hok e;obtain⟨w',hw,rw'⟩:=gU.some_of (v:=v) (o:=J2 vs k) (by rw[l];exact rel.val k);exact wpAny_getItem_of (mH ry) dd.mapOf hw (h w' _ (I.tok _) rw')
 .subst ey;cases (show u=He b from ry);obtain⟨z,hd,xs,rel,dd⟩:=rV I.hok e;obtain⟨w',hw,rw'⟩:=gU.some_of (v:=v) (o:=(KI xs k).map (·.2)) (by rw[l];exact rel.val k);obtain⟨p,hp,hp2⟩:=Option.map_eq_some_iff.mp hw;refine wpAny_getItem_heap (IV hu) (qm I.hok eb) dd hp ?_;rw[hp2];exact h w' _ (I.tok _) rw'
theorem FJ{Q:F_->Gg->Prop}(hu:A.units+1<J7)(I:Inv X pins σ H s)(g:gZ H a y o)(ry:bi y u)(h:∀s',Inv X pins σ H s'->Q (.bool o.isSome) s') :
  GK (GQ X.prog X.w) A (HB .In u (.ref a)) Q E s:=by
 rcases g with⟨kvs,k,e,ey,l⟩|⟨kvs,k,b,e,ey,eb,l⟩
 .subst ey;obtain⟨z,hd,vs,rel,dd⟩:=rT I.hok e;refine wpAny_in_of (mH ry) hd dd.mapOf ?_;rw[<-(rel.val k).isSome_eq,<-l];exact h _ (I.tok _)
 .subst ey;cases (show u=He b from ry);obtain⟨z,hd,xs,rel,dd⟩:=rV I.hok e;refine wpAny_in_heap (IV hu) (qm I.hok eb) hd dd ?_;have q:=(rel.val k).isSome_eq;rw[JO]at q;rw[<-q,<-l];exact h _ (I.tok _)
theorem C3{Q:F_->Gg->Prop}(hu:A.units+1<J7)(I:Inv X pins σ H s)(g:gZ H a y o)(ry:bi y u)(h:∀s',Inv X pins σ H s'->Q (.bool (!o.isSome)) s') :
  GK (GQ X.prog X.w) A (HB .NotIn u (.ref a)) Q E s:=by
 rcases g with⟨kvs,k,e,ey,l⟩|⟨kvs,k,b,e,ey,eb,l⟩
 .subst ey;obtain⟨z,hd,vs,rel,dd⟩:=rT I.hok e;refine wpAny_notIn_of (mH ry) hd dd.mapOf ?_;rw[<-(rel.val k).isSome_eq,<-l];exact h _ (I.tok _)
 .subst ey;cases (show u=He b from ry);obtain⟨z,hd,xs,rel,dd⟩:=rV I.hok e;refine wpAny_notIn_heap (IV hu) (qm I.hok eb) hd dd ?_;have q:=(rel.val k).isSome_eq;rw[JO]at q;rw[<-q,<-l];exact h _ (I.tok _)
theorem yD{h':Heap}{t':Nat}{ob:HO}(I:Inv X pins σ H s)(mu:Mut (H a))(hs:IH a s.heap h')(he:∃q,h'.get? a=some q)(new:cE X.prog X.w (upd H a ob) h' a ob) :
  Inv X pins σ (upd H a ob) { s with heap:=h',toks:=t' }:=
 I.write (x:=a) (e:=a) mu (.inl rfl) (λb q hb z=>(hs.2 b hb).trans z) he new
theorem As{P:GH}{w:GJ}{H':Hp}{h':Heap}{kvs:List (Key×V)}{vs:List (Key×F_)}(z:kvs.length<=Gv)(hd:(a==HI)=false)(rel:KV kvs vs)(dd:h'.DictOf (bz P w) a vs) :
  cE P w H' h' a (.dK kvs):=⟨z,hd,vs,rel,dd⟩
theorem At{H':Hp}{Q:Unit->Gg->Prop}(hu:A.units+1<J7)(I:Inv X pins σ H s)(g:uz H a y v H')(ry:bi y u)(rv:bi v r)(h:∀s',Inv X pins σ H' s'->Q () s') :
  GK (GQ X.prog X.w) A (setItem (.ref a) u r) Q E s:=by
 rcases g with⟨kvs,k,e,ey,l,eH⟩|⟨kvs,k,b,e,ey,eb,l,eH⟩
 .subst ey eH;obtain⟨z,hd,vs,rel,dd⟩:=E7 I.hok e;have hz:vs.length<=Gv:=by rw[<-rel.length];exact z
  have hl:(jg kvs k v).length<=Gv:=by have:=mT kvs k v;omega
  refine wpAny_setItem_pairs (hsz:=hz) (mH ry) dd λh' dd' hs=>h _ ?_;have he:∃q,h'.get? a=some q:=let⟨q,_,_,hq,_⟩:=dd';⟨q,hq⟩;exact yD I (by rw[e];exact JF) hs he (As hl hd (rel.put k rv) dd')
 .subst ey eH;cases (show u=He b from ry);obtain⟨z,hd,xs,rel,dd⟩:=E8 I.hok e;have hz:xs.length<=Gv:=by rw[<-Paired.length rel];exact z
  have hl:(jg kvs k v).length<=Gv:=by have:=mT kvs k v;omega
  refine wpAny_setItem_heap (hsz:=hz) (IV hu) (qm I.hok eb) dd λh' dd' hs=>h _ ?_;obtain⟨q,es,ep,hq,h2,h3,h4,_,h5⟩:=dd';refine yD I (by rw[e];exact JF) hs ⟨q,hq⟩ ⟨hl,hd,_,(rel.put k eb rv).keeps λc ys ec=>?_,q,es,ep,hq,h2,h3,h4,h5⟩;rw[aj (EW ec e (λz=>nomatch z))];exact ec
end

section
variable {X:Cx}{pins:List (Addr×Obj)}{σ:St}{H:Hp}{s:Gg}{a:Addr}{kvs:List (Key×V)}{k:Key}{u:F_}{A:Ha}{E:F_->Gg->Prop}
end


def BF(i:Expr):Prop:=∀ov iv,Kg i false ov iv=operate [ov,iv] (J0 ov iv)
theorem yE{prog:GH}{w:GJ}{A:Ha}{E:F_->Gg->Prop}{s:Gg}{env:Env}{value slice:Expr}{pos:Pos}{T id:String}{Q:F_->Gg->Prop}
  (hl:Kt (.type T) "__getitem__" = pure (some (.builtin id)))(hs:BF slice)
  (h:GK (GQ prog w) A (eval value env) (λo s₁=>GK (GQ prog w) A (eval slice env) (λi s₂=>s₂.TypeIs o T/\GK (GQ prog w) A (J0 o i) Q E s₂) E s₁) E s) :
  GK (GQ prog w) A (eval (.Subscript value slice pos) env) Q E s:=by
 refine KU (Hl h (λo s₁ h₁=>Hl h₁ (λi s₂ h₂=>?_) λ_ _ x=>x) λ_ _ x=>x);obtain⟨hT,h₂⟩:=h₂;unfold Km;refine Gq ?_;rw[getitemInPython_of_ne hT.not_modules];refine Gq (wpAny_specialOf hT hl ?_);have fin:GK (GQ prog w) A (Kg slice false o i) (λr s₃=>GK (GQ prog w) A (letTemporaryGo value o r >>= λ_=>pure r) Q E s₃) E s₂:=by
  rw[hs o i];exact wpAny_operating (Hl h₂ (λr s₃ h₃=>Gq (wpAny_letTemporaryGo (GO h₃))) λ_ _ x=>x)
 first
  |exact GO (Gq fin)
  |exact Gq (GO (Gq fin))
  |exact Gq fin

theorem yi{X:Cx}{pins:List (Addr×Obj)}{σ:St}{H:Hp}{s:Gg}{a:Addr}{y:V}{o:Option V}(I:Inv X pins σ H s)(g:gZ H a y o):s.TypeIs (.ref a) "dict":=by
 rcases g with⟨kvs,k,e,_,_⟩|⟨kvs,k,b,e,_,_,_⟩
 .obtain⟨_,_,vs,_,dd⟩:=rT I.hok e;exact dd.typeIs
 .obtain⟨_,_,xs,_,dd⟩:=rV I.hok e;exact dd.typeIs
def E9(td ty:TE):TE:=λσ H Q=>td σ H λx H1=>ty σ H1 λy H2=>∃a v,x=.ref a/\gZ H2 a y (some v)/\Q v H2
def E_(td ty tv:TE):TS:=λD σ H=>tv σ H λv H1=>td σ H1 λx H2=>ty σ H2 λy H3=>∃a H4,x=.ref a/\uz H3 a y v H4/\D.nx σ H4
section
variable {X:Cx}{o i e value:Expr}{pos pos' tpos:Pos}{td ty tv:TE}
theorem uA(hu:X.A.units+1<J7)(ho:PE X o td)(hi:PE X i ty)(hs:BF i):PE X (.Subscript o i pos) (E9 td ty):=by
 intro pins s σ H Q I h;refine yE PySem.F.slot_dict_getitem.lookup hs (thn (ho pins s σ H _ I h) λu s1 ⟨x,H1,I1,rx,q1⟩=>thn (hi pins s1 σ H1 _ I1 q1) λiv s2 ⟨y,H2,I2,ry,a,v,ex,g,q2⟩=>?_);subst ex;obtain rfl:u=He a:=rx;exact⟨yi I2 g,Ar hu I2 g ry λw' s3 I3 rw'=>⟨v,H2,I3,rw',q2⟩⟩
theorem yF(hu:X.A.units+1<J7)(ho:PE X o td)(hi:PE X i ty)(hv:PE X value tv)(hs:IW value (some (.Subscript o i pos')) pos.line X.env=pure false) :
  PS X (.Assign [.Subscript o i pos'] value pos) (E_ td ty tv):=by
 intro pins s σ H D I h;refine wpAny_Assign_Subscript (thn (hv pins s σ H _ I h) λr s1 ⟨v,H1,I1,rv,q1⟩=>thn (ho pins s1 σ H1 _ I1 q1) λu s2 ⟨x,H2,I2,rx,q2⟩=>thn (hi pins s2 σ H2 _ I2 q2) λiv s3 ⟨y,H3,I3,ry,a,H4,ex,g,q3⟩=>?_) hs;subst ex;obtain rfl:u=He a:=rx;exact At hu I3 g ry rv λs4 I4=>⟨σ,H4,I4,q3⟩
end


theorem BG{P:GH}{w:GJ}{H:Hp}(h:Heap)(hb:HI<h.objs.size):cE P w H (h.push { cls:=.type "dict",data:=.dict #[] }) h.objs.size (.dK []):=
 ⟨GZ _,beq_eq_false_iff_ne.mpr (GX (Gx hb)),[],.nil,Heap.DictOf.new h⟩
def D9:TE:=λ_ H Q=>∀p,H p=none->Q (.ref p) (upd H p (.dK []))
section
variable {X:Cx}{pos:Pos}
theorem wY:PE X (.Dict [] [] pos) D9:=λpins s σ H Q I h =>
 wpAny_Dict_empty ⟨.ref s.heap.objs.size,_,I.laid (a:=s.heap.objs.size) (o:=.dK []) (t':=s.toks) (λ_ _ q=>Go _ q) (Gi _) (BG s.heap I.big),rfl,h _ (I.hok.fresh (Gi _))⟩
end

def IsD(H:Hp)(a:Addr):Prop:=(∃kvs,Rd H a (.dK kvs))\/∃kvs,Rd H a (.dT kvs)
theorem Au{X:Cx}{pins:List (Addr×Obj)}{σ:St}{H:Hp}{s:Gg}{a:Addr}(I:Inv X pins σ H s)(d:IsD H a) :
  s.TypeIs (.ref a) "dict"/\(∀b,He a=.ref b->∃ob,s.heap.get? b=some ob/\ob.dict=none)/\(a==HI)=false:=by
 rcases d with⟨kvs,e⟩|⟨kvs,e⟩
 .obtain⟨_,hd,vs,_,dd⟩:=rT I.hok e;refine⟨dd.typeIs,λb q=>?_,hd⟩;cases q;obtain⟨ob,_,_,h1,h2,_⟩:=dd;exact⟨ob,h1,h2.2.1⟩
 .obtain⟨_,hd,xs,_,dd⟩:=rV I.hok e;refine⟨dd.typeIs,λb q=>?_,hd⟩;cases q;obtain⟨ob,_,_,h1,h2,_⟩:=dd;exact⟨ob,h1,h2.2.1⟩

section
variable {X:Cx}{pins:List (Addr×Obj)}{σ:St}{H:Hp}{s:Gg}{a:Addr}{y d:V}{u r:F_}{o:Option V}{A:Ha}{E:F_->Gg->Prop}
end

section
variable {X:Cx}{o e f:Expr}{apos cpos:Pos}{td ty tx:TE}
end

section
variable {X:Cx}{pins:List (Addr×Obj)}{σ:St}{H:Hp}{s:Gg}{a:Addr}{kvs:List (Key×V)}{A:Ha}{E:F_->Gg->Prop}
end


section
variable {X:Cx}{pins:List (Addr×Obj)}{σ:St}{H:Hp}{s:Gg}{a:Addr}{y:V}{u:F_}{A:Ha}{E:F_->Gg->Prop}
end
end L2

namespace Att
open PySem PySem.W PySem.Calls PyProof.Rows

theorem t_{P:GV}{h:Heap}:∀(ns:List Int) (vs:List F_),WellAll P h vs (ns.map WData.int)->KL vs ns:=by
 intro ns;induction ns with
 |nil =>
  intro vs w;rw[Jb]at w;cases w;exact .nil
 |cons n ns ih =>
  intro vs w;rw[Gp]at w;cases w with
  |cons a b =>
   cases a;exact .cons _ _ (ih _ b)

theorem Av{l:OpenLaw}{n:Nat}(hn:l.most=some n){P:GV}{h:Heap}{args:List WData}{vals:List F_}
  (hpre:l.row.toRowW.claim.pre args=true)(hwl:WellAll P h vals args) :
  ∃a vs ns,vals=[He a]/\args=[WData.list (ns.map WData.int)]/\h.get? a=some { cls:=.type "list",data:=.seq vs.toArray }/\KL vs ns/\ns.length<=n:=by
 have hsh:WShape.hasAll [] args [.list .int]=true:=(pre_splitW hpre).1;have hc:l.pre.holds [] { args:=args }=true:=(pre_splitW hpre).2;obtain⟨d,r,rfl,h1,h2⟩:=hasAllW_cons hsh;obtain rfl:=hasAllW_nil h2;obtain⟨xs,rfl,h3⟩:=hasW_list h1;obtain⟨ns,rfl⟩:=items_int h3;have hlen:ns.length<=n:=by
  unfold OpenLaw.pre at hc;have h4:(WTm.not (.lt (.lit (.int (n:Int))) (.len (.arg 0)))).holds [] { args:=[.list (ns.map .int)] }=true:=by
   have h4:=(holds_andW hc).1;rw[hn]at h4;exact h4
  have h5:=condW_of h4 (w_not (w_lt w_lit (w_len_list (w_arg rfl))));rw[F9]at h5;refine II λq=>?_;have q':(n:Int)<((ns.length:Nat):Int):=by omega
  first
   |(rw[decide_eq_true q']at h5;exact absurd h5 (by decide))
   |(simp at h5;omega)
 cases hwl with
 |cons w1 w2 =>
  cases w2;cases w1 with
  |list ho hall=>exact⟨_,_,ns,rfl,rfl,ho,t_ ns _ hall,hlen⟩

theorem Aw(l:OpenLaw)(args:List WData):l.row.toRowW.claim.post args (.bool true) args=true:=
 postW_of (r:=l.row.toRowW) (X:=(true==true))
  (show WShape.has [] (.bool true) .bool=true by first|rfl|decide|simp[WShape.has,WShape.arms,WShape.armsAll])
  (show(WTm.eq .res (.lit (.bool true))).value [] { args:=args,res:=some (.bool true),after:=args }=some (.bool (true==true))from w_eq_bool (w_res rfl) w_lit) rfl

theorem attach_call{l:OpenLaw}{n:Nat}{q:GH}{loose:List Str}{XP:(Str->Option F_)->Heap->Prop}{YP:GJ->Heap->Prop}{d:DefRec}
  (hn:l.most=some n)(hdf:d.params.defaults=[])
  (call:∀ (w:GJ) (s₀ s₁:Gg) (mg mb:Str→Option F_) (fa:Addr) (o:Obj) (pm cd doc:F_) (a:Addr) (vs:List F_) (ns:List Int),
   Ground q loose [] XP w s₀ mg mb s₁.heap->YP w s₁.heap->
   s₁.heap.get? fa=some o->o.data=.func (docDef d.name d.params d.body d.scope pm cd doc)->s₁.heap.CodeRec cd d.name->mg d.name=some (.ref fa)->
   s₁.heap.get? a=some { cls:=.type "list",data:=.seq vs.toArray }->KL vs ns->ns.length<=n->s₁.gens=#[]->
   Jl (GQ l.prog w) Kk (.call (.ref fa) ⟨[.ref a],[]⟩) (λr s'=>r=.ok (.ret (.bool true))/\OldK s₁.heap s'.heap/\s'.os=s₁.os/\Jj s'.gens) s₁) :
  WalkO q loose XP YP l.row.toRowW d [] (λf vs=>PySem.call f vs):=by
 intro w s₀ s₁ mg mb G Y fa o pm cd doc dV kV ho hd hcd hD hmg hg args vals as hpre hlay hrd hwl hlo;obtain rfl:dV=.none:=Dflts.none hD hdf;obtain rfl:kV=.none:=Dflts.noKw hD;obtain⟨a,vs,ns,rfl,rfl,hobj,hints,hlen⟩:=Av hn hpre hwl;refine enter_call (JA (call w s₀ s₁ mg mb fa o pm cd doc a vs ns G Y ho (fd_plain hd) hcd hmg hobj hints hlen hg) λr s' hq=>?_);obtain⟨rfl,h2,h3,h4⟩:=hq;exact⟨.inl ⟨.bool true,.bool true,[],rfl,λ_=>rfl,.bool true,Aw l _,λ_=>⟨List.Pairwise.nil,λ_ hm=>(nomatch hm)⟩⟩,h2,h3,h4⟩

section
variable {prog:GH}{w:GJ}{A:Ha}{E:F_->Gg->Prop}{s:Gg}{K:Frag}

end
end Att

namespace L2
open PySem PySem.Spec PyProof.Rows

theorem vb:∀{vs:List F_} {ns:List Int},KL vs ns->a8 (ns.map V.int) vs
 |_,_,.nil=>.nil
 |_,_,.cons n t h=>.cons ⟨t,rfl⟩ (vb h)

def BH(H:Hp):Prop:=∀b,H b=none\/∃o xs,H b=some (.frz o (.lst xs))

theorem BI{P:GH}{w:GJ}{K:PySem.W.Frag}{mg mb:Str->Option F_}{CX:CXT}{k:Nat}{fa a:Addr}{fd:Gu}{x:Str}{sp:Sp}{s₁:Gg}{vs:List F_}{ns:List Int}
  (KX:K.In s₁.heap)(hns:s₁.heap.Ns GP mg)(hb:s₁.heap.Ns Kq mb)(hbb:∀x:Str,x≠"__name__"->mb x=Iq x)(hlim:s₁.heap.NoLimit)(hg:s₁.gens=#[])
  (ha:s₁.heap.get? a=some { cls:=.type "list",data:=.seq vs.toArray })(hi:KL vs ns)(hl:ns.length<=Gv)(hr:cx k Kk)
  (F:∀base:Heap,K.In base->base.Ns GP mg->a_ P w K mg base CX k fa fd [x] sp)(hbind:∀(s:Gg) (u:F_),BindsTo s fd ⟨[u],[]⟩ [(x,u)])
  (hsp:∀H:Hp,BH H->SqL K H a (ns.map V.int)->sp [.ref a] H (λv _=>v=.bl true) λ_ _ _=>False)
  (hCX:∀H e s',CX [] H s₁ (λ_ _ _=>False) e s'->False) :
  Jl (GQ P w) Kk (.call (.ref fa) ⟨[.ref a],[]⟩) (λr s'=>r=.ok (.ret (.bool true))/\OldK s₁.heap s'.heap/\s'.os=s₁.os/\Jj s'.gens) s₁:=by
 have rv:=vb hi;have lenV:=hi.length
 -- from an abstract heap in which nothing but the script may be tracked
 have core:∀H:Hp,BH H->SqL K H a (ns.map V.int)->HOk P w H s₁.heap->(∀b,H b≠none->b=a)->(H a≠none->K.lookup a=none)->
   Jl (GQ P w) Kk (.call (.ref fa) ⟨[.ref a],[]⟩) (λr s'=>r=.ok (.ret (.bool true))/\OldK s₁.heap s'.heap/\s'.os=s₁.os/\Jj s'.gens) s₁:=by
  intro H hO hS hok hA hK;have base_of:∀{b:Addr} {o:Obj},s₁.heap.get? b=some o->H b=none->(oB s₁.heap H).get? b=some o:=λe n=>Bq e n;have noA:∀{b:Addr} {o:Obj} {es:Array Hd} {ep:Nat},s₁.heap.get? b=some o->o.data=.dict es ep->H b=none:=λ{b o es ep} e d=>by
   cases q:H b with
   |none=>rfl
   |some u =>
    have e':b=a:=hA b (by rw[q];simp);subst e';rw[ha]at e;cases e;have d':Data.seq vs.toArray _=Data.dict es ep:=d;cases d'
  have nsK:∀{b:Addr} {m:Str->Option F_},s₁.heap.Ns b m->(oB s₁.heap H).Ns b m:=λ{b m} ⟨o,es,ep,e,d,r⟩=>⟨o,es,ep,base_of e (noA e d),d,r⟩;have hKb:K.In (oB s₁.heap H):=λb o e=>base_of (KX b o e) (by
   cases q:H b with
   |none=>rfl
   |some u =>
    have e':b=a:=hA b (by rw[q];simp);subst e';rw[hK (by rw[q];simp)]at e;cases e)
  have hM:Mod K mg (oB s₁.heap H):=⟨hKb,nsK hns,⟨mb,nsK hb,hbb⟩,let⟨mc,h1,h2⟩:=hlim;⟨mc,nsK h1,h2⟩⟩;have e0:sM P w K mg (oB s₁.heap H) Kk [] s₁ H:=⟨rfl,hM,λb o e=>CQ e,Kx (Ah _ _),trivial,λb hb=>absurd (show b∈([]:List Addr)from hb) (by simp),hok,.of_eq hg⟩;refine JA ((F _ hKb (nsK hns)).run Kk [] s₁ H ⟨[.ref a],[]⟩ [.ref a] [.ref a] _ _ hr e0 (hbind s₁ (.ref a)) (.cons rfl .nil) (hsp H hO hS)) λr s' h=>?_;cases r with
  |error e=>exact(hCX H e s' h).elim
  |ok fl =>
   cases fl with
   |next=>exact HD h
   |brk=>exact HD h
   |cont=>exact HD h
   |ret u =>
    obtain⟨v,H',os,bare,un,hok',r',q⟩:=h;have q':v=.bl true:=q;subst q';obtain rfl:u=Kr true:=r';refine⟨rfl,OldK.of_keep λb o e=>?_,os,bare⟩;cases q:H b with
    |none=>exact un.keep b o e q (by intro z;exact absurd (show b∈([]:List Addr)from z) (by simp)) (by simp)
    |some u =>
     rcases hO b with z|⟨ob,xs,z⟩
     .rw[q]at z;cases z
     .have z2:=un.frzs b ob _ z;obtain⟨e1,_⟩:=hok b _ z;obtain⟨e2,_⟩:=hok' b _ z2;rw[e]at e1;cases e1;exact e2
 cases hk:K.lookup a with
 |some o =>
  -- the script is one of the module's own objects
  have e:=KX a o hk;rw[ha]at e;cases e;refine core (λ_=>none) (λ_=>.inl rfl) (.inr ⟨_,vs.toArray,_,hk,rfl,rfl,rfl,by rw[Gw,lenV];exact hl,by simpa using rv⟩) (λb u z=>by have z':(none:Option HO)=some u:=z;cases z') (λb z=>absurd rfl z) λz=>absurd rfl z
 |none =>
  refine core (λb=>if b=a then some (.frz { cls:=.type "list",data:=.seq vs.toArray } (.lst (ns.map V.int)))else none) (λb=>?_) (.inl (.inr ⟨{ cls:=.type "list",data:=.seq vs.toArray },if_pos rfl⟩)) (λb u z=>?_) (λb z=>?_) λ_=>hk
  .by_cases hb:b=a
   .exact .inr ⟨_,_,if_pos hb⟩
   .exact .inl (if_neg hb)
  .by_cases hb:b=a
   .have z':=(if_pos hb).symm.trans z;cases z';subst hb;exact⟨ha,by rw[F9];exact hl,vs,_,rv,ha⟩
   .have z':=(if_neg hb).symm.trans z;cases z'
  .by_cases hb:b=a
   .exact hb
   .exact absurd (if_neg hb) z

theorem walk_of{l:PySem.W.OpenLaw}{n k:Nat}{q:GH}{loose:List Str}{XP:(Str->Option F_)->Heap->Prop}{YP:GJ->Heap->Prop}{d:DefRec}{K:GV->PySem.W.Frag}{CX:GJ->CXT}{sp:GJ->Sp}{x:Str}
  (hn:l.most=some n)(hn2:n<=Gv)(hdf:d.params.defaults=[])(hr:cx k Kk)
  (hY:∀(w:GJ) (h:Heap),YP w h->(K w.params).In h)
  (F:∀ (w:GJ) (mg:Str→Option F_) (fa:Addr) (h:Heap),(K w.params).In h→h.Ns GP mg→mg d.name=some (.ref fa) →
   ∃fd:Gu,(∀(s:Gg) (u:F_),BindsTo s fd ⟨[u],[]⟩ [(x,u)])/\
    ∀base:Heap,(K w.params).In base->base.Ns GP mg->a_ l.prog w (K w.params) mg base (CX w) k fa fd [x] (sp w))
  (hsp:∀(w:GJ) (H:Hp) (a:Addr) (ns:List Int),ns.length<=n->BH H->SqL (K w.params) H a (ns.map V.int)->sp w [.ref a] H (λv _=>v=.bl true) λ_ _ _=>False)
  (hCX:∀(w:GJ) (H:Hp) (s:Gg) (e:F_) (s':Gg),CX w [] H s (λ_ _ _=>False) e s'->False) :
  PySem.W.WalkO q loose XP YP l.row.toRowW d [] (λf vs=>PySem.call f vs):=by
 refine Att.attach_call hn hdf λw s₀ s₁ mg mb fa o pm cd doc a vs ns G Y ho hd hcd hmg hobj hints hlen hg=>?_;have KX:=hY w _ Y;obtain⟨fd,hb,hF⟩:=F w mg fa _ KX G.T.g hmg;exact BI KX G.T.g G.T.b G.T.builtins G.T.nolimit hg hobj hints (GM hlen hn2) hr hF hb (λH hO hS=>hsp w H a ns hlen hO hS) λH e s'=>hCX w H s₁ e s'

abbrev CX0:CXT:=λ_ _ _ _ _ _=>False
abbrev E0:XK:=λ_ _ _=>False
theorem eU{X:Cx}:fG CX0 X E0:=λ_ _ _ _ _ _ _ h=>h.elim

structure Fun(K:PySem.W.Frag)(x qual:Str)(st:Stmt)(f:Addr)(fd:Gu):Prop where
 ex:∃(oc:F_) (od:Option Addr) (kV doc pm:F_) (an:Option Addr) (cdv ct:F_) (osl:Array (Option F_)),
  fd=PySem.W.fnOf x qual (cy st) (b_ st) (av st) .none kV doc pm an cdv ct/\K.lookup f=some ⟨oc,od,.func fd,osl⟩/\PySem.W.codeIn K cdv qual=true
 kp:PySem.W.keepIn K (.ref f)=true
section
variable {P:GH}{w:GJ}{K:PySem.W.Frag}{mg:Str->Option F_}{base:Heap}
theorem Fun.ok{x qual:Str}{st:Stmt}{f:Addr}{fd:Gu}{N ps:List Str}{k:Nat}{sp:Sp}(F:Fun K x qual st f fd)(S:aL N ps (av st))(len:∀vs H Q E,sp vs H Q E->vs.length=ps.length)
  (hbody:∀ (cdv:F_) (A:Ha) (outer:List Env) (s:Gg) (H:Hp) (vs:List V) (Q:VK) (E:XK),cx k (A.deeper (HK qual (av st) s.heap.objs.size f cdv))→sp vs H Q E →
   ∃t,PSs (mS CX0 P w K mg base N qual (av st) f cdv A outer s H E).nox (b_ st) t/\t { nx:=λ_ H'=>Q .non H',rt:=Q } (jc N vs) H):a_ P w K mg base CX0 (k+1) f fd ps sp:=by
 obtain⟨oc,od,kV,doc,pm,an,cdv,ct,osl,rfl,lk,hcd⟩:=F.ex;refine ze lk hcd S len λA outer s H vs Q E hr hsp=>?_;obtain⟨t,h,q⟩:=hbody cdv A outer s H vs Q E hr hsp;exact⟨t,h.nox,q⟩
theorem Fun.binds{x qual:Str}{st:Stmt}{f:Addr}{fd:Gu}{ps:List Str}(F:Fun K x qual st f fd)
  (h:∀(kV doc pm:F_) (an:Option Addr) (cdv ct:F_) (us:List F_),us.length=ps.length->JV (PySem.W.fnOf x qual (cy st) (b_ st) (av st) .none kV doc pm an cdv ct) ⟨us,[]⟩=pure (ps.zip us)):gR K fd ps []:=by
 obtain⟨oc,od,kV,doc,pm,an,cdv,ct,osl,rfl,lk,hcd⟩:=F.ex;exact .all (h kV doc pm an cdv ct)
theorem ua{x qual:Str}{st:Stmt}{f:Addr}{oc:F_}{od an:Option Addr}{osl:Array (Option F_)}{kV doc pm cdv ct:F_}(l:K.lookup f=some ⟨oc,od,.func (PySem.W.fnOf x qual (cy st) (b_ st) (av st) .none kV doc pm an cdv ct),osl⟩)
  (c:PySem.W.codeIn K cdv qual=true)(k:PySem.W.keepIn K (.ref f)=true):Fun K x qual st f (PySem.W.fnOf x qual (cy st) (b_ st) (av st) .none kV doc pm an cdv ct):=⟨⟨oc,od,kV,doc,pm,an,cdv,ct,osl,rfl,l,c⟩,k⟩
end
theorem gS{A:Ha}{k:Nat}(hr:cx k A):A.units+1<J7:=GA (Nat.add_le_add_left (by decide:1<=64) _) hr.units
theorem aw{n:Nat}(h:n<=1000):n<Gv:=GA h (by decide)

section
variable {X:Cx}
theorem pv(i:Nat){x:Str}{pos:Pos}(hN:X.N[i]?=some x:=by rfl)(hv:Vis X.env.scope x:=by first|exact Gr rfl|exact Or.inr (Gr rfl)|exact Or.inr (Or.inr rfl))(hd:(x==("__debug__" : Str))=false:=by decide)
  (hcd:(x==("__classdict__" : Str))=false:=by decide):PE X (.Name x pos) (Br i):=DT hN hv hd hcd
end

theorem ay{A B:Prop}(h:B):if false=true then A else B:=by
 rw[if_neg GB];exact h
theorem aM{A B:Prop}(h:A):if true=true then A else B:=by
 rw[if_pos rfl];exact h
theorem eY{c A B:Prop}[Decidable c](h1:c->A)(h2:¬ c->B):if c then A else B:=by
 by_cases h:c
 .rw[if_pos h];exact h1 h
 .rw[if_neg h];exact h2 h
theorem Cz{c A B:Prop}[Decidable c](hc:c)(h:B):if(!decide c)=true then A else B:=by
 rw[decide_eq_true hc];exact ay h

def am(H H':Hp):Prop:=∀b o,H b=some o->H' b=some o
theorem am.refl(H:Hp):am H H:=λ_ _ h=>h
theorem am.trans{H H1 H2:Hp}(a:am H H1)(b:am H1 H2):am H H2:=λc o h=>b c o (a c o h)
theorem am.free{H H':Hp}(e:am H H'){l:Addr}(h:H' l=Option.none):H l=Option.none:=by
 cases q:H l with
 |none=>rfl
 |some o =>
  rw[e l o q]at h;cases h
theorem am.seq{K:PySem.W.Frag}{H H':Hp}{a:Addr}{xs:List V}(e:am H H')(h:SqL K H a xs):SqL K H' a xs:=by
 rcases h with(h|⟨o,h⟩)|h
 .exact .inl (.inl (e _ _ h))
 .exact .inl (.inr ⟨o,e _ _ h⟩)
 .exact .inr h

section
variable {κ:Type}[DecidableEq κ]
end

section
variable {prog:GH}{w:GJ}{A:Ha}{R:JS->Gg->Prop}{s:Gg}
theorem wZ{elt target iter:Expr}{ifs:List Expr}{scope:Scope}{pos:Pos}{it acc:F_}{env:Env}(I:Nat->Gg->Prop)
  (turn:∀ n s,I n s→GK (GQ prog w) A (pyNext it) (fun r s₁=>match r with
   |none=>R (.ok .next) s₁
   |some v=>GK (GQ prog w) A (Js target it v) (λ_ s₀=>GK (GQ prog w) A (Ks target env v) (λ_ s₂ =>
     GK (GQ prog w) A (forIn ifs true λc r=>if r=true then do let ok<-isTrue c env (eval c env);pure (Ju ok)else pure (Ju r)) (λok s₃ =>
      if ok=true then GK (GQ prog w) A (eval elt env) (λx s₄ =>
       GK (GQ prog w) A (call (.builtin "list.append") [acc,x]) (λ_ s₅=>∃m,m<n/\I m s₅) (λ_ _=>False) s₄) (λ_ _=>False) s₃
      else ∃m,m<n/\I m s₃) (λ_ _=>False) s₂) (λ_ _=>False) s₀) (λ_ _=>False) s₁) (λ_ _=>False) s)
  (n:Nat) (h:I n s):Jl (GQ prog w) A (.compLoop (.ListComp elt [⟨target,iter,ifs,0⟩] scope pos) 0 it acc env) R s:=by
 refine codeAny_loop rfl I (λn s hI=>?_) n h;show GK _ A ((compTurn (.ListComp elt [⟨target,iter,ifs,0⟩] scope pos) 0 it acc env).onRaise (λx=>do noteFrame x env;theTreesLotGoes x)) _ _ s
 refine wpAny_noted ?_;rw[compTurn_list];refine Gq (Kl (Gq (Hl (turn n s hI) (λr s₁ h₁=>?_) λ_ _ h'=>h'.elim)));cases r with
 |none=>exact GO h₁
 |some v =>
  refine Gq (Hl h₁ (λ_ s₀ h₀=>?_) λ_ _ h'=>h'.elim);refine Gq (Hl h₀ (λ_ s₂ h₂=>Gq (Hl h₂ (λok s₃ h₃=>?_) λ_ _ h'=>h'.elim)) λ_ _ h'=>h'.elim);cases ok with
  |false=>exact GO ⟨rfl,h₃⟩
  |true =>
   exact Gq (Gq (Hl h₃ (λx s₄ h₄=>Gq (Hl h₄ (λ_ s₅ h₅=>GO (GO ⟨rfl,h₅⟩)) λ_ _ h'=>h'.elim)) λ_ _ h'=>h'.elim))
end

def PTs(X:Cx)(ifs:List Expr)(t:TT):Prop:=
 ∀(pins:List (Addr×Obj)) (s:Gg) (σ:St) (H:Hp) (Q:Bool->Hp->Prop),Inv X pins σ H s->t σ H Q->
  GK (GQ X.prog X.w) X.A (forIn ifs true λc r=>if r=true then do let ok<-isTrue c X.env (eval c X.env);pure (Ju ok)else pure (Ju r)) (TP X pins σ Q) X.xe s
def D_:TT:=λ_ H Q=>Q true H
theorem du{X:Cx}:PTs X [] D_:=λ_ _ _ H _ I h=>wpAny_tests_nil ⟨H,I,h⟩
theorem jq{X:Cx}{c:Expr}{t:TT}(h:PT X c t):PTs X [c] t:=λpins s σ H Q I hw=>wpAny_tests_one (h pins s σ H Q I hw)

abbrev Cx.blk(X:Cx)(N:List Str)(s:Gg)(H:Hp)(scope:Scope)(cl:List (Str×Addr))(C:Addr)(ex:List Addr):Cx:=
 { X with N:=N,s₀:=s,H₀:=H,env:=compEnvC scope cl C X.env,outer:=X.stack,stack:=X.stack,ex:=ex,fn:=λ_=>false,pn:=[],xe:=λ_ _=>False }

def sP(env:Env):List (Str×Addr)->Prop
 |[]=>True
 |p::r=>env.cells.lookup p.1=some p.2/\sP env r
theorem kX{α:Type}:∀{l:List (Str×α)} {x:Str} {k:α},l.lookup x=some k->(x,k)∈l
 |[],_,_,h=>by simp at h
 |(n,k')::r,x,k,h=>by
  rw[List.lookup_cons]at h;cases hx:x==n with
  |true =>
   rw[hx]at h;have e:x=n:=JW hx;have e2:k'=k:=GW h;rw[e,e2];exact Gk
  |false =>
   rw[hx]at h;exact Gh _ (kX h)
theorem sP.get{env:Env}:∀{cl:List (Str×Addr)} {x:Str} {c:Addr},sP env cl->cl.lookup x=some c->env.cells.lookup x=some c:=λ{cl x c} h e=>by
 have go:∀(l:List (Str×Addr)),sP env l->∀p∈l,env.cells.lookup p.1=some p.2:=by
  intro l;induction l with
  |nil=>intro _ p hp;cases hp
  |cons q r ih =>
   intro ha p hp;rcases List.mem_cons.mp hp with rfl|hp
   .exact ha.1
   .exact ih ha.2 p hp
 exact go cl h (x,c) (kX e)
def kY(X:Cx)(scope:Scope)(cl:List (Str×Addr)):List Str->List Nat->Prop
 |[],[]=>True
 |y::ys,j::js=>(X.N[j]?=some y/\(X.env.kindOf y=some .cell\/X.env.kindOf y=some .free)/\(cl.lookup y).isSome=true/\((Ij scope X.env).names.lookup y=some .cell\/(Ij scope X.env).names.lookup y=some .free))/\kY X scope cl ys js
 |_,_=>False
theorem kY.get{X:Cx}{scope:Scope}{cl:List (Str×Addr)}:∀{ys:List Str} {js:List Nat} {i:Nat} {y:Str},kY X scope cl ys js->ys[i]?=some y->
  ∃j,js[i]?=some j/\X.N[j]?=some y/\(X.env.kindOf y=some .cell\/X.env.kindOf y=some .free)/\(cl.lookup y).isSome=true/\((Ij scope X.env).names.lookup y=some .cell\/(Ij scope X.env).names.lookup y=some .free)
 |[],_,_,_,_,e=>by simp at e
 |_::_,[],_,_,h,_=>h.elim
 |y::ys,j::js,0,z,h,e=>by
  have e':y=z:=by simpa using e
  subst e';exact⟨j,rfl,h.1⟩
 |y::ys,j::js,i+1,z,h,e=>by
  obtain⟨k,e1,e2⟩:=kY.get (i:=i) h.2 (by simpa using e);exact⟨k,by simpa using e1,e2⟩
theorem kY.len{X:Cx}{scope:Scope}{cl:List (Str×Addr)}:∀{ys:List Str} {js:List Nat},kY X scope cl ys js->ys.length=js.length
 |[],[],_=>rfl
 |[],_::_,h=>h.elim
 |_::_,[],h=>h.elim
 |_::_,_::_,h=>by rw[Gd,Gd,kY.len h.2]
def qo(σ:St)(js:List Nat):St:=js.map λj=>(σ[j]?).join
theorem w_{scope:Scope}{env:Env}{x:Str}(hcell:∀y∈scope.names,y.2≠.cell)(h:(Ij scope env).names.lookup x=some .cell\/(Ij scope env).names.lookup x=some .free):(x,JT)∈scope.names:=by
 have hm:∃k,(k=NameKind.cell\/k=JT)/\(x,k)∈(Ij scope env).names:=by
  rcases h with h|h
  .exact⟨_,.inl rfl,kX h⟩
  .exact⟨_,.inr rfl,kX h⟩
 obtain⟨k,hk,hm⟩:=hm;obtain⟨⟨n,k'⟩,hin,e⟩:=List.mem_map.mp hm;dsimp only at e;by_cases hc:(k'==JT&&env.scope.kind==.function&&env.kindOf n==some .cell)=true
 .rw[if_pos hc]at e;cases e;have:k'=JT:=by
   rw[HC,HC]at hc;exact JW hc.1.1
  rw[<-this];exact hin
 .rw[if_neg hc]at e;cases e;rcases hk with hk|hk
  .exact absurd hk (hcell _ hin)
  .rw[<-hk];exact hin
section
variable {X:Cx}{pins:List (Addr×Obj)}{σ:St}{H:Hp}{s:Gg}
theorem Inv.adopt{D:Addr}{ys:List V}{its:List F_}{n:Nat}(I:Inv X pins σ H s)(hn:H D=none)(hnew:X.s₀.heap.objs.size<=D)(hL:D≠X.env.locals)(hc:∀x c,X.env.cells.lookup x=some c->c≠D)(hp:∀p∈X.pn++pins,p.1≠D)
  (e:s.heap.get? D=some { cls:=.type "list",data:=.seq its.toArray n })(hv:a8 ys its)(hz:ys.length<=Gv):Inv X pins σ (upd H D (.lst ys)) s:=by
 have ne:∀b u,H b=some u->b≠D:=λb u q=>cr q hn;refine⟨I.ok,I.os,I.bare,⟨I.base.keep,I.base.slot,λb o q nn hx=>?_,I.base.there,λb xs q=>?_,λb o u q=>?_,λb ps q=>?_⟩,I.loc,I.cell,?_,λx c q=>?_,λp hq=>?_,λb u q=>?_,I.len⟩
 .rw[aj (Gx (GG (Gn q) hnew))];exact I.base.free b o q nn hx
 .have z:=I.base.tups b xs q;rw[aj (ne b _ z)];exact z
 .have z:=I.base.frzs b o u q;rw[aj (ne b _ z)];exact z
 .obtain⟨more,z⟩:=I.base.tbls b ps q;exact⟨more,by rw[aj (ne b _ z)];exact z⟩
 .rw[aj (GX hL)];exact I.free
 .rw[aj (hc x c q)];exact I.freeC x c q
 .obtain⟨a1,a2,a3⟩:=I.pin p hq;exact⟨a1,by rw[aj (hp p hq)];exact a2,a3⟩
 .by_cases hb:b=D
  .subst hb;rw[ac]at q;cases q;exact⟨hz,its,n,hv,e⟩
  .rw[aj hb]at q;exact(I.hok b u q).stay (λc v _ r=>r) (λc r=>by rw[aj (ne c _ r)];exact r) λc xs r=>by rw[aj (ne c _ r)];exact r
structure zi(X:Cx)(pins:List (Addr×Obj))(σ:St)(C D:Addr)(H:Hp)(s:Gg):Prop where
 inv:Inv X pins σ H s
 ns:∃m,s.heap.Ns C m
 nL:C≠X.env.locals
 new:X.s₀.heap.objs.size<=C
 nc:∀x c,X.env.cells.lookup x=some c->c≠C
 np:∀p∈X.pn++pins,p.1≠C
 free:H C=none
theorem zi.gone{C D:Addr}{h':Heap}(O:zi X pins σ C D H s)(sb:IH C s.heap h'):Inv X pins σ H { s with heap:=h' }:=
 O.inv.turned (t':=s.toks) (it:=C) (λb o hb e=>(sb.2 b hb).trans e) O.free O.nL (.inr O.new) O.nc O.np
end

def gLC(J:It)(g:TG)(tc:TT)(te:TE)(n:Nat)(cv:St)(Fin:List V->Hp->Prop)(H1:Hp):Prop:=
 ∃W:Nat->Nat->List V->Hp->Prop,(∃m,W 0 m [] H1)/\∀i m ys H,W i m ys H->
  (J.stop i H/\Fin ys H)\/
  (J.go i H∧ys.length < Gv∧∃ N:List V→Hp→Prop,(∀ ys' H',N ys' H'→∃ m',m' < m∧W (i+1) m' ys' H')∧∀ x H',J.yld i H x H'→∀ own:St,own.length=n→g x (own++cv) H' fun σ2 H2=>(∃ own2:St,own2.length=n∧σ2=own2++cv) ∧
   tc σ2 H2 λb H3=>if b=true then te σ2 H3 λy H4=>N (ys++[y]) H4 else N ys H3)

def uB(env:Env):List (Str×Kd)->List (Str×Addr)->List (Str×Addr)
 |[],acc=>acc
 |(n,k)::r,acc=>uB env r (if k==.free then(match env.cells.lookup n with|some c=>(n,c)::acc|none=>acc)else acc)
theorem xa(env:Env):∀(names:List (Str×Kd)) (acc:List (Str×Addr)),sP env acc->sP env (uB env names acc)
 |[],_,h=>h
 |(n,k)::r,acc,h=>by
  refine xa env r _ ?_
  split
  .split
   .exact⟨by assumption,h⟩
   .exact h
  .exact h
structure oG(X:Cx)(scope:Scope)(cl:List (Str×Addr))(own caps:List Str)(js:List Nat):Prop where
 clos:closureFor scope X.env=pure cl
 cell:∀y∈scope.names,y.2≠.cell
 kind:scope.kind=.function
 names:∀y∈scope.names,y.2=.local->scope.names.lookup y.1=some .local
 allc:sP X.env cl
 free:(scope.names.all λy=>y.2 != .free||(cl.lookup y.1).isSome)=true
 cap:kY X scope cl caps js

theorem eB{X:Cx}{scope:Scope}{own caps:List Str}{js:List Nat}(clos:closureFor scope X.env=pure (uB X.env scope.names []):=by with_unfolding_all rfl)(cell:∀y∈scope.names,y.2≠.cell:=by decide +kernel)(kind:scope.kind=.function:=by rfl)
  (names:∀y∈scope.names,y.2=.local->scope.names.lookup y.1=some .local:=by decide +kernel)(free:(scope.names.all λy=>y.2 != .free||((uB X.env scope.names []).lookup y.1).isSome)=true:=by with_unfolding_all rfl)
  (cap:kY X scope (uB X.env scope.names []) caps js):oG X scope (uB X.env scope.names []) own caps js:=⟨clos,cell,kind,names,xa _ _ _ trivial,free,cap⟩
section
variable {X:Cx}{elt iter target:Expr}{ifs:List Expr}{scope:Scope}{cl:List (Str×Addr)}{pos:Pos}{own caps:List Str}{js:List Nat}{g:TG}{tc:TT}{te:TE}
theorem xb{pins:List (Addr×Obj)}{σ:St}{s₂:Gg}{H1:Hp}{it:Addr}{fp:List Addr}{tn:Nat->Heap->Prop}{J:It}{Fin:List V->Hp->Prop}{RR:F_->Addr->JS->Gg->Prop}{E:F_->Gg->Prop}
  (hc:X.calm=true)(L:oG X scope cl own caps js)
  (hg:∀s H C ex,PG (X.blk (own++caps) s H scope cl C ex) target g)(ht:∀s H C ex,PTs (X.blk (own++caps) s H scope cl C ex) ifs tc)(he:∀s H C ex,PE (X.blk (own++caps) s H scope cl C ex) elt te)
  (I2:Inv X pins σ H1 s₂)(T:oE X.prog X.w X.K target J fp it tn)(st2:tn 0 s₂.heap)(f2:∀b∈fp,qh X pins H1 b)
  (G:gLC J g tc te own.length (qo σ js) Fin H1)
  (hRR:∀D C H ys s',H D=none->zi X pins σ C D (upd H D (.lst ys)) s'->Fin ys H->RR (.ref D) C (.ok .next) s') :
  GK (GQ X.prog X.w) X.A (newList []) (λacc s₃=>GK (GQ X.prog X.w) X.A (newFunctionEnv scope X.env.globals cl [] X.env.qual none .none (some X.env)) (λcenv s₄ =>
   Jl (GQ X.prog X.w) X.A (.compStart (.ListComp elt [⟨target,iter,ifs,0⟩] scope pos) 0 (.ref it) acc { cenv with scope:=Ij scope X.env }) (RR acc cenv.locals) s₄) E s₃) E s₂:=by
 refine HP (wpAny_newFunctionEnv L.cell (by intro y hy;simp at hy) (λh₁ hns₁ hsb₁=>?_) L.kind);dsimp only at hns₁ hsb₁⊢;generalize hH2:s₂.heap.push { cls:=.type "list",dict:=none,data:=.seq ([]:List F_).toArray }=G2 at hns₁ hsb₁⊢;have hC:G2.objs.size=s₂.heap.objs.size+1:=by rw[<-hH2,I_]
 have up2:∀b o,s₂.heap.get? b=some o->G2.get? b=some o:=λb o e=>hH2▸Go _ e;have hDC:s₂.heap.objs.size≠G2.objs.size:=by rw[hC];exact Gx (Ik _)
 have hD2:G2.get? s₂.heap.objs.size=some { cls:=.type "list",data:=.seq ([]:List F_).toArray ([]:List F_).length }:=hH2▸GN _ rfl
 -- the state with the list laid
 have I3:Inv X pins σ H1 { s₂ with heap:=G2 }:=I2.kept (t':=s₂.toks) up2;have up3:∀b o,G2.get? b=some o->h₁.get? b=some o:=λb o e=>hsb₁.extBut b o (Gx (Gn e)) (Go _ e);have DH:H1 s₂.heap.objs.size=none:=I2.fresh;have CH:H1 G2.objs.size=none:=I3.fresh;have fpl:∀b∈fp,b<s₂.heap.objs.size:=λb hb=>by
  obtain⟨o,e,_⟩:=T.obj 0 _ st2 b hb;exact Gn e
 have celllt:∀x c,X.env.cells.lookup x=some c->c<s₂.heap.objs.size:=λx c e=>by
  obtain⟨v,q⟩:=I2.cell x c e;exact q.lt
 have locl:X.env.locals<s₂.heap.objs.size:=I2.lt;generalize hD:s₂.heap.objs.size=D at *;generalize hCC:G2.objs.size=C at *;have hDltC:D<C:=by omega
 have noF:∀b,b∈frs X.stack->b<D:=λb hb=>by
  rcases List.mem_cons.mp (I2.stkSub b hb)with e|hb
  .rw[e];exact locl
  .obtain⟨_,o,ho,_⟩:=I2.ok.funs.mem hb;exact GG (Gn ho) (hD▸I2.sz)
 have fpF:∀b∈fp,b∉frs X.stack:=λb hb z=>by
  obtain⟨_,e1,e2,_⟩:=f2 b hb;rcases List.mem_cons.mp (I2.stkSub b z)with e|z
  .exact e1 e
  .exact e2 z
 have ok':(X.blk (own++caps) { s₂ with heap:=G2 } H1 scope cl C (D::fp)).Ok:={
  mod:=I2.ok.mod
  kind:=L.kind
  glob:=I2.ok.glob
  blt:=I2.ok.blt
  above:=Kx hCC
  inj:=λx y c e1 e2=>I2.ok.inj x y c (L.allc.get e1) (L.allc.get e2)
  has:=λx hx=>by
   have hm:=w_ L.cell hx;have q:=List.all_eq_true.mp L.free _ hm;have q':(cl.lookup x).isSome=true:=by simpa using q
   exact Option.isSome_iff_exists.mp q'
  cab:=λx c e=>nomatch e
  hd:=I2.ok.hd
  frames:=I2.ok.frames
  stk:=.inl rfl
  exf:=λb hb=>by
   rcases List.mem_cons.mp hb with rfl|hb
   .exact⟨Gx hDltC,λx c e=>Gx (celllt x c (L.allc.get e))⟩
   .obtain⟨_,e1,e2,_,e4,_⟩:=f2 b hb;exact⟨Gx (HS (fpl b hb) hDltC),λx c e=>e4 x c (L.allc.get e)⟩
  bs:=λb o e=>⟨up2 b o (I2.bs b o e).1,(I2.bs b o e).2⟩
  bsz:=by
   show X.base.objs.size<=G2.objs.size;have:=I2.ok.bsz;have:=I2.sz;omega
  noex:=λb o e hb=>by
   have hlt:=Gn (I2.bs b o e).1;rcases List.mem_cons.mp hb with z|hb
   .exact absurd (show b<D from hD▸hlt) (by rw[z];exact Hu _)
   .obtain⟨_,_,_,e3,_⟩:=f2 b hb;rcases e3 with e3|e3
    .exact I2.ok.noex b o e e3
    .exact absurd (GG (Gn (I2.ok.bs b o e).1) e3) (Hu _)
  exfs:=λb hb z=>by
   rcases List.mem_cons.mp hb with e|hb
   .exact absurd (noF b z) (by rw[e];exact Hu _)
   .exact fpF b hb z
  funs:=I3.stack
  frf:=I3.stkFree }
 have hns:h₁.Ns C (λx=>([]:List (Str×F_)).reverse.lookup x):=hns₁;have jc:Inv (X.blk (own++caps) { s₂ with heap:=G2 } H1 scope cl C (D::fp)) [(D,JP [])] (Gc own.length none++qo σ js) H1 { s₂ with heap:=h₁,toks:=s₂.toks+([]:List (Str×F_)).length }:=by
  refine⟨ok',rfl,I2.bare,Un.kept up3,⟨_,hns,λi x v e1 e2 e3=>?_⟩,λx c e=>?_,CH,λx c e=>I2.freeC x c (L.allc.get e),λp hp=>?_,I3.hok.kept up3,?_⟩
  .have hlo:own.length<=i:=by
    refine II λhlt=>?_;rw[IJ (by rw[Hc];exact hlt),List.getElem?_replicate,if_pos hlt]at e2;cases e2
   have e1':caps[i-own.length]?=some x:=by rw[<-HX hlo];exact e1
   obtain⟨j,j1,j2,j3,j4,j5⟩:=L.cap.get e1';have e2':(qo σ js)[i-own.length]?=some (some v):=by
    rw[<-e2,HX (by rw[Hc];exact hlo),Hc]
   have e4:σ[j]?=some (some v):=by
    unfold qo at e2';rw[GD,j1]at e2';have e5:(σ[j]?).join=some v:=GW e2';cases hq:σ[j]? with
    |none=>rw[hq]at e5;cases e5
    |some q=>rw[hq]at e5;exact congrArg some e5
   obtain⟨m,hn,hl⟩:=I2.loc;obtain⟨u,ru,lk⟩:=hl j x v j2 e4 (.inr j3);refine⟨u,ru,.inr ⟨j5,?_⟩⟩;rcases lk with⟨k,_⟩|⟨_,c,ec,o,ho,hd⟩
   .rcases j3 with z|z<;>(rw[k]at z;cases z)
   .obtain⟨c',ec'⟩:=Option.isSome_iff_exists.mp j4;have:=L.allc.get ec';rw[ec]at this;cases this;exact⟨c,ec',o,up3 _ _ (up2 _ _ ho),hd⟩
  .obtain⟨v,o,ho,hd⟩:=I2.cell x c (L.allc.get e);exact⟨v,o,up3 _ _ (up2 _ _ ho),hd⟩
  .have e:p=(D,JP []):=by simpa using hp
   subst e;exact⟨up3 _ _ hD2,DH,Gx hDltC,λz=>absurd (noF D z) (Hu _),λv z=>by cases z⟩
  .rw[Ga,Ga,Hc];unfold qo;rw[F9,L.cap.len]
 obtain⟨W,⟨m0,w0⟩,turn⟩:=G;have loop:Jl (GQ X.prog X.w) X.A (.compLoop (.ListComp elt [⟨target,iter,ifs,0⟩] scope pos) 0 (.ref it) (.ref D) (compEnvC scope cl C X.env)) (RR (.ref D) C) { s₂ with heap:=h₁,toks:=s₂.toks+([]:List (Str×F_)).length }:=by
  refine wZ (λn s'=>∃i ys its ow H',Inv (X.blk (own++caps) { s₂ with heap:=G2 } H1 scope cl C (D::fp)) [(D,JP its)] (ow++qo σ js) H' s'/\ow.length=own.length/\tn i s'.heap/\(∀b∈fp,H' b=none)/\a8 ys its/\ys.length<=Gv/\W i n ys H') ?_ m0
   ⟨0,[],[],Gc own.length none,H1,jc,Hc,T.keep _ _ _ st2 λb _ o e=>up3 _ _ (up2 _ _ e),λb hb=>(f2 b hb).1,.nil,GZ _,w0⟩
  rintro n s' ⟨i,ys,its,ow,H',I',hlo,st,fr,hv,hz,wv⟩;have fpok:∀{H'':Hp},(∀b∈fp,H'' b=none)->∀b∈fp,qh (X.blk (own++caps) { s₂ with heap:=G2 } H1 scope cl C (D::fp)) [(D,JP its)] H'' b:=λhn b hb=>by
   obtain⟨_,e1,e2,e3,e4,e5⟩:=f2 b hb;refine⟨hn b hb,Gx (HS (fpl b hb) hDltC),fpF b hb,.inl (Gh _ hb),λx c e=>e4 x c (L.allc.get e),λp hp=>?_⟩;have e:p=(D,JP its):=by simpa using hp
   subst e;exact HM (fpl b hb)
  rcases turn i n ys H' wv with⟨stop,fin⟩|⟨go,hlt,N,hN,step⟩
  .refine Hl (T.done (X.blk (own++caps) { s₂ with heap:=G2 } H1 scope cl C (D::fp)) rfl rfl rfl hc i _ s' _ H' (λ_ _=>False) I' (fpok fr) st stop) (λr s4 ⟨hr,I4⟩=>?_) λ_ _ f=>f;subst hr;have pD:=I4.pin (D,JP its) (by simp);have hch:∀b∈D::fp,(b∈X.ex\/X.s₀.heap.objs.size<=b)/\b≠X.env.locals/\(∀x c,X.env.cells.lookup x=some c->c≠b)/\∀p∈X.pn++pins,p.1≠b:=λb hb=>by
    rcases List.mem_cons.mp hb with rfl|hb
    .exact⟨.inr (hD▸I2.sz),HM locl,λx c e=>Gx (celllt x c e),λp hp=>Gx (hD▸Gn (I2.pin p hp).1)⟩
    .obtain⟨_,e1,e2,e3,e4,e5⟩:=f2 b hb;exact⟨e3,e1,e4,e5⟩
   have IX:Inv X pins σ H' s4:=I2.call' (ch:=D::fp) I4.os ((Un.kept up2).trans I4.base) I4.hok I4.bare hch;have cD:=hch D Gk;have IA:Inv X pins σ (upd H' D (.lst ys)) s4:=IX.adopt pD.2.1 (hD▸I2.sz) cD.2.1 cD.2.2.1 cD.2.2.2 pD.1 hv hz;obtain⟨mm,hmm,_⟩:=I4.loc;refine hRR D C H' ys s4 pD.2.1 ⟨IA,⟨mm,hmm⟩,HM (HS locl hDltC),?_,λx c e=>Gx (HS (celllt x c e) hDltC),λp hp=>?_,?_⟩ fin
   .have:=I2.sz;omega
   .exact Gx (HS (show p.1<D from hD▸Gn (I2.pin p hp).1) hDltC)
   .rw[aj (HM hDltC)];exact I4.free
  .refine Hl (T.item (X.blk (own++caps) { s₂ with heap:=G2 } H1 scope cl C (D::fp)) rfl rfl rfl hc i _ s' _ H' (λ_ _=>False) I' (fpok fr) st go) (λr s4 ⟨u,hr,h4⟩=>?_) λ_ _ f=>f;subst hr;refine Hl h4 (λ_ s5 ⟨x,H5,I5,r5,y5,st5,fr5⟩=>?_) λ_ _ f=>f;have I5':=I5.pinned (fpok fr5) (T.obj _ _ st5);have keepT:∀{σ8:St} {H8:Hp} {s8:Gg},Inv (X.blk (own++caps) { s₂ with heap:=G2 } H1 scope cl C (D::fp)) ([(D,JP its)]++qi fp s5.heap) σ8 H8 s8->tn (i+1) s8.heap/\∀b∈fp,H8 b=none:=λ{σ8 H8 s8} I8 =>
    ⟨T.keep _ _ _ st5 fun b hb o e=>(I8.pin (b,o) (GS _ (GS _ (kW hb e)))).1,fun b hb=>by
     obtain⟨o,e,d⟩:=T.obj _ _ st5 b hb;exact(I8.pin (b,o) (GS _ (GS _ (kW hb e)))).2.1⟩
   refine Hl (hg _ _ _ _ _ s5 _ H5 x u _ I5' r5 (step x H5 y5 ow hlo)) (λ_ s6 ⟨σ6,H6,I6,⟨own2,hl2,e6⟩,q6⟩=>?_) λ_ _ f=>f;subst e6;refine Hl (ht _ _ _ _ _ s6 _ H6 _ I6 q6) (λb s7 ⟨H7,I7,q7⟩=>?_) λ_ _ f=>f;cases b with
   |false =>
    rw[if_neg GB];rw[if_neg GB]at q7;obtain⟨m',hm,w7⟩:=hN _ _ q7;obtain⟨k1,k2⟩:=keepT I7;exact⟨m',hm,i+1,ys,its,own2,H7,I7.unpinned,hl2,k1,k2,hv,hz,w7⟩
   |true =>
    rw[if_pos rfl];rw[if_pos rfl]at q7;refine Hl (he _ _ _ _ _ s7 _ H7 _ I7 q7) (λy s8 ⟨vy,H8,I8,r8,n8⟩=>?_) λ_ _ f=>f;obtain⟨m',hm,w8⟩:=hN _ _ n8;obtain⟨k1,k2⟩:=keepT I8;have pD:=I8.pin (D,JP its) (by simp);have hyl:=hv.length;refine append_at (hsz:=by show its.toArray.size<=Gv;rw[Gw];omega) pD.1 λh9 hs9 hD9=>?_;have I9:Inv (X.blk (own++caps) { s₂ with heap:=G2 } H1 scope cl C (D::fp)) [] (own2++qo σ js) H8 { s8 with heap:=h9 }:=by
     refine(I8.pins_of (pins':=[]) λp hp=>nomatch hp).turned (t':=s8.toks) (it:=D) (λb o hb e=>(hs9.2 b hb).trans e) pD.2.1 (Gx hDltC) (.inl Gk) (λx c e=>Gx (celllt x c (L.allc.get e))) λp hp=>?_;simp at hp
    refine⟨m',hm,i+1,ys++[vy],its++[y],own2,H8,I9.pins_of λp hp=>?_,hl2,T.keep _ _ _ k1 λb hb o e=>(hs9.2 b (Gx (fpl b hb))).trans e,k2,hv.append (.cons r8 .nil),?_,w8⟩
    .have e:p=(D,JP (its++[y])):=by simpa using hp
     subst e;exact⟨hD9.trans (congrArg some (LCg.lst_snoc its y)),pD.2.1,Gx hDltC,λz=>absurd (noF D z) (Hu _),λv z=>by cases z⟩
    .rw[Ga,Iz];omega
 exact codeAny_compStart_list loop (T.self _ _ _ _ _ (T.keep _ _ _ st2 λb _ o e=>up3 _ _ (up2 _ _ e)) loop)

def uC(wi:TI)(g:TG)(tc:TT)(te:TE)(n:Nat)(js:List Nat):TE:=λσ H Q=>wi σ H λJ H1=>gLC J g tc te n (qo σ js) (λys H=>∀p,H p=none->Q (.ref p) (upd H p (.lst ys))) H1
variable {wi:TI}
theorem xc(hc:X.calm=true)(L:oG X scope cl own caps js)(hi:PI X target iter wi)
  (hg:∀s H C ex,PG (X.blk (own++caps) s H scope cl C ex) target g)(ht:∀s H C ex,PTs (X.blk (own++caps) s H scope cl C ex) ifs tc)(he:∀s H C ex,PE (X.blk (own++caps) s H scope cl C ex) elt te)
  (hs:∀x,HE iter X.env x=pure x:=by intro _;rfl):PE X (.ListComp elt [⟨target,iter,ifs,0⟩] scope pos) (uC wi g tc te own.length js):=by
 intro pins s σ H Q I h;rw[eval_ListComp];refine wpAny_comprehension_free (use:=none) rfl hs L.clos L.kind L.names (thn (hi pins s σ H _ I h) λv s1 h1=>thn h1 λitv s2 h2=>?_);obtain⟨it,fp,tn,J,H2,e,I2,T,st2,f2,G⟩:=h2;subst e;refine xb hc L hg ht he I2 T st2 f2 G ?_;intro D C H3 ys s' hD O fin;obtain⟨m,hn⟩:=O.ns;exact⟨m,hn,λh' sb=>⟨.ref D,_,O.gone sb,rfl,fin D hD⟩⟩
theorem Ax{k:Nat}{y:Str}{py spos:Pos}(hc:X.calm=true)(L:oG X scope cl own caps js)(hi:PI X target iter wi)
  (hg:∀s H C ex,PG (X.blk (own++caps) s H scope cl C ex) target g)(ht:∀s H C ex,PTs (X.blk (own++caps) s H scope cl C ex) ifs tc)(he:∀s H C ex,PE (X.blk (own++caps) s H scope cl C ex) elt te)
  (hN:X.N.Nodup)(hk:X.N[k]?=some y)(hy:X.env.scope.names.lookup y=some .local)
  (hsw:IW (.ListComp elt [⟨target,iter,ifs,0⟩] scope pos) (some (.Name y py)) spos.line X.env=pure true:=by rfl)
  (hs:∀x,HE iter X.env x=pure x:=by intro _;rfl):PS X (.Assign [.Name y py] (.ListComp elt [⟨target,iter,ifs,0⟩] scope pos) spos) (qg (uC wi g tc te own.length js) (bD k)):=by
 intro pins s σ H De I h;rw[exec_Assign_Name_used _ _ _ _ hsw];refine Gq (Kl (Gq ?_));show GK _ _ (do let _<-comprehension (.ListComp elt [⟨target,iter,ifs,0⟩] scope pos) scope X.env _ (newList []) false (eval iter X.env) (some (Ks (.Name y py) X.env))) _ _ s
 refine Gq (Hl (wpAny_comprehension_free (use:=some (Ks (.Name y py) X.env)) (Q:=λ_ s'=>SP X pins De .next s') rfl hs L.clos L.kind L.names
  (thn (hi pins s σ H _ I h) λv s1 h1=>thn h1 λitv s2 h2=>?_)) (λ_ s' hq=>GO (GO hq)) λ_ _ e=>e)
 obtain⟨it,fp,tn,J,H2,e,I2,T,st2,f2,G⟩:=h2;subst e;refine xb hc L hg ht he I2 T st2 f2 G ?_;intro D C H3 ys s' hD O fin;show GK _ _ (Ks (.Name y py) X.env (.ref D)) _ _ _;refine wpAny_assign_Name (u0 O.inv hN hk (.inl hy) (show bi (.ref D) (.ref D)from rfl) (λs'' I'' sb=>?_) (.inr hy));obtain⟨a,hsb,ha⟩:=sb;have hne:C≠a:=by
  rcases ha with rfl|ha
  .exact O.nL
  .exact GX (O.nc _ _ ha)
 obtain⟨m,hn⟩:=O.ns;refine⟨m,hn.sameBut hsb hne,λh' sb'=>⟨_,_,?_,fin D hD⟩⟩;exact I''.turned (t':=s''.toks) (it:=C) (λb o hb e=>(sb'.2 b hb).trans e) O.free O.nL (.inr O.new) O.nc O.np
end

section
variable {X:Cx}{elt iter:Expr}{ifs:List Expr}{scope:Scope}{cl:List (Str×Addr)}{pos:Pos}{caps:List Str}{js:List Nat}{tc:TT}{te:TE}{wi:TI}{x:Str}{px:Pos}
theorem BJ{J:It}{cv:St}{Fin:List V->Hp->Prop}{H1:Hp}(h:∃W:Nat->Nat->List V->Hp->Prop,(∃m,W 0 m [] H1)/\∀i m ys H,W i m ys H->
  (J.stop i H/\Fin ys H)\/
  (J.go i H∧ys.length < Gv∧∃ N:List V→Hp→Prop,(∀ ys' H',N ys' H'→∃ m',m' < m∧W (i+1) m' ys' H')∧∀ x H',J.yld i H x H' →
   tc (some x::cv) H' λb H3=>if b=true then te (some x::cv) H3 λy H4=>N (ys++[y]) H4 else N ys H3)):gLC J (bD 0) tc te 1 cv Fin H1:=by
 obtain⟨W,w0,turn⟩:=h;refine⟨W,w0,λi m ys H w=>?_⟩;rcases turn i m ys H w with⟨a,b⟩|⟨a,b,N,hN,c⟩
 .exact .inl ⟨a,b⟩
 .refine .inr ⟨a,b,N,hN,λv H' y own ho=>?_⟩
  match own,ho with
  |[τ],_=>exact⟨⟨[some v],rfl,rfl⟩,c v H' y⟩
def tLC(wi:TI)(tc:TT)(te:TE)(js:List Nat):TE:=uC wi (bD 0) tc te 1 js
theorem fY(hc:X.calm=true)(L:oG X scope cl [x] caps js)(hi:PI X (.Name x px) iter wi)
  (ht:∀s H C ex,PTs (X.blk (x::caps) s H scope cl C ex) ifs tc)(he:∀s H C ex,PE (X.blk (x::caps) s H scope cl C ex) elt te)
  (hN:(x::caps).Nodup:=by decide +kernel)(hx:(Ij scope X.env).names.lookup x=some .local:=by with_unfolding_all rfl)
  (hs:∀x,HE iter X.env x=pure x:=by intro _;rfl):PE X (.ListComp elt [⟨.Name x px,iter,ifs,0⟩] scope pos) (tLC wi tc te js):=
 xc (own:=[x]) (g:=bD 0) hc L hi (λs H C ex=>aS (i:=0) hN rfl (.inl hx) (.inr hx)) ht he hs
theorem vZ{k:Nat}{y:Str}{py spos:Pos}(hc:X.calm=true)(L:oG X scope cl [x] caps js)(hi:PI X (.Name x px) iter wi)
  (ht:∀s H C ex,PTs (X.blk (x::caps) s H scope cl C ex) ifs tc)(he:∀s H C ex,PE (X.blk (x::caps) s H scope cl C ex) elt te)
  (hXN:X.N.Nodup)(hk:X.N[k]?=some y)(hy:X.env.scope.names.lookup y=some .local)(hN:(x::caps).Nodup:=by decide +kernel)(hx:(Ij scope X.env).names.lookup x=some .local:=by with_unfolding_all rfl)
  (hsw:IW (.ListComp elt [⟨.Name x px,iter,ifs,0⟩] scope pos) (some (.Name y py)) spos.line X.env=pure true:=by rfl)
  (hs:∀x,HE iter X.env x=pure x:=by intro _;rfl):PS X (.Assign [.Name y py] (.ListComp elt [⟨.Name x px,iter,ifs,0⟩] scope pos) spos) (qg (tLC wi tc te js) (bD k)):=
 Ax (own:=[x]) (g:=bD 0) hc L hi (λs H C ex=>aS (i:=0) hN rfl (.inl hx) (.inr hx)) ht he hXN hk hy hsw hs
theorem dC{K:PySem.W.Frag}{a:Addr}{xs:List V}{cv:St}{Fin:List V->Hp->Prop}{H1:Hp}(Pv:Nat->List V->Hp->Prop)(h0:Pv 0 [] H1)(hl:∀i ys H,i<=xs.length->Pv i ys H->SqL K H a xs)(hz:∀i ys H,i<xs.length->Pv i ys H->ys.length<Gv)
  (hs:∀i x ys H,xs[i]?=some x->Pv i ys H->tc (some x::cv) H λb H3=>if b=true then te (some x::cv) H3 λy H4=>Pv (i+1) (ys++[y]) H4 else Pv (i+1) ys H3)
  (hd:∀ys H,Pv xs.length ys H->Fin ys H):gLC (Itl K a) (bD 0) tc te 1 cv Fin H1:=by
 refine BJ ⟨λi m ys H=>m=xs.length-i/\i<=xs.length/\Pv i ys H,⟨xs.length,by simp,GZ _,h0⟩,?_⟩;rintro i m ys H ⟨rfl,hi,p⟩;have q:=hl i ys H hi p;by_cases hlt:i<xs.length
 .refine .inr ⟨⟨xs,xs[i],q,by simp[hlt]⟩,hz i ys H hlt p,Pv (i+1),λys' H' p'=>⟨xs.length-(i+1),by omega,rfl,hlt,p'⟩,λv H' y=>?_⟩;obtain⟨e,y⟩:=y;subst e;exact hs i v ys _ (y xs q) p
 .have e:i=xs.length:=by omega
  subst e;exact .inl ⟨⟨xs,q,Gi _⟩,hd ys H p⟩
theorem lJ{lo:Int}{n:Nat}{cv:St}{Fin:List V->Hp->Prop}{H1:Hp}(Pv:Nat->List V->Hp->Prop)(h0:Pv 0 [] H1)(hz:∀i ys H,i<n->Pv i ys H->ys.length<Gv)
  (hs:∀i ys H,i<n->Pv i ys H->tc (some (.int (lo+i))::cv) H λb H3=>if b=true then te (some (.int (lo+i))::cv) H3 λy H4=>Pv (i+1) (ys++[y]) H4 else Pv (i+1) ys H3)
  (hd:∀ys H,Pv n ys H->Fin ys H):gLC (Itr lo n) (bD 0) tc te 1 cv Fin H1:=by
 refine BJ ⟨λi m ys H=>m=n-i/\i<=n/\Pv i ys H,⟨n,by simp,GZ _,h0⟩,?_⟩;rintro i m ys H ⟨rfl,hi,p⟩;by_cases hlt:i<n
 .refine .inr ⟨hlt,hz i ys H hlt p,Pv (i+1),λys' H' p'=>⟨n-(i+1),by omega,rfl,hlt,p'⟩,λv H' y=>?_⟩;obtain⟨e,y⟩:=y;subst e y;exact hs i ys _ hlt p
 .have e:i=n:=by omega
  subst e;exact .inl ⟨Gi _,hd ys H p⟩
end

theorem dM{A B:Hp->Prop}{σ:St}{H:Hp}(h:A H):D_ σ H (λb H3=>if b=true then A H3 else B H3):=by
 show if true=true then A H else B H;rw[if_pos rfl];exact h
theorem fH{α:Type}(x:α)(r:List α):atI (x::r) 0=some x:=cF (j:=0) rfl

def Its(x:Str):It:=⟨λi _=>i<x.cps.size,λi H v H'=>H'=H/\∃c,x.cps[i]?=some c/\v=.str ⟨#[c]⟩,λi _=>i=x.cps.size⟩
theorem BK{P:GH}{w:GJ}{K:PySem.W.Frag}{tg:Expr}{x:Str}{t:Tok}{it:Addr}{n:String}(hn:["enumerate","zip","dict_itemiterator","dict_reverseitemiterator","odict_iterator","itertools.zip_longest","itertools.pairwise"].contains n=false)
  (W:∀A':Ha,A'.handled=none->Walks P w A' it [it] [it] x.cps.size (SignAt x) (λi h=>h.IsStrIter it n x t i))
  (slf:∀(A:Ha) (i:Nat) (s:Gg) (Q:F_->Gg->Prop) (E:F_->Gg->Prop),s.heap.IsStrIter it n x t i->Q (.ref it) s->GK (GQ P w) A (KO (.ref it)) Q E s) :
  oE P w K tg (Its x) [it] it (λi h=>h.IsStrIter it n x t i) where
 mem:=by simp
 obj:=λi h st b hb=>by
  have e:b=it:=by simpa using hb
  subst e;obtain⟨o,e,c,d⟩:=st;exact⟨o,e,λv z=>by rw[d]at z;cases z⟩
 keep:=λi h h' st k=>let⟨o,ho,r⟩:=st;⟨o,k it (by simp) o ho,r⟩
 item:=by
  intro X hP hw hK hc i pins s σ H E I hf st hg;subst hP hw hK;obtain⟨f0,f1,f2,f3,f4,f5⟩:=hf it (by simp);refine(W X.A (I.ok.hd hc)).item i s _ _ hg st λv h' tk hv st' kk=>?_;obtain⟨c,u,hcx,rfl⟩:=hv;have I1:Inv X pins σ H { s with heap:=h',toks:=tk }:=I.turned (λb o hb e=>kk b o (by simpa using hb) e) f0 f1 f3 f4 f5;obtain⟨o,e,c',d⟩:=id st';exact⟨_,rfl,vT (s:={ s with heap:=h',toks:=tk }) e c' d hn ⟨.str ⟨#[c]⟩,H,I1,⟨u,rfl⟩,⟨rfl,c,hcx,rfl⟩,st',λb hb=>(hf b hb).1⟩⟩
 done:=by
  intro X hP hw hK hc i pins s σ H E I hf st hg;subst hP hw hK;obtain⟨f0,f1,f2,f3,f4,f5⟩:=hf it (by simp);have e:i=x.cps.size:=hg;subst e;exact(W X.A (I.ok.hd hc)).done s _ _ st λh' tk kk=>⟨rfl,I.turned (λb o hb e=>kk b o (by simpa using hb) e) f0 f1 f3 f4 f5⟩
 self:=slf
section
variable {X:Cx}{tg:Expr}
def FK(tl:TE):TI:=λσ H R=>tl σ H λv H1=>∃x,v=.str x/\R (Its x) H1
theorem Ay{l:Expr}{tl:TE}(hl:PE X l tl):PI X tg l (FK tl):=by
 intro pins s σ H R I h;refine thn (hl pins s σ H _ I h) λv s1 ⟨x,H1,I1,r1,q1⟩=>?_;obtain⟨z,e,q⟩:=q1;subst e;obtain⟨t,rfl⟩:=r1;have go:∀n ob,["enumerate","zip","dict_itemiterator","dict_reverseitemiterator","odict_iterator","itertools.zip_longest","itertools.pairwise"].contains n=false->
   (∀A':Ha,A'.handled=none->Walks X.prog X.w A' s1.heap.objs.size [s1.heap.objs.size] [s1.heap.objs.size] z.cps.size (SignAt z) (λi h=>h.IsStrIter s1.heap.objs.size n z t i))->
   (∀(A:Ha) (i:Nat) (s:Gg) (Q:F_->Gg->Prop) (E:F_->Gg->Prop),s.heap.IsStrIter s1.heap.objs.size n z t i->Q (.ref s1.heap.objs.size) s->GK (GQ X.prog X.w) A (KO (.ref s1.heap.objs.size)) Q E s)->
   (s1.heap.push ob).IsStrIter s1.heap.objs.size n z t 0->PIE X pins σ tg R (.ref s1.heap.objs.size) { s1 with heap:=s1.heap.push ob }:=λn ob hn W slf st=>by
  refine⟨s1.heap.objs.size,[s1.heap.objs.size],_,_,H1,rfl,I1.kept (t':=s1.toks) λb o e=>Go _ e,BK hn W slf,st,λb hb=>?_,q⟩;have e:b=s1.heap.objs.size:=by simpa using hb
  subst e;exact I1.fpOk (Gi _) (I1.hok.fresh (Gi _))
 cases ha:z.cps.all (· < 128)
 .exact wpAny_pyIter_wide ha (go "str_iterator" _ (by decide) (λA' hA=>Walks.strWide hA _ z t) (λ_ _ _ _ _ st h=>wpAny_pyIter_striter_wide st h) ⟨_,GN _ rfl,rfl,rfl⟩)
 .exact wpAny_pyIter_ascii ha (go "str_ascii_iterator" _ (by decide) (λA' hA=>Walks.strAscii hA _ z t) (λ_ _ _ _ _ st h=>wpAny_pyIter_striter_ascii st h) ⟨_,GN _ rfl,rfl,rfl⟩)
end
theorem C4{x:Str}{g:TG}{tb:TS}{D:eX}{σ:St}{H:Hp}(Pv:Nat->St->Hp->Prop)(h0:Pv 0 σ H)
  (hs:∀i c σ H,x.cps[i]?=some c->Pv i σ H->g (.str ⟨#[c]⟩) σ H λσ2 H2=>tb { D with nx:=Pv (i+1),ct:=Pv (i+1),bk:=D.nx } σ2 H2)(hd:∀σ H,Pv x.cps.size σ H->D.nx σ H) :
  ∃W:Nat->Nat->St->Hp->Prop,(∃m,W 0 m σ H)/\∀i m σ H,W i m σ H->
   ((Its x).stop i H/\D.nx σ H)\/((Its x).go i H/\∃N:St->Hp->Prop,(∀σ' H',N σ' H'->∃m',m'<m/\W (i+1) m' σ' H')/\∀v H',(Its x).yld i H v H'->g v σ H' λσ2 H2=>tb { D with nx:=N,ct:=N,bk:=D.nx } σ2 H2):=by
 refine⟨λi m σ H=>m=x.cps.size-i/\i<=x.cps.size/\Pv i σ H,⟨x.cps.size,by simp,GZ _,h0⟩,?_⟩;rintro i m σ H ⟨rfl,hi,p⟩;by_cases hlt:i<x.cps.size
 .refine .inr ⟨hlt,Pv (i+1),λσ' H' p'=>⟨x.cps.size-(i+1),by omega,rfl,hlt,p'⟩,λv H' y=>?_⟩;obtain⟨e,c,hc,y⟩:=y;subst e y;exact hs i c σ _ hc p
 .have e:i=x.cps.size:=by omega
  subst e;exact .inl ⟨rfl,hd σ H p⟩
theorem Ea{x:Str}{tc:TT}{te:TE}{cv:St}{Fin:List V->Hp->Prop}{H1:Hp}(Pv:Nat->List V->Hp->Prop)(h0:Pv 0 [] H1)(hz:∀i ys H,i<x.cps.size->Pv i ys H->ys.length<Gv)
  (hs:∀i c ys H,x.cps[i]?=some c->Pv i ys H->tc (some (.str ⟨#[c]⟩)::cv) H λb H3=>if b=true then te (some (.str ⟨#[c]⟩)::cv) H3 λy H4=>Pv (i+1) (ys++[y]) H4 else Pv (i+1) ys H3)
  (hd:∀ys H,Pv x.cps.size ys H->Fin ys H):gLC (Its x) (bD 0) tc te 1 cv Fin H1:=by
 refine BJ ⟨λi m ys H=>m=x.cps.size-i/\i<=x.cps.size/\Pv i ys H,⟨x.cps.size,by simp,GZ _,h0⟩,?_⟩;rintro i m ys H ⟨rfl,hi,p⟩;by_cases hlt:i<x.cps.size
 .refine .inr ⟨hlt,hz i ys H hlt p,Pv (i+1),λys' H' p'=>⟨x.cps.size-(i+1),by omega,rfl,hlt,p'⟩,λv H' y=>?_⟩;obtain⟨e,c,hc,y⟩:=y;subst e y;exact hs i c ys _ hc p
 .have e:i=x.cps.size:=by omega
  subst e;exact .inl ⟨rfl,hd ys H p⟩

section
variable {X:Cx}
theorem Az{v:F_}{o:Option Int}(p:Kf v o):∃l:Option (Int×Tok),v=partValue l/\o=l.map (·.1):=by
 cases p with
 |none=>exact⟨none,rfl,rfl⟩
 |int i t=>exact⟨some (i,t),rfl,rfl⟩
theorem ki:SlR X (λx lo hi H Q=>∃z,x=.str z/\z.length<=Gv/\Q (.str (Txt.slice z lo hi)) H):=by
 intro pins s σ H x v vl vu lo hi sl Q I r hs pl pu h;obtain⟨z,rfl,hz,q⟩:=h;obtain⟨t,rfl⟩:=r;obtain⟨l,rfl,rfl⟩:=Az pl;obtain⟨u,rfl,rfl⟩:=Az pu;exact⟨"str",_,F.slot_str_getitem.lookup,JH _ _ _,wpAny_getItem_str_slice (l:=l) (u:=u) (st:=none) hs rfl
  (post_val_or_str ⟨GM (Txt.slice_le z _ _) hz,λt' k=>⟨.str (Txt.slice z _ _),H,I.tok k,⟨t',rfl⟩,q⟩⟩)⟩
theorem oH:OpR X (IM .Mult) (λx y H Q=>∃z n,x=.str z/\y=.int n/\MulOk z n/\Q (.str (Txt.mul z n)) H):=by
 intro pins s σ H x y v u Q I rx ry h;obtain⟨z,n,rfl,rfl,hm,q⟩:=h;obtain⟨t,rfl⟩:=rx;obtain⟨t',rfl⟩:=ry;exact SB.mul hm λt'' k=>⟨.str _,H,I.tok k,⟨t'',rfl⟩,q⟩
theorem vc:∀(l:List (Str×Tok)),a8 ((l.map (·.1)).map V.str) (strValues l)
 |[]=>.nil
 |p::r=>.cons ⟨p.2,rfl⟩ (vc r)
theorem AA:MtR X "str.split" (λx xs H Q=>∃z c,x=.str z/\xs=[.str ⟨#[c]⟩]/\z.length+2<=Gv/\∀p,H p=none->Q (.ref p) (upd H p (.lst ((Txt.split z ⟨#[c]⟩).map V.str)))):=by
 intro pins s σ H x xs v us Q I rx r h;obtain⟨z,c,rfl,rfl,hz,q⟩:=h;obtain⟨t,rfl⟩:=rx;obtain⟨w',rfl,u,rfl⟩:=jb r;have hy:((⟨#[c]⟩:Str).length==0)=false:=rfl;have len:=split_le z ⟨#[c]⟩;have new:∀(l:List (Str×Tok)) (k:Nat),l.map (·.1)=Txt.split z ⟨#[c]⟩->EP X pins σ Q (.ref s.heap.objs.size) { s with heap:=s.heap.push { cls:=.type "list",data:=.seq (strValues l).toArray },toks:=k }:=λl k e =>
  ⟨.ref _,_,I.lnew (t':=k) (vc l) (by rw[e,F9];exact GM len hz),rfl,by rw[e];exact q _ I.fresh⟩
 cases h1:(decide (z.length<(⟨#[c]⟩:Str).length)||decide (Builtin.Str.strKind z<Builtin.Str.strKind ⟨#[c]⟩))
 .cases hf:(Hr z ⟨#[c]⟩ 0 z.length (z.length+1)).isEmpty
  .have e1:Txt.split z ⟨#[c]⟩=Builtin.Str.partsBetween z (Hr z ⟨#[c]⟩ 0 z.length (z.length+1)) (⟨#[c]⟩:Str).length:=
    (if_neg (ne_true_of_eq_false h1)).trans (if_neg (ne_true_of_eq_false hf))
   refine IU JX (JH _ _ _) JQ (JI _ _) (meets_str_split_sep z ⟨#[c]⟩ t u h1 hy hf (by omega) (by rw[<-e1];omega)) ?_;show wants _ _ _ { s with toks:=_,heap:=s.heap.push { cls:=.type "list",data:=.seq (strsFrom s.toks (Builtin.Str.partsBetween z (Hr z ⟨#[c]⟩ 0 z.length (z.length+1)) (⟨#[c]⟩:Str).length)).toArray } };rw[strsFrom_eq];exact new _ _ ((numbered_texts _ _).trans e1.symm)
  .exact IU JX (JH _ _ _) JQ (JI _ _) (meets_str_split_not_found z ⟨#[c]⟩ t u h1 hy hf)
    (new [(z,t)] _ ((if_neg (ne_true_of_eq_false h1)).trans (if_pos hf)).symm)
 .exact IU JX (JH _ _ _) JQ (JI _ _) (meets_str_split_cannot_occur z ⟨#[c]⟩ t u h1)
   (new [(z,t)] _ (if_pos h1).symm)
theorem zj{ys:List Str}:∀{us:List F_},a8 (ys.map V.str) us->StrsAre us ys:=by
 induction ys with
 |nil=>intro us h;cases h;exact .nil
 |cons y ys ih =>
  intro us h;cases h with
  |cons r t =>
   obtain⟨tk,rfl⟩:=r;exact .cons y tk (ih t)
theorem nY:MtR X "str.join" (λx xs H Q=>∃sep a ys,x=.str sep/\xs=[.ref a]/\SqL X.K H a (ys.map V.str)/\sep.length<=16/\(ys.map (·.length)).sum+ys.length<=1048576/\Q (.str (Txt.join sep ys)) H):=by
 intro pins s σ H x xs v us Q I rx r h;obtain⟨sep,a,ys,rfl,rfl,hS,h1,h2,q⟩:=h;obtain⟨t,rfl⟩:=rx;obtain⟨w',rfl,rfl⟩:=jb r;obtain⟨its,rv,p,hz⟩:=I.list hS;exact join_listW p.isList (zj (by simpa using rv)) h1 h2 λt' k=>⟨.str _,H,I.tok k,⟨t',rfl⟩,q⟩
end
end L2

namespace Tl
open PySem PySem.Builtin PySem.Builtin.Str L2

abbrev tx(l:List Nat):Str:=⟨l.toArray⟩
theorem zk(s:Str):s=tx s.cps.toList:=by cases s;rfl
theorem eR(a b:List Nat):tx a++tx b=tx (a++b):=by
 show(⟨a.toArray++b.toArray⟩:Str)=⟨(a++b).toArray⟩;rw[List.append_toArray]
theorem aY(l:List Nat):(tx l).length=l.length:=by show l.toArray.size=_;simp
theorem jx{a b:List Nat}(h:tx a=tx b):a=b:=by
 have e:a.toArray=b.toArray:=congrArg Str.cps h;have e2:=congrArg Array.toList e;simpa using e2
theorem AB(l:List Nat)(i:Nat):(tx l).cps[i]?=l[i]?:=by show l.toArray[i]?=_;simp
theorem yG(l:List Nat):(tx l).cps.size=l.length:=by show l.toArray.size=_;simp

def jh{α:Type}(l:List α)(lo hi:Option Int):List α:=(l.drop (HT.sIx l.length 0 lo)).take (HT.sIx l.length l.length hi-HT.sIx l.length 0 lo)
theorem jK(n d:Nat)(i:Int):max 0 (min (if i<0 then i+(n:Int)else i) (n:Int))=((HT.sIx n d (some i):Nat):Int):=by
 show _=(((if i<0 then(i+(n:Int)).toNat else min i.toNat n):Nat):Int);by_cases h:i<0
 .rw[if_pos h,if_pos h];omega
 .rw[if_neg h,if_neg h];omega
theorem qp(lo hi:Option Int)(n:Nat):strSliceIndices lo hi 1 n=J3 ((HT.sIx n 0 lo:Nat):Int) ((HT.sIx n n hi:Nat):Int) 1:=by
 cases lo with
 |none =>
  cases hi with
  |none=>rfl
  |some j=>exact congrArg (λz=>J3 0 z 1) (jK n n j)
 |some i =>
  cases hi with
  |none=>exact congrArg (λz=>J3 z (n:Int) 1) (jK n 0 i)
  |some j =>
   have a:=jK n 0 i;have b:=jK n n j;show J3 (max 0 (min (if i<0 then i+(n:Int)else i) (n:Int))) (max 0 (min (if j<0 then j+(n:Int)else j) (n:Int))) 1=_;rw[a,b]
theorem fj(l:List Nat)(lo hi:Option Int):Txt.slice (tx l) lo hi=tx (jh l lo hi):=by
 have h1:=HT.sIx_le l.length 0 (GZ _) lo;have h2:=HT.sIx_le l.length l.length (Gi _) hi;have ei:strSliceIndices lo hi 1 l.length=strSliceIndices (some ((HT.sIx l.length 0 lo:Nat):Int)) (some ((HT.sIx l.length l.length hi:Nat):Int)) 1 l.length:=by
  rw[qp lo hi,qp (some _) (some _),HT.sIx_nat,HT.sIx_nat,Jv h1,Jv h2]
 have e:Txt.slice (tx l) lo hi=StrLaws.sliceText (tx l) (some ((HT.sIx l.length 0 lo:Nat):Int)) (some ((HT.sIx l.length l.length hi:Nat):Int)):=by
  unfold Txt.slice StrLaws.sliceText;rw[aY,ei]
 by_cases hab:HT.sIx l.length 0 lo<=HT.sIx l.length l.length hi
 .rw[e,StrLaws.sliceText_nat (tx l) hab (by rw[aY];exact h2)];rfl
 .have e0:strSliceIndices lo hi 1 (tx l).length=[]:=by
   rw[aY,qp];unfold J3;simp only[show(1:Int)>0 by decide,if_true];rw[if_neg (by omega)];rfl
  unfold Txt.slice;rw[e0];have hne:¬ (((1:Int)==1&&([]:List Nat).length==(tx l).length)=true):=by
   rw[aY];intro h;have:0=l.length:=by simpa using h
   omega
  rw[if_neg hne];unfold jh;rw[Nat.sub_eq_zero_of_le (by omega),JJ];rfl
theorem cut_to{α:Type}(l:List α)(j:Nat):jh l none (some (j:Int))=l.take j:=by
 unfold jh;rw[HT.sIx_none,HT.sIx_nat,List.drop_zero,Nat.sub_zero];by_cases h:j<=l.length
 .rw[Jv h]
 .rw[Nat.min_eq_right (by omega),Ho (Gi _),Ho (by omega)]
theorem cut_from{α:Type}(l:List α)(i:Nat):jh l (some (i:Int)) none=l.drop i:=by
 unfold jh;rw[HT.sIx_none,HT.sIx_nat];by_cases h:i<=l.length
 .rw[Jv h,Ho (by rw[Il];exact Gi _)]
 .rw[Nat.min_eq_right (by omega),Nat.sub_self,JJ,Jc (by omega)]
def oI{α:Type}(l:List α)(n:Nat):List α:=(Gc n l).flatten
theorem mI{α:Type}(l:List α)(n:Nat):oI l (n+1)=l++oI l n:=by unfold oI;rw[GY,Ib]
theorem xf(l:List Nat):∀(n:Nat) (acc:List Nat),(Gc n l.toArray).foldl (·++·) acc.toArray=(acc++oI l n).toArray
 |0,acc=>by simp[oI]
 |n+1,acc=>by
  rw[GY,J_,List.append_toArray,xf l n,mI,Gs]
theorem AC(l:List Nat)(n:Nat):Txt.mul (tx l) (n:Int)=tx (oI l n):=by
 unfold Txt.mul;by_cases h1:(n:Int)<1
 .have e:n=0:=by omega
  subst e;rw[if_pos h1];rfl
 .rw[if_neg h1];by_cases h2:((n:Int)==1||(tx l).length==0)=true
  .rw[if_pos h2];rcases Bool.or_eq_true _ _▸h2 with h|h
   .have e:n=1:=by have:=JW h;omega
    subst e;rw[mI];simp[oI]
   .have e:l=[]:=by
     have:=JW h;rw[aY]at this;exact List.eq_nil_of_length_eq_zero this
    subst e;have:∀k,oI ([]:List Nat) k=[]:=λk=>by
     induction k with
     |zero=>rfl
     |succ k ih=>rw[mI,ih];rfl
    rw[this]
  .rw[if_neg h2];have:=xf l n [];have e:((n:Int)).toNat=n:=by omega
   rw[e];show(⟨(Gc n l.toArray).foldl (·++·) #[]⟩:Str)=_;rw[show(#[]:Array Nat)=([]:List Nat).toArray from rfl,this,Ka]
theorem sA{l:List Nat}{n:Nat}(h1:n<=100000)(h2:l.length<=100):MulOk (tx l) (n:Int):=by
 have hb:l.length*n<=10000000:=by
  have:=Nat.mul_le_mul h2 h1;omega
 refine⟨?_,λ_ _=>?_,λ_ _=>?_⟩
 .rw[decide_eq_false (by omega),decide_eq_false (by omega)];rfl
 .rw[aY];have:(100:Int)<=(2^63-1)/(n:Int):=by
   by_cases e:n=0
   .omega
   .exact(Int.le_ediv_iff_mul_le (by omega)).mpr (by omega)
  omega
 .rw[aY];unfold tooLong;have e:((n:Int)).toNat=n:=by omega
  rw[e];exact decide_eq_false (by show ¬ (_>16777216);omega)

def bu(c:Nat):List Nat->List (List Nat)
 |[]=>[[]]
 |x::r=>if x=c then[]::bu c r else match bu c r with
  |[]=>[[x]]
  |p::ps=>(x::p)::ps
theorem gk(c x:Nat)(r:List Nat):bu c (x::r)=if x=c then[]::bu c r else match bu c r with
  |[]=>[[x]]
  |p::ps=>(x::p)::ps:=rfl
theorem vd(c:Nat):∀l,bu c l≠[]
 |[]=>by simp[bu]
 |x::r=>by
  unfold bu
  split
  .simp
  .split<;>simp
def cz(sep:List Nat):List (List Nat)->List Nat
 |[]=>[]
 |[x]=>x
 |x::y::r=>x++sep++cz sep (y::r)
theorem jN(sep:List Nat):∀ps:List (List Nat),Txt.join (tx sep) (ps.map tx)=tx (cz sep ps):=by
 have go:∀ps:List (List Nat),K0 (tx sep) (ps.map tx)=tx (cz sep ps):=by
  intro ps;induction ps with
  |nil=>rfl
  |cons x r ih =>
   cases r with
   |nil=>rfl
   |cons y r =>
    show tx x++tx sep++K0 (tx sep) (tx y::r.map tx)=_;rw[show K0 (tx sep) (tx y::r.map tx)=tx (cz sep (y::r))from ih,eR,eR];rfl
 intro ps;show glued (tx sep) (ps.map tx)=_;rw[StrLaws.glued_eq_join];exact go ps
theorem sC(c:Nat):∀ps:List (List Nat),ps≠[]->(∀p∈ps,c∉p)->bu c (cz [c] ps)=ps:=by
 have one:∀p:List Nat,c∉p->bu c p=[p]:=by
  intro p;induction p with
  |nil=>intro _;rfl
  |cons x r ih =>
   intro h;have hx:x≠c:=λe=>h (by rw[e];exact Gk);rw[gk,if_neg hx,ih λz=>h (Gh _ z)]
 have app:∀(p:List Nat) (l:List Nat),c∉p->bu c (p++c::l)=p::bu c l:=by
  intro p l;induction p with
  |nil =>
   intro _;show bu c (c::l)=_;rw[gk,if_pos rfl]
  |cons x r ih =>
   intro h;have hx:x≠c:=λe=>h (by rw[e];exact Gk);show bu c (x::(r++c::l))=_;rw[gk,if_neg hx,ih λz=>h (Gh _ z)]
 intro ps;induction ps with
 |nil=>intro h;exact absurd rfl h
 |cons x r ih =>
  intro _ h;cases r with
  |nil=>exact one x (h x Gk)
  |cons y r =>
   show bu c (x++[c]++cz [c] (y::r))=_;rw[Gs,show[c]++cz [c] (y::r)=c::cz [c] (y::r)from rfl,app _ _ (h x Gk),ih (by simp) λp hp=>h p (Gh _ hp)]
theorem BL(l:List Nat)(c:Nat):Txt.split (tx l) ⟨#[c]⟩=(bu c l).map tx:=by
 have h1:=StrLaws.join_split (tx l) ⟨#[c]⟩;have h2:=StrLaws.split_free (tx l) c;have h3:=PyProof.Rows.split_pos (tx l) ⟨#[c]⟩;obtain⟨ps,e⟩:∃ps:List (List Nat),Txt.split (tx l) ⟨#[c]⟩=ps.map tx:=⟨(Txt.split (tx l) ⟨#[c]⟩).map (λs=>s.cps.toList),by
  rw[HU];exact(List.map_id' _).symm.trans (Jx λs _=>zk s)⟩
 rw[e]at h1 h2 h3;have e2:cz [c] ps=l:=by
  have:=jN [c] ps;have h4:Txt.join (tx [c]) (ps.map tx)=K0 (tx [c]) (ps.map tx):=StrLaws.glued_eq_join _ _;rw[h4]at this;exact jx (this.symm.trans h1)
 have hne:ps≠[]:=by
  intro z;rw[z]at h3;simp at h3
 rw[e,<-e2,sC c ps hne λp hp=>?_];have:=h2 (tx p) (List.mem_map_of_mem hp);simpa using this
theorem ub(l:List Nat)(c:Nat):(!(occurrences (tx l) ⟨#[c]⟩ 0 (tx l).length 1).isEmpty)=decide (c∈l):=by
 have:=StrLaws.found_one (tx l) c;rw[this]
end Tl

namespace L2
open PySem PySem.Spec PyProof.Rows

def FL(K:PySem.W.Frag)(T:String)(x:V)(H:Hp)(b:Bool):Prop:=match x with
 |.non=>b=false
 |.bl _=>b=(T == "bool" || T == "int")
 |.int _=>b=(T == "int")
 |.str _=>b=(T == "str")
 |.ref p=>((∃xs,SqL K H p xs)/\b=(T == "list"))\/((∃xs,SqT K H p xs)/\b=(T == "tuple"))
 |_=>False
section
variable {X:Cx}
theorem dZ:i_ X (.builtin "isinstance") (λxs H Q=>∃x T b,xs=[x,.ty T]/\(T = "bool"\/T = "int"\/T = "str"\/T = "tuple"\/T = "list")/\FL X.K T x H b/\Q (.bl b) H):=by
 intro pins s σ H xs us Q I r h;obtain⟨x,T,b,rfl,hT,hv,q⟩:=h;obtain⟨u,w',rfl,r1,r2⟩:=vV r;cases r2;have no:b=false->EP X pins σ Q (.bool false) { s with toks:=s.toks+1 }:=λe=>⟨.bl false,H,I.tok _,rfl,e▸q⟩;have yes:b=true->EP X pins σ Q (.bool true) s:=λe=>⟨.bl true,H,I,rfl,e▸q⟩;cases x with
 |non =>
  cases r1;have hv':b=false:=hv;rcases hT with rfl|rfl|rfl|rfl|rfl
  .exact IsiPair.NoneType_bool (no hv')
  .exact IsiPair.NoneType_int (no hv')
  .exact IsiPair.NoneType_str (no hv')
  .exact IsiPair.NoneType_tuple (no hv')
  .exact IsiPair.NoneType_list (no hv')
 |bl c =>
  cases r1;rcases hT with rfl|rfl|rfl|rfl|rfl
  .exact IsiPair.bool_bool (yes (hv.trans (by decide)))
  .exact IsiPair.bool_int (yes (hv.trans (by decide)))
  .exact IsiPair.bool_str (no (hv.trans (by decide)))
  .exact IsiPair.bool_tuple (no (hv.trans (by decide)))
  .exact IsiPair.bool_list (no (hv.trans (by decide)))
 |int c =>
  obtain⟨t,rfl⟩:=r1;rcases hT with rfl|rfl|rfl|rfl|rfl
  .exact IsiPair.int_bool (no (hv.trans (by decide)))
  .exact IsiPair.int_int (yes (hv.trans (by decide)))
  .exact IsiPair.int_str (no (hv.trans (by decide)))
  .exact IsiPair.int_tuple (no (hv.trans (by decide)))
  .exact IsiPair.int_list (no (hv.trans (by decide)))
 |str c =>
  obtain⟨t,rfl⟩:=r1;rcases hT with rfl|rfl|rfl|rfl|rfl
  .exact IsiPair.str_bool (no (hv.trans (by decide)))
  .exact IsiPair.str_int (no (hv.trans (by decide)))
  .exact IsiPair.str_str (yes (hv.trans (by decide)))
  .exact IsiPair.str_tuple (no (hv.trans (by decide)))
  .exact IsiPair.str_list (no (hv.trans (by decide)))
 |ref p =>
  cases r1;rcases hv with⟨⟨xs,hq⟩,hb⟩|⟨⟨xs,hq⟩,hb⟩
  .obtain⟨its,_,p',_⟩:=I.list hq;obtain⟨o,n,e,c,_⟩:=p';rcases hT with rfl|rfl|rfl|rfl|rfl
   .exact IsiPair.list_bool e c (no (hb.trans (by decide)))
   .exact IsiPair.list_int e c (no (hb.trans (by decide)))
   .exact IsiPair.list_str e c (no (hb.trans (by decide)))
   .exact IsiPair.list_tuple e c (no (hb.trans (by decide)))
   .exact IsiPair.list_list e c (yes (hb.trans (by decide)))
  .obtain⟨its,_,p',_⟩:=I.tuple hq;obtain⟨o,e,c,_⟩:=p';rcases hT with rfl|rfl|rfl|rfl|rfl
   .exact IsiPair.tuple_bool e c (no (hb.trans (by decide)))
   .exact IsiPair.tuple_int e c (no (hb.trans (by decide)))
   .exact IsiPair.tuple_str e c (no (hb.trans (by decide)))
   .exact IsiPair.tuple_tuple e c (yes (hb.trans (by decide)))
   .exact IsiPair.tuple_list e c (no (hb.trans (by decide)))
 |byt c=>exact hv.elim
 |flt c=>exact hv.elim
 |ty c=>exact hv.elim
end

section
variable {X:Cx}
end
structure b8(K:PySem.W.Frag)(mg:Str->Option F_)(x:Str)(st:Stmt)(ps:List Str)(f:Addr)(fd:Gu):Prop where
 fn:Fun K x x st f fd
 bd:gR K fd ps []
 mg:mg x=some (.ref f)
 ba:∀us:List F_,us.length=ps.length->JV fd ⟨us,[]⟩=pure (ps.zip us)
section
variable {X:Cx}{x:Str}{st:Stmt}{ps:List Str}{f:Addr}{fd:Gu}{k:Nat}{sp:Sp}{e:Expr}{es:List Expr}{t:TA}{p pos:Pos}
theorem aD(D:b8 X.K X.mg x st ps f fd)(G:a_ X.prog X.w X.K X.mg X.base CX0 k f fd ps sp)(hr:cx k X.A)(hg:Gl X x)(ha:PA X (e::es) t)(hd:(x==("__debug__" : Str))=false:=by decide)
  (he:GI (e::es) X.env=(false,eval e X.env)::GI es X.env:=by rfl)(hpl:(HV pos (GI es X.env)).any (·.1)=false:=by rfl):PE X (.Call (.Name x p) (e::es) [] pos) (zd sp [] E0 t):=yA G hr hg D.mg D.fn.kp D.bd .nil eU ha hd he hpl
theorem BM{K:PySem.W.Frag}{h:Heap}{mg:Str->Option F_}(KX:K.In h)(G:h.Ns GP mg){od an:Option Addr}{sl:Array (Option F_)}{oc kV dc pm cd ct:F_}(a:PySem.W.nsIn K GP x=some (some (.ref f)))
  (l:K.lookup f=some ⟨oc,od,.func (PySem.W.fnOf x x (cy st) (b_ st) (av st) .none kV dc pm an cd ct),sl⟩)(c:PySem.W.codeIn K cd x=true)(k:PySem.W.keepIn K (.ref f)=true)
  (b:∀(kV doc pm:F_) (an:Option Addr) (cdv ct:F_) (us:List F_),us.length=ps.length->JV (PySem.W.fnOf x x (cy st) (b_ st) (av st) .none kV doc pm an cdv ct) ⟨us,[]⟩=pure (ps.zip us)) :
  b8 K mg x st ps f (PySem.W.fnOf x x (cy st) (b_ st) (av st) .none kV dc pm an cd ct):=
 ⟨ua l c k,(ua l c k).binds b,PySem.W.mg_of KX G a,λus hl=>b _ _ _ _ _ _ us hl⟩
end

theorem cH{t u:TS}{D:eX}{σ:St}{H:Hp}(Mid:St->Hp->Prop)(h2:∀σ' H',Mid σ' H'->u D σ' H')(h1:(∀σ' H',Mid σ' H'->u D σ' H')->t { D with nx:=u D } σ H):Bs t u D σ H:=h1 h2

section
variable {X:Cx}
theorem BN(hc:X.calm=true):i_ X (.builtin "all") (λxs H Q=>∃(l:Addr) (bs:List Bool),xs=[.ref l]/\SqL X.K H l (bs.map V.bl)/\Q (.bl (bs.all id)) H):=by
 intro pins s σ H xs us Q I r h;obtain⟨l,bs,rfl,hl,q⟩:=h;obtain⟨u,rfl,ru⟩:=jb r;cases ru;obtain⟨its,rv,p,z⟩:=I.list hl;have hlt:l<s.heap.objs.size:=by obtain⟨_,_,e,_⟩:=p;exact Gn e
 have len:=rv.length;refine call_all_walk (I0 p.isList ?_);refine⟨s.heap.objs.size,[s.heap.objs.size,l],[s.heap.objs.size],its.toArray.size,_,_,λi=>(bs[i]?).getD true,rfl,Walks.list (A:=X.A.in1) (I.ok.hd hc) _ l (Gx hlt) its.toArray,
  ⟨⟨_,GN _ rfl,rfl,rfl⟩,p.isList.push _⟩,λi v s' Q' E' hP hQ=>?_,λh' tk hk=>?_⟩
 .have hi:its[i]?=some v:=by simpa using hP
  have hlt2:i<bs.length:=by
   have:=(List.getElem?_eq_some_iff.mp hi).1;rw[F9]at len;omega
  have eb:(bs.map V.bl)[i]?=some (V.bl bs[i]):=by rw[GD,Ge hlt2];rfl
  obtain⟨w',hw,rw'⟩:=rv.get eb;rw[hi]at hw;cases hw;cases rw';have e2:(bs[i]?).getD true=bs[i]:=by rw[Ge hlt2];rfl
  have hQ2:Q' ((bs[i]?).getD true) s':=hQ;rw[e2]at hQ2;exact HN hQ2
 .have e:((HQ its.toArray.size).all λi=>(bs[i]?).getD true)=bs.all id:=by
   have:its.toArray.size=bs.length:=by rw[F9]at len;simp;omega
   rw[this];exact LSm.range_all bs
  rw[e];exact⟨.bl _,H,I.kept λb x e=>hk b x (λhm=>by rw[List.mem_singleton.mp hm]at e;exact Hu _ (Gn e)) (Go _ e),rfl,q⟩

theorem uc(hu:X.A.units+1<J7):OpR X (HB .In) (λy x H Q=>∃a o,x=.ref a/\gZ H a y o/\Q (.bl o.isSome) H):=by
 intro pins s σ H y x u v Q I ry rx h;obtain⟨a,o,rfl,g,q⟩:=h;cases rx;exact FJ hu I g ry λs' I'=>⟨.bl _,H,I',rfl,q⟩
theorem pP(hu:X.A.units+1<J7):OpR X (HB .NotIn) (λy x H Q=>∃a o,x=.ref a/\gZ H a y o/\Q (.bl (!o.isSome)) H):=by
 intro pins s σ H y x u v Q I ry rx h;obtain⟨a,o,rfl,g,q⟩:=h;cases rx;exact C3 hu I g ry λs' I'=>⟨.bl _,H,I',rfl,q⟩
end

inductive DD where
 |bl (b:Bool)
 |int (i:Int)
 |str (s:Str)
 |tup (l:List DD)
 |lst (l:List DD)
mutual
def DD.deep:DD->Nat
 |.bl _=>0
 |.int _=>0
 |.str _=>0
 |.tup l=>jY l+1
 |.lst l=>jY l+1
def jY:List DD->Nat
 |[]=>0
 |d::r=>max d.deep (jY r)
end
mutual
def Rep(K:PySem.W.Frag)(H:Hp):DD->V->Prop
 |.bl b,v=>v=.bl b
 |.int i,v=>v=.int i
 |.str s,v=>v=.str s
 |.tup l,v=>∃a xs,v=.ref a/\SqT K H a xs/\l.length<=1000/\d9 K H l xs
 |.lst l,v=>∃a xs,v=.ref a/\SqL K H a xs/\l.length<=1000/\d9 K H l xs
def d9(K:PySem.W.Frag)(H:Hp):List DD->List V->Prop
 |[],xs=>xs=[]
 |d::l,xs=>∃x r,xs=x::r/\Rep K H d x/\d9 K H l r
end
theorem d9.len{K:PySem.W.Frag}{H:Hp}:∀{l:List DD} {xs:List V},d9 K H l xs->xs.length=l.length
 |[],xs,h=>by
  unfold d9 at h;rw[h];rfl
 |d::l,xs,h=>by
  unfold d9 at h;obtain⟨x,r,rfl,_,h⟩:=h;rw[Gd,Gd,h.len]
theorem d9.get{K:PySem.W.Frag}{H:Hp}:∀{l:List DD} {xs:List V} {i:Nat} {d:DD},d9 K H l xs->l[i]?=some d->∃x,xs[i]?=some x/\Rep K H d x
 |[],_,_,_,_,e=>by simp at e
 |d::l,xs,0,d',h,e=>by
  unfold d9 at h;obtain⟨x,r,rfl,hx,h⟩:=h;have:d=d':=by simpa using e
  subst this;exact⟨x,rfl,hx⟩
 |d::l,xs,i+1,d',h,e=>by
  unfold d9 at h;obtain⟨x,r,rfl,hx,h⟩:=h;obtain⟨y,ey,hy⟩:=h.get (i:=i) (by simpa using e);exact⟨y,by simpa using ey,hy⟩
theorem qq:∀{l:List DD} {i:Nat} {d:DD},l[i]?=some d->d.deep<=jY l
 |[],_,_,e=>by simp at e
 |d::l,0,d',e=>by
  have:d=d':=by simpa using e
  subst this;unfold jY;exact Nat.le_max_left _ _
 |d::l,i+1,d',e=>by
  have:=qq (l:=l) (i:=i) (by simpa using e);unfold jY;exact GM this (Nat.le_max_right _ _)
def xg(K:PySem.W.Frag)(n:Nat):Sp:=λvs H Q _=>∃d x y,vs=[x,y]/\d.deep<n/\Rep K H d x/\Rep K H d y/\Q (.bl true) H

def uD(P:GH)(w:GJ)(K:PySem.W.Frag)(a:Addr)(kvs:List (Key×V)):Prop:=(a==HI)=false/\∃o vs,K.lookup a=some o/\KV kvs vs/\o.IsDictOf (bz P w) vs
section
variable {X:Cx}{o i:Expr}{pos:Pos}{td ty:TE}
theorem Inv.modD{pins:List (Addr×Obj)}{σ:St}{H:Hp}{s:Gg}(I:Inv X pins σ H s){a:Addr}{kvs:List (Key×V)}(m:uD X.prog X.w X.K a kvs):∃vs,KV kvs vs/\s.heap.DictOf (bz X.prog X.w) a vs:=by
 obtain⟨_,o,vs,hk,r,d⟩:=m;exact⟨vs,r,Heap.dictOf_iff.mpr ⟨o,I.kIn a o hk,d⟩⟩
theorem ve:OpR X (HB .In) (λy x H Q=>∃a kvs k,x=.ref a/\uD X.prog X.w X.K a kvs/\y=kV k/\Q (.bl (cX kvs k).isSome) H):=by
 intro pins s σ H y x u v Q I ry rx h;obtain⟨a,kvs,k,rfl,m,rfl,q⟩:=h;cases rx;obtain⟨vs,rel,dd⟩:=I.modD m;refine wpAny_in_of (mH ry) m.1 dd.mapOf ?_;rw[<-(rel.val k).isSome_eq];exact⟨.bl _,H,I.tok _,rfl,q⟩
def Eb(P:GH)(w:GJ)(K:PySem.W.Frag)(td ty:TE):TE:=λσ H Q=>td σ H λx H1=>ty σ H1 λy H2=>∃a kvs k v,x=.ref a/\uD P w K a kvs/\y=kV k/\cX kvs k=some v/\Q v H2
theorem xh(ho:PE X o td)(hi:PE X i ty)(hs:BF i):PE X (.Subscript o i pos) (Eb X.prog X.w X.K td ty):=by
 intro pins s σ H Q I h;refine yE PySem.F.slot_dict_getitem.lookup hs (thn (ho pins s σ H _ I h) λu s1 ⟨x,H1,I1,rx,q1⟩=>thn (hi pins s1 σ H1 _ I1 q1) λiv s2 ⟨y,H2,I2,ry,a,kvs,k,v,ex,m,ey,l,q2⟩=>?_);subst ex ey;obtain rfl:u=He a:=rx;obtain⟨vs,rel,dd⟩:=I2.modD m;obtain⟨w',hw,rw'⟩:=gU.some_of (v:=v) (o:=J2 vs k) (by rw[<-l];exact rel.val k);exact⟨dd.mapOf.typeIs,wpAny_getItem_of (mH ry) dd.mapOf hw ⟨v,H2,I2.tok _,rw',q2⟩⟩
end

def CXe(P:GH)(w:GJ):CXT:=λouter H s E e s' =>
 ∃(x C:Addr) (H':Hp) (B:Heap) (a0:F_),e=.ref x/\s'.os=s.os/\Jj s'.gens/\Un (frs outer) [] H H' s.heap s'.heap/\HOk P w H' B/\
  (∀b o,s.heap.get? b=some o->H b=none->b∉frs outer->B.get? b=some o)/\(∀b o,s.heap.get? b=some o->b∉frs outer->∃o',B.get? b=some o')/\
  J4 B outer x (.ref C) a0 s'.heap/\E (.ref C) none H'
def Ec(X:Cx)(E:XK):Prop:=∀(pins:List (Addr×Obj)) (σ:St) (H:Hp) (s:Gg) (x C:Addr) (vs:List F_) (h':Heap),Inv X pins σ H s->Heap.MadeExcOf s.heap h' x (.ref C) vs->E (.ref C) none H->X.xe (.ref x) { s with heap:=h' }
theorem yH{env:Env}{l:List Env}{b L:Addr}(hf:env.frame=some L)(h:b∈frs (env::l)):b=L\/b∈frs l:=by
 unfold frs at h;rw[HR,hf]at h;exact List.mem_cons.mp h
theorem C5(l:List Env):∀env∈l,∀a,env.frame=some a->a∈frs l:=λenv he a hf=>List.mem_filterMap.mpr ⟨env,he,hf⟩
section
variable {P:GH}{w:GJ}{K:PySem.W.Frag}{mg:Str->Option F_}{base:Heap}{N:List Str}{qual:Str}{scope:Scope}{f:Addr}{cd:F_}{A:Ha}{outer:List Env}{s:Gg}{H:Hp}{E:XK}
theorem nZ:Ec (mS (CXe P w) P w K mg base N qual scope f cd A outer s H E) E:=by
 intro pins σ H1 s1 x C vs h' I hx ee;have hfr:(HK qual scope s.heap.objs.size f cd).frame=some (HK qual scope s.heap.objs.size f cd).locals:=rfl;have hst:=I.stack;have hfree:=I.stkFree;have hsub:=I.stkSub;show GK (GQ P w) (A.deeper (HK qual scope s.heap.objs.size f cd)) (leaving (HK qual scope s.heap.objs.size f cd) (.ref x)) (λ_ s''=>CXe P w outer H s E (.ref x) s'') _ _;have hin:=C5 (HK qual scope s.heap.objs.size f cd::outer);have hff:s1.heap.FunFrames (PySem.W.hideAll s1.heap (frs (HK qual scope s.heap.objs.size f cd::outer))) (HK qual scope s.heap.objs.size f cd::outer):=PySem.W.funFrames_hide hst hin;have notfr:∀b,b<s.heap.objs.size->b∉frs outer->b∉frs (HK qual scope s.heap.objs.size f cd::outer):=λb hlt hb hm=>by
  rcases yH hfr hm with e|hm
  .exact absurd (GG hlt I.ok.above) (by rw[e];exact Hu _)
  .exact hb hm
 refine wpAny_leaves_madeW (base:=PySem.W.hideAll s1.heap (frs (HK qual scope s.heap.objs.size f cd::outer))) (h:=s1.heap) I.ok.frames hfr (λb o q=>PySem.W.of_hideAll _ q) hff hx λh'' t x1 x2 x3 x4=>?_;have cov1:∀b o,s.heap.get? b=some o->H b=none->b∉frs outer->(PySem.W.hideAll s1.heap (frs (HK qual scope s.heap.objs.size f cd::outer))).get? b=some o:=λb o q n hb =>
  PySem.W.hideAll_get _ (I.base.keep b o q n hb (show b∉([]:List Addr) by simp)) (notfr b (Gn q) hb)
 have cov2:∀b o,s.heap.get? b=some o->b∉frs outer->∃o',(PySem.W.hideAll s1.heap (frs (HK qual scope s.heap.objs.size f cd::outer))).get? b=some o':=λb o q hb=>by
  obtain⟨o',e⟩:=I.base.there b o q (show b∉([]:List Addr) by simp);exact⟨o',PySem.W.hideAll_get _ e (notfr b (Gn q) hb)⟩
 have slot:∀b,b∈frs outer->∀o,s1.heap.get? b=some o->∃sl,h''.get? b=some { o with slots:=sl }:=λb hb o q=>by
  have hm:b∈frs (HK qual scope s.heap.objs.size f cd::outer):=by
   unfold frs;rw[HR,hfr];exact Gh _ hb
  obtain⟨_,o2,e2,nd⟩:=hff.mem hm;rw[q]at e2;cases e2;exact x4 b o (hx.keeps b o q) nd
 refine⟨x,C,H1,_,_,rfl,I.os,I.bare,⟨λb o q n hb _=>x1.1 b o (cov1 b o q n hb),λb o q n hb hx'=>?_,I.base.free,λb o q _=>?_,I.base.tups,I.base.frzs,I.base.tbls⟩,λb ob e=>?_,cov1,cov2,x1,ee⟩
 .obtain⟨sl,e1⟩:=I.base.slot b o q n hb hx';obtain⟨sl2,e2⟩:=slot b hb _ e1;exact⟨sl2,e2⟩
 .by_cases hb:b∈frs outer
  .obtain⟨o',e⟩:=I.base.there b o q (show b∉([]:List Addr) by simp);obtain⟨sl2,e2⟩:=slot b hb _ e;exact⟨_,e2⟩
  .obtain⟨o',e⟩:=cov2 b o q hb;exact⟨o',x1.1 b o' e⟩
 .refine(I.hok b ob e).stay (λc v hc q=>PySem.W.hideAll_get _ q λhm=>?_) (λ_ q=>q) λ_ _ q=>q;have z:=hfree c hm;rcases hc with rfl|hc
  .rw[e]at z;cases z
  .rw[hc]at z;cases z
theorem fI:fG (CXe P w) (mS (CXe P w) P w K mg base N qual scope f cd A outer s H E) E:=by
 intro pins σ H1 s1 e s' I h;obtain⟨x,C,H',B,a0,rfl,os,bare,un,hok,cov1,cov2,fl,ee⟩:=h;have hfr:(HK qual scope s.heap.objs.size f cd).frame=some (HK qual scope s.heap.objs.size f cd).locals:=rfl;show GK (GQ P w) (A.deeper (HK qual scope s.heap.objs.size f cd)) (leaving (HK qual scope s.heap.objs.size f cd) (.ref x)) (λ_ s''=>CXe P w outer H s E (.ref x) s'') _ _;have notfr:∀b,b<s.heap.objs.size->b∉frs outer->b∉frs (HK qual scope s.heap.objs.size f cd::outer):=λb hlt hb hm=>by
  rcases yH hfr hm with e|hm
  .exact absurd (GG hlt I.ok.above) (by rw[e];exact Hu _)
  .exact hb hm
 refine wpAny_leaves_onW I.ok.frames hfr fl λh'' f2 up=>?_;have c1:∀b o,s.heap.get? b=some o->H b=none->b∉frs outer->B.get? b=some o:=λb o q n hb =>
  cov1 b o (I.base.keep b o q n hb (show b∉([]:List Addr) by simp)) (I.base.free b o q n (show b∉([]:List Addr) by simp)) (notfr b (Gn q) hb)
 have c2:∀b o,s.heap.get? b=some o->b∉frs outer->∃o',B.get? b=some o':=λb o q hb=>by
  obtain⟨o',e⟩:=I.base.there b o q (show b∉([]:List Addr) by simp);exact cov2 b o' e (notfr b (Gn q) hb)
 have fm:∀b,b∈frs outer->b∈frs (HK qual scope s.heap.objs.size f cd::outer):=λb hb=>by
  unfold frs;rw[HR,hfr];exact Gh _ hb
 refine⟨x,C,H',B,a0,rfl,os.trans I.os,bare,⟨λb o q n hb _=>f2.1 b o (c1 b o q n hb),λb o q n hb hx'=>?_,λb o q n hx'=>?_,λb o q _=>?_,λb xs q=>un.tups b xs (I.base.tups b xs q),λb o u q=>un.frzs b o u (I.base.frzs b o u q),λb ps q=>?_⟩,hok,c1,c2,f2,ee⟩
 .obtain⟨sl,e1⟩:=I.base.slot b o q n hb hx';obtain⟨sl2,e2⟩:=un.slot b _ e1 (I.base.free b o q n hx') (fm b hb) (by simp);obtain⟨_,o3,e3,nd⟩:=fl.2.2.1.mem (fm b hb);rw[e2]at e3;cases e3;obtain⟨sl3,e4⟩:=up b _ e2 nd;exact⟨sl3,e4⟩
 .obtain⟨o',e⟩:=I.base.there b o q hx';exact un.free b o' e (I.base.free b o q n hx') (by simp)
 .by_cases hb:b∈frs outer
  .obtain⟨_,o3,e3,_⟩:=f2.2.2.1.mem hb;exact⟨o3,e3⟩
  .obtain⟨o',e⟩:=c2 b o q hb;exact⟨o',f2.1 b o' e⟩
 .obtain⟨m1,e1⟩:=I.base.tbls b ps q;obtain⟨m2,e2⟩:=un.tbls b _ e1;exact⟨m1++m2,by rw[e2,JC]⟩
end

abbrev qr:List F_:=[.type "ValueError",.type "Exception",.type "BaseException",.type "object"]
structure rW(K:PySem.W.Frag)(mg:Str->Option F_)(c:Str)(C:Addr):Prop where
 mg:mg c=some (.ref C)
 ex:PySem.W.excIn K C qr "ValueError.__new__" = true
theorem C6{K:PySem.W.Frag}{h:Heap}{C:Addr}{bmB:List F_}{newId:String}(X:K.In h)(q:PySem.W.excIn K C bmB newId=true) :
  ∃bm N nm q bs hdct sn sub ab col dd k0 k1 k2 k3 k5 mN,h.get? C=some (excClassObj nm q C N bs bm hdct sn sub ab col dd k0 k1 k2 k3 k5 newId)/\h.Ns N mN/\mN "__init__" = none/\OwnTail h bmB bm:=by
 unfold PySem.W.excIn at q
 split at q
 .rename_i dd cd sl ho
  split at q
  .rename_i C' bm k0 k1 k2 k3 n k5 hm hs
   simp only[HC,beq_iff_eq,Bool.not_eq_true']at q;obtain⟨⟨⟨⟨⟨rfl,rfl⟩,hdel⟩,ht⟩,hok⟩,hni⟩:=q;obtain⟨nm,bs,mro,ns,qn,hd,sn,sub,ab,col,del⟩:=cd;dsimp only at hm hdel hok hni;subst hm hdel;have hsl:sl=#[k0,k1,k2,k3,some (.builtin n),k5]:=by
    obtain⟨l⟩:=sl;simp only at hs;rw[hs]
   subst hsl;exact⟨bm,ns,nm,qn,bs,hd,sn,sub,ab,col,dd,k0,k1,k2,k3,k5,_,X _ _ ho,.of_isNs (PySem.W.isNs_of_in X hok),PySem.W.nsMap_none_of_in X hok hni,PySem.W.tail_of_in X ht⟩
  .cases q
 .cases q
def Ed(E:XK)(C:Addr)(t:TA):TS:=λ_ σ H=>t σ H λvs H1=>vs.length<=Gv/\E (.ref C) none H1
section
variable {X:Cx}{E:XK}{c:Str}{C:Addr}{e:Expr}{es:List Expr}{t:TA}{np cpos pos:Pos}
theorem lK(hc:X.calm=true)(hw:Ec X E)(O:rW X.K X.mg c C)(hg:Gl X c)(ha:PA X (e::es) t)(hd:(c==("__debug__" : Str))=false:=by decide)
  (he:GI (e::es) X.env=(false,eval e X.env)::GI es X.env:=by rfl)(hpl:(HV cpos (GI es X.env)).any (·.1)=false:=by rfl) :
  PS X (.Raise (some (.Call (.Name c np) (e::es) [] cpos)) none pos) (Ed E C t):=by
 intro pins s σ H D I h;obtain⟨bm,N,nm,q,bs,hdct,sn,sub,ab,col,dd,k0,k1,k2,k3,k5,mN,hC,hN,hni,T⟩:=C6 I.ok.mod.kin O.ex;refine wpAny_Raise_call_subU (C:=C) (nm:=nm) (q:=q) (N:=N) (bs:=bs) (bm:=bm) (hdct:=hdct) (sn:=sn) (sub:=sub) (ab:=ab) (col:=col) (dd:=dd) (k0:=k0) (k1:=k1) (k2:=k2) (k3:=k3) (k5:=k5)
  PySem.F.excBase_ValueError (by decide +kernel) PySem.F.excBase_ValueError (mN:=mN) (T.hasType PySem.F.excBase_ValueError.hasBase) (I.ok.hd hc) (by rw[he];show(false||(HV cpos (GI es X.env)).any (·.1))=false;rw[hpl];rfl) hni
  (jJ I hg O.mg ⟨rfl,?_⟩ hd)
 have ha':=ha cpos pins s σ H _ I h;rw[he]at ha'⊢;refine Jo (Hl ha' (λvs s₂ h₂=>?_) λ_ _ y=>y);obtain⟨xs,H1,I1,r,hz,ee⟩:=h₂;exact⟨rfl,by rw[<-r.length];exact hz,I1.bk _ _ hC,hN.keeps I1.bk,T.keeps I1.bk,λh' x hm=>hw pins σ H1 s₂ x C _ h' I1 hm ee⟩
end
theorem Fun.okE{P:GH}{w:GJ}{K:PySem.W.Frag}{mg:Str->Option F_}{base:Heap}{x qual:Str}{st:Stmt}{f:Addr}{fd:Gu}{N ps:List Str}{k:Nat}{sp:Sp}(F:Fun K x qual st f fd)(S:aL N ps (av st))(len:∀vs H Q E,sp vs H Q E->vs.length=ps.length)
  (hbody:∀ (cdv:F_) (A:Ha) (outer:List Env) (s:Gg) (H:Hp) (vs:List V) (Q:VK) (E:XK),cx k (A.deeper (HK qual (av st) s.heap.objs.size f cdv))→sp vs H Q E →
   ∃t,PSs (mS (CXe P w) P w K mg base N qual (av st) f cdv A outer s H E) (b_ st) t/\t { nx:=λ_ H'=>Q .non H',rt:=Q } (jc N vs) H):a_ P w K mg base (CXe P w) (k+1) f fd ps sp:=by
 obtain⟨oc,od,kV,doc,pm,an,cdv,ct,osl,rfl,lk,hcd⟩:=F.ex;exact ze lk hcd S len λA outer s H vs Q E hr hsp=>hbody cdv A outer s H vs Q E hr hsp
abbrev Cx.marked(X:Cx)(v:F_):Cx:={ X with A:=X.A.mark (some v),calm:=false,xe:=λ_ _=>False }
theorem Inv.marked{X:Cx}{pins:List (Addr×Obj)}{σ:St}{H:Hp}{s:Gg}(I:Inv X pins σ H s)(v:F_):Inv (X.marked v) pins σ H s:=
 ⟨⟨I.ok.mod,I.ok.kind,I.ok.glob,I.ok.blt,I.ok.above,I.ok.inj,I.ok.has,I.ok.cab,(λh=>nomatch h),I.ok.frames,I.ok.stk,I.ok.exf,I.ok.bs,I.ok.bsz,I.ok.noex,I.ok.exfs,I.ok.funs,I.ok.frf⟩,I.os,I.bare,I.base,I.loc,I.cell,I.free,I.freeC,I.pin,I.hok,I.len⟩
theorem Inv.unmarked{X:Cx}{pins:List (Addr×Obj)}{σ:St}{H:Hp}{s:Gg}{v:F_}(I:Inv (X.marked v) pins σ H s)(hd:X.calm=true->X.A.handled=none):Inv X pins σ H s:=
 ⟨⟨I.ok.mod,I.ok.kind,I.ok.glob,I.ok.blt,I.ok.above,I.ok.inj,I.ok.has,I.ok.cab,hd,I.ok.frames,I.ok.stk,I.ok.exf,I.ok.bs,I.ok.bsz,I.ok.noex,I.ok.exfs,I.ok.funs,I.ok.frf⟩,I.os,I.bare,I.base,I.loc,I.cell,I.free,I.freeC,I.pin,I.hok,I.len⟩
theorem SP.unmarked{X:Cx}{pins:List (Addr×Obj)}{D:eX}{f:Flow}{s':Gg}{v:F_}(hd:X.calm=true->X.A.handled=none)(h:SP (X.marked v) pins D f s'):SP X pins D f s':=by
 cases f with
 |next=>obtain⟨σ',H',I,q⟩:=h;exact⟨σ',H',I.unmarked hd,q⟩
 |brk=>obtain⟨σ',H',I,q⟩:=h;exact⟨σ',H',I.unmarked hd,q⟩
 |cont=>obtain⟨σ',H',I,q⟩:=h;exact⟨σ',H',I.unmarked hd,q⟩
 |ret u=>obtain⟨v,σ',H',I,r,q⟩:=h;exact⟨v,σ',H',I.unmarked hd,r,q⟩
def ud(K:PySem.W.Frag)(C T:Addr):Prop:=PySem.W.exmOne K (.ref C) (.ref T)=some true
section
variable {X:Cx}{k:Nat}{f T:Addr}{fd:Gu}{ps:List Str}{sp:Sp}{fx c:Str}{st:Stmt}{e:Expr}{es:List Expr}{t:TA}{b₀:Stmt}{suite:List Stmt}{th:TS}{np pf cpos apos hpos pos:Pos}
theorem Ee{pins:List (Addr×Obj)}{σ:St}{H1 H':Hp}{s1 s2:Gg}{D:eX}{x C:Addr}{B:Heap}{a0:F_}{E2:F_->Gg->Prop}(I1:Inv X pins σ H1 s1)(hst:X.stack=X.env::X.outer/\X.env.frame=some X.env.locals)
  (os:s2.os=s1.os)(bare:Jj s2.gens)(un:Un (frs X.stack) [] H1 H' s1.heap s2.heap)(hok:HOk X.prog X.w H' B)
  (cov1:∀b o,s1.heap.get? b=some o->H1 b=none->b∉frs X.stack->B.get? b=some o)(cov2:∀b o,s1.heap.get? b=some o->b∉frs X.stack->∃o',B.get? b=some o')(fl:J4 B X.stack x (.ref C) a0 s2.heap)
  (hg:Gl X c)(hm:X.mg c=some (.ref T))(tk:ud X.K C T)(hh:∀v,PSs (X.marked v) (b₀::suite) th)(q:th D σ H')(hd:(c==("__debug__" : Str))=false:=by decide) :
  GK (GQ X.prog X.w) X.A (noteFrame (.ref x) X.env) (λ_ s₂=>GK (GQ X.prog X.w) X.A (setFlight (.ref x) none) (λ_ s₃=>GK (GQ X.prog X.w) X.A (handleBy (.ref x) X.env [.ExceptHandler (some (.Name c np)) none (b₀::suite) hpos]) (SP X pins D) E2 s₃) E2 s₂) E2 s2:=by
 have hfr:X.A.frames=some (X.env::X.outer):=hst.1▸I1.ok.frames
 -- the state behind, in any later heap that keeps B and the frames
 have after:∀h6:Heap,J4 B X.stack x (.ref C) a0 h6->s2.heap.UpToSlots h6->Inv X pins σ H' { s2 with heap:=h6 }:=λh6 fl6 up=>by
  refine I1.call' (ch:=[]) os ⟨λb o q n hb _=>fl6.1 b o (cov1 b o q n hb),λb o q n hb hx'=>?_,un.free,λb o q _=>?_,un.tups,un.frzs,un.tbls⟩ (hok.kept fl6.1) bare (λb z=>absurd z (by simp))
  .obtain⟨sl,e1⟩:=un.slot b o q n hb hx';obtain⟨_,o3,e3,nd⟩:=fl.2.2.1.mem hb;rw[e1]at e3;cases e3;obtain⟨sl3,e4⟩:=up b _ e1 nd;exact⟨sl3,e4⟩
  .by_cases hb:b∈frs X.stack
   .obtain⟨_,o3,e3,_⟩:=fl6.2.2.1.mem hb;exact⟨o3,e3⟩
   .obtain⟨o',e⟩:=cov2 b o q hb;exact⟨o',fl6.1 b o' e⟩
 rw[hst.1]at fl;refine wpAny_looks_onW hfr hst.2 fl λh₄ held up4=>?_;refine wpAny_landsW held λh₅ fl5 up5=>?_;have fl5':J4 B X.stack x (.ref C) a0 h₅:=hst.1▸fl5;have I5:=after h₅ fl5' (up4.trans up5);have I5m:=I5.marked (.ref x);refine wpAny_handleBy_cons (codeAny_handlers_test (jJ (X:=X.marked (.ref x)) I5m hg hm ?_ hd)) (by intro q;cases q);obtain⟨ob,hob,hobc⟩:=fl5.there;have LT:PySem.W.Looks (GQ X.prog X.w) h₅ (typeOf (.ref x)) (.ref C):=by
  have z:PySem.W.Looks (GQ X.prog X.w) h₅ (typeOf (.ref x)) ob.cls:=(PySem.W.Looks.ld hob).andThen .now;rw[hobc]at z;exact z
 refine(PySem.W.exm_one (M:=GQ X.prog X.w) (I5.kIn) LT tk).here ?_;refine codeAny_handlers_suite ?_;refine lands_againW fl5 λh₆ fl6 up6=>?_;have I6:=after h₆ (hst.1▸fl6) ((up4.trans up5).trans up6);refine Hl (hh (.ref x) pins _ σ H' D (I6.marked (.ref x)) q) (λfl s' h=>?_) λ_ _ z=>HD z;exact h.unmarked I1.ok.hd

theorem BO{W:F_->Gg->Prop}{pins:List (Addr×Obj)}{σ:St}{H:Hp}{s:Gg}{Q:VK}{E:XK}(I:Inv X pins σ H s)(D:b8 X.K X.mg fx st ps f fd)(G:a_ X.prog X.w X.K X.mg X.base (CXe X.prog X.w) k f fd ps sp)(hr:cx k X.A)(hg:Gl X fx)
  (ha:PA (X.wish W) (e::es) t)(h:t σ H λvs H1=>sp (vs++[]) H1 Q E)(hW:∀H1 s1 e s2,Inv X pins σ H1 s1->CXe X.prog X.w X.stack H1 s1 E e s2->W e s2)
  (hd:(fx==("__debug__" : Str))=false:=by decide)(he:GI (e::es) X.env=(false,eval e X.env)::GI es X.env:=by rfl)(hpl:(HV cpos (GI es X.env)).any (·.1)=false:=by rfl) :
  GK (GQ X.prog X.w) X.A (eval (.Call (.Name fx pf) (e::es) [] cpos) X.env) (EP X pins σ Q) W s:=by
 have I':=I.wish W;refine HW (jJ I hg D.mg ?_ hd);refine PySem.W.callWith_K (h₀:=X.base) I.ok.mod.kin D.fn.kp (thn (ha cpos pins s σ H _ I' h) λus s1 ⟨vs,H1,I1,r,q⟩=>⟨I1.kIn,?_⟩) he hpl;have r2:a8 (vs++[]) (us++[]):=r.append .nil;have hl:(us++[]).length=ps.length:=by rw[<-r2.length];exact G.len _ _ _ _ q
 refine KP (JA (G.run X.A X.stack s1 H1 ⟨us,[]⟩ (us++[]) (vs++[]) Q E hr I1.env0 (D.bd s1 us I1.kIn hl) r2 q) λr s' hq=>?_);cases r with
 |error ex=>exact hW H1 s1 ex s' I1.unwish hq
 |ok fl =>
  cases fl with
  |ret u=>exact I1.unwish.after hq
  |next=>exact HD hq
  |brk=>exact HD hq
  |cont=>exact HD hq
def C7(K:PySem.W.Frag)(sp:Sp)(i:Nat)(t:TA)(T:Addr)(th:TS):TS:=λD σ H=>t σ H λvs H1=>sp (vs++[]) H1 (λv H2=>D.nx (σ.set i (some v)) H2) (λcls _ H2=>∃C,cls=.ref C/\ud K C T/\th D σ H2)
theorem zm{i:Nat}{y:Str}{py:Pos}(hN:X.N.Nodup)(hi:X.N[i]?=some y)(hy:Loc X.env.scope y)(Df:b8 X.K X.mg fx st ps f fd)(G:a_ X.prog X.w X.K X.mg X.base (CXe X.prog X.w) k f fd ps sp)(hr:cx k X.A)(hgf:Gl X fx)
  (ha:∀W,PA (X.wish W) (e::es) t)(hgc:Gl X c)(O:rW X.K X.mg c T)(hst:X.stack=X.env::X.outer/\X.env.frame=some X.env.locals)(hh:∀v,PSs (X.marked v) (b₀::suite) th)
  (hs:IW (.Call (.Name fx pf) (e::es) [] cpos) (some (.Name y py)) apos.line X.env=pure false:=by rfl)(hf:X.fn y=true\/X.env.scope.names.lookup y=some .local:=by first|exact .inl rfl|exact .inr rfl|assumption)
  (hd:(fx==("__debug__" : Str))=false:=by decide)(hdc:(c==("__debug__" : Str))=false:=by decide)(he:GI (e::es) X.env=(false,eval e X.env)::GI es X.env:=by rfl)(hpl:(HV cpos (GI es X.env)).any (·.1)=false:=by rfl) :
  PS X (.Try [.Assign [.Name y py] (.Call (.Name fx pf) (e::es) [] cpos) apos] [.ExceptHandler (some (.Name c np)) none (b₀::suite) hpos] [] [] pos) (C7 X.K sp i t T th):=by
 intro pins s σ H D I h;refine wpAny_Try_except (Jh (JN (thn (BO I Df G hr hgf (ha _) h (λH1 s1 ex s2 I1 hx=>?_) hd he hpl) λv s1 ⟨y,H1,I1,r1,q1⟩=>?_) hs))
 .obtain⟨x,C,H',B,a0,rfl,os,bare,un,hok,cov1,cov2,fl,C',ec,tk,q⟩:=hx;cases ec;exact Ee I1 hst os bare un hok cov1 cov2 fl hgc O.mg tk hh q hdc
 .exact oC I1 hN hi hy r1 (λs2 I2=>Iv (Iv ⟨_,H1,I2,q1⟩)) hf
end
end L2

set_option maxHeartbeats 4000000
namespace L2
open PySem PySem.Spec PyProof.Rows Tl

def PP(X:Cx)(v:Expr)(c:St->Prop):Prop:=∀(pins:List (Addr×Obj)) (s:Gg) (σ:St) (H:Hp) (Q:F_->Gg->Prop),Inv X pins σ H s->c σ->(∀(y:Str) (t:Tok) (s':Gg),y.length<=20000->Inv X pins σ H s'->Q (.str y t) s')->GK (GQ X.prog X.w) X.A (eval v X.env) Q X.xe s
def PJ(X:Cx)(vs:List Expr)(c:St->Prop):Prop:=∀(pins:List (Addr×Obj)) (s:Gg) (σ:St) (H:Hp) (acc:Str) (Q:Str->Gg->Prop),Inv X pins σ H s->c σ->acc.length+20000*vs.length<=1000000->(∀(z:Str) (s':Gg),z.length<=1000000->Inv X pins σ H s'->Q z s')->Joins (GQ X.prog X.w) X.A X.xe (evalEach vs X.env) acc Q s
section
variable {X:Cx}
theorem qt:PJ X [] (λ_=>True):=λ_ s _ _ acc _ I _ ha q=>q acc s (by simpa using ha) I
theorem eK{v:Expr}{vs:List Expr}{c d:St->Prop}(h:PP X v c)(hr:PJ X vs d)(he:evalEach (v::vs) X.env=eval v X.env::evalEach vs X.env:=by rfl):PJ X (v::vs) (λσ=>c σ/\d σ):=by
 intro pins s σ H acc Q I hc ha q;rw[he];refine h pins s σ H _ I hc.1 λy t s' hy I'=>?_;have hl:(acc++y).length=acc.length+y.length:=strLen_append _ _;rw[Gd]at ha;refine⟨y,t,rfl,?_,hr pins s' σ H (acc++y) Q I' hc.2 (by rw[hl];omega) q⟩;rw[hl];exact GM (show acc.length+y.length<=1000000 by omega) (by decide)
theorem kj{x:Str}{j pos}(hx:x.length<=20000:=by decide +kernel):PP X (.Constant (.str x) j pos) (λ_=>True):=λ_ s _ _ _ I _ q=>IT (q x _ _ hx (I.tok _))
theorem C8{pins:List (Addr×Obj)}{s:Gg}{σ:St}{H:Hp}{Q:F_->Gg->Prop}{y:Str}{t:Tok}(I:Inv X pins σ H s)(hy:y.length<=20000)(q:∀(y:Str) (t:Tok) (s':Gg),y.length<=20000->Inv X pins σ H s'->Q (.str y t) s') :
  GK (GQ X.prog X.w) X.A (formatField (.str y t) Hy) Q X.xe s:=
 formatField_str (λt' tk=>q y t' _ hy (I.tok tk)) (GM hy (by decide))
theorem rX{i:Nat}{e:Expr}{pos:Pos}(he:PE X e (Br i)):PP X (.FormattedValue e 114 none pos) (λσ=>∃l:List Nat,σ[i]?=some (some (.str (tx l)))/\l.length<=1000/\∀c∈l,c<127):=by
 intro pins s σ H Q I hc q;obtain⟨l,hv,hl,hc⟩:=hc;refine wpAny_FormattedValue_repr (thn (he pins s σ H (λv H'=>v=.str (tx l)/\H'=H) I ⟨_,hv,rfl,rfl⟩) λu s1 ⟨x,H1,I1,r1,e1,e2⟩=>?_);subst e1 e2;obtain⟨t,rfl⟩:=r1;have hb:(reprText (tx l)).length<=20000:=by
  have:=StrLaws.reprText_len (tx l) (λc hm=>HS (hc c (by simpa using hm)) (by decide));have e1:(reprText (tx l)).cps.toList.length=(reprText (tx l)).length:=Ii;have e2:=aY l;have e3:(tx l).cps.toList.length=(tx l).length:=Ii;omega
 exact wpAny_pyReprObj_str (C8 (I1.tok _) hb q) (GM hb (by decide))
theorem Ef{n:Int}{e:Expr}{pos:Pos}(he:PE X e (tC (.int n)))(hn:n.natAbs.log2<1920:=by decide)(hl:(toString n:Str).length<=20000:=by decide +kernel):PP X (.FormattedValue e (-1) none pos) (λ_=>True):=by
 intro pins s σ H Q I _ q;refine wpAny_FormattedValue_plain (thn (he pins s σ H (λv H'=>v=.int n/\H'=H) I ⟨rfl,rfl⟩) λu s1 ⟨x,H1,I1,r1,e1,e2⟩=>?_);subst e1 e2;obtain⟨t,rfl⟩:=r1;exact wpAny_formatField_int hn (q _ _ _ hl (I1.tok _))
def tFs(c:St->Prop):TE:=λσ H Q=>c σ/\∀z:Str,Q (.str z) H
theorem n9{v v2:Expr}{vs:List Expr}{c:St->Prop}{pos:Pos}(h:PJ X (v::v2::vs) c)(hl:vs.length<=20:=by decide):PE X (.JoinedStr (v::v2::vs) pos) (tFs c):=by
 intro pins s σ H Q I hw;refine wpAny_JoinedStr (h pins s σ H _ _ I hw.1 (by show 0+_<=_;simp only[Gd];omega) λz s' hz I'=>⟨GM hz (by decide),.str z,H,I'.tok _,⟨_,rfl⟩,hw.2 z⟩)
end

theorem Inv.track{X:Cx}{pins:List (Addr×Obj)}{σ:St}{H:Hp}{s:Gg}{D:Addr}{o:HO}(I:Inv X pins σ H s)(hn:H D=none)(hnew:X.s₀.heap.objs.size<=D)(hL:D≠X.env.locals)(hc:∀x c,X.env.cells.lookup x=some c->c≠D)(hp:∀p∈X.pn++pins,p.1≠D)
  (ok:cE X.prog X.w (upd H D o) s.heap D o):Inv X pins σ (upd H D o) s:=by
 have ne:∀b u,H b=some u->b≠D:=λb u q=>cr q hn;refine⟨I.ok,I.os,I.bare,⟨I.base.keep,I.base.slot,λb o q nn hx=>?_,I.base.there,λb xs q=>?_,λb o u q=>?_,λb ps q=>?_⟩,I.loc,I.cell,?_,λx c q=>?_,λp hq=>?_,λb u q=>?_,I.len⟩
 .rw[aj (Gx (GG (Gn q) hnew))];exact I.base.free b o q nn hx
 .have z:=I.base.tups b xs q;rw[aj (ne b _ z)];exact z
 .have z:=I.base.frzs b o u q;rw[aj (ne b _ z)];exact z
 .obtain⟨more,z⟩:=I.base.tbls b ps q;exact⟨more,by rw[aj (ne b _ z)];exact z⟩
 .rw[aj (GX hL)];exact I.free
 .rw[aj (hc x c q)];exact I.freeC x c q
 .obtain⟨a1,a2,a3⟩:=I.pin p hq;exact⟨a1,by rw[aj (hp p hq)];exact a2,a3⟩
 .by_cases hb:b=D
  .subst hb;rw[ac]at q;cases q;exact ok
  .rw[aj hb]at q;exact(I.hok b u q).stay (λc v _ r=>r) (λc r=>by rw[aj (ne c _ r)];exact r) λc xs r=>by rw[aj (ne c _ r)];exact r
def Ite(K:PySem.W.Frag)(a:Addr):It:=
 ⟨λi H=>∃xs x,SqL K H a xs/\xs[i]?=some x,λi H x H'=>∃p,H p=none/\x=.ref p/\∀xs y,SqL K H a xs->xs[i]?=some y->H'=upd H p (.tup [.int (i:Int),y]),λi H=>∃xs,SqL K H a xs/\xs.length<=i⟩
theorem AD{P:GH}{w:GJ}{K:PySem.W.Frag}{elts:List Expr}{k1}{tp:Pos}(a e it:Addr)(hei:e≠it):oE P w K (.Tuple elts k1 tp) (Ite K a) [e,it] e (λi h=>(∃old,IsEnum h e it (i:Nat) old)/\h.IsListIter it a i) where
 mem:=by simp
 obj:=λi h st b hb=>by
  have hb':b=e\/b=it:=by simpa using hb
  rcases hb' with rfl|rfl
  .obtain⟨⟨old,h1⟩,_⟩:=st;exact⟨_,h1,λv z=>by cases z⟩
  .obtain⟨_,o,h1,c,d⟩:=st;exact⟨o,h1,λv z=>by rw[d]at z;cases z⟩
 keep:=λi h h' st k=>⟨let⟨old,h1⟩:=st.1;⟨old,k e (by simp) _ h1⟩,st.2.at λo h1=>k it (by simp) o h1⟩
 item:=by
  intro X hP hw hK hc i pins s σ H E I hf st hg;subst hP hw hK;obtain⟨xs,x,hq,hx⟩:=hg;obtain⟨its,rv,p,hz⟩:=I.list hq;obtain⟨u,hu,ru⟩:=rv.get hx;obtain⟨f0,f1,f2,f3,f4,f5⟩:=hf e (by simp);obtain⟨g0,g1,g2,g3,g4,g5⟩:=hf it (by simp);obtain⟨⟨old,he⟩,hit⟩:=st;refine wpAny_pyNext_enum_item he hit p.isList (x:=u) (by simpa using hu) hei λh' heo hit' hT hz' hk=>?_;have kk:∀b o,b∉[e,it]->s.heap.get? b=some o->h'.get? b=some o:=λb o hb q=>hk b o (λz=>hb (by simp[z])) (λz=>hb (by simp[z])) q;have nit:∀b v,H b=some v->b∉[e,it]:=λb v q z=>by
   have z':b=e\/b=it:=by simpa using z
   rcases z' with rfl|rfl
   .rw[f0]at q;cases q
   .rw[g0]at q;cases q
  have I1:Inv X pins σ H { s with heap:=h',toks:=s.toks+1 }:=by
   refine I.step (g':=s.gens) (d':=s.drawn) (ch:=[e,it]) (λb hb=>?_) (λb o _ _ hb q _=>kk b o hb q) (λb o _ _ hb q _=>⟨o.slots,kk b o hb q⟩) (λ_ _ _ _ n=>n)
    (λb o hb q=>⟨o,kk b o hb q⟩) (λ_ _ q=>q) (λ_ _ _ q=>q) (λb ps q=>⟨#[],by rw[q];simp⟩) (λm hm=>?_) (λb v q=>?_) I.bare
   .have z':b=e\/b=it:=by simpa using hb
    rcases z' with rfl|rfl
    .exact⟨f3,f1,f4,f5⟩
    .exact⟨g3,g1,g4,g5⟩
   .obtain⟨o,es,ep,ho,r⟩:=hm;exact⟨o,es,ep,kk _ o (λz=>by
     have z':X.env.locals=e\/X.env.locals=it:=by simpa using z
     rcases z' with z'|z'
     .exact f1 z'.symm
     .exact g1 z'.symm) ho,r⟩
   .refine(I.hok b v q).stay (λc o hc r=>kk c o ?_ r) (λ_ r=>r) λ_ _ r=>r;rcases hc with rfl|hc
    .exact nit _ _ q
    .exact nit _ _ hc
  have hsz:s.heap.objs.size<h'.objs.size:=by rw[hz'];exact Ik _
  have hTn:H s.heap.objs.size=none:=I.fresh;have elt:e<s.heap.objs.size:=Gn he;have I2:Inv X pins σ (upd H s.heap.objs.size (.tup [.int (i:Int),x])) { s with heap:=h',toks:=s.toks+1 }:=by
   refine I1.track hTn I.sz (HM I.lt) (λy c q=>?_) (λp hp=>?_) ⟨by show 2<=Gv;decide,[.int i s.toks,u],.cons ⟨_,rfl⟩ (.cons ru .nil),⟨_,hT,rfl,_,rfl⟩⟩
   .obtain⟨v,q2⟩:=I.cell y c q;exact Gx q2.lt
   .exact Gx (Gn (I.pin p hp).1)
  refine⟨_,rfl,wpAny_letOwnedTupleGo_enum (s:={ s with heap:=h',toks:=s.toks+1 }) heo λh'' he'' hs''=>?_⟩;have I3:Inv X pins σ (upd H s.heap.objs.size (.tup [.int (i:Int),x])) { s with heap:=h'',toks:=s.toks+1 }:=Inv.turned (s:={ s with heap:=h',toks:=s.toks+1 }) (h':=h'') (t':=s.toks+1) (it:=e) I2 (λb o hb q=>(hs''.2 b hb).trans q) (by rw[aj (Gx elt)];exact f0) f1 f3 f4 f5;refine⟨.ref s.heap.objs.size,_,I3,rfl,⟨_,hTn,rfl,λys y hy hy2=>?_⟩,⟨⟨_,he''⟩,?_⟩,λb hb=>?_⟩
  .rw[I.list_inj hy hq,hx]at hy2;cases hy2;rfl
  .exact hit'.at λo h1=>(hs''.2 it (GX hei)).trans h1
  .have z':b=e\/b=it:=by simpa using hb
   rcases z' with rfl|rfl
   .rw[aj (Gx elt)];exact f0
   .have ilt:b<s.heap.objs.size:=by
     obtain⟨o,h1,_⟩:=hit;exact Gn h1
    rw[aj (Gx ilt)];exact g0
 done:=by
  intro X hP hw hK hc i pins s σ H E I hf st hg;subst hP hw hK;obtain⟨xs,hq,hx⟩:=hg;obtain⟨its,rv,p,hz⟩:=I.list hq;obtain⟨g0,g1,g2,g3,g4,g5⟩:=hf it (by simp);obtain⟨⟨old,he⟩,hit⟩:=st;have hl:=rv.length;exact wpAny_pyNext_enum_end (I.ok.hd hc) he hit p.isList (by simp;omega) λh' eb=>⟨rfl,I.turned (t':=s.toks) (λb o hb e=>eb b o hb e) g0 g1 g3 g4 g5⟩
 self:=λ_ _ _ _ _ st h=>by
  obtain⟨⟨old,he⟩,_⟩:=st;exact wpAny_pyIter_enum he h
section
variable {X:Cx}{elts:List Expr}{k1:Nat}{tp:Pos}
def Fa(K:PySem.W.Frag)(tl:TE):TI:=λσ H R=>tl σ H λx H1=>∃a,x=.ref a/\(∃xs,SqL K H1 a xs)/\R (Ite K a) H1
theorem yI{l:Expr}{k1}{tl:TE}{p pos:Pos}(hg:Gl X "enumerate")(hm:X.mg "enumerate" = none)(hl:PE X l tl)(hs:GI [l] X.env=[(false,eval l X.env)]:=by rfl):PI X (.Tuple elts k1 tp) (.Call (.Name "enumerate" p) [l] [] pos) (Fa X.K tl):=by
 intro pins s σ H R I h;have ha:PA X [l] (vW tl sL):=aa hl ae hs;refine Call_ (lD I hg hm (by decide +kernel:Iq "enumerate" = some (.type "enumerate")) (HH (thn (ha pos pins s σ H (λvs H1=>match vs with|[x]=>∃a,x=.ref a/\(∃xs,SqL X.K H1 a xs)/\R (Ite X.K a) H1|_=>False) I h) λus s1 ⟨vs,H1,I1,r1,q1⟩=>?_) hs rfl))
 match vs,r1,q1 with
 |[x],r1,q1 =>
 obtain⟨a,rfl,⟨xs,hq⟩,q⟩:=q1;obtain⟨u,rfl,ru⟩:=jb r1;cases ru;obtain⟨its,rv,p,hz⟩:=I1.list hq;refine call_enumerate_list p.isList λh' he hit hz' hk=>?_;refine wpAny_pyIter_enum he ?_;refine⟨s1.heap.objs.size+1,[s1.heap.objs.size+1,s1.heap.objs.size],_,_,H1,rfl,I1.kept (t':=s1.toks) hk,AD a _ _ (Nat.succ_ne_self _),⟨⟨_,he⟩,hit⟩,λb hb=>?_,q⟩;have z':b=s1.heap.objs.size+1\/b=s1.heap.objs.size:=by simpa using hb
 have I2:=I1.kept (h':=h') (t':=s1.toks) hk;rcases z' with rfl|rfl
 .exact I1.fpOk (HJ _) (I1.hok.fresh (HJ _))
 .exact I1.fpOk (Gi _) (I1.hok.fresh (Gi _))
end
theorem xi{K:PySem.W.Frag}{a:Addr}{xs:List V}{g:TG}{tb:TS}{D:eX}{σ:St}{H:Hp}(Pv:Nat->St->Hp->Prop)(h0:Pv 0 σ H)(hl:∀i σ H,i<=xs.length->Pv i σ H->SqL K H a xs)
  (hs:∀i x σ H p,xs[i]?=some x->Pv i σ H->H p=none->g (.ref p) σ (upd H p (.tup [.int (i:Int),x])) λσ2 H2=>tb { D with nx:=Pv (i+1),ct:=Pv (i+1),bk:=D.nx } σ2 H2)(hd:∀σ H,Pv xs.length σ H->D.nx σ H) :
  ∃W:Nat->Nat->St->Hp->Prop,(∃m,W 0 m σ H)/\∀i m σ H,W i m σ H->
   ((Ite K a).stop i H/\D.nx σ H)\/((Ite K a).go i H/\∃N:St->Hp->Prop,(∀σ' H',N σ' H'->∃m',m'<m/\W (i+1) m' σ' H')/\∀x H',(Ite K a).yld i H x H'->g x σ H' λσ2 H2=>tb { D with nx:=N,ct:=N,bk:=D.nx } σ2 H2):=by
 refine⟨λi m σ H=>m=xs.length-i/\i<=xs.length/\Pv i σ H,⟨xs.length,by simp,GZ _,h0⟩,?_⟩;rintro i m σ H ⟨rfl,hi,p⟩;have q:=hl i σ H hi p;by_cases hlt:i<xs.length
 .refine .inr ⟨⟨xs,xs[i],q,by simp[hlt]⟩,Pv (i+1),λσ' H' p'=>⟨xs.length-(i+1),by omega,rfl,hlt,p'⟩,λx H' y=>?_⟩;obtain⟨t,ht,e,y⟩:=y;subst e;have e2:=y xs xs[i] q (by simp[hlt]);subst e2;exact hs i xs[i] σ H t (by simp[hlt]) p ht
 .have e:i=xs.length:=by omega
  subst e;exact .inl ⟨⟨xs,q,Gi _⟩,hd σ H p⟩

section
variable {X:Cx}{tg:Expr}
end
theorem sQ{X:Cx}(hu:X.A.units<J7):OpR X (HB .Eq) (λx y H Q=>∃a b xs,x=.ref a/\y=.ref b/\SqL X.K H a xs/\SqL X.K H b []/\Q (.bl xs.isEmpty) H):=by
 intro pins s σ H x y v u Q I rx ry h;obtain⟨a,b,xs,rfl,rfl,ha,hb,q⟩:=h;cases rx;cases ry;obtain⟨its,r,p,z⟩:=I.list ha;obtain⟨its2,r2,p2,z2⟩:=I.list hb;have l1:=r.length;have l2:=r2.length;cases xs with
 |nil =>
  refine SeqAt.eq_listAt (e:=λ_=>true) p.isList p2.isList (by simp at l1 l2⊢;omega) hu (λj h1 h2=>absurd h1 (by simp at l1⊢;omega)) ⟨.bl _,H,I,rfl,?_⟩;have e:its.toArray.size=0:=by rw[Gw];exact l1.symm
  rw[e];exact q
 |cons x r=>exact SeqAt.eq_list_lengthsAt p.isList p2.isList (by simp at l1 l2⊢;omega) hu ⟨.bl false,H,I,rfl,q⟩
def Eg:V->List V->Hp->VK->Prop:=λx vs H Q=>∃l y xs j,x=.ref l/\vs=[y]/\H l=some (.lst xs)/\jd y=true/\xs.all jd=true/\(∃v,xs[j]?=some v/\eqV v y=true)/\(∀(m:Nat) (v:V),m<j->xs[m]?=some v->eqV v y=false)/\Q (.int (j:Nat)) H
theorem BP{X:Cx}:MtM X "list.index" Eg:=by
 intro pins s σ H x vs v us Q I rx rv h;obtain⟨l,y,xs,j,rfl,rfl,hH,fy,fs,⟨vj,hvj,hit⟩,hno,q⟩:=h;cases rx;obtain⟨u,rfl,ru⟩:=rv.one;obtain⟨z,its,n,r,hl,e⟩:=I.lstM hH;have fl:∀(m:Nat) (v:V),xs[m]?=some v->jd v=true:=λm v h=>List.all_eq_true.mp fs v (Gj h);have hj:j<its.toArray.size:=by
  rw[Gw,<-hl];exact(List.getElem?_eq_some_iff.mp hvj).1
 have at':∀(m:Nat) (hm:m<its.toArray.size) (v:V),xs[m]?=some v->eqU y its.toArray[m]=eqV v y:=λm hm v h=>by
  obtain⟨u',hu',ru'⟩:=r.get h;have hm2:m<its.length:=by rw[Gw]at hm;exact hm
  have:its[m]=u':=by
   rw[Ge hm2]at hu';exact GW hu'
  rw[show its.toArray[m]=its[m] by simp,this];exact wU ru' (fl m v h)
 refine IU F.slot_list_index ⟨_,e,rfl⟩ F.entry_list_index (F.args_list_index_2 _ _) (SeqAt.list_indexAt l its.toArray n none #[] u (eqU y) j hj ?_ ?_ ?_) ⟨e,λw hw=>jM ru fy r fs w (by simpa using hw),?_⟩
 .have h1:j<xs.length:=(List.getElem?_eq_some_iff.mp hvj).1;have h2:xs.length<=100000000:=GM z (by decide);omega
 .rw[at' j hj vj hvj];exact hit
 .intro m hm hlt;have h1:m<xs.length:=by rw[hl];rw[Gw]at hm;exact hm
  rw[at' m hm _ (Ge h1)];exact hno m _ hlt (Ge h1)
 .exact⟨.int (j:Nat),H,I.tok _,⟨_,rfl⟩,q⟩
end L2

namespace L2
open PySem PySem.Spec PyProof.Rows

section
variable {X:Cx}
theorem af{H:Hp}{p:Addr}(h:H p=none)(o:HO):am H (upd H p o):=λb u q=>by rw[aj (cr q h)];exact q
theorem am.tup{K:PySem.W.Frag}{H H':Hp}{a:Addr}{xs:List V}(e:am H H')(h:SqT K H a xs):SqT K H' a xs:=by
 rcases h with(h|⟨o,h⟩)|h
 .exact .inl (.inl (e _ _ h))
 .exact .inl (.inr ⟨o,e _ _ h⟩)
 .exact .inr h
def AE(K:PySem.W.Frag):Sp:=λvs H Q _=>∃(a:Addr) (ns:List Int),vs=[.ref a]/\SqL K H a (ns.map V.int)/\ns.length<=63/\∀H',Q (.bl true) H'
theorem aN{n:Nat}(h:n<=1000):n<=Gv:=GE (aw h)
theorem AF{n:Nat}(h:n<=1000000):n<=Gv:=GM h (by decide)
theorem le1:1<=Gv:=by decide
theorem le2:2<=Gv:=by decide
theorem le3:3<=Gv:=by decide
theorem le4:4<=Gv:=by decide
end
end L2

namespace HT
open PySem PyProof.Rows
section
open PySem.SeqAt
open PySem.AutoSeq1 (wpAny_loadPart')
open PySem.MeetsSeq PySem.MeetsSeq2 PySem.MeetsSeq3

end
end HT

namespace L2
open PySem PySem.Spec PyProof.Rows
section
variable {X:Cx}

end
end L2

set_option maxHeartbeats 4000000
namespace L2
open PySem PySem.Spec PyProof.Rows Tl
def aT(n:Nat):List Nat:=(J5 10 n).map Char.toNat
theorem ji(n:Nat):(PySem.Str.ofString (toString ((n:Nat):Int)))=tx (aT n):=by
 have e:=PySem.W.KIN.signs_num n;rw[zk (PySem.Str.ofString _),e];rfl
theorem ue:∀d:Nat,d<10->(Nat.digitChar d).toNat=d+48:=by decide
theorem oJ{n:Nat}(h:n<10):aT n=[n+48]:=by
 unfold aT;rw[Nat.toDigits_of_lt_base h,JK,ue n h]
theorem vf{n:Nat}(h:10<=n):aT n=aT (n/10)++[n%10+48]:=by
 have hm:n%10<10:=J6 n (by decide);have t:J5 10 (n/10)++J5 10 (n%10)=J5 10 (10*(n/10)+n%10):=Nat.toDigits_append_toDigits (by decide) (by omega) hm;rw[Nat.div_add_mod]at t;unfold aT;rw[<-t,Gm,Nat.toDigits_of_lt_base hm,JK,ue _ hm]
theorem jO:∀(k n:Nat),n<10^(k+1)->(aT n).length<=k+1
 |0,n,h=>by
  rw[oJ (by simpa using h)];simp
 |k+1,n,h=>by
  by_cases hn:n<10
  .rw[oJ hn];simp
  .rw[vf (by omega),Ga,Iz];have:=jO k (n/10) (by
    rw[Nat.pow_succ]at h;omega)
   omega
theorem C9:∀(n c:Nat),c∈aT n->48<=c/\c<=57:=by
 intro n;induction n using Nat.strongRecOn with
 |_ n ih =>
  intro c hc;by_cases h:n<10
  .rw[oJ h]at hc;have:c=n+48:=by simpa using hc
   omega
  .rw[vf (by omega)]at hc;rcases List.mem_append.mp hc with hc|hc
   .exact ih (n/10) (by omega) c hc
   .have:c=n%10+48:=by simpa using hc
    omega
theorem AG{n:Nat}(h:n<10^100):n.log2<1920:=by
 by_cases e:n=0
 .subst e;decide
 .refine(Nat.log2_lt e).mpr (HS h ?_);decide +kernel
abbrev pl(x:Int×Int):List V:=[.int x.1,.int x.2]
abbrev fm(w h f m:Int):List V:=[.int w,.int h,.int f,.int m]
inductive Say where
 |text (l:List Nat)
 |page (k:Nat)
 |row (k:Nat)
theorem jP{α:Type}(xs:List α)(x:α):atI (xs++[x]) (-1)=some x:=by
 unfold atI ixN;rw[if_neg (by decide),if_pos (by simp;omega)];have e:(-1+((xs++[x]).length:Int)).toNat=xs.length:=by simp;omega
 show(xs++[x])[(-1+((xs++[x]).length:Int)).toNat]?=some x;rw[e];simp
section
variable {X:Cx}
theorem yJ(ns:List Int):∀k,k<=ns.length->preSum (λi=>(ns[i]?).getD 0) k=(ns.take k).sum
 |0,_=>by simp[preSum]
 |k+1,h=>by
  rw[preSum,yJ ns k (by omega),HF,Ge (by omega),IS];show _+ns[k]=_+(ns[k]+0);rw[Int.add_zero]
theorem BQ(hc:X.calm=true):i_ X (.builtin "sum") (λxs H Q=>∃(l:Addr) (ns:List Int),xs=[.ref l]/\SqL X.K H l (ns.map V.int)/\Q (.int ns.sum) H):=by
 intro pins s σ H xs us Q I r h;obtain⟨l,ns,rfl,hl,q⟩:=h;obtain⟨u,rfl,ru⟩:=jb r;cases ru;obtain⟨its,rv,p,z⟩:=I.list hl;have hlt:l<s.heap.objs.size:=by obtain⟨_,_,e,_⟩:=p;exact Gn e
 have len:=rv.length;rw[F9]at len;refine call_sum_walkG (I0 p.isList ?_);refine⟨s.heap.objs.size,[s.heap.objs.size,l],[s.heap.objs.size],its.toArray.size,_,_,λi=>(ns[i]?).getD 0,rfl,Walks.list (A:=X.A.in1) (I.ok.hd hc) _ l (Gx hlt) its.toArray,
  ⟨⟨_,GN _ rfl,rfl,rfl⟩,p.isList.push _⟩,λb hb=>?_,λi v hP=>?_,λh' tk t' hk=>?_⟩
 .show b<(s.heap.push _).objs.size;rw[I_];rcases List.mem_cons.mp hb with rfl|hb
  .exact Ik _
  .rw[List.mem_singleton.mp hb];exact Nat.lt_succ_of_lt hlt
 .have hi:its[i]?=some v:=by simpa using hP
  have hlt2:i<ns.length:=by
   have:=(List.getElem?_eq_some_iff.mp hi).1;omega
  have eb:(ns.map V.int)[i]?=some (V.int ns[i]):=by rw[GD,Ge hlt2];rfl
  obtain⟨w',hw,t,ht⟩:=rv.get eb;rw[hi]at hw;cases hw;refine⟨t,?_⟩;have e2:(ns[i]?).getD 0=ns[i]:=by rw[Ge hlt2];rfl
  show v=Jf ((ns[i]?).getD 0) t;rw[e2];exact ht
 .have e1:its.toArray.size=ns.length:=by simp;omega
  have e:preSum (λi=>(ns[i]?).getD 0) its.toArray.size=ns.sum:=by
   rw[e1,yJ ns _ (Gi _),Gz]
  rw[e];exact⟨.int _,H,I.kept λb x e=>hk b x (λhm=>by rw[List.mem_singleton.mp hm]at e;exact Hu _ (Gn e)) (Go _ e),⟨_,rfl⟩,q⟩
end
theorem am.put{H H2:Hp}{r:Addr}{o:HO}(s:am H H2)(hr:H r=none):am H (upd H2 r o):=λb u q=>by rw[aj (cr q hr)];exact s b u q
theorem BR{α:Type}(f:α->V)(ns:List α)(lo hi:Option Int):fX (ns.map f) lo hi=(jh ns lo hi).map f:=by
 unfold fX jh;rw[F9,List.map_take,List.map_drop]
structure Wd where
 lead:Int
 kept:Bool
 say:Say
 foot:List Say

section
variable {prog:GH}{w:GJ}{A:Ha}{R:JS->Gg->Prop}{I:Addr}{fp wr:List Addr}{P:Nat->F_->Prop}{St:Nat->Heap->Prop}
end
section
variable {prog:GH}{w:GJ}{A:Ha}{R:JS->Gg->Prop}{I:Addr}{fp wr:List Addr}{P:Nat->F_->Prop}{St:Nat->Heap->Prop}
end
structure Frm where
 w:Int
 h:Int
 f:Int
 m:Int
theorem lL{X:Cx}(hu:X.A.units<J7):OpR X (HB .NotEq) (λx y H Q=>∃a b xs,x=.ref a/\y=.ref b/\SqL X.K H a xs/\SqL X.K H b []/\Q (.bl (!xs.isEmpty)) H):=by
 intro pins s σ H x y v u Q I rx ry h;obtain⟨a,b,xs,rfl,rfl,ha,hb,q⟩:=h;cases rx;cases ry;obtain⟨its,r,p,z⟩:=I.list ha;obtain⟨its2,r2,p2,z2⟩:=I.list hb;have l1:=r.length;have l2:=r2.length;cases xs with
 |nil =>
  refine SeqAt.RcNeAt.lists (e:=λ_=>true) p.isList p2.isList (by simp at l1 l2⊢;omega) hu (λj h1 h2=>absurd h1 (by simp at l1⊢;omega)) _ _ _ _ ⟨.bl _,H,I,rfl,?_⟩;have e:its.toArray.size=0:=by rw[Gw];exact l1.symm
  rw[e];exact q
 |cons x r=>exact SeqAt.RcNeAt.lists_lengths p.isList p2.isList (by simp at l1 l2⊢;omega) hu _ _ _ _ ⟨.bl true,H,I,rfl,q⟩
inductive CL:List Expr->List V->Prop where
 |nil:CL [] []
 |int {i:Int} {j:Nat} {pos:Pos} {es:List Expr} {vs:List V} (h:CL es vs):CL (.Constant (.int i) j pos::es) (.int i::vs)
 |str {x:Str} {j:Nat} {pos:Pos} {es:List Expr} {vs:List V} (h:CL es vs):CL (.Constant (.str x) j pos::es) (.str x::vs)
def tVs(vs:List V):TA:=λ_ H Q=>Q vs H
theorem v_{X:Cx}:∀{es:List Expr} {vs:List V},CL es vs->PA X es (tVs vs)
 |_,_,.nil=>ae
 |_,_,.int h=>aa ah (v_ h)
 |_,_,.str h=>aa aq (v_ h)
def FM(K:PySem.W.Frag):List V->Hp->VK->Prop:=λxs H Q=>∃p ys,xs=[.ref p]/\(SqL K H p ys\/SqT K H p ys)/\Q (.int (ys.length:Nat)) H
def kB:Str:=PySem.Str.ofString "behind"
section
variable (F:Frm)(ds:List Wd)(xs:List (Int×Int))(k:Str)(i:Nat)(j:Int)
end
section
variable {F:Frm}{ds:List Wd}{xs ys:List (Int×Int)}
end
section
variable {prog:GH}{w:GJ}{A:Ha}{R:JS->Gg->Prop}{I:Addr}{fp wr:List Addr}{n:Nat}{P:Nat->F_->Prop}{St:Nat->Heap->Prop}
end
section
variable {F:Frm}{ds:List Wd}{xs:List (Int×Int)}{i:Nat}
end
section
variable {F:Frm}{ds:List Wd}{xs ys:List (Int×Int)}{i:Nat}
end
def Itz(K:PySem.W.Frag)(a b:Addr):It:=
 ⟨λi H=>∃xs ys x y,SqL K H a xs/\SqL K H b ys/\xs[i]?=some x/\ys[i]?=some y,λi H x H'=>∃p,H p=none/\x=.ref p/\∀xs ys u v,SqL K H a xs->SqL K H b ys->xs[i]?=some u->ys[i]?=some v->H'=upd H p (.tup [u,v]),λi H=>∃xs ys,SqL K H a xs/\SqL K H b ys/\(xs.length<=i\/ys.length<=i)⟩
theorem BS{P:GH}{w:GJ}{K:PySem.W.Frag}{elts:List Expr}{k1}{tp:Pos}(a b z TI TO i1 i2:Addr)(D:ZipApart z TI TO i1 i2 a b):oE P w K (.Tuple elts k1 tp) (Itz K a b) [z,TI,TO,i1,i2] z (λi h=>IsZip h z TI TO .none/\IsPair h TI (.ref i1) (.ref i2)/\(∃u v,IsPair h TO u v)/\h.IsListIter i1 a i/\h.IsListIter i2 b i) where
 mem:=by simp
 obj:=λi h st c hb=>by
  have hb':c=z\/c=TI\/c=TO\/c=i1\/c=i2:=by simpa using hb
  obtain⟨s1,s2,⟨u,v,s3⟩,s4,s5⟩:=st;rcases hb' with rfl|rfl|rfl|rfl|rfl
  .exact⟨_,s1,λv z=>by cases z⟩
  .exact⟨_,s2,λv z=>by cases z⟩
  .exact⟨_,s3,λv z=>by cases z⟩
  .obtain⟨o,h1,_,d⟩:=s4;exact⟨o,h1,λv z=>by rw[d]at z;cases z⟩
  .obtain⟨o,h1,_,d⟩:=s5;exact⟨o,h1,λv z=>by rw[d]at z;cases z⟩
 keep:=λi h h' st k=>by
  obtain⟨s1,s2,⟨u,v,s3⟩,s4,s5⟩:=st;exact⟨k z (by simp) _ s1,k TI (by simp) _ s2,⟨u,v,k TO (by simp) _ s3⟩,s4.at λo h1=>k i1 (by simp) o h1,s5.at λo h1=>k i2 (by simp) o h1⟩
 item:=by
  intro X hP hw hK hc i pins s σ H E I hf st hg;subst hP hw hK;obtain⟨xs,ys,x,y,hqx,hqy,hx,hy⟩:=hg;obtain⟨its,rv,p,hz⟩:=I.list hqx;obtain⟨its2,rv2,p2,hz2⟩:=I.list hqy;obtain⟨u,hu,ru⟩:=rv.get hx;obtain⟨v,hv,rv'⟩:=rv2.get hy;obtain⟨st1,st2,⟨o1,o2,st3⟩,st4,st5⟩:=st;have fz:=λc (hm:c∈[z,TI,TO,i1,i2])=>hf c hm;refine wpAny_pyNext_zip_item D st1 st2 st3 st4 st5 p.isList p2.isList (x:=u) (y:=v) (by simpa using hu) (by simpa using hv) λh' hz1 hTO1 hi1 hi2 hpair hsz1 hk=>?_;have kk:∀c o,c∉[z,TI,TO,i1,i2]->s.heap.get? c=some o->h'.get? c=some o:=λc o hb q=>hk c o (λe=>hb (by simp[e])) (λe=>hb (by simp[e])) (λe=>hb (by simp[e])) (λe=>hb (by simp[e])) q;have kTI:=hk TI _ D.TIz D.TITO D.TIi1 D.TIi2 st2;have kk2:∀c o,c∉[z,TO,i1,i2]->s.heap.get? c=some o->h'.get? c=some o:=λc o hb q=>hk c o (λe=>hb (by simp[e])) (λe=>hb (by simp[e])) (λe=>hb (by simp[e])) (λe=>hb (by simp[e])) q;have nit:∀c v,H c=some v->c∉[z,TI,TO,i1,i2]:=λc v q m=>by
   have:=(hf c m).1;rw[this]at q;cases q
  have I1:Inv X pins σ H { s with heap:=h',toks:=s.toks }:=by
   refine I.step (g':=s.gens) (d':=s.drawn) (ch:=[z,TI,TO,i1,i2]) (λc hb=>?_) (λc o _ _ hb q _=>kk c o hb q) (λc o _ _ hb q _=>⟨o.slots,kk c o hb q⟩) (λ_ _ _ _ n=>n)
    (λc o hb q=>⟨o,kk c o hb q⟩) (λ_ _ q=>q) (λ_ _ _ q=>q) (λc ps q=>⟨#[],by rw[q];simp⟩) (λm hm=>?_) (λc v q=>?_) I.bare
   .obtain⟨f0,f1,f2,f3,f4,f5⟩:=hf c hb;exact⟨f3,f1,f4,f5⟩
   .obtain⟨o,es,ep,ho,r⟩:=hm;exact⟨o,es,ep,kk _ o (λm=>(hf _ m).2.1 rfl) ho,r⟩
   .refine(I.hok c v q).stay (λd o hd r=>kk d o ?_ r) (λ_ r=>r) λ_ _ r=>r;rcases hd with rfl|hd
    .exact nit _ _ q
    .exact nit _ _ hd
  have hTn:H s.heap.objs.size=none:=I.fresh;have zlt:z<s.heap.objs.size:=Gn st1;have I2:Inv X pins σ (upd H s.heap.objs.size (.tup [x,y])) { s with heap:=h',toks:=s.toks }:=by
   refine I1.track hTn I.sz (HM I.lt) (λy c q=>?_) (λp hp=>?_) ⟨by show 2<=Gv;decide,[u,v],.cons ru (.cons rv' .nil),⟨_,hpair,rfl,_,rfl⟩⟩
   .obtain⟨v,q2⟩:=I.cell y c q;exact Gx q2.lt
   .exact Gx (Gn (I.pin p hp).1)
  refine⟨_,rfl,wpAny_letOwnedTupleGo_zip (s:={ s with heap:=h',toks:=s.toks }) hz1 λh'' hz2' hs''=>?_⟩;obtain⟨f0,f1,f2,f3,f4,f5⟩:=hf z (by simp);have I3:Inv X pins σ (upd H s.heap.objs.size (.tup [x,y])) { s with heap:=h'',toks:=s.toks }:=Inv.turned (s:={ s with heap:=h',toks:=s.toks }) (h':=h'') (t':=s.toks) (it:=z) I2 (λc o hb q=>(hs''.2 c hb).trans q) (by rw[aj (Gx zlt)];exact f0) f1 f3 f4 f5;refine⟨.ref s.heap.objs.size,_,I3,rfl,⟨_,hTn,rfl,λxs' ys' u' v' hx' hy' ex ey=>?_⟩,⟨hz2',(hs''.2 TI D.TIz).trans kTI,⟨u,v,(hs''.2 TO D.TOz).trans hTO1⟩,hi1.at λo h1=>(hs''.2 i1 D.i1z).trans h1,hi2.at λo h1=>(hs''.2 i2 D.i2z).trans h1⟩,λc hb=>?_⟩
  .rw[I.list_inj hx' hqx,hx]at ex;rw[I.list_inj hy' hqy,hy]at ey;cases ex;cases ey;rfl
  .have clt:c<s.heap.objs.size:=by
    have z':c=z\/c=TI\/c=TO\/c=i1\/c=i2:=by simpa using hb
    rcases z' with rfl|rfl|rfl|rfl|rfl
    .exact zlt
    .exact Gn st2
    .exact Gn st3
    .obtain⟨o,h1,_⟩:=st4;exact Gn h1
    .obtain⟨o,h1,_⟩:=st5;exact Gn h1
   rw[aj (Gx clt)];exact(hf c hb).1
 done:=by
  intro X hP hw hK hc i pins s σ H E I hf st hg;subst hP hw hK;obtain⟨xs,ys,hqx,hqy,hlen⟩:=hg;obtain⟨its,rv,p,hz⟩:=I.list hqx;obtain⟨its2,rv2,p2,hz2⟩:=I.list hqy;obtain⟨st1,st2,⟨o1,o2,st3⟩,st4,st5⟩:=st;have hl:=rv.length;have hl2:=rv2.length;have hend:its.toArray[i]?=none\/its2.toArray[i]?=none:=by
   rcases hlen with h|h
   .exact .inl (Array.getElem?_eq_none (by rw[Gw];omega))
   .exact .inr (Array.getElem?_eq_none (by rw[Gw];omega))
  refine wpAny_pyNext_zip_end (I.ok.hd hc) D st1 st2 st3 st4 st5 p.isList p2.isList hend λh' hk=>⟨rfl,?_⟩;have kk:∀c o,c∉[z,TI,TO,i1,i2]->s.heap.get? c=some o->h'.get? c=some o:=λc o hb q=>hk c o (λe=>hb (by simp[e])) (λe=>hb (by simp[e])) (λe=>hb (by simp[e])) (λe=>hb (by simp[e])) q;have nit:∀c v,H c=some v->c∉[z,TI,TO,i1,i2]:=λc v q m=>by
   have:=(hf c m).1;rw[this]at q;cases q
  refine I.step (t':=s.toks) (g':=s.gens) (d':=s.drawn) (ch:=[z,TI,TO,i1,i2]) (λc hb=>?_) (λc o _ _ hb q _=>kk c o hb q) (λc o _ _ hb q _=>⟨o.slots,kk c o hb q⟩) (λ_ _ _ _ n=>n)
   (λc o hb q=>⟨o,kk c o hb q⟩) (λ_ _ q=>q) (λ_ _ _ q=>q) (λc ps q=>⟨#[],by rw[q];simp⟩) (λm hm=>?_) (λc v q=>?_) I.bare
  .obtain⟨f0,f1,f2,f3,f4,f5⟩:=hf c hb;exact⟨f3,f1,f4,f5⟩
  .obtain⟨o,es,ep,ho,r⟩:=hm;exact⟨o,es,ep,kk _ o (λm=>(hf _ m).2.1 rfl) ho,r⟩
  .refine(I.hok c v q).stay (λd o hd r=>kk d o ?_ r) (λ_ r=>r) λ_ _ r=>r;rcases hd with rfl|hd
   .exact nit _ _ q
   .exact nit _ _ hd
 self:=λ_ _ _ _ _ st h=>wpAny_pyIter_zip st.1 h
section
variable {X:Cx}{elts:List Expr}{k1:Nat}{tp:Pos}
def FN(K:PySem.W.Frag)(tl tm:TE):TI:=λσ H R=>tl σ H λx H1=>tm σ H1 λy H2=>∃a b,x=.ref a/\y=.ref b/\(∃xs,SqL K H2 a xs)/\(∃ys,SqL K H2 b ys)/\R (Itz K a b) H2
theorem Eh{l m:Expr}{k1}{tl tm:TE}{p pos:Pos}(hg:Gl X "zip")(hm:X.mg "zip" = none)(hl:PE X l tl)(hl2:PE X m tm)(hs:GI [l,m] X.env=(false,eval l X.env)::GI [m] X.env:=by rfl)(hs1:GI [m] X.env=(false,eval m X.env)::GI [] X.env:=by rfl):PI X (.Tuple elts k1 tp) (.Call (.Name "zip" p) [l,m] [] pos) (FN X.K tl tm):=by
 intro pins s σ H R I h;have ha:PA X [l,m] (vW tl (vW tm sL)):=aa hl (aa hl2 ae hs1) hs;refine Call_ (lD I hg hm (by decide +kernel:Iq "zip" = some (.type "zip")) (HH (thn (ha pos pins s σ H (λvs H1=>match vs with|[x,y]=>∃a b,x=.ref a/\y=.ref b/\(∃xs,SqL X.K H1 a xs)/\(∃ys,SqL X.K H1 b ys)/\R (Itz X.K a b) H1|_=>False) I h) λus s1 ⟨vs,H1,I1,r1,q1⟩=>?_) hs (by rw[hs1];rfl)))
 match vs,r1,q1 with
 |[x,y],r1,q1 =>
 obtain⟨a,b,rfl,rfl,⟨xs,hqx⟩,⟨ys,hqy⟩,q⟩:=q1;obtain⟨u,v,rfl,ru,rv0⟩:=vV r1;cases ru;cases rv0;obtain⟨its,rv,p,hz⟩:=I1.list hqx;obtain⟨its2,rv2,p2,hz2⟩:=I1.list hqy;have alt:a<s1.heap.objs.size:=by obtain⟨_,_,e,_⟩:=p;exact Gn e
 have blt:b<s1.heap.objs.size:=by obtain⟨_,_,e,_⟩:=p2;exact Gn e
 refine call_zip_2 p.isList p2.isList λh' g1 g2 g3 g4 g5 hz' hk=>?_;refine wpAny_pyIter_zip g1 ?_;have ne:∀{m n:Nat} {N:Nat},m≠n->N+m≠N+n:=λh e=>h (Nat.add_left_cancel e);have nl:∀{c:Addr} (k:Nat),c<s1.heap.objs.size->c≠s1.heap.objs.size+k:=λk h e=>absurd h (by rw[e];exact Nat.not_lt.mpr (Hs _ _));have D:ZipApart (s1.heap.objs.size+4) (s1.heap.objs.size+2) (s1.heap.objs.size+3) s1.heap.objs.size (s1.heap.objs.size+1) a b:=
  ⟨ne (by decide),ne (by decide),ne (m:=0) (by decide),ne (by decide),ne (by decide),ne (n:=0) (by decide),ne (by decide),ne (n:=0) (by decide),ne (by decide),ne (m:=0) (by decide),nl 4 alt,nl 3 alt,nl 0 alt,nl 1 alt,nl 4 blt,nl 3 blt,nl 0 blt,nl 1 blt⟩
 refine⟨s1.heap.objs.size+4,[s1.heap.objs.size+4,s1.heap.objs.size+2,s1.heap.objs.size+3,s1.heap.objs.size,s1.heap.objs.size+1],_,_,H1,rfl,I1.kept (t':=s1.toks) hk,BS a b _ _ _ _ _ D,⟨g1,g2,⟨_,_,g3⟩,g4,g5⟩,λc hb=>?_,q⟩;have z':c=s1.heap.objs.size+4\/c=s1.heap.objs.size+2\/c=s1.heap.objs.size+3\/c=s1.heap.objs.size\/c=s1.heap.objs.size+1:=by simpa using hb
 rcases z' with rfl|rfl|rfl|rfl|rfl
 .exact I1.fpOk (Hs _ _) (I1.hok.fresh (Hs _ _))
 .exact I1.fpOk (Hs _ _) (I1.hok.fresh (Hs _ _))
 .exact I1.fpOk (Hs _ _) (I1.hok.fresh (Hs _ _))
 .exact I1.fpOk (Gi _) (I1.hok.fresh (Gi _))
 .exact I1.fpOk (HJ _) (I1.hok.fresh (HJ _))
end
end L2

set_option maxHeartbeats 4000000
namespace PySem
section
variable {prog:GH}{w:GJ}{A:Ha}{E:F_->Gg->Prop}{s:Gg}
end
section
variable {prog:GH}{w:GJ}{A:Ha}{R:JS->Gg->Prop}
end
namespace F
end F
section
variable {prog:GH}{w:GJ}{A:Ha}{s:Gg}{R:JS->Gg->Prop}
end
section
variable {prog:GH}{w:GJ}{A:Ha}{E:F_->Gg->Prop}{s:Gg}
end
end PySem

set_option maxHeartbeats 4000000
namespace L2
open PySem PySem.Spec PyProof.Rows Tl
structure BT(K:PySem.W.Frag)(x qual:Str)(st:Stmt)(f:Addr)(fd:Gu):Prop where
 ex:∃(oc:F_) (od:Option Addr) (dV kV doc pm:F_) (an:Option Addr) (cdv ct:F_) (osl:Array (Option F_)),fd=PySem.W.fnOf x qual (cy st) (b_ st) (av st) dV kV doc pm an cdv ct/\K.lookup f=some ⟨oc,od,.func fd,osl⟩/\PySem.W.codeIn K cdv qual=true
 kp:PySem.W.keepIn K (.ref f)=true
theorem BT.ok{P:GH}{w:GJ}{K:PySem.W.Frag}{mg:Str->Option F_}{base:Heap}{x qual:Str}{st:Stmt}{f:Addr}{fd:Gu}{N ps:List Str}{k:Nat}{sp:Sp}(F:BT K x qual st f fd)(S:aL N ps (av st))(len:∀vs H Q E,sp vs H Q E->vs.length=ps.length)(hbody:∀(cdv:F_) (A:Ha) (outer:List Env) (s:Gg) (H:Hp) (vs:List V) (Q:VK) (E:XK),cx k (A.deeper (HK qual (av st) s.heap.objs.size f cdv))->sp vs H Q E->
   ∃t,PSs (mS CX0 P w K mg base N qual (av st) f cdv A outer s H E).nox (b_ st) t/\t { nx:=λ_ H'=>Q .non H',rt:=Q } (jc N vs) H):a_ P w K mg base CX0 (k+1) f fd ps sp:=by
 obtain⟨oc,od,dV,kV,doc,pm,an,cdv,ct,osl,rfl,lk,hcd⟩:=F.ex;exact ze lk hcd S len λA outer s H vs Q E hr hsp=>let⟨t,h,q⟩:=hbody cdv A outer s H vs Q E hr hsp;⟨t,h.nox,q⟩
structure xj(K:PySem.W.Frag)(mg:Str->Option F_)(x:Str)(st:Stmt)(ps:List Str)(f:Addr)(fd:Gu)(dv:F_):Prop where
 fn:BT K x x st f fd
 bd:gR K fd ps []
 bd1:gR K fd ps [dv]
 mg:mg x=some (.ref f)
section
variable {X:Cx}{x:Str}{st:Stmt}{ps:List Str}{f:Addr}{fd:Gu}{dv:F_}{k:Nat}{sp:Sp}{e:Expr}{es:List Expr}{t:TA}{p pos:Pos}
theorem AH{dx:V}(D:xj X.K X.mg x st ps f fd dv)(hdx:bi dx dv)(G:a_ X.prog X.w X.K X.mg X.base CX0 k f fd ps sp)(hr:cx k X.A)(hg:Gl X x)(ha:PA X (e::es) t)(hd:(x==("__debug__" : Str))=false:=by decide)
  (he:GI (e::es) X.env=(false,eval e X.env)::GI es X.env:=by rfl)(hpl:(HV pos (GI es X.env)).any (·.1)=false:=by rfl):PE X (.Call (.Name x p) (e::es) [] pos) (zd sp [dx] E0 t):=yA G hr hg D.mg D.fn.kp D.bd1 (.cons hdx .nil) eU ha hd he hpl
theorem AI{K:PySem.W.Frag}{h:Heap}{mg:Str->Option F_}(KX:K.In h)(G:h.Ns GP mg){od an od2:Option Addr}{sl sl2:Array (Option F_)}{oc oc2 kV dc pm cd ct:F_}{T:Addr}{n2:Nat}(a:PySem.W.nsIn K GP x=some (some (.ref f)))
  (l:K.lookup f=some ⟨oc,od,.func (PySem.W.fnOf x x (cy st) (b_ st) (av st) (.ref T) kV dc pm an cd ct),sl⟩)(c:PySem.W.codeIn K cd x=true)(k:PySem.W.keepIn K (.ref f)=true)(lt:K.lookup T=some ⟨oc2,od2,.seq #[dv] n2,sl2⟩)
  (b:∀(kV doc pm:F_) (an:Option Addr) (cdv ct:F_) (us:List F_),us.length=ps.length->∃k,JV (PySem.W.fnOf x x (cy st) (b_ st) (av st) (.ref T) kV doc pm an cdv ct) ⟨us,[]⟩=seqItems? (.ref T) >>= k/\k (some #[dv])=pure (ps.zip us))
  (b1:∀(kV doc pm:F_) (an:Option Addr) (cdv ct:F_) (us:List F_),us.length+1=ps.length->∃k,JV (PySem.W.fnOf x x (cy st) (b_ st) (av st) (.ref T) kV doc pm an cdv ct) ⟨us,[]⟩=seqItems? (.ref T) >>= k/\k (some #[dv])=pure (ps.zip (us++[dv]))) :
  xj K mg x st ps f (PySem.W.fnOf x x (cy st) (b_ st) (av st) (.ref T) kV dc pm an cd ct) dv:=by
 refine⟨⟨⟨oc,od,.ref T,kV,dc,pm,an,cd,ct,sl,rfl,l,c⟩,k⟩,λs us kin hl=>?_,λs us kin hl=>?_,PySem.W.mg_of KX G a⟩
 .rw[GF]at hl⊢;obtain⟨k',e1,e2⟩:=b kV dc pm an cd ct us hl;exact .of_defaults (T:=T) rfl (kin T _ lt) rfl e1 e2
 .rw[Ga,Iz]at hl;obtain⟨k',e1,e2⟩:=b1 kV dc pm an cd ct us hl;exact .of_defaults (T:=T) rfl (kin T _ lt) rfl e1 e2
end
section
variable {F:Frm}{ds:List Wd}{xs ys zs:List (Int×Int)}{i j:Nat}
end
section
variable {F:Frm}{ds:List Wd}{x0 xs zs:List (Int×Int)}{np i:Nat}
end
section
variable {F:Frm}{ds:List Wd}{xs:List (Int×Int)}{i j:Nat}
end
section
variable {room:Int}{brk:Nat->Bool}
end
section
variable {F:Frm}{ds:List Wd}{L room:Int}{brk:Nat->Bool}
end
section
variable {F:Frm}{ds:List Wd}{xs:List (Int×Int)}{i j:Nat}
end
section
variable {F:Frm}{ds es:List Wd}{xs ys:List (Int×Int)}{a r:Nat}
end
section
variable {a:Nat}{ds rs:List Wd}
end
section
variable {F:Frm}{ds:List Wd}{xs:List (Int×Int)}{k:Nat}
end
section
variable {F:Frm}{ds es:List Wd}{xs:List (Int×Int)}{k j:Nat}{h h' f w:Int}
end
section
variable {K:PySem.W.Frag}{H0 H H':Hp}{as:List Addr}{ds:List Wd}
end
section
variable {X:Cx}
end
section
variable {prog:GH}{w:GJ}{A:Ha}{E:F_->Gg->Prop}{s:Gg}
end
section
variable {X:Cx}{pos:Pos}
end
section
variable {X:Cx}{elt iter:Expr}{ifs:List Expr}{scope:Scope}{cl:List (Str×Addr)}{pos px py tp:Pos}{k1:Nat}{x y:Str}{caps:List Str}{js:List Nat}{tc:TT}{te:TE}{wi:TI}
def g2(K:PySem.W.Frag):TG:=Bv K 2 (rR (bD 0) (rR (bD 1) Bu))
theorem xk(hc:X.calm=true)(L:oG X scope cl [x,y] caps js)(hi:PI X (.Tuple [.Name x px,.Name y py] k1 tp) iter wi)
  (ht:∀s H C ex,PTs (X.blk (x::y::caps) s H scope cl C ex) ifs tc)(he:∀s H C ex,PE (X.blk (x::y::caps) s H scope cl C ex) elt te)
  (hN:(x::y::caps).Nodup:=by decide +kernel)(hx:(Ij scope X.env).names.lookup x=some .local:=by with_unfolding_all rfl)(hy:(Ij scope X.env).names.lookup y=some .local:=by with_unfolding_all rfl)
  (hs:∀x,HE iter X.env x=pure x:=by intro _;rfl):PE X (.ListComp elt [⟨.Tuple [.Name x px,.Name y py] k1 tp,iter,ifs,0⟩] scope pos) (uC wi (g2 X.K) tc te 2 js):=
 xc (own:=[x,y]) (g:=g2 X.K) hc L hi (λs H C ex=>fc hc (bf (aS (i:=0) hN rfl (.inl hx) (.inr hx)) (bf (aS (i:=1) hN rfl (.inl hy) (.inr hy)) dW))) ht he hs
end
theorem Ei{K:PySem.W.Frag}{a b:Addr}{xs ys:List V}{cv:St}{tc:TT}{te:TE}{Fin:List V->Hp->Prop}{H1:Hp}(Pv:Nat->List V->Hp->Prop)(el:xs.length=ys.length)(h0:Pv 0 [] H1)(hl:∀i zs H,i<=xs.length->Pv i zs H->SqL K H a xs/\SqL K H b ys)(hz:∀i zs H,i<xs.length->Pv i zs H->zs.length<Gv)
  (hs:∀i x y zs H p,xs[i]?=some x->ys[i]?=some y->Pv i zs H->H p=none->tc (some x::some y::cv) (upd H p (.tup [x,y])) λb H3=>if b=true then te (some x::some y::cv) H3 λv H4=>Pv (i+1) (zs++[v]) H4 else Pv (i+1) zs H3)
  (hd:∀zs H,Pv xs.length zs H->Fin zs H):gLC (Itz K a b) (g2 K) tc te 2 cv Fin H1:=by
 refine⟨λi m zs H=>m=xs.length-i/\i<=xs.length/\Pv i zs H,⟨xs.length,by simp,GZ _,h0⟩,?_⟩;rintro i m zs H ⟨rfl,hi,p⟩;obtain⟨q1,q2⟩:=hl i zs H hi p;by_cases lt:i<xs.length
 .have e1:xs[i]?=some xs[i]:=Ge lt;have e2:ys[i]?=some (ys[i]'(by omega)):=Ge (by omega);refine .inr ⟨⟨xs,ys,_,_,q1,q2,e1,e2⟩,hz i zs H lt p,Pv (i+1),λzs' H' p'=>⟨xs.length-(i+1),by omega,rfl,lt,p'⟩,λv H' yl own ho=>?_⟩;obtain⟨pp,hp,rfl,hh⟩:=yl;have hH:=hh xs ys _ _ q1 q2 e1 e2;subst hH
  match own,ho with
  |[o1,o2],_=>exact⟨pp,_,rfl,SqT.of ac,rfl,_,_,rfl,_,_,rfl,rfl,⟨[some xs[i],some (ys[i]'(by omega))],rfl,rfl⟩,hs i _ _ zs H pp e1 e2 p hp⟩
 .have:i=xs.length:=by omega
  subst this;exact .inl ⟨⟨xs,ys,q1,q2,.inl (Gi _)⟩,hd zs H p⟩
end L2

set_option maxHeartbeats 4000000
namespace L2
open PySem PySem.W PySem.Calls PySem.Spec PyProof.Rows Builtin Builtin.ObjectAttr Builtin.Getset_descriptor
section
variable {prog:GH}{w:GJ}{A:Ha}{E:F_->Gg->Prop}{h:Heap}{g:Array Ku}{d:Drawn}{t:Nat}{os:HA}{K:Frag}{x C:Addr}
end
end L2

namespace L2
open PySem PySem.W PySem.Spec PyProof.Rows
section
variable {X:Cx}{pins:List (Addr×Obj)}{σ:St}{H:Hp}{s:Gg}
end
section
variable {X:Cx}{k:Nat}{f T:Addr}{fd:Gu}{ps:List Str}{sp:Sp}{fx c n:Str}{i:Nat}{st:Stmt}{e:Expr}{es:List Expr}{t:TA}{b₀:Stmt}{suite:List Stmt}{th:TS}{np pf cpos apos hpos pos:Pos}
end
end L2

set_option maxHeartbeats 4000000
namespace L2
open PySem PySem.Spec PyProof.Rows Builtin Builtin.ObjectAttr
section
variable {prog:GH}{w:GJ}{A:Ha}{E:F_->Gg->Prop}{h:Heap}{g:Array Ku}{d:Drawn}{t:Nat}{os:HA}{a:Addr}{o:Obj}
theorem xl:Kt (.type "list") "keys" = pure none:=by rw[typeLookup_type,builtinLookup_eq_fast];kernel_rfl
theorem sR:isSubtype (.type "AttributeError") (.type "AttributeError")=pure true:=by rw[isSubtype_type];kernel_rfl
theorem zn{α:Type}{ov:F_}{name msg:Str}{Q:α->Gg->Prop}(hm:msg.length<=Gv)(hh:A.handled=none)
  (hq:∀h' t' e,(∀b o,h.get? b=some o->h'.get? b=some o)->(∃ob,h'.get? e=some ob/\ob.cls=.type "AttributeError")->E (.ref e) ⟨h',g,d,t',os⟩) :
  GK (GQ prog w) A (raiseAttrError ov name msg:Sem α) Q E ⟨h,g,d,t,os⟩:=by
 unfold raiseAttrError;refine Gq (wpAny_mkStr (Gq ?_) hm);unfold newExc newTuple;refine Gq (HP ?_ (by size_fits));refine Gq (m:=firstArgMember _ _) (wpAny_of_eq (a:=Jg) (by unfold firstArgMember;kernel_rfl) ?_);refine HP ?_ (by size_fits);have hE:=GN (h.push { cls:=.type "tuple",data:=.seq #[HZ msg t] }) (o:={ cls:=.type "AttributeError",data:=.fields (#[He h.objs.size,.none,.none,.none,.bool false,.none]++ownMembersOf (.type "AttributeError") [HZ msg t]) }) rfl;have hT:(⟨(h.push { cls:=.type "tuple",data:=.seq #[HZ msg t] }).push { cls:=.type "AttributeError",data:=.fields (#[He h.objs.size,.none,.none,.none,.bool false,.none]++ownMembersOf (.type "AttributeError") [HZ msg t]) },g,d,t+1,os⟩:Gg).TypeIs (.ref (h.push { cls:=.type "tuple",data:=.seq #[HZ msg t] }).objs.size) "AttributeError":=⟨_,hE,rfl⟩;have f1:=sR;unfold noteAttr lacksNameAndObj layMembers
 repeat (any_goals (first|assumption|wp_step))
 unfold raiseNew;refine Gq (wpAny_handled ?_);rw[hh]
 first
  |refine wpAny_throw ?_
  |refine Gq (GO (wpAny_throw ?_))
 refine hq _ _ _ (λb o hb=>?_) ⟨_,Heap.get?_update_self _ hE rfl,rfl⟩;have lt:=Gn hb;refine(Ja _ _ (λe=>?_)).trans (Go _ (Go _ hb));have sz:(h.push { cls:=.type "tuple",data:=.seq #[HZ msg t] }).objs.size=h.objs.size+1:=I_ ..;have e':(h.push { cls:=.type "tuple",data:=.seq #[HZ msg t] }).objs.size=b:=e;exact absurd lt (by rw[<-e',sz];exact Nat.not_lt.mpr (HJ _))
theorem zo{tk:Tok}{Q:Fin->Gg->Prop}{its:Array F_}{n:Nat}{sl:Array (Option F_)}(hx:h.get? a=some ⟨.type "list",none,.seq its n,sl⟩)(hh:A.handled=none)
  (hq:∀h' t' e,(∀b o,h.get? b=some o->h'.get? b=some o)->(∃ob,h'.get? e=some ob/\ob.cls=.type "AttributeError")->E (.ref e) ⟨h',g,d,t',os⟩) :
  GK (GQ prog w) A (KD.«object.__getattribute__» ⟨[.ref a,.str "keys" tk],[]⟩) Q E ⟨h,g,d,t,os⟩:=by
 have hT:(⟨h,g,d,t,os⟩:Gg).TypeIs (.ref a) "list":=⟨_,hx,rfl⟩;have f4:=xl
 repeat (any_goals (first|assumption|wp_step))
 exact zn (by decide +kernel) hh hq
theorem vB:Kt (.type "list") "__getattr__" = pure none:=by rw[typeLookup_type,builtinLookup_eq_fast];kernel_rfl
theorem AJ{tk:Tok}{R:JS->Gg->Prop}{its:Array F_}{n:Nat}{sl:Array (Option F_)}(hx:h.get? a=some ⟨.type "list",none,.seq its n,sl⟩)(hh:A.handled=none)
  (hq:∀h' t' e,(∀b o,h.get? b=some o->h'.get? b=some o)->(∃ob,h'.get? e=some ob/\ob.cls=.type "AttributeError")->R (.error (.ref e)) ⟨h',g,d,t',os⟩) :
  Jl (GQ prog w) A (.call (.builtin "list.__getattribute__") ⟨[.ref a,.str "keys" tk],[]⟩) R ⟨h,g,d,t,os⟩:=
 codeAny_call_builtin F.slot_list_getattribute.plain F.entry_list_ga (F.slot_list_getattribute.check _ _ _ _ _ _ _ _ (show(⟨h,g,d,t,os⟩:Gg).TypeIs (.ref a) "list" from⟨_,hx,rfl⟩) (F.args_list_getattribute_2 _ _) (zo hx hh hq))
theorem C_{tk:Tok}{Q:F_->Gg->Prop}{its:Array F_}{n:Nat}{sl:Array (Option F_)}(hx:h.get? a=some ⟨.type "list",none,.seq its n,sl⟩)(hh:A.handled=none)
  (hq:∀h' t' e,(∀b o,h.get? b=some o->h'.get? b=some o)->(∃ob,h'.get? e=some ob/\ob.cls=.type "AttributeError")->E (.ref e) ⟨h',g,d,t',os⟩) :
  GK (GQ prog w) A (getAttrBy (.ref a) (.str "keys" tk) false) Q E ⟨h,g,d,t,os⟩:=by
 have hT:(⟨h,g,d,t,os⟩:Gg).TypeIs (.ref a) "list":=⟨_,hx,rfl⟩;have f2:=F.slot_list_getattribute.lookup;have f3:=F.slot_list_getattribute.bind (.ref a)
 repeat (any_goals (first|assumption|wp_step))
 refine AJ hx hh λh' t' e k ex=>?_;obtain⟨ob,he,hec⟩:=id ex;have hT2:(⟨h',g,d,t',os⟩:Gg).TypeIs (.ref e) "AttributeError":=⟨_,he,hec⟩;have f5:=sR;have f6:=vB;show GK (GQ prog w) A (getattributeRaised (He a) (HZ (JZ "keys") tk) (IF "list") (.ref e) none false false) Q E ⟨h',g,d,t',os⟩;unfold getattributeRaised hookBehind
 repeat (any_goals (first|assumption|wp_step))
 exact hq _ _ _ k ex
theorem AK{Q:Option F_->Gg->Prop}{its:Array F_}{n:Nat}{sl:Array (Option F_)}(hx:h.get? a=some ⟨.type "list",none,.seq its n,sl⟩)(hh:A.handled=none)
  (hq:∀h' t',(∀b o,h.get? b=some o->h'.get? b=some o)->Q none ⟨h',g,d,t',os⟩) :
  GK (GQ prog w) A (getAttr? (.ref a) "keys") Q E ⟨h,g,d,t,os⟩:=by
 unfold getAttr? getAttrBy?
 repeat (any_goals (first|assumption|with_reducible apply C_ hx hh|wp_step))
 rintro h' t' e k ⟨ob,he,hec⟩;have hT2:(⟨h',g,d,t',os⟩:Gg).TypeIs (.ref e) "AttributeError":=⟨_,he,hec⟩;have f5:=sR
 repeat (any_goals (first|assumption|wp_step))
 exact hq _ _ k
end
end L2

namespace L2
open PySem PySem.Spec PyProof.Rows
def laid(kvs:List (Key×F_)):List (Key×F_):=kvs.foldl (λm kv=>KZ m kv.1 kv.2) []
theorem qu(kvs:List (Key×F_))(kv:Key×F_):laid (kvs++[kv])=KZ (laid kvs) kv.1 kv.2:=by unfold laid;rw[JR];rfl
theorem zp(m:List (Key×F_))(k:Key)(v:F_):(KZ m k v).length<=m.length+1:=by
 unfold KZ
 split
 .rw[F9];omega
 .rw[Ga];simp
theorem n_:entryFor table "dict.update.loop" = some KD.«dict.update.loop»:=entryFor_of_tree (by kernel_rfl)
theorem iG:plainId "dict.update.loop" = true:=by decide +kernel
section
variable {prog:GH}{w:GJ}{A:Ha}{R:JS->Gg->Prop}{i0 l d:Addr}{its:Array F_}{kvs:List (Key×F_)}
def Prs(prog:GH)(w:GJ)(h:Heap)(its:Array F_)(kvs:List (Key×F_)):Prop:=its.size=kvs.length/\∀(j:Nat) v k x,its[j]?=some v->kvs[j]?=some (k,x)->∃p key,v=.ref p/\IsTup h p #[key,x]/\(bz prog w).is k key=true
theorem BU{h h':Heap}{p a:Addr}{xs:Array F_}(t:IsTup h p xs)(s:IH a h h')(n:p≠a):IsTup h' p xs:=by
 obtain⟨o,ho,r⟩:=t;exact⟨o,(s.2 p n).trans ho,r⟩
theorem Prs.keep{h h':Heap}{a:Addr}(t:Prs prog w h its kvs)(s:IH a h h')(n:∀o,h.get? a=some o->o.cls≠.type "tuple"):Prs prog w h' its kvs:=⟨t.1,λj v k x e1 e2=>by
 obtain⟨p,key,e3,tp,kk⟩:=t.2 j v k x e1 e2;refine⟨p,key,e3,BU tp s λe=>?_,kk⟩;obtain⟨o,ho,hc,_⟩:=tp;exact n o (by rw[<-e];exact ho) hc⟩
theorem vC(ne1:i0≠d)(ne2:l≠d)(ne3:l≠i0)(hh:A.in1.handled=none)(hz:its.size<=100000) :
  ∀(k i:Nat) (s:Gg),its.size-i=k->i<=its.size->s.heap.IsListIter i0 l i->s.heap.IsList l its->s.heap.DictOf (bz prog w) d (laid (kvs.take i))->(laid (kvs.take i)).length<=i->Prs prog w s.heap its kvs->
  (∀h' tk,h'.DictOf (bz prog w) d (laid kvs)->(∀b o,b≠d->b≠i0->s.heap.get? b=some o->h'.get? b=some o)->R (.ok (.ret .none)) { s with heap:=h',toks:=tk })->
  Jl (GQ prog w) A (.builtin "dict.update.loop" ⟨[.ref d,.ref i0,rawInt (i:Int),.none],[]⟩) R s:=by
 intro k;induction k with
 |zero =>
  intro i s hk hi hit hl hd hdl hp hR;have ei:i=its.size:=by omega
  refine codeAny_builtin n_ ?_;rw[Around.under_plainId iG _];show GK _ A.in1 (pyNext (.ref i0) >>= _) _ _ s;refine Gq (wpAny_pyNext_list_end hh hit hl (by simp[ei]) λh' ex=>?_);refine Gq (GO ?_);have e1:kvs.take i=kvs:=Ho (by rw[ei,hp.1];exact Gi _);rw[e1]at hd;exact GO (hR h' _ (hd.extBut ex (GX ne1)) λb o _ hb e=>ex b o hb e)
 |succ k ih =>
  intro i s hk hi hit hl hd hdl hp hR;have hlt:i<its.size:=by omega
  have hkl:i<kvs.length:=by rw[<-hp.1];exact hlt
  refine codeAny_builtin n_ ?_;rw[Around.under_plainId iG _];show GK _ A.in1 (pyNext (.ref i0) >>= _) _ _ s;refine Gq (wpAny_pyNext_list_item hit hl (x:=its[i]) (by simp[hlt]) λh1 it1 sb1=>?_);have hp1:Prs prog w h1 its kvs:=hp.keep sb1 λo ho hc=>by
   obtain⟨o2,ho2,hc2,_⟩:=hit;rw[ho]at ho2;cases ho2;rw[hc]at hc2;exact absurd (Value.type.inj hc2) (by decide)
  obtain⟨p,key,ev,tp,kk⟩:=hp1.2 i its[i] kvs[i].1 kvs[i].2 (by simp[hlt]) (by rw[Ge hkl]);rw[ev];have hd1:=hd.sameBut sb1 (GX ne1);have hT:({ s with heap:=h1 }:Gg).TypeIs (.ref p) "tuple":=by
   obtain⟨o,ho,hc,_⟩:=tp;exact⟨o,ho,hc⟩
  obtain⟨ot,hot,hotc,nt,hotd⟩:=id tp;show GK _ A.in1 (Jz [He p] _ >>= _) _ _ _;refine Gq (IL (Gq (wpAny_tryCatch ?_)));unfold Builtin.Dict.pairItems;refine Gq (KA hT ?_);rw[if_pos (by decide)];refine Gq (wpAny_seqItems hot hotd (GO ?_));show GK _ A.in1 (Jz [key,kvs[i].2] (dictSet d key kvs[i].2)) _ _ _;refine IL (wpAny_dictSet_pairs kk hd1 (λh2 dd sb2=>?_) (GM hdl (GM hi (GM hz (by decide)))));have tk1:kvs.take (i+1)=kvs.take i++[kvs[i]]:=by rw[HF,Ge hkl];rfl
  have dd2:h2.DictOf (bz prog w) d (laid (kvs.take (i+1))):=by rw[tk1,qu];exact dd
  have hp2:Prs prog w h2 its kvs:=hp1.keep sb2 λo ho hc=>by
   have ty:({ s with heap:=h1 }:Gg).TypeIs (.ref d) "dict":=hd1.typeIs;obtain⟨o2,ho2,hc2⟩:=ty;have ho3:h1.get? d=some o2:=ho2;rw[ho]at ho3;cases ho3;rw[hc]at hc2;exact absurd (Value.type.inj hc2) (by decide)
  have it2:h2.IsListIter i0 l (i+1):=by
   obtain⟨o2,ho2,r⟩:=it1;exact⟨o2,(sb2.2 _ ne1).trans ho2,r⟩
  have hl2:h2.IsList l its:=by
   obtain⟨o2,ho2,r⟩:=hl;exact⟨o2,(sb2.2 _ ne2).trans ((sb1.2 _ ne3).trans ho2),r⟩
  have sl:(laid (kvs.take (i+1))).length<=i+1:=by
   rw[tk1,qu];have:=zp (laid (kvs.take i)) kvs[i].1 kvs[i].2;omega
  refine GO ⟨plainId_quiet iG _,ih (i+1) _ (by omega) hlt it2 hl2 dd2 sl hp2 λh' tk dd' kp=>hR h' tk dd' λb o n1 n2 e=>kp b o n1 n2 ?_⟩;exact(sb2.2 _ n1).trans ((sb1.2 _ n2).trans e)
end
def mJ(kvs:List (Key×V)):List (Key×V):=kvs.foldl (λm kv=>jg m kv.1 kv.2) []
theorem uf(kvs:List (Key×V))(kv:Key×V):mJ (kvs++[kv])=jg (mJ kvs) kv.1 kv.2:=by unfold mJ;rw[JR];rfl
def FO(K:PySem.W.Frag)(H:Hp)(ps:List V)(kvs:List (Key×V)):Prop:=ps.length=kvs.length/\∀(j:Nat) p k v,ps[j]?=some p->kvs[j]?=some (k,v)->∃a,p=.ref a/\SqT K H a [kV k,v]
section
variable {X:Cx}
theorem ug(hc:X.calm=true):i_ X (.type "dict") (λxs H Q=>∃l ps kvs,xs=[.ref l]/\SqL X.K H l ps/\ps.length<=100000/\FO X.K H ps kvs/\∀p,H p=none->Q (.ref p) (upd H p (.dK (mJ kvs)))):=by
 intro pins s σ H xs us Q I r h;obtain⟨l,ps,kvs,rfl,hl,hz,hp,q⟩:=h;obtain⟨u,rfl,ru⟩:=jb r;cases ru;obtain⟨its,rv,p,z⟩:=I.list hl;have hh:=I.ok.hd hc;refine callType_codes (Q₁:=λobj s₁=>obj=.ref s.heap.objs.size/\s₁={ s with heap:=s.heap.push { cls:=.type "dict",data:=.dict #[] } }) F.kt_called_dict (F.kt_typeCall_dict_1 _) F.entry_dict_init (kt_code_dict_new _ ⟨rfl,rfl⟩) ?_;rintro obj s₁ ⟨rfl,rfl⟩;have hnew:(s.heap.push { cls:=.type "dict",data:=.dict #[] }).DictOf (bz X.prog X.w) s.heap.objs.size []:=Heap.DictOf.new s.heap;refine⟨hnew.typeIs,F.args_dict_init_2 _ _,?_⟩;unfold KD.«dict.__init__»;refine Gq ?_;unfold Builtin.Dict.selfAndRest;refine Gq (wpAny_notOrdered_dict hnew.typeIs ?_);show GK _ _ (pure (s.heap.objs.size,[He l])) _ _ _;refine GO ?_;show GK _ _ (Builtin.Dict.updateFrom "dict.__init__" s.heap.objs.size (.ref l) [] .none) _ _ _;unfold Builtin.Dict.updateFrom;have pl:=p.isList.push { cls:=.type "dict",data:=.dict #[] };refine Gq (KA pl.typeIs ?_);rw[if_pos (by decide)];obtain⟨o0,n0,ho0,hcl,hdd,hdat⟩:=id p;obtain⟨c0,d0,dt0,sl0⟩:=o0;simp only at hcl hdd hdat;subst hcl hdd hdat;have hlt:l<s.heap.objs.size:=Gn ho0;have hx:=Go { cls:=.type "dict",data:=.dict #[] } ho0;refine Gq (AK hx hh λh1 t1 k1=>?_);refine Gq (wpAny_rule ?_);have pl1:h1.IsList l its.toArray:=⟨_,k1 _ _ hx,rfl,_,rfl⟩;refine Gq (I0 pl1 ?_);refine GO ⟨plainId_quiet iG _,?_⟩;have hdn:h1.DictOf (bz X.prog X.w) s.heap.objs.size []:=by
  obtain⟨o,es,ep,ho,rr⟩:=hnew;exact⟨o,es,ep,k1 _ _ ho,rr⟩
 have hdlt:s.heap.objs.size<h1.objs.size:=by
  obtain⟨o,es,ep,ho,rr⟩:=hdn;exact Gn ho
 have kept:∀b o,s.heap.get? b=some o->h1.get? b=some o:=λb o e=>k1 _ _ (Go _ e);have ilen:its.length=ps.length:=rv.length.symm;have ex:∀n,n<=kvs.length->∃vs:List (Key×F_),vs.length=n/\∀j,(hj:j<n)->∃x:Key×F_,vs[j]?=some x/\x.1=(kvs[j]?.map (·.1)).getD x.1/\(∀v,(kvs[j]?.map (·.2))=some v->bi v x.2)/\∃a key,its[j]?=some (.ref a)/\IsTup s.heap a #[key,x.2]/\(bz X.prog X.w).is x.1 key=true:=by
  intro n;induction n with
  |zero=>exact λ_=>⟨[],rfl,λj hj=>absurd hj (Jw _)⟩
  |succ n ih =>
   intro hn;obtain⟨vs,vl,hv⟩:=ih (by omega);have hk:n<kvs.length:=hn;have hpn:n<ps.length:=by rw[hp.1];exact hk
   obtain⟨a,ea,ha⟩:=hp.2 n ps[n] kvs[n].1 kvs[n].2 (Ge hpn) (Ge hk);obtain⟨u,eu,ru⟩:=rv.get (Ge hpn);rw[ea]at ru;cases ru;obtain⟨it2,r2,p2,_⟩:=I.tuple ha;obtain⟨u1,u2,rfl,r3,r4⟩:=vV r2;refine⟨vs++[(kvs[n].1,u2)],by simp[vl],λj hj=>?_⟩;by_cases c:j<n
   .obtain⟨x,e1,e2⟩:=hv j c;exact⟨x,by rw[IJ (by omega)];exact e1,e2⟩
   .have ej:j=n:=by omega
    subst ej;refine⟨(kvs[j].1,u2),by rw[HX (by omega),vl,Nat.sub_self];rfl,by rw[Ge hk];rfl,λv e=>?_,a,u1,eu,p2,mH r3⟩;rw[Ge hk]at e;cases e;exact r4
 obtain⟨vs,vl,hv⟩:=ex kvs.length (Gi _);have rel:∀n,n<=kvs.length->KV (mJ (kvs.take n)) (laid (vs.take n)):=by
  intro n;induction n with
  |zero=>exact λ_=>.nil
  |succ n ih =>
   intro hn;obtain⟨x,e1,e2,e3,_⟩:=hv n hn;have hk:n<kvs.length:=hn;have t1':kvs.take (n+1)=kvs.take n++[kvs[n]]:=by rw[HF,Ge hk];rfl
   have t2':vs.take (n+1)=vs.take n++[x]:=by rw[HF,e1];rfl
   rw[t1',t2',uf,qu];rw[Ge hk]at e2 e3;have ek:x.1=kvs[n].1:=e2;rw[ek];exact(ih (by omega)).put _ (e3 _ rfl)
 have rel':=rel kvs.length (Gi _);rw[Gz,<-vl,Gz]at rel';have prs:Prs X.prog X.w (h1.push { cls:=.type "list_iterator",data:=.fields #[.ref l,.int 0 0] }) its.toArray vs:=by
  refine⟨by simp[ilen,hp.1,vl],λj v k x e1 e2=>?_⟩;have hj:j<kvs.length:=by rw[<-vl];exact(List.getElem?_eq_some_iff.mp e2).1
  obtain⟨y,f1,f2,f3,a,key,f4,f5,f6⟩:=hv j hj;rw[e2]at f1;cases f1;have e1':its[j]?=some v:=by simpa using e1
  rw[f4]at e1';cases e1';obtain⟨oo,hoo,rr⟩:=f5;exact⟨a,key,rfl,⟨oo,Go _ (kept _ _ hoo),rr⟩,f6⟩
 have lz:∀n,(mJ (kvs.take n)).length<=n:=by
  intro n;induction n with
  |zero=>exact Gi _
  |succ n ih =>
   by_cases hk:n<kvs.length
   .have t1':kvs.take (n+1)=kvs.take n++[kvs[n]]:=by rw[HF,Ge hk];rfl
    rw[t1',uf];have:=mT (mJ (kvs.take n)) kvs[n].1 kvs[n].2;omega
   .rw[Ho (by omega)];rw[Ho (by omega)]at ih;omega
 have lz':=lz kvs.length;rw[Gz]at lz';refine vC (prog:=X.prog) (w:=X.w) (A:=X.A.in1) (i0:=h1.objs.size) (l:=l) (d:=s.heap.objs.size) (its:=its.toArray) (kvs:=vs) (HM hdlt) (Gx hlt) (Gx (HS hlt hdlt)) hh (by simp;omega) its.toArray.size 0 _ (by simp) (GZ _) ?_ ?_ ?_ (Gi _) ?_ ?_
 .exact⟨_,GN _ rfl,rfl,rfl⟩
 .exact pl1.push _
 .rw[JJ];exact hdn.push _
 .exact prs
 .intro h' tk dd kp;refine⟨rfl,.ref s.heap.objs.size,_,I.laid (a:=s.heap.objs.size) (o:=.dK (mJ kvs)) (t':=tk) (λb o e=>?_) (Gi _) (As (GM lz' (by rw[<-hp.1];exact GM hz (by decide))) (beq_eq_false_iff_ne.mpr (GX (Gx I.big))) rel' dd),rfl,q _ (I.hok.fresh (Gi _))⟩;have hb:=Gn e;exact kp b o (Gx hb) (Gx (HS hb hdlt)) (Go _ (kept _ _ e))
end
end L2

set_option maxHeartbeats 4000000
namespace L2
open PySem PySem.Spec PyProof.Rows Tl
theorem CA{X:Cx}{i:Nat}{x:Str}{es:List Expr}{vs:List V}{p1 p2 p4:Pos}(hN:X.N.Nodup)(hi:X.N[i]?=some x)(hx:Loc X.env.scope x)(hc:CL es vs)
  (hf:X.fn x=true\/X.env.scope.names.lookup x=some .local):PS X (.Assign [.Name x p1] (.List es p2) p4) (qg (D3 (tVs vs)) (bD i)):=
 aA (i:=i) hN hi hx (aQ (v_ hc))
section
variable {X:Cx}{fx c:Str}{st:Stmt}{ps:List Str}{f T:Addr}{fd:Gu}{dv:F_}{k i:Nat}{n:Str}{sp:Sp}{e:Expr}{es:List Expr}{t:TA}{th:TS}{pf cpos apos np hpos pos:Pos}{b₀:Stmt}{suite:List Stmt}
end
section
variable {α β:Type}{P P':α->β->Prop}{as as':List α}{bs bs':List β}
end
abbrev Wd0:=List Nat
def Ej:Wd0:=[124]
def Ek:Wd0:=[93]
abbrev Mn:=List Wd0×DD×List Addr
structure Fr where
 t:Addr
 A:Addr
 N:Addr
 n:Wd0
 als:List Addr
 wss:List Mn
 vs:List V
 wn:List Mn
section
variable {H0 H H':Hp}{pl cur c2 A t p:Addr}{fs:List Fr}{f:Fr}{vs:List V}{wn:List Mn}
end
end L2

set_option maxHeartbeats 4000000
namespace PySem
open Sem (wp)
open AutoSeq1 (wpAny_loadPart')
section
variable {prog:GH}{w:GJ}{A:Ha}{E:F_->Gg->Prop}{s:Gg}
end
end PySem
namespace L2
open PySem PySem.Spec PyProof.Rows Tl
section
variable {X:Cx}{elts:List Expr}{k1:Nat}{tp:Pos}
end
mutual
theorem Rep.mono{K:PySem.W.Frag}{H H':Hp}(s:am H H'):∀{d:DD} {v:V},Rep K H d v->Rep K H' d v
 |.bl _,v,h=>by unfold Rep at h⊢;exact h
 |.int _,v,h=>by unfold Rep at h⊢;exact h
 |.str _,v,h=>by unfold Rep at h⊢;exact h
 |.tup l,v,h=>by
  unfold Rep at h⊢;obtain⟨a,xs,h1,h2,h3,h4⟩:=h;exact⟨a,xs,h1,s.tup h2,h3,d9.mono s h4⟩
 |.lst l,v,h=>by
  unfold Rep at h⊢;obtain⟨a,xs,h1,h2,h3,h4⟩:=h;exact⟨a,xs,h1,s.seq h2,h3,d9.mono s h4⟩
theorem d9.mono{K:PySem.W.Frag}{H H':Hp}(s:am H H'):∀{l:List DD} {xs:List V},d9 K H l xs->d9 K H' l xs
 |[],xs,h=>by unfold d9 at h⊢;exact h
 |d::l,xs,h=>by
  unfold d9 at h⊢;obtain⟨x,r,h1,h2,h3⟩:=h;exact⟨x,r,h1,Rep.mono s h2,d9.mono s h3⟩
end
section
variable {K:PySem.W.Frag}{H:Hp}
end
structure Sh where
 n:Wd0
 c:Nat
 ns:List DD
 r:List Int
 k:Int
section
variable {S:List Sh}{d j:Nat}{n:Wd0}{as:List (List DD)}{w:Wd0}{k:Nat}{s:Sh}
end
theorem uE{l j:Nat}(h:j<l):ixN l (j:Int)=some j:=by
 have:=cF (xs:=HQ l) (j:=j) (v:=j) (by rw[List.getElem?_range h]);unfold atI at this;rw[Hh]at this;cases e:ixN l (j:Int)with
 |none=>rw[e]at this;cases this
 |some i =>
  rw[e]at this;have h2:(HQ l)[i]?=some j:=this;have h3:i<l:=by have:=(List.getElem?_eq_some_iff.mp h2).1;rwa[Hh]at this
  rw[List.getElem?_range h3]at h2;rw[GW h2]
structure Gf where
 t:Addr
 D:Addr
 N:Addr
 n:Wd0
 m:Nat
 Dv:List V
 ds:List (List DD)
 vs:List V
 xs:List DD
section
variable {K:PySem.W.Frag}{H0 H H':Hp}{pf t D N:Addr}{gs r:List Gf}{g:Gf}{v:V}{x:DD}{n:Wd0}{m:Nat}
end
end L2

namespace L2
open PySem PySem.Spec PyProof.Rows

structure cW(K:PySem.W.Frag)(C:Addr)(m qual:Str)(st:Stmt)(ps:List Str)(f:Addr)(fd:Gu):Prop where
 fn:Fun K m qual st f fd
 bd:gR K fd ps []
 me:y9 K C m f
structure mK(K:PySem.W.Frag)(mg:Str->Option F_)(c:Str)(C:Addr):Prop where
 mg:mg c=some (.ref C)
 cl:Cls K C
 mks:PySem.W.makesIn K C=true
 kp:PySem.W.keepIn K (.ref C)=true
theorem mK.made{K:PySem.W.Frag}{mg:Str->Option F_}{c qual:Str}{C f:Addr}{st:Stmt}{ps:List Str}{fd:Gu}(L:mK K mg c C)(D:cW K C "__init__" qual st ps f fd):Mk K C f:=⟨L.mks,D.me.at_,D.me.fn,L.kp⟩
theorem BV{K:PySem.W.Frag}{C f:Addr}{x q:Str}{st:Stmt}{ps:List Str}{od an:Option Addr}{sl:Array (Option F_)}{oc kV dc pm cd ct:F_}(a:PySem.W.findIn K (.ref C) x=some (some (.ref f)))(fn:PySem.W.isFn K (.ref f)=true)
  (l:K.lookup f=some ⟨oc,od,.func (PySem.W.fnOf x q (cy st) (b_ st) (av st) .none kV dc pm an cd ct),sl⟩)(c:PySem.W.codeIn K cd q=true)(k:PySem.W.keepIn K (.ref f)=true)
  (b:∀(kV doc pm:F_) (an:Option Addr) (cdv ct:F_) (us:List F_),us.length=ps.length->JV (PySem.W.fnOf x q (cy st) (b_ st) (av st) .none kV doc pm an cdv ct) ⟨us,[]⟩=pure (ps.zip us)) :
  cW K C x q st ps f (PySem.W.fnOf x q (cy st) (b_ st) (av st) .none kV dc pm an cd ct):=
 ⟨ua l c k,(ua l c k).binds b,a,fn,k⟩
section
variable {X:Cx}{CX:CXT}{E:XK}{c m qual:Str}{st:Stmt}{ps:List Str}{C f:Addr}{fd:Gu}{k:Nat}{sp:Sp}{o e:Expr}{es:List Expr}{ta:TE}{t:TA}{p pos apos:Pos}
theorem dy{pl:Sem Bool}(hx:fG CX X E)(L:mK X.K X.mg c C)(D:cW X.K C m qual st ps f fd)(G:a_ X.prog X.w X.K X.mg X.base CX k f fd ps sp)(hr:cx k X.A)(he:PE X o ta)(ha:PA X (e::es) t)
  (hst:GI (e::es) X.env=(false,eval e X.env)::GI es X.env:=by rfl)(hpl:(HV pos (GI es X.env)).any (·.1)=false:=by rfl)
  (ht:eval (.Call (.Attribute o m apos) (e :: es) [] pos) X.env=(do
   let ov<-eval o X.env
   Kv apos.atName
   let(f,first)<-Jz [ov] (JU ov m pl)
   KQ pos f first (HV pos (GI (e::es) X.env)) (Kc pos (Jn [] X.env))):=by rfl) :
  PE X (.Call (.Attribute o m apos) (e::es) [] pos) (vX C m sp [] E ta t):=CW he L.cl D.me G hr D.bd .nil hx ha hst hpl ht
theorem xm{pl:Sem Bool}(hx:fG CX X E)(L:mK X.K X.mg c C)(D:cW X.K C m qual st ps f fd)(G:a_ X.prog X.w X.K X.mg X.base CX k f fd ps sp)(hr:cx k X.A)(he:PE X o ta)
  (ht:eval (.Call (.Attribute o m apos) [] [] pos) X.env=(do
   let ov<-eval o X.env
   Kv apos.atName
   let(f,first)<-Jz [ov] (JU ov m pl)
   KQ pos f first (HV pos (GI [] X.env)) (Kc pos (Jn [] X.env))):=by rfl) :
  PE X (.Call (.Attribute o m apos) [] [] pos) (vX C m sp [] E ta sL):=BB he L.cl D.me G hr D.bd .nil hx ht
theorem El(hx:fG CX X E)(L:mK X.K X.mg c C)(D:cW X.K C "__init__" qual st ps f fd)(G:a_ X.prog X.w X.K X.mg X.base CX k f fd ps sp)(hr:cx (k+1) X.A)(hg:Gl X c)(ha:PA X (e::es) t)(hd:(c==("__debug__" : Str))=false:=by decide)
  (he:GI (e::es) X.env=(false,eval e X.env)::GI es X.env:=by rfl)(hpl:(HV pos (GI es X.env)).any (·.1)=false:=by rfl) :
  PE X (.Call (.Name c p) (e::es) [] pos) (vY C sp [] E t):=CY (L.made D) G hr hg L.mg D.bd .nil hx ha hd he hpl
theorem Da(hx:fG CX X E)(L:mK X.K X.mg c C)(D:cW X.K C "__init__" qual st ps f fd)(G:a_ X.prog X.w X.K X.mg X.base CX k f fd ps sp)(hr:cx (k+1) X.A)(hg:Gl X c)(hd:(c==("__debug__" : Str))=false:=by decide) :
  PE X (.Call (.Name c p) [] [] pos) (vY C sp [] E sL):=BC (L.made D) G hr hg L.mg D.bd .nil hx hd
end

section
variable {X:Cx}{k:Nat}{f T C:Addr}{fd:Gu}{ps:List Str}{sp:Sp}{cn qual c:Str}{st:Stmt}{e:Expr}{es:List Expr}{t:TA}{b₀:Stmt}{suite:List Stmt}{th:TS}{np pf cpos apos hpos pos:Pos}
end
end L2

namespace L2
open PySem PySem.Spec PyProof.Rows PySem.W

theorem Db{P:GH}{w:GJ}{k:Key}{v:F_}(h:(bz P w).is k v=true):bi (kV k) v:=by
 rcases di (show mC k v=true from h)with⟨i,t,rfl,rfl⟩|⟨x,t,rfl,rfl⟩
 .exact⟨t,rfl⟩
 .exact⟨t,rfl⟩
section
variable {X:Cx}
end
section
variable {prog:GH}{w:GJ}{A:Ha}{E:F_->Gg->Prop}{s:Gg}{T:String}{r d:Addr}{n:Nat}{P:Nat->F_->Prop}{OK:Heap->Prop}
end
section
variable {X:Cx}
end

def Hz(X:Cx)(a:Addr):Prop:=∀o u,X.H₀ a≠some (.frz o u)
section
variable {X:Cx}{pins:List (Addr×Obj)}{σ:St}{H:Hp}{s:Gg}{a:Addr}{kvs:List (Key×V)}
theorem Inv.hz(I:Inv X pins σ H s)(e:H a=some (.dK kvs)):Hz X a:=λo u z=>by
 have:=I.base.frzs a o u z;rw[e]at this;cases this
theorem sD{P:GH}{w:GJ}{h:Heap}{u v:HO}(ok:HOk P w H h)(e:H a=some u)(hu:∀b,u≠.own b)(ht:∀xs,u≠.tup xs)(new:cE P w (upd H a v) h a v):HOk P w (upd H a v) h:=λb o q=>by
 by_cases eb:b=a
 .rw[eb,ac]at q;cases q;rw[eb];exact new
 .rw[aj eb]at q;refine(ok b o q).stay (λ_ _ _ z=>z) (λc z=>?_) λc xs z=>?_
  .rw[aj (λy=>hu b (by rw[y,e]at z;exact GW z))];exact z
  .rw[aj (λy=>ht xs (by rw[y,e]at z;exact GW z))];exact z
theorem uh{P:GH}{w:GJ}{h:Heap}{H':Hp}(x:cE P w H h a (.dK kvs)):cE P w H' h a (.dK kvs):=x
theorem Inv.freeze(I:Inv X pins σ H s)(e:H a=some (.dK kvs)):∃o,s.heap.get? a=some o/\Inv X pins σ (upd H a (.frz o (.dK kvs))) s:=by
 have x:cE X.prog X.w H s.heap a (.dK kvs):=I.hok a _ e;obtain⟨_,_,vs,_,o,es,ep,ho,_⟩:=id x;refine⟨o,ho,?_⟩;have:=I.step (h':=s.heap) (H':=upd H a (.frz o (.dK kvs))) (g':=s.gens) (d':=s.drawn) (t':=s.toks) (ch:=[]) (λ_ z=>nomatch z) (λb o _ _ _ z _=>z) (λb o _ _ _ z _=>⟨o.slots,z⟩)
  (λb o' _ _ n=>by rw[aj (λy=>by rw[y,e]at n;cases n)];exact n) (λb o _ z=>⟨o,z⟩) (λb xs z=>by rw[aj (λy=>by rw[y,e]at z;cases z)];exact z)
  (λb o u z=>by rw[aj (λy=>by rw[y,e]at z;cases z)];exact z) (λb ps z=>⟨#[],by rw[aj (λy=>by rw[y,e]at z;cases z),z];simp⟩) (λm hm=>hm)
  (sD I.hok e (λb z=>by cases z) (λxs z=>by cases z) ⟨ho,uh x⟩) I.bare
 exact this
theorem Inv.thaw{o:Obj}(I:Inv X pins σ H s)(hz:Hz X a)(e:H a=some (.frz o (.dK kvs))):Inv X pins σ (upd H a (.dK kvs)) s:=by
 have x:cE X.prog X.w H s.heap a (.frz o (.dK kvs)):=I.hok a _ e;have free:∀b,H b=none->upd H a (.dK kvs) b=none:=λb n=>by rw[aj (λy=>by rw[y,e]at n;cases n)];exact n
 refine⟨I.ok,I.os,I.bare,⟨I.base.keep,I.base.slot,λb o' q n hx=>free b (I.base.free b o' q n hx),I.base.there,λb xs q=>?_,λb o' u q=>?_,λb ps q=>?_⟩,I.loc,I.cell,free _ I.free,λy c q=>free _ (I.freeC y c q),λp hp=>?_,?_,I.len⟩
 .have z:=I.base.tups b xs q;rw[aj (λy=>by rw[y,e]at z;cases z)];exact z
 .have z:=I.base.frzs b o' u q;rw[aj (λy=>hz o' u (by rw[<-y];exact q))];exact z
 .obtain⟨m1,z⟩:=I.base.tbls b ps q;exact⟨m1,by rw[aj (λy=>by rw[y,e]at z;cases z)];exact z⟩
 .obtain⟨z1,z2,z3⟩:=I.pin p hp;exact⟨z1,free _ z2,z3⟩
 .exact sD I.hok e (λb z=>by cases z) (λxs z=>by cases z) (uh x.2)
end
def epO(o:Obj):Nat:=match o.data with
 |.dict _ ep=>ep
 |_=>0
theorem jQ{P:GH}{w:GJ}{H:Hp}{h:Heap}{a:Addr}{o:Obj}{kvs:List (Key×V)}(ok:HOk P w H h)(e:H a=some (.frz o (.dK kvs))):(a==HI)=false/\∃vs,KV kvs vs/\h.DictAt (bz P w) a vs (epO o):=by
 obtain⟨ho,_,hs,vs,rel,o',es,ep,ho',hx,hd,r⟩:=(show cE P w H h a (.frz o (.dK kvs))from ok a _ e);rw[ho]at ho';cases ho';refine⟨hs,vs,rel,o,es,ho,hx,?_,r⟩;unfold epO;rw[hd]
def wc(X:Cx)(P:Hp->Prop):Hp->Prop:=λH=>∃a kvs o,Hz X a/\H a=some (.frz o (.dK kvs))/\P (upd H a (.dK kvs))
def fz(X:Cx)(D:eX):eX:={ nx:=λσ=>wc X (D.nx σ),bk:=λσ=>wc X (D.bk σ),ct:=λσ=>wc X (D.ct σ),rt:=λv=>wc X (D.rt v) }
section
variable {X:Cx}{tg:Expr}
theorem SP.thaw{pins:List (Addr×Obj)}{D:eX}{f:Flow}{s':Gg}(h:SP X pins (fz X D) f s'):SP X pins D f s':=by
 cases f with
 |next=>obtain⟨σ',H',I,a,kvs,o,hz,e,q⟩:=h;exact⟨σ',_,I.thaw hz e,q⟩
 |brk=>obtain⟨σ',H',I,a,kvs,o,hz,e,q⟩:=h;exact⟨σ',_,I.thaw hz e,q⟩
 |cont=>obtain⟨σ',H',I,a,kvs,o,hz,e,q⟩:=h;exact⟨σ',_,I.thaw hz e,q⟩
 |ret u=>obtain⟨v,σ',H',I,r,a,kvs,o,hz,e,q⟩:=h;exact⟨v,σ',_,I.thaw hz e,r,q⟩
end
def BW(K:PySem.W.Frag)(C T:Addr):Prop:=PySem.W.exmOne K (.ref C) (.ref T)=some false
def HT(K:PySem.W.Frag):List (Addr×TS)->Addr->eX->St->Hp->Prop
 |[],_,_,_,_=>False
 |(T,th)::r,C,D,σ,H=>(ud K C T/\th D σ H)\/(BW K C T/\HT K r C D σ H)
section
variable {X:Cx}
section
variable {k:Nat}{f C:Addr}{fd:Gu}{ps:List Str}{sp:Sp}{m qual cn:Str}{st:Stmt}{o e:Expr}{es:List Expr}{ta:TE}{t:TA}{apos pos:Pos}{W:F_->Gg->Prop}{pins:List (Addr×Obj)}{σ:St}{H:Hp}{s:Gg}{Q:VK}{E:XK}
end
end


section
variable {X:Cx}{e:Expr}
def Dc:TT:=λ_ _ _=>False
theorem BX:PT X e Dc:=λ_ _ _ _ _ _ h=>h.elim
end
theorem yK{kvs:List (Key×V)}{vs:List (Key×F_)}(r:KV kvs vs):∀{i:Nat} {p:Key×V},kvs[i]?=some p->∃x,vs[i]?=some (p.1,x)/\bi p.2 x:=by
 unfold KV at r;induction r with
 |nil=>intro i p h;cases h
 |@cons p q ps qs hq t ih =>
  intro i p' h;cases i with
  |zero=>cases h;exact⟨q.2,(by show some q=_;rw[hq.1]),hq.2⟩
  |succ i=>exact ih h
def Itv(a:Addr)(o:Obj)(kvs:List (Key×V)):It:=
 ⟨λi H=>H a=some (.frz o (.dK kvs))/\i<kvs.length,λi H x H'=>H'=H/\∃p,kvs[i]?=some p/\x=p.2,λi H=>H a=some (.frz o (.dK kvs))/\kvs.length<=i⟩
theorem AL{P:GH}{w:GJ}{K:PySem.W.Frag}{tg:Expr}(a it:Addr)(o:Obj)(kvs:List (Key×V))(hne:a≠it):oE P w K tg (Itv a o kvs) [it] it (λi h=>h.IsValIter it a i kvs.length (epO o)) where
 mem:=by simp
 obj:=λi h st b hb=>by
  have e:b=it:=by simpa using hb
  subst e;obtain⟨o,e,c,d⟩:=st;exact⟨o,e,λv z=>by rw[d]at z;cases z⟩
 keep:=λi h h' st k=>st.at λo e=>k it (by simp) o e
 item:=by
  intro X hP hw hK hc i pins s σ H E I hf st hg;subst hP hw hK;obtain⟨he,hi⟩:=hg;obtain⟨hs,vs,rel,da⟩:=jQ I.hok he;obtain⟨x,hx,rx⟩:=yK rel (Ge hi);obtain⟨f0,f1,f2,f3,f4,f5⟩:=hf it (by simp);rw[show kvs.length=vs.length from rel.length]at st;refine wpAny_pyNext_values_item st da hx λh' st' sb=>?_;have I1:Inv X pins σ H { s with heap:=h' }:=I.turned (t':=s.toks) (λb o hb e=>(sb.2 b hb).trans e) f0 f1 f3 f4 f5;rw[<-show kvs.length=vs.length from rel.length]at st';obtain⟨oi,e,c,d⟩:=id st';exact⟨x,rfl,vT (s:={ s with heap:=h' }) e c d (by decide) ⟨kvs[i].2,H,I1,rx,⟨rfl,kvs[i],Ge hi,rfl⟩,st',λb hb=>(hf b hb).1⟩⟩
 done:=by
  intro X hP hw hK hc i pins s σ H E I hf st hg;subst hP hw hK;obtain⟨he,hi⟩:=hg;obtain⟨hs,vs,rel,da⟩:=jQ I.hok he;obtain⟨f0,f1,f2,f3,f4,f5⟩:=hf it (by simp);rw[show kvs.length=vs.length from rel.length]at st;exact wpAny_pyNext_values_end (I.ok.hd hc) st da (Je (by rw[<-rel.length];exact hi)) λh' eb=>⟨rfl,I.turned (t':=s.toks) (λb o hb e=>eb b o hb e) f0 f1 f3 f4 f5⟩
 self:=λ_ _ _ _ _ st h=>wpAny_pyIter_valiter st h
theorem xn:entryFor table "dict_itemiterator.__iter__" = some KD.«dict_keyiterator.__iter__»:=entryFor_alias (id' := "dict_keyiterator.__iter__") (id (Eq.refl (fastTable "dict_itemiterator.__iter__"))) rfl (by
  show Manifest.canonical (String.map _ "dict_itemiterator.__iter__")++"" = _;decide +kernel) (id (Eq.refl (fastTable "dict_keyiterator.__iter__")))
theorem pR{prog:GH}{w:GJ}{A:Ha}{E:F_->Gg->Prop}{s:Gg}{it d:Addr}{i n ep:Nat}{ok ov:F_}{Q:F_->Gg->Prop}(st:IsItemIter s.heap it d i n ep ok ov)(h:Q (.ref it) s):GK (GQ prog w) A (KO (.ref it)) Q E s:=by
 have hT:s.TypeIs (.ref it) "dict_itemiterator":=⟨_,st,rfl⟩;refine wpAny_pyIter_slot hT F.slot_dict_itemiterator_iter (wpAny_call_entry F.slot_dict_itemiterator_iter hT xn ?_ (F.args_dict_itemiterator_iter_1 _));show GK _ _ (pure _) _ _ _;exact GO ⟨.ref it,rfl,"dict_itemiterator",.builtin "dict_itemiterator.__next__",hT,F.slot_dict_itemiterator_next.lookup,h⟩
def Itp(a:Addr)(o:Obj)(kvs:List (Key×V)):It:=
 ⟨λi H=>H a=some (.frz o (.dK kvs))/\i<kvs.length,λi H x H'=>∃p q,H p=none/\x=.ref p/\kvs[i]?=some q/\H'=upd H p (.tup [kV q.1,q.2]),λi H=>H a=some (.frz o (.dK kvs))/\kvs.length<=i⟩
theorem zr{P:GH}{w:GJ}{K:PySem.W.Frag}{elts:List Expr}{k1}{tp:Pos}(a it:Addr)(o:Obj)(kvs:List (Key×V))(hne:a≠it):oE P w K (.Tuple elts k1 tp) (Itp a o kvs) [it] it (λi h=>∃ok ov,IsItemIter h it a i kvs.length (epO o) ok ov) where
 mem:=by simp
 obj:=λi h st b hb=>by
  have e:b=it:=by simpa using hb
  subst e;obtain⟨ok,ov,e⟩:=st;exact⟨_,e,λv z=>by cases z⟩
 keep:=λi h h' st k=>by
  obtain⟨ok,ov,e⟩:=st;exact⟨ok,ov,k it (by simp) _ e⟩
 item:=by
  intro X hP hw hK hc i pins s σ H E I hf st hg;subst hP hw hK;obtain⟨he,hi⟩:=hg;obtain⟨hs,vs,rel,da⟩:=jQ I.hok he;obtain⟨x,hx,rx⟩:=yK rel (Ge hi);obtain⟨f0,f1,f2,f3,f4,f5⟩:=hf it (by simp);obtain⟨ok,ov,st⟩:=st;rw[show kvs.length=vs.length from rel.length]at st;refine wpAny_pyNext_items_item st da hx λkey h' hk st' hpair hsz hkeep=>?_;have I1:Inv X pins σ H { s with heap:=h' }:=I.turned (t':=s.toks) (λb o hb e=>hkeep b o hb e) f0 f1 f3 f4 f5;rw[<-show kvs.length=vs.length from rel.length]at st';have hTn:H s.heap.objs.size=none:=I.fresh;have zlt:it<s.heap.objs.size:=Gn st;have I2:Inv X pins σ (upd H s.heap.objs.size (.tup [kV kvs[i].1,kvs[i].2])) { s with heap:=h',toks:=s.toks }:=by
   refine I1.track hTn I.sz (HM I.lt) (λy c q=>?_) (λp hp=>?_) ⟨by show 2<=Gv;decide,[key,x],.cons (Db hk) (.cons rx .nil),⟨_,hpair,rfl,_,rfl⟩⟩
   .obtain⟨v,q2⟩:=I.cell y c q;exact Gx q2.lt
   .exact Gx (Gn (I.pin p hp).1)
  refine⟨_,rfl,wpAny_letOwnedTupleGo_items (s:={ s with heap:=h',toks:=s.toks }) st' λh'' st'' hs''=>?_⟩;have I3:Inv X pins σ (upd H s.heap.objs.size (.tup [kV kvs[i].1,kvs[i].2])) { s with heap:=h'',toks:=s.toks }:=Inv.turned (s:={ s with heap:=h',toks:=s.toks }) (h':=h'') (t':=s.toks) (it:=it) I2 (λc o hb q=>(hs''.2 c hb).trans q) (by rw[aj (Gx zlt)];exact f0) f1 f3 f4 f5;refine⟨.ref s.heap.objs.size,_,I3,rfl,⟨_,kvs[i],hTn,rfl,Ge hi,rfl⟩,⟨_,_,st''⟩,λb hb=>?_⟩;have e:b=it:=by simpa using hb
  subst e;rw[aj (Gx zlt)];exact f0
 done:=by
  intro X hP hw hK hc i pins s σ H E I hf st hg;subst hP hw hK;obtain⟨he,hi⟩:=hg;obtain⟨hs,vs,rel,da⟩:=jQ I.hok he;obtain⟨f0,f1,f2,f3,f4,f5⟩:=hf it (by simp);obtain⟨ok,ov,st⟩:=st;rw[show kvs.length=vs.length from rel.length]at st;exact wpAny_pyNext_items_end (I.ok.hd hc) st da (Je (by rw[<-rel.length];exact hi)) λh' eb=>⟨rfl,I.turned (t':=s.toks) (λb o hb e=>eb b o hb e) f0 f1 f3 f4 f5⟩
 self:=λ_ _ _ _ _ st h=>by
  obtain⟨ok,ov,st⟩:=st;exact pR st h
def iVw(J:Addr->Obj->List (Key×V)->It)(X:Cx)(tl:TE):TI:=λσ H R=>tl σ H λx H1=>∃a kvs,x=.ref a/\H1 a=some (.dK kvs)/\(Hz X a->∀o,R (J a o kvs) (upd H1 a (.frz o (.dK kvs))))
section
variable {X:Cx}{tg:Expr}
theorem Dd{l:Expr}{tl:TE}{apos cpos:Pos}(hl:PE X l tl)(hbase:IN l "values" X.env (eval l X.env)=eval l X.env:=by rfl)(hline:(apos.endLine==cpos.line)=true:=by rfl):PI X tg (.Call (.Attribute l "values" apos) [] [] cpos) (iVw Itv X tl):=by
 intro pins s σ H R I h;refine wpAny_Call_method0_late hbase hline (thn (hl pins s σ H _ I h) λv s1 ⟨x,H1,I1,r1,q1⟩=>?_);obtain⟨a,kvs,e,ha,q⟩:=q1;subst e;cases r1;have ad:H1 a=some (.dK kvs):=ha;obtain⟨t1,t2,_⟩:=Au I1 (.inl ⟨kvs,.inl ha⟩);refine⟨"dict","dict.values",PySem.F.plainAttrs_dict,PySem.F.slot_dict_values,PySem.F.type_dict_values,t1,t2,Ir rfl (PySem.evalArgs_none ?_)⟩;obtain⟨o,ho,I2⟩:=I1.freeze ha;have hf:=q (I1.hz ha) o;have he:upd H1 a (.frz o (.dK kvs)) a=some (.frz o (.dK kvs)):=ac;generalize upd H1 a (.frz o (.dK kvs))=H2 at I2 hf he;obtain⟨hs,vs,rel,da⟩:=jQ I2.hok he;have dof:s1.heap.DictOf (bz X.prog X.w) a vs:=by obtain⟨o,es,r⟩:=da;exact⟨o,es,_,r⟩
 refine call_meetsIn PySem.F.slot_dict_values dof.typeIs PySem.F.entry_dict_values (PySem.F.args_dict_values_1 _) (meets_dict_values (bz X.prog X.w) a hs) ⟨⟨vs,dof⟩,?_⟩;refine wpAny_pyIter_values (knd:=bz X.prog X.w) (d:=a) (kvs:=vs) (ep:=epO o) ⟨_,GN _ rfl,rfl,rfl⟩ (da.at' λo e=>Go _ e) ?_;have I3:=I2.kept (t':=s1.toks) (h':=s1.heap.push { cls:=IF "dict_values",data:=IY #[He a] }) λb o e=>Go _ e;refine⟨_,[_],_,_,H2,rfl,I3.kept (t':=s1.toks) λb o e=>Go _ e,AL a _ o kvs (λz=>?_),⟨_,GN _ rfl,rfl,?_⟩,λb hb=>?_,hf⟩
 .have:=Gn ho;rw[z,size_push']at this;exact absurd this (Nat.not_lt.mpr (HJ _))
 .rw[rel.length];rfl
 .have e:b=(s1.heap.push { cls:=IF "dict_values",data:=IY #[He a] }).objs.size:=by simpa using hb
  subst e;exact I3.fpOk (Gi _) (I3.hok.fresh (Gi _))
theorem BY{l:Expr}{tl:TE}{apos cpos:Pos}{elts:List Expr}{k1}{tp:Pos}(hl:PE X l tl)(hbase:IN l "items" X.env (eval l X.env)=eval l X.env:=by rfl)(hline:(apos.endLine==cpos.line)=true:=by rfl):PI X (.Tuple elts k1 tp) (.Call (.Attribute l "items" apos) [] [] cpos) (iVw Itp X tl):=by
 intro pins s σ H R I h;refine wpAny_Call_method0_late hbase hline (thn (hl pins s σ H _ I h) λv s1 ⟨x,H1,I1,r1,q1⟩=>?_);obtain⟨a,kvs,e,ha,q⟩:=q1;subst e;cases r1;obtain⟨t1,t2,_⟩:=Au I1 (.inl ⟨kvs,.inl ha⟩);refine⟨"dict","dict.items",PySem.F.plainAttrs_dict,PySem.F.slot_dict_items,PySem.F.type_dict_items,t1,t2,Ir rfl (PySem.evalArgs_none ?_)⟩;obtain⟨o,ho,I2⟩:=I1.freeze ha;have hf:=q (I1.hz ha) o;have he:upd H1 a (.frz o (.dK kvs)) a=some (.frz o (.dK kvs)):=ac;generalize upd H1 a (.frz o (.dK kvs))=H2 at I2 hf he;obtain⟨hs,vs,rel,da⟩:=jQ I2.hok he;have dof:s1.heap.DictOf (bz X.prog X.w) a vs:=by obtain⟨o,es,r⟩:=da;exact⟨o,es,_,r⟩
 refine call_meetsIn PySem.F.slot_dict_items dof.typeIs PySem.F.entry_dict_items (PySem.F.args_dict_items_1 _) (meets_dict_items (bz X.prog X.w) a hs) ⟨⟨vs,dof⟩,?_⟩;refine wpAny_pyIter_items (knd:=bz X.prog X.w) (d:=a) (kvs:=vs) (ep:=epO o) ⟨_,GN _ rfl,rfl,rfl⟩ (da.at' λo e=>Go _ e) ?_;have I3:=I2.kept (t':=s1.toks) (h':=s1.heap.push { cls:=IF "dict_items",data:=IY #[He a] }) λb o e=>Go _ e;refine⟨_,[_],_,_,H2,rfl,I3.kept (t':=s1.toks) λb o e=>Go _ e,zr a _ o kvs (λz=>?_),⟨.none,.none,?_⟩,λb hb=>?_,hf⟩
 .have:=Gn ho;rw[z,size_push']at this;exact absurd this (Nat.not_lt.mpr (HJ _))
 .have:=GN (s1.heap.push { cls:=IF "dict_items",data:=IY #[He a] }) (o:={ cls:=IF "dict_itemiterator",data:=IY #[Jg,Kr false,He a,Jf 0 0,Jf (↑vs.length) 0,Jf (↑(epO o)) 0,Jg,Jg] }) rfl;rw[rel.length];exact this
 .have e:b=(s1.heap.push { cls:=IF "dict_items",data:=IY #[He a] }).objs.size:=by simpa using hb
  subst e;exact I3.fpOk (Gi _) (I3.hok.fresh (Gi _))
def Fb(J:Addr->Obj->List (Key×V)->It)(X:Cx)(tl:TE)(g:TG)(tb:TS):TS:=λD σ H=>DY (iVw J X tl) g tb (fz X D) σ H
theorem yL{iter:Expr}{J:Addr->Obj->List (Key×V)->It}{body:List Stmt}{tl:TE}{g:TG}{tb:TS}{pos:Pos}(hp:PassesOwn (GQ X.prog X.w) X.A X.env X.xe)(hc:X.calm=true)(hi:PI X tg iter (iVw J X tl))(hg:PG X tg g)(hb:PSs X body tb)
  (hs:∀x,HE iter X.env x=pure x:=by intro _;rfl):PS X (.For tg iter body [] pos) (Fb J X tl g tb):=by
 intro pins s σ H D I h;exact Hl (cA hp hc hi hg hb hs pins s σ H (fz X D) I h) (λ_ _ z=>z.thaw) λ_ _ z=>z
end
theorem BZ{X:Cx}{a:Addr}{o:Obj}{kvs:List (Key×V)}{g:TG}{tb:TS}{D:eX}{σ:St}{H:Hp}(hz:Hz X a)(Pv:Nat->St->Hp->Prop)(fr:∀i σ H,Pv i σ H->H a=some (.frz o (.dK kvs)))(h0:Pv 0 σ H)
  (hs:∀i p σ H,kvs[i]?=some p->Pv i σ H->g p.2 σ H λσ2 H2=>tb { fz X D with nx:=Pv (i+1),ct:=Pv (i+1),bk:=(fz X D).nx } σ2 H2)(hd:∀σ H,Pv kvs.length σ H->D.nx σ (upd H a (.dK kvs))) :
  ∃W:Nat->Nat->St->Hp->Prop,(∃m,W 0 m σ H)/\∀i m σ H,W i m σ H->
   ((Itv a o kvs).stop i H/\(fz X D).nx σ H)\/((Itv a o kvs).go i H/\∃N:St->Hp->Prop,(∀σ' H',N σ' H'->∃m',m'<m/\W (i+1) m' σ' H')/\∀x H',(Itv a o kvs).yld i H x H'->g x σ H' λσ2 H2=>tb { fz X D with nx:=N,ct:=N,bk:=(fz X D).nx } σ2 H2):=by
 refine⟨λi m σ H'=>m=kvs.length-i/\i<=kvs.length/\Pv i σ H',⟨kvs.length,by simp,GZ _,h0⟩,?_⟩;rintro i m σ H' ⟨rfl,hi,p⟩;by_cases hlt:i<kvs.length
 .refine .inr ⟨⟨fr i σ H' p,hlt⟩,Pv (i+1),λσ' H' p'=>⟨kvs.length-(i+1),by omega,rfl,hlt,p'⟩,λx H'' y=>?_⟩;obtain⟨rfl,p',hp',rfl⟩:=y;exact hs i p' σ _ hp' p
 .have e:i=kvs.length:=by omega
  subst e;exact .inl ⟨⟨fr _ σ H' p,Gi _⟩,a,kvs,o,hz,fr _ σ H' p,hd σ H' p⟩
theorem AM{X:Cx}{a:Addr}{o:Obj}{kvs:List (Key×V)}{g:TG}{tb:TS}{D:eX}{σ:St}{H:Hp}(hz:Hz X a)(Pv:Nat->St->Hp->Prop)(fr:∀i σ H,Pv i σ H->H a=some (.frz o (.dK kvs)))(h0:Pv 0 σ H)
  (hs:∀i q p σ H,kvs[i]?=some q->Pv i σ H->H p=none->g (.ref p) σ (upd H p (.tup [kV q.1,q.2])) λσ2 H2=>tb { fz X D with nx:=Pv (i+1),ct:=Pv (i+1),bk:=(fz X D).nx } σ2 H2)(hd:∀σ H,Pv kvs.length σ H->D.nx σ (upd H a (.dK kvs))) :
  ∃W:Nat->Nat->St->Hp->Prop,(∃m,W 0 m σ H)/\∀i m σ H,W i m σ H->
   ((Itp a o kvs).stop i H/\(fz X D).nx σ H)\/((Itp a o kvs).go i H/\∃N:St->Hp->Prop,(∀σ' H',N σ' H'->∃m',m'<m/\W (i+1) m' σ' H')/\∀x H',(Itp a o kvs).yld i H x H'->g x σ H' λσ2 H2=>tb { fz X D with nx:=N,ct:=N,bk:=(fz X D).nx } σ2 H2):=by
 refine⟨λi m σ H'=>m=kvs.length-i/\i<=kvs.length/\Pv i σ H',⟨kvs.length,by simp,GZ _,h0⟩,?_⟩;rintro i m σ H' ⟨rfl,hi,p⟩;by_cases hlt:i<kvs.length
 .refine .inr ⟨⟨fr i σ H' p,hlt⟩,Pv (i+1),λσ' H' p'=>⟨kvs.length-(i+1),by omega,rfl,hlt,p'⟩,λx H'' y=>?_⟩;obtain⟨p1,q,hp1,rfl,hq,rfl⟩:=y;exact hs i q p1 σ _ hq p hp1
 .have e:i=kvs.length:=by omega
  subst e;exact .inl ⟨⟨fr _ σ H' p,Gi _⟩,a,kvs,o,hz,fr _ σ H' p,hd σ H' p⟩
section
variable {X:Cx}{o:Expr}
end
section
variable {X:Cx}{a b c o:Expr}{rest:List Expr}{ta tb to:TE}{tA tB':TT}{pos:Pos}
def PT1(X:Cx)(e:Expr)(t:TT):Prop:=
 ∀(pins:List (Addr×Obj)) (s:Gg) (σ:St) (H:Hp) (Q:Bool->Hp->Prop),Inv X pins σ H s->t σ H Q->GK (GQ X.prog X.w) X.A (isTrue e X.env (eval e X.env)) (λd s'=>1<=s'.toks/\TP X pins σ Q d s') X.xe s
def PE1(X:Cx)(e:Expr)(t:TE):Prop:=
 ∀(pins:List (Addr×Obj)) (s:Gg) (σ:St) (H:Hp) (Q:VK),1<=s.toks->Inv X pins σ H s->t σ H Q->GK (GQ X.prog X.w) X.A (eval e X.env) (EP X pins σ Q) X.xe s
def Em(X:Cx)(st:List Stmt)(t:TS):Prop:=
 ∀(pins:List (Addr×Obj)) (s:Gg) (σ:St) (H:Hp) (D:eX),1<=s.toks->Inv X pins σ H s->t D σ H->GK (GQ X.prog X.w) X.A (execs st X.env) (SP X pins D) X.xe s
theorem zt{α:Type}{M:Model}{A:Ha}{s:Gg}{t:Sem α}{Q:α->Gg->Prop}{E:F_->Gg->Prop}(h:1<=s.toks)(w:GK M A t Q E s):GK M A t (λa s'=>1<=s'.toks/\Q a s') E s:=
 wpAny_with_toks h (Hl w (λ_ _ q z=>⟨z,q⟩) λ_ _ q _=>q)
theorem Dg{op:CmpOp}{r:R2}{i:Int}{j:Nat}{p2:Pos}(ho:OpR X (HB op) r)(ha:PE X a ta)(hm:Jk op (.Constant (.int i) j p2)=false):PT1 X (.Compare a [op] [.Constant (.int i) j p2] pos) (Cw (tOp r ta (tC (.int i)))):=by
 intro pins s σ H Q I h;refine wpAny_isTrue_Compare1 (thn (ha pins s σ H _ I h) λv s1 ⟨x,H1,I1,r1,q1⟩=>wpAny_Constant_int ?_) hm;refine thn (zt (Nat.succ_le_succ (GZ _)) (ho pins _ σ H1 x (.int i) v _ _ (I1.tok _) r1 ⟨_,rfl⟩ q1)) λc s3 ⟨tk,z,H3,I3,r3,k,e,q3⟩=>?_;subst e;cases r3;exact HN ⟨tk,H3,I3,q3⟩
theorem Dh(ha:PT1 X a tA)(hb:PW X (.BoolOp .And (b::rest) pos) tB'):PT1 X (.BoolOp .And (a::b::rest) pos) (DU tA tB'):=by
 intro pins s σ H Q I h;refine KN (thn (ha pins s σ H _ I h) λc s1 ⟨tk,H1,I1,q1⟩=>?_);cases c with
 |true=>exact zt tk (hb _ pins s1 σ H1 Q I1 q1)
 |false=>exact⟨tk,H1,I1,q1⟩
theorem En{a b:List Stmt}{tc:TT}{t u:TS}(hc:PT1 X c tc)(ha:Em X a t)(hb:PSs X b u):PS X (.If c a b pos) (DW tc t u):=by
 intro pins s σ H D I h;refine wpAny_If (thn (hc pins s σ H _ I h) λd s1 ⟨tk,H1,I1,q1⟩=>?_);cases d with
 |true=>exact ha pins s1 σ H1 D tk I1 q1
 |false=>exact hb pins s1 σ H1 D I1 q1
theorem B1{i:Nat}{x:Str}{e:Expr}{te:TE}{pos':Pos}(hN:X.N.Nodup)(hi:X.N[i]?=some x)(hx:Loc X.env.scope x)(he:PE1 X e te)(hs:IW e (some (.Name x pos')) pos.line X.env=pure false:=by rfl)(hf:X.fn x=true\/X.env.scope.names.lookup x=some .local:=by first|exact .inl rfl|exact .inr rfl|assumption) :
  Em X [.Assign [.Name x pos'] e pos] (qg te (bD i)):=by
 intro pins s σ H D tk I h;refine Jh (JN (thn (he pins s σ H _ tk I h) λv s1 ⟨y,H1,I1,r1,q1⟩=>?_) hs);exact oC I1 hN hi hx r1 (λs2 I2=>Iv ⟨_,H1,I2,q1⟩) hf
def Fc(y z:Str)(to:TE):TE:=λσ H Q=>to σ H λx H1=>∃u:Str,x=.str u/\u.length<=1048576/\Q (.str (Txt.replace u y z)) H1
theorem yj{y z:Str}{j1 j2:Nat}{p1 p2 apos cpos:Pos}(ho:PE X o to)(hyz:(y==z)=false)(hz:z.length<=14)
  (hbase:IN o "replace" X.env (eval o X.env)=eval o X.env:=by rfl)
  (hfew:((HV cpos (GI [.Constant (.str y) j1 p1,.Constant (.str z) j2 p2] X.env)).all (fun x=>!x.1) && (Kc cpos (Jn [] X.env)).all (fun x=>x.1.isSome)
   && decide (([.Constant (.str y) j1 p1,.Constant (.str z) j2 p2]:List Expr).length+([]:List KJ).length+(if([]:List KJ).isEmpty then 0 else 1)<30))=true:=by rfl)
  (hline:(apos.endLine==cpos.line)=true:=by rfl) (ht:HV cpos (GI [.Constant (.str y) j1 p1,.Constant (.str z) j2 p2] X.env)=[(false,eval (.Constant (.str y) j1 p1) X.env),(false,eval (.Constant (.str z) j2 p2) X.env)]:=by rfl) :
  PE1 X (.Call (.Attribute o "replace" apos) [.Constant (.str y) j1 p1,.Constant (.str z) j2 p2] [] cpos) (Fc y z to):=by
 intro pins s σ H Q tk I h;refine wpAny_Call_method_late hbase hfew hline ht (thn (zt tk (ho pins s σ H _ I h)) λv s1 ⟨tk1,x,H1,I1,r1,u,e,hu,q⟩=>?_);subst e;obtain⟨t,rfl⟩:=(show ∃t,v=HZ u t from r1);refine⟨"str","str.replace",PySem.F.plainAttrs_str,PySem.F.slot_str_replace,PySem.F.type_str_replace,rfl,(λb z=>by cases z),Ir rfl (Jo (JG (IT (JG (IT (Calls.spliced_nil ?_))))))⟩;refine SC.replaceW (HM tk1) (HM (Nat.succ_pos _)) (Gx (Ik _)) hyz hu hz λt' k=>⟨.str _,H1,I1.tok _,⟨_,rfl⟩,q⟩
end
end L2

set_option maxHeartbeats 4000000

namespace Tl
open PySem PySem.Spec L2
inductive Kw where
 |plain|mark|number|page|row|foot|entry
 deriving DecidableEq
def Kw.s:Kw->Str
 |.plain=>"plain" | .mark=>"mark" | .number=>"number" | .page=>"page" | .row=>"row" | .foot=>"foot" | .entry=>"entry"
theorem Kw.inj:∀{a b:Kw},a.s=b.s->a=b:=by
 intro a b h;cases a<;>cases b<;>first|rfl|exact absurd h (by decide +kernel)
theorem Kw.beq(a b:Kw):(a.s==b.s)=decide (a=b):=by
 cases a<;>cases b<;>decide +kernel
abbrev Wk:=Kw×V
inductive Tg where
 |page|odd|lst|head (n:Nat) (ws:List Wk)|par (ws:List Wk)
def WkA(F:Hp)(v:V)(w:Wk):Prop:=∃a,v=.ref a/\F a=some (.tup [.str w.1.s,w.2])
def aW{α:Type}(P:V->α->Prop):List V->List α->Prop
 |[],[]=>True
 |v::r,w::s=>P v w/\aW P r s
 |_,_=>False
section
variable {α:Type}{P Q:V->α->Prop}
theorem aW.len:∀{vs:List V} {ws:List α},aW P vs ws->vs.length=ws.length
 |[],[],_=>rfl
 |_::_,_::_,h=>congrArg (·+1) (aW.len h.2)
theorem aW.imp(m:∀v w,P v w->Q v w):∀{vs:List V} {ws:List α},aW P vs ws->aW Q vs ws
 |[],[],_=>trivial
 |_::_,_::_,h=>⟨m _ _ h.1,h.2.imp m⟩
theorem aW.app:∀{vs vs':List V} {ws ws':List α},aW P vs ws->aW P vs' ws'->aW P (vs++vs') (ws++ws')
 |[],_,[],_,_,h=>h
 |_::_,_,_::_,_,h,h'=>⟨h.1,h.2.app h'⟩
theorem aW.one{v:V}{w:α}(h:P v w):aW P [v] [w]:=⟨h,trivial⟩
theorem aW.snoc{v:V}{w:α}{vs:List V}{ws:List α}(h:aW P vs ws)(h':P v w):aW P (vs++[v]) (ws++[w]):=h.app (.one h')
theorem aW.getL:∀{vs:List V} {ws:List α} {i:Nat} {v:V},aW P vs ws->vs[i]?=some v->∃w,ws[i]?=some w/\P v w
 |v::_,w::_,0,x,h,e=>by cases e;exact⟨w,rfl,h.1⟩
 |_::_,_::_,i+1,x,h,e=>aW.getL (i:=i) h.2 (by simpa using e)
 |[],[],_,_,_,e=>by simp at e
theorem aW.getR:∀{vs:List V} {ws:List α} {i:Nat} {w:α},aW P vs ws->ws[i]?=some w->∃v,vs[i]?=some v/\P v w
 |v::_,w::_,0,x,h,e=>by cases e;exact⟨v,rfl,h.1⟩
 |_::_,_::_,i+1,x,h,e=>aW.getR (i:=i) h.2 (by simpa using e)
 |[],[],_,_,_,e=>by simp at e
end
abbrev cb(F:Hp):List V->List Wk->Prop:=aW (WkA F)
theorem WkA.mono{F F':Hp}(s:am F F'){v:V}{w:Wk}(h:WkA F v w):WkA F' v w:=by
 obtain⟨a,e,h⟩:=h;exact⟨a,e,s _ _ h⟩
theorem cb.mono{F F':Hp}(s:am F F'){vs:List V}{ws:List Wk}(h:cb F vs ws):cb F' vs ws:=h.imp λ_ _=>WkA.mono s
def cQ(F:Hp)(l:Addr)(ws:List Wk):Prop:=∃vs,F l=some (.lst vs)/\cb F vs ws
theorem cQ.mono{F F':Hp}(s:am F F'){l:Addr}{ws:List Wk}(h:cQ F l ws):cQ F' l ws:=by
 obtain⟨vs,e,h⟩:=h;exact⟨vs,s _ _ e,cb.mono s h⟩
def TgA(F:Hp)(v:V):Tg->Prop
 |.page=>∃a,v=.ref a/\F a=some (.tup [.str "page"])
 |.odd=>∃a,v=.ref a/\F a=some (.tup [.str "odd"])
 |.lst=>∃a,v=.ref a/\F a=some (.tup [.str "list"])
 |.head n ws=>∃a l,v=.ref a/\F a=some (.tup [.str "head",.int n,.ref l])/\cQ F l ws
 |.par ws=>∃a l,v=.ref a/\F a=some (.tup [.str "paragraph",.ref l])/\cQ F l ws
theorem TgA.mono{F F':Hp}(s:am F F'){v:V}{t:Tg}(h:TgA F v t):TgA F' v t:=by
 cases t with
 |page=>obtain⟨a,e,h⟩:=h;exact⟨a,e,s _ _ h⟩
 |odd=>obtain⟨a,e,h⟩:=h;exact⟨a,e,s _ _ h⟩
 |lst=>obtain⟨a,e,h⟩:=h;exact⟨a,e,s _ _ h⟩
 |head n ws=>obtain⟨a,l,e,h,h2⟩:=h;exact⟨a,l,e,s _ _ h,h2.mono s⟩
 |par ws=>obtain⟨a,l,e,h,h2⟩:=h;exact⟨a,l,e,s _ _ h,h2.mono s⟩
abbrev fJ(F:Hp):List V->List Tg->Prop:=aW (TgA F)
theorem fJ.mono{F F':Hp}(s:am F F'){vs:List V}{ws:List Tg}(h:fJ F vs ws):fJ F' vs ws:=h.imp λ_ _=>TgA.mono s
def FtE(F:Hp)(p:Key×V)(q:Str×List Wk):Prop:=p.1=.inr q.1/\∃l,p.2=.ref l/\cQ F l q.2
def FtA(F:Hp):List (Key×V)->List (Str×List Wk)->Prop
 |[],[]=>True
 |v::r,w::s=>FtE F v w/\FtA F r s
 |_,_=>False
theorem FtA.mono{F F':Hp}(s:am F F'):∀{vs:List (Key×V)} {ws:List (Str×List Wk)},FtA F vs ws->FtA F' vs ws
 |[],[],_=>trivial
 |_::_,_::_,⟨⟨h1,l,h2,h3⟩,h⟩=>⟨⟨h1,l,h2,h3.mono s⟩,h.mono s⟩
theorem FtA.len{F:Hp}:∀{vs:List (Key×V)} {ws:List (Str×List Wk)},FtA F vs ws->vs.length=ws.length
 |[],[],_=>rfl
 |_::_,_::_,h=>congrArg (·+1) (FtA.len h.2)
theorem FtA.app{F:Hp}{p:Key×V}{q:Str×List Wk}(e:FtE F p q):∀{vs:List (Key×V)} {ws:List (Str×List Wk)},FtA F vs ws->FtA F (vs++[p]) (ws++[q])
 |[],[],_=>⟨e,trivial⟩
 |_::_,_::_,h=>⟨h.1,h.2.app e⟩
def lkS{β:Type}(n:Str):List (Str×β)->Option β
 |[]=>none
 |p::r=>if p.1=n then some p.2 else lkS n r
theorem FtA.val{F:Hp}{n:Str}:∀{vs:List (Key×V)} {ws:List (Str×List Wk)},FtA F vs ws->(lkS n ws=none->cX vs (.inr n)=none)/\∀f,lkS n ws=some f->∃l,cX vs (.inr n)=some (.ref l)/\cQ F l f
 |[],[],_=>⟨λ_=>rfl,λf h=>by cases h⟩
 |(k,v)::r,(m,g)::s,⟨⟨h1,l,h2,h3⟩,h⟩=>by
  have ih:=FtA.val (n:=n) h;obtain rfl:k=.inr m:=h1;obtain rfl:v=.ref l:=h2;by_cases c:m=n
  .subst c;have e:cX ((IQ m,V.ref l)::r) (.inr m)=some (.ref l):=by unfold cX;simp
   refine⟨λz=>?_,λf z=>?_⟩
   .unfold lkS at z;simp at z
   .unfold lkS at z;simp at z;subst z;exact⟨l,e,h3⟩
  .have e:cX ((IQ m,V.ref l)::r) (.inr n)=cX r (.inr n):=by
    unfold cX;have:¬ ((IQ m:Key)=.inr n):=λz=>c (by cases z;rfl);simp[this]
   have e2:lkS n ((m,g)::s)=lkS n s:=by unfold lkS;rw[if_neg c];cases s<;>rfl
   rw[e,e2];exact ih
def hid(os:List Addr)(H:Hp):Hp:=λb=>if b∈os then none else H b
theorem jy{os:List Addr}{H:Hp}{b:Addr}{o:HO}:hid os H b=some o↔b∉os/\H b=some o:=by
 unfold hid;by_cases c:b∈os
 .rw[if_pos c];exact⟨(λz=>by cases z),λz=>absurd c z.1⟩
 .rw[if_neg c];exact⟨λz=>⟨c,z⟩,λz=>z.2⟩
theorem bo{os:List Addr}{H:Hp}{b:Addr}{o:HO}(c:b∉os)(h:H b=some o):hid os H b=some o:=jy.mpr ⟨c,h⟩
theorem bT{os:List Addr}{H:Hp}:am (hid os H) H:=λ_ _ h=>(jy.mp h).2
theorem bG{os:List Addr}{H:Hp}{p:Addr}{o:HO}(h:p∈os):hid os (upd H p o)=hid os H:=by
 funext b
 unfold hid;by_cases c:b∈os
 .rw[if_pos c,if_pos c]
 .have n:b≠p:=λe=>c (by rw[e];exact h);rw[if_neg c,if_neg c,aj n]
theorem a9{os:List Addr}{H H':Hp}(s:am H H'):am (hid os H) (hid os H'):=λb u z=>by
 obtain⟨c,z⟩:=jy.mp z;exact bo c (s _ _ z)
theorem jR{os:List Addr}{G H:Hp}(s:am G H)(n:∀b∈os,G b=none):am G (hid os H):=λb u z=>bo (λc=>by rw[n b c]at z;cases z) (s _ _ z)
theorem aX{G H:Hp}{p:Addr}{o:HO}(s:am G H)(h:G p=none):am G (upd H p o):=λb u z=>by
 rw[aj (λe=>by rw[e,h]at z;cases z)];exact s _ _ z
structure Rs where
 things:List Tg
 feet:List (Str×List Wk)
 g:Bool
inductive Rw where
 |empty|foot (n:Str) (ws:List Wk)|page|odd|lst|head (n:Nat) (ws:List Wk)|par (ws:List Wk)
def aZ(ws:List Wk):List Tg->List Tg
 |[]=>[.par ws]
 |[.par vs]=>[.par (vs++ws)]
 |t::r=>t::aZ ws r
theorem sE(ws vs:List Wk):∀l:List Tg,aZ ws (l++[.par vs])=l++[.par (vs++ws)]
 |[]=>rfl
 |[t]=>by cases t<;>rfl
 |t::u::r=>by
  have:=sE ws vs (u::r);cases t<;>exact congrArg _ this
def bF(s:Rs):Rw->Rs
 |.empty=>{ s with g:=false }
 |.foot n ws=>{ s with feet:=s.feet++[(n,ws)] }
 |.page=>{ s with things:=s.things++[.page],g:=false }
 |.odd=>{ s with things:=s.things++[.odd],g:=false }
 |.lst=>{ s with things:=s.things++[.lst],g:=false }
 |.head n ws=>{ s with things:=s.things++[.head n ws],g:=false }
 |.par ws=>if s.g then{ s with things:=aZ ws s.things }else{ s with things:=s.things++[.par ws],g:=true }
def aR:Rs->List Rw->Rs
 |s,[]=>s
 |s,r::l=>aR (bF s r) l
theorem AN(l l':List Rw):∀s:Rs,aR s (l++l')=aR (aR s l) l':=by
 induction l with
 |nil=>intro s;rfl
 |cons a l ih=>intro s;exact ih _
inductive Xc where
 |twice|nofoot|toolong|nomark
 deriving DecidableEq
structure Sc where
 nums:List Str
 titles:List (List Wk)
 feet:List (Str×List Wk)
structure Wt where
 lead:Int
 kept:Bool
 w:Wk
 foot:List Wk
structure Ss where
 fs:Nat
 ws:List Wt
 ms:List (Str×Nat)
 hs:List (Str×Nat)
 lp:Int
 bh:Bool
def rest:V->Str
 |.str n=>n
 |_=>Hy
def dN(s:Ss)(n:Str):Except Xc Ss:=if(lkS n s.ms).isSome then .error .twice else .ok { s with ms:=s.ms++[(n,s.ws.length)] }
def fC(s:Ss)(lead:Int)(w:Wk)(foot:List Wk):Except Xc Ss:=
 if s.ws.length=400 then .error .toolong
 else .ok { s with lp:=if 0<s.lp then 0 else s.lp,ws:=s.ws++[⟨if 0<s.lp then s.lp else lead,s.bh&&decide ((if 0<s.lp then s.lp else lead)<=2),w,foot⟩] }
def lM(k:Nat):Str := "("++tx (aT k)++")"
def g9(c:Sc)(s:Ss)(n:Str):Except Xc (Ss×List Wk):=
 match lkS n c.feet with
 |none=>.error .nofoot
 |some f=>.ok ({ s with fs:=s.fs+1 },(.plain,.str (lM (s.fs+1)))::f)
def ci(c:Sc)(s:Ss)(lead:Int)(w:Wk):Except Xc Ss:=
 if w.1=.foot then
  match g9 c s (rest w.2)with
  |.error x=>.error x
  |.ok (s',f)=>fC s' lead (f.headD w) f
 else fC s lead w []
def bX(c:Sc)(s:Ss)(lead:Int)(byh:Bool):List Wk->Except Xc Ss
 |[]=>.ok s
 |w::r =>
  if w.1=.mark then
   match dN s (rest w.2)with
   |.error x=>.error x
   |.ok s'=>bX c s' lead byh r
  else
   match ci c s lead w with
   |.error x=>.error x
   |.ok s'=>bX c { s' with bh:=byh } 0 byh r
def qw(c:Sc)(s:Ss)(k:Nat):Except Xc Ss:=
 bX c { s with hs:=s.hs++[(c.nums.getD k Hy,s.ws.length)] } 2 true ((.plain,.str (c.nums.getD k Hy))::c.titles.getD k [])
def cM(ws:List Wk):List Wk:=ws.filter λw=>!decide (w.1=.mark)
def cg(c:Sc)(k:Nat)(n:Str):List Wk:=(.plain,.str n)::(cM (c.titles.getD k [])++[(.entry,.int k)])
def fe(c:Sc)(s:Ss)(lead:Int)(k:Nat):List Str->Except Xc Ss
 |[]=>.ok s
 |n::r =>
  match bX c s lead false (cg c k n)with
  |.error x=>.error x
  |.ok s'=>fe c s' 1 (k+1) r
def gp(c:Sc)(s:Ss):Tg->Except Xc Ss
 |.page=>.ok { s with lp:=if s.lp<3 then 3 else s.lp }
 |.odd=>.ok { s with lp:=if s.lp<4 then 4 else s.lp }
 |.head _ _=>qw c s s.hs.length
 |.lst=>fe c s 2 0 c.nums
 |.par ws=>bX c s (if s.bh then 1 else 2) false ws
def iH(c:Sc):Ss->List Tg->Except Xc Ss
 |s,[]=>.ok s
 |s,t::r =>
  match gp c s t with
  |.error x=>.error x
  |.ok s'=>iH c s' r
def jz(k:Kw):Bool:=k=.number||k=.page||k=.row
def kZ(s:Ss)(w:Wk):Bool:=jz w.1&&(lkS (rest w.2) s.ms).isNone
def eO(c:Sc)(s:Ss):Option Xc:=
 if s.ms.any (λm=>m.2=s.ws.length)then some .nomark
 else if(s.ws.map (·.w)++c.feet.flatMap (·.2)).any (kZ s)then some .nomark
 else none
def k_(k:Nat):Str->List (Str×Nat)->Str
 |n,[]=>n
 |n,(t,at_)::r=>k_ k (if at_<=k then t else n) r
def sS(s:Ss)(n:Str):Nat:=(lkS n s.ms).getD 0
def aE:List Tg->List (Nat×List Wk)
 |[]=>[]
 |.head n ws::r=>(n,ws)::aE r
 |_::r=>aE r
def ss0:Ss:=⟨0,[],[],[],0,false⟩

def fsR(sa fa ta:Addr)(g:Bool):List (Str×V):=[("shorts",.ref sa),("feet",.ref fa),("things",.ref ta),("going_on",.bl g)]
section
variable {sa fa ta:Addr}{g:Bool}
theorem AO:GU ("shorts" : Str) (fsR sa fa ta g)=some (.ref sa):=rfl
theorem uF:GU ("feet" : Str) (fsR sa fa ta g)=some (.ref fa):=by
 have e:(("feet" : Str) == "shorts")=false:=by decide +kernel
 simp[fsR,GU,e]
theorem qx:GU ("things" : Str) (fsR sa fa ta g)=some (.ref ta):=by
 have e:(("things" : Str) == "shorts")=false:=by decide +kernel
 have e2:(("things" : Str) == "feet")=false:=by decide +kernel
 simp[fsR,GU,e,e2]
theorem yk:GU ("going_on" : Str) (fsR sa fa ta g)=some (.bl g):=by
 have e:(("going_on" : Str) == "shorts")=false:=by decide +kernel
 have e2:(("going_on" : Str) == "feet")=false:=by decide +kernel
 have e3:(("going_on" : Str) == "things")=false:=by decide +kernel
 simp[fsR,GU,e,e2,e3]
theorem mU{m:Str}(h:((m == "shorts")||(m == "feet")||(m == "things")||(m == "going_on"))=false):(fsR sa fa ta g).lookup m=none:=by
 simp only[IG]at h;simp[fsR,GU,h.1.1.1,h.1.1.2,h.1.2,h.2]
theorem qy{b:Bool}:bS "going_on" (.bl b) (fsR sa fa ta g)=fsR sa fa ta b:=by
 have e:¬ (("shorts" : Str) = "going_on"):=by decide +kernel
 have e2:¬ (("feet" : Str) = "going_on"):=by decide +kernel
 have e3:¬ (("things" : Str) = "going_on"):=by decide +kernel
 simp[fsR,bS,e,e2,e3]
theorem uG:(fsR sa fa ta g).length<1000:=by show 4<1000;decide
end
theorem Di{sa fa ta sa' fa' ta':Addr}{g g':Bool}(h:fsR sa fa ta g=fsR sa' fa' ta' g'):sa=sa'/\fa=fa'/\ta=ta'/\g=g':=by
 simpa[fsR]using h
structure RdA(C:Addr)(H0 H:Hp)(r:Addr)(s:Rs):Prop where
 old:am H0 H
 mid:∃dx sa fa ta la kvs vs,H r=some (.ins C dx (fsR sa fa ta s.g))/\hid [r,fa,ta,la] H sa=some (.lst [])/\H fa=some (.dK kvs)/\H ta=some (.lst vs)/\
  (H0 r=none/\H0 fa=none/\H0 ta=none/\H0 la=none)/\FtA (hid [r,fa,ta,la] H) kvs s.feet/\
  ((s.g=false/\la=ta/\fJ (hid [r,fa,ta,la] H) vs s.things)\/
    (s.g=true/\la≠ta/\∃vi a wvs ini ws,vs=vi++[.ref a]/\s.things=ini++[.par ws]/\hid [r,fa,ta,la] H a=some (.tup [.str "paragraph",.ref la])/\H la=some (.lst wvs)/\cb (hid [r,fa,ta,la] H) wvs ws/\fJ (hid [r,fa,ta,la] H) vi ini))
theorem RdA.same{C:Addr}{H0 H H':Hp}{r:Addr}{s:Rs}(R:RdA C H0 H r s)(m:am H H'):RdA C H0 H' r s:=by
 obtain⟨old,dx,sa,fa,ta,la,kvs,vs,h1,h2,h3,h4,h5,h6,h7⟩:=R;refine⟨old.trans m,dx,sa,fa,ta,la,kvs,vs,m _ _ h1,a9 m _ _ h2,m _ _ h3,m _ _ h4,h5,h6.mono (a9 m),?_⟩;rcases h7 with⟨e1,e2,h⟩|⟨e1,e2,vi,a,wvs,ini,ws,q1,q2,q3,q4,q5,q6⟩
 .exact .inl ⟨e1,e2,fJ.mono (a9 m) h⟩
 .exact .inr ⟨e1,e2,vi,a,wvs,ini,ws,q1,q2,a9 m _ _ q3,m _ _ q4,cb.mono (a9 m) q5,fJ.mono (a9 m) q6⟩
theorem oa{os:List Addr}{H:Hp}(n:∀b∈os,∀us,H b≠some (.tup us)){vs:List V}{ws:List Wk}(h:cb H vs ws):cb (hid os H) vs ws:=h.imp λv w ⟨a,e,h⟩=>⟨a,e,bo (λc=>n a c _ h) h⟩
def TgN(F H:Hp)(v:V):Tg->Prop
 |.page=>∃a,v=.ref a/\H a=some (.tup [.str "page"])
 |.odd=>∃a,v=.ref a/\H a=some (.tup [.str "odd"])
 |.lst=>∃a,v=.ref a/\H a=some (.tup [.str "list"])
 |.head n ws=>∃a l,v=.ref a/\H a=some (.tup [.str "head",.int n,.ref l])/\F l=none/\cQ H l ws
 |.par ws=>∃a l,v=.ref a/\H a=some (.tup [.str "paragraph",.ref l])/\F l=none/\cQ H l ws
theorem TgN.hid{F H:Hp}{os:List Addr}{v:V}{t:Tg}(n:∀b∈os,∀us,H b≠some (.tup us))(f:∀b∈os,F b≠none)(h:TgN F H v t):TgA (hid os H) v t:=by
 have ls:∀{l:Addr} {ws:List Wk},F l=none->cQ H l ws->cQ (Tl.hid os H) l ws:=λe ⟨vs,h1,h2⟩=>⟨vs,bo (λc=>f _ c e) h1,oa n h2⟩;cases t with
 |page=>obtain⟨a,e,h⟩:=h;exact⟨a,e,bo (λc=>n a c _ h) h⟩
 |odd=>obtain⟨a,e,h⟩:=h;exact⟨a,e,bo (λc=>n a c _ h) h⟩
 |lst=>obtain⟨a,e,h⟩:=h;exact⟨a,e,bo (λc=>n a c _ h) h⟩
 |head k ws=>obtain⟨a,l,e,h,h1,h2⟩:=h;exact⟨a,l,e,bo (λc=>n a c _ h) h,ls h1 h2⟩
 |par ws=>obtain⟨a,l,e,h,h1,h2⟩:=h;exact⟨a,l,e,bo (λc=>n a c _ h) h,ls h1 h2⟩
theorem gh{H:Hp}{a:Addr}{o:HO}(h:H a=some o)(n:∀us,o≠.tup us):∀us,H a≠some (.tup us):=λus z=>by
 rw[h]at z;exact n us (GW z)
theorem rY{H:Hp}{a:Addr}{o:HO}(h:H a=some o):H a≠none:=λz=>by rw[h]at z;cases z
theorem RdA.use{C:Addr}{H0 H:Hp}{r:Addr}{s:Rs}(R:RdA C H0 H r s):∃dx sa fa ta kvs vs,H r=some (.ins C dx (fsR sa fa ta s.g))/\H sa=some (.lst [])/\H fa=some (.dK kvs)/\H ta=some (.lst vs)/\vs.length=s.things.length/\kvs.length=s.feet.length/\(∀n,lkS n s.feet=none->cX kvs (.inr n)=none)/\
  (∀H' v t,am H H'->TgN H H' v t->RdA C H0 (upd (upd H' ta (.lst (vs++[v]))) r (.ins C dx (fsR sa fa ta false))) r { s with things:=s.things++[t],g:=false })/\
  (∀H',am H H'->RdA C H0 (upd H' r (.ins C dx (fsR sa fa ta false))) r { s with g:=false })/\
  (∀H' n l ws,am H H'->H l=none->cQ H' l ws->RdA C H0 (upd H' fa (.dK (kvs++[(.inr n,.ref l)]))) r { s with feet:=s.feet++[(n,ws)] })/\
  (s.g=true->∃vi a la wvs ini ws,vs=vi++[.ref a]/\H a=some (.tup [.str "paragraph",.ref la])/\H la=some (.lst wvs)/\s.things=ini++[.par ws]/\wvs.length=ws.length/\∀H' us ws',am H H'->cb H' us ws'->RdA C H0 (upd H' la (.lst (wvs++us))) r { s with things:=aZ ws' s.things })/\
  (∀H' a l ws,am H H'->H' a=some (.tup [.str "paragraph",.ref l])->H l=none->cQ H' l ws->RdA C H0 (upd (upd (upd H' ta (.lst (vs++[.ref a]))) r (.ins C dx (fsR sa fa ta false))) r (.ins C dx (fsR sa fa ta true))) r { s with things:=s.things++[.par ws],g:=true })/\
  FtA H kvs s.feet/\fJ H vs s.things/\H0 fa=none/\H0 ta=none:=by
 obtain⟨old,dx,sa,fa,ta,la,kvs,vs,h1,h2,h3,h4,h5,h6,h7⟩:=R;have n1:r≠fa:=λz=>by rw[z,h3]at h1;cases h1
 have n2:r≠ta:=λz=>by rw[z,h4]at h1;cases h1
 have n3:fa≠ta:=λz=>by rw[z,h4]at h3;cases h3
 have hla:∃us,H la=some (.lst us):=by
  rcases h7 with⟨e1,e2,h⟩|⟨e1,e2,vi,a,wvs,ini,ws,q1,q2,q3,q4,q5,q6⟩
  .rw[e2];exact⟨_,h4⟩
  .exact⟨_,q4⟩
 obtain⟨us0,hla⟩:=hla;have n4:la≠r:=λz=>by rw[z,h1]at hla;cases hla
 have n5:la≠fa:=λz=>by rw[z,h3]at hla;cases hla
 have nt:∀{H':Hp},am H H'->∀b∈[r,fa,ta,la],∀us,H' b≠some (.tup us):=λ{H'} m b hb=>by
  simp only[Hk,G_,or_false]at hb;rcases hb with rfl|rfl|rfl|rfl
  .exact gh (m _ _ h1) (λus z=>by cases z)
  .exact gh (m _ _ h3) (λus z=>by cases z)
  .exact gh (m _ _ h4) (λus z=>by cases z)
  .exact gh (m _ _ hla) (λus z=>by cases z)
 have nn:∀b∈[r,fa,ta,la],H b≠none:=λb hb=>by
  simp only[Hk,G_,or_false]at hb;rcases hb with rfl|rfl|rfl|rfl
  .exact rY h1
  .exact rY h3
  .exact rY h4
  .exact rY hla
 have sub:∀b∈[r,fa,ta,ta],b∈[r,fa,ta,la]:=λb hb=>by
  simp only[Hk,G_,or_false]at hb⊢;rcases hb with h|h|h|h<;>simp[h]
 have m0:∀{H':Hp},am H H'->am (hid [r,fa,ta,la] H) (hid [r,fa,ta,ta] H'):=λ{H'} m b o z=>by
  obtain⟨c,z⟩:=jy.mp z;exact bo (λw=>c (sub b w)) (m _ _ z)
 have cl:∀{H':Hp},am H H'->fJ (hid [r,fa,ta,ta] H') vs s.things:=λ{H'} m=>by
  rcases h7 with⟨e1,e2,h⟩|⟨e1,e2,vi,a,wvs,ini,ws,q1,q2,q3,q4,q5,q6⟩
  .exact fJ.mono (m0 m) h
  .rw[q1,q2];exact(fJ.mono (m0 m) q6).snoc ⟨a,la,rfl,m0 m _ _ q3,wvs,bo (by simp[n4,n5,e2]) (m _ _ q4),cb.mono (m0 m) q5⟩
 refine⟨dx,sa,fa,ta,kvs,vs,h1,bT _ _ h2,h3,h4,(cl (am.refl _)).len,h6.len,λn hn=>(h6.val).1 hn,?_,?_,?_,?_,?_,h6.mono bT,fJ.mono bT (cl (am.refl _)),h5.2.1,h5.2.2.1⟩
 .intro H' v t m tn;have e:hid [r,fa,ta,ta] (upd (upd H' ta (.lst (vs++[v]))) r (.ins C dx (fsR sa fa ta false)))=hid [r,fa,ta,ta] H':=by
   rw[bG (by simp),bG (by simp)]
  refine⟨?_,dx,sa,fa,ta,ta,kvs,vs++[v],ac,?_,?_,?_,⟨h5.1,h5.2.1,h5.2.2.1,h5.2.2.1⟩,?_,.inl ⟨rfl,rfl,?_⟩⟩
  .exact aX (aX (old.trans m) h5.2.2.1) h5.1
  .rw[e];exact m0 m _ _ h2
  .rw[aj (GX n1),aj n3];exact m _ _ h3
  .rw[aj (GX n2)];exact ac
  .rw[e];exact h6.mono (m0 m)
  .rw[e];exact(cl m).snoc (tn.hid (λb hb=>nt m b (sub b hb)) (λb hb=>nn b (sub b hb)))
 .intro H' m;have e:hid [r,fa,ta,ta] (upd H' r (.ins C dx (fsR sa fa ta false)))=hid [r,fa,ta,ta] H':=bG (by simp);refine⟨aX (old.trans m) h5.1,dx,sa,fa,ta,ta,kvs,vs,ac,?_,?_,?_,⟨h5.1,h5.2.1,h5.2.2.1,h5.2.2.1⟩,?_,.inl ⟨rfl,rfl,?_⟩⟩
  .rw[e];exact m0 m _ _ h2
  .rw[aj (GX n1)];exact m _ _ h3
  .rw[aj (GX n2)];exact m _ _ h4
  .rw[e];exact h6.mono (m0 m)
  .rw[e];exact cl m
 .intro H' n l ws m hl lw;have e:hid [r,fa,ta,la] (upd H' fa (.dK (kvs++[(.inr n,.ref l)])))=hid [r,fa,ta,la] H':=bG (by simp);have hm:=a9 (os:=[r,fa,ta,la]) m;refine⟨aX (old.trans m) h5.2.1,dx,sa,fa,ta,la,kvs++[(.inr n,.ref l)],vs,?_,?_,ac,?_,h5,?_,?_⟩
  .rw[aj n1];exact m _ _ h1
  .rw[e];exact hm _ _ h2
  .rw[aj (GX n3)];exact m _ _ h4
  .rw[e];obtain⟨us,l1,l2⟩:=lw;exact(h6.mono hm).app ⟨rfl,l,rfl,us,bo (λc=>nn _ c hl) l1,oa (nt m) l2⟩
  .rw[e];rcases h7 with⟨e1,e2,h⟩|⟨e1,e2,vi,a,wvs,ini,ws,q1,q2,q3,q4,q5,q6⟩
   .exact .inl ⟨e1,e2,fJ.mono hm h⟩
   .exact .inr ⟨e1,e2,vi,a,wvs,ini,ws,q1,q2,hm _ _ q3,by rw[aj n5];exact m _ _ q4,cb.mono hm q5,fJ.mono hm q6⟩
 .intro hg;rcases h7 with⟨e1,e2,h⟩|⟨e1,e2,vi,a,wvs,ini,ws,q1,q2,q3,q4,q5,q6⟩
  .rw[hg]at e1;cases e1
  refine⟨vi,a,la,wvs,ini,ws,q1,bT _ _ q3,q4,q2,q5.len,λH' us ws' m al=>?_⟩;have e:hid [r,fa,ta,la] (upd H' la (.lst (wvs++us)))=hid [r,fa,ta,la] H':=bG (by simp);have hm:=a9 (os:=[r,fa,ta,la]) m;refine⟨aX (old.trans m) h5.2.2.2,dx,sa,fa,ta,la,kvs,vs,?_,?_,?_,?_,h5,?_,.inr ⟨e1,e2,vi,a,wvs++us,ini,ws++ws',q1,?_,?_,ac,?_,?_⟩⟩
  .rw[aj (GX n4)];exact m _ _ h1
  .rw[e];exact hm _ _ h2
  .rw[aj (GX n5)];exact m _ _ h3
  .rw[aj (GX e2)];exact m _ _ h4
  .rw[e];exact h6.mono hm
  .show aZ ws' s.things=_;rw[q2,sE]
  .rw[e];exact hm _ _ q3
  .rw[e];exact(cb.mono hm q5).app (oa (nt m) al)
  .rw[e];exact fJ.mono hm q6
 .intro H' a l ws m ha hl lw;have lr:l≠r:=λz=>by rw[z,h1]at hl;cases hl
  have lfa:l≠fa:=λz=>by rw[z,h3]at hl;cases hl
  have lta:l≠ta:=λz=>by rw[z,h4]at hl;cases hl
  have lla:l≠la:=λz=>by rw[z,hla]at hl;cases hl
  obtain⟨us,l1,l2⟩:=lw;have nt':∀b∈[r,fa,ta,l],∀us,H' b≠some (.tup us):=λb hb=>by
   simp only[Hk,G_,or_false]at hb;rcases hb with rfl|rfl|rfl|rfl
   .exact gh (m _ _ h1) (λus z=>by cases z)
   .exact gh (m _ _ h3) (λus z=>by cases z)
   .exact gh (m _ _ h4) (λus z=>by cases z)
   .exact gh l1 (λus z=>by cases z)
  have e:hid [r,fa,ta,l] (upd (upd (upd H' ta (.lst (vs++[.ref a]))) r (.ins C dx (fsR sa fa ta false))) r (.ins C dx (fsR sa fa ta true)))=hid [r,fa,ta,l] H':=by
   rw[bG (by simp),bG (by simp),bG (by simp)]
  have mm:am (hid [r,fa,ta,ta] H) (hid [r,fa,ta,l] H'):=λb o z=>by
   obtain⟨c,z⟩:=jy.mp z;refine bo (λw=>?_) (m _ _ z);simp only[Hk,G_,or_false]at w c;rcases w with w|w|w|w
   .exact c (.inl w)
   .exact c (.inr (.inl w))
   .exact c (.inr (.inr (.inl w)))
   .rw[w,hl]at z;cases z
  refine⟨aX (aX (aX (old.trans m) h5.2.2.1) h5.1) h5.1,dx,sa,fa,ta,l,kvs,vs++[.ref a],ac,?_,?_,?_,⟨h5.1,h5.2.1,h5.2.2.1,old.free hl⟩,?_,.inr ⟨rfl,lta,vs,a,us,s.things,ws,rfl,rfl,?_,?_,?_,?_⟩⟩
  .rw[e];exact mm _ _ (m0 (am.refl _) _ _ h2)
  .rw[aj (GX n1),aj (GX n1),aj n3];exact m _ _ h3
  .rw[aj (GX n2),aj (GX n2)];exact ac
  .rw[e];exact h6.mono ((m0 (am.refl _)).trans mm)
  .rw[e];exact bo (λc=>nt' a c _ ha) ha
  .rw[aj lr,aj lr,aj lta];exact l1
  .rw[e];exact oa nt' l2
  .rw[e];exact fJ.mono mm (cl (am.refl _))
def tgN:Tg->Nat
 |.head _ ws=>ws.length
 |.par ws=>ws.length
 |_=>0
def rwN:Rw->Nat
 |.foot _ ws=>ws.length
 |.head _ ws=>ws.length
 |.par ws=>ws.length
 |_=>0
def tgS(l:List Tg):Nat:=(l.map tgN).sum
theorem xo(ws:List Wk):∀l:List Tg,tgS (aZ ws l)=tgS l+ws.length/\(aZ ws l).length<=l.length+1
 |[]=>by simp[aZ,tgS,tgN]
 |[t]=>by
  cases t<;>simp[aZ,tgS,tgN]
 |t::u::r=>by
  have ih:=xo ws (u::r);have e:aZ ws (t::u::r)=t::aZ ws (u::r):=by cases t<;>rfl
  rw[e];unfold tgS at ih⊢;simp only[Gp,Hv,Gd]at ih⊢;omega
theorem Dj(s:Rs)(w:Rw):tgS (bF s w).things<=tgS s.things+rwN w/\(bF s w).things.length<=s.things.length+1/\(bF s w).feet.length<=s.feet.length+1:=by
 have snoc:∀(l:List Tg) (t:Tg),tgS (l++[t])=tgS l+tgN t:=λl t=>by simp[tgS]
 cases w with
 |empty=>exact⟨Gi _,HJ _,HJ _⟩
 |foot n ws=>exact⟨Hs _ _,HJ _,by simp[bF]⟩
 |page=>simp[bF,snoc,tgN,rwN]
 |odd=>simp[bF,snoc,tgN,rwN]
 |lst=>simp[bF,snoc,tgN,rwN]
 |head n ws=>simp[bF,snoc,tgN,rwN]
 |par ws =>
  unfold bF;by_cases g:s.g=true
  .simp only[g,if_true];have:=xo ws s.things;exact⟨by rw[this.1];exact Gi _,this.2,HJ _⟩
  .simp only[Hw]at g;simp[g,snoc,tgN,rwN]
theorem uH:∀(l:List Rw) (s:Rs),tgS (aR s l).things<=tgS s.things+(l.map rwN).sum/\(aR s l).things.length<=s.things.length+l.length/\(aR s l).feet.length<=s.feet.length+l.length
 |[],s=>by simp[aR]
 |w::l,s=>by
  have h:=Dj s w;have ih:=uH l (bF s w);have e:aR s (w::l)=aR (bF s w) l:=rfl;rw[e];simp only[Gp,Hv,Gd];omega
theorem sF(f:Rw->Nat):∀(l:List Rw) (k:Nat),((l.take k).map f).sum<=(l.map f).sum
 |[],k=>by simp
 |a::l,0=>by simp
 |a::l,k+1=>by
  have:=sF f l k;simp only[List.take_succ_cons,Gp,Hv];omega
def rs0:Rs:=⟨[],[],false⟩
theorem Dk{ini:List Tg}{ws:List Wk}:ws.length<=tgS (ini++[.par ws]):=by simp[tgS,tgN]
def FrX(H H':Hp)(x:Addr):Prop:=∀b u,b≠x->H b=some u->H' b=some u
theorem FrX.refl{H:Hp}{x:Addr}:FrX H H x:=λ_ _ _ h=>h
theorem FrX.same{H H1 H':Hp}{x:Addr}(f:FrX H H1 x)(s:am H1 H'):FrX H H' x:=λb u n h=>s _ _ (f b u n h)
theorem FrX.at{H H':Hp}{x:Addr}{o:HO}(f:FrX H H' x):FrX H (upd H' x o) x:=λb u n h=>by
 rw[aj n];exact f b u n h
theorem FrX.free{H H':Hp}{x p:Addr}{o:HO}(f:FrX H H' x)(hx:H' x=some o)(hp:H' p=none):H p=none:=by
 cases z:H p with
 |none=>rfl
 |some u =>
  by_cases e:p=x
  .rw[e,hx]at hp;cases hp
  .rw[f p u e z]at hp;cases hp
theorem FrX.old{G H H':Hp}{x:Addr}(f:FrX H H' x)(s:am G H)(hx:G x=none):am G H':=λb u h=>f b u (λz=>by rw[z,hx]at h;cases h) (s _ _ h)
end Tl

set_option maxHeartbeats 4000000

namespace Tl
open PySem PySem.Spec L2
structure Sad where
 x:Addr
 dx:Addr
 na:Addr
 ta:Addr
 fa:Addr
 wa:Addr
 ma:Addr
 ha:Addr
def Sad.os(A:Sad):List Addr:=[A.x,A.wa,A.ma,A.ha]
def fsS(A:Sad)(fs lp:Int)(bh:Bool):List (Str×V):=[("numbers",.ref A.na),("titles",.ref A.ta),("feet",.ref A.fa),("feet_set",.int fs),("words",.ref A.wa),("marks",.ref A.ma),("heads",.ref A.ha),("leap",.int lp),("behind_head",.bl bh)]
section
variable {A:Sad}{fs lp:Int}{bh:Bool}
theorem ui:GU ("numbers" : Str) (fsS A fs lp bh)=some (.ref A.na):=by
 rfl
theorem vg:GU ("titles" : Str) (fsS A fs lp bh)=some (.ref A.ta):=by
 have e0:(("titles" : Str) == "numbers")=false:=by decide +kernel
 simp[fsS,GU,e0]
theorem uI:GU ("feet" : Str) (fsS A fs lp bh)=some (.ref A.fa):=by
 have e0:(("feet" : Str) == "numbers")=false:=by decide +kernel
 have e1:(("feet" : Str) == "titles")=false:=by decide +kernel
 simp[fsS,GU,e0,e1]
theorem sI:GU ("feet_set" : Str) (fsS A fs lp bh)=some (.int fs):=by
 have e0:(("feet_set" : Str) == "numbers")=false:=by decide +kernel
 have e1:(("feet_set" : Str) == "titles")=false:=by decide +kernel
 have e2:(("feet_set" : Str) == "feet")=false:=by decide +kernel
 simp[fsS,GU,e0,e1,e2]
theorem jj:GU ("words" : Str) (fsS A fs lp bh)=some (.ref A.wa):=by
 have e0:(("words" : Str) == "numbers")=false:=by decide +kernel
 have e1:(("words" : Str) == "titles")=false:=by decide +kernel
 have e2:(("words" : Str) == "feet")=false:=by decide +kernel
 have e3:(("words" : Str) == "feet_set")=false:=by decide +kernel
 simp[fsS,GU,e0,e1,e2,e3]
theorem jk:GU ("marks" : Str) (fsS A fs lp bh)=some (.ref A.ma):=by
 have e0:(("marks" : Str) == "numbers")=false:=by decide +kernel
 have e1:(("marks" : Str) == "titles")=false:=by decide +kernel
 have e2:(("marks" : Str) == "feet")=false:=by decide +kernel
 have e3:(("marks" : Str) == "feet_set")=false:=by decide +kernel
 have e4:(("marks" : Str) == "words")=false:=by decide +kernel
 simp[fsS,GU,e0,e1,e2,e3,e4]
theorem lO:GU ("heads" : Str) (fsS A fs lp bh)=some (.ref A.ha):=by
 have e0:(("heads" : Str) == "numbers")=false:=by decide +kernel
 have e1:(("heads" : Str) == "titles")=false:=by decide +kernel
 have e2:(("heads" : Str) == "feet")=false:=by decide +kernel
 have e3:(("heads" : Str) == "feet_set")=false:=by decide +kernel
 have e4:(("heads" : Str) == "words")=false:=by decide +kernel
 have e5:(("heads" : Str) == "marks")=false:=by decide +kernel
 simp[fsS,GU,e0,e1,e2,e3,e4,e5]
theorem rZ:GU ("leap" : Str) (fsS A fs lp bh)=some (.int lp):=by
 have e0:(("leap" : Str) == "numbers")=false:=by decide +kernel
 have e1:(("leap" : Str) == "titles")=false:=by decide +kernel
 have e2:(("leap" : Str) == "feet")=false:=by decide +kernel
 have e3:(("leap" : Str) == "feet_set")=false:=by decide +kernel
 have e4:(("leap" : Str) == "words")=false:=by decide +kernel
 have e5:(("leap" : Str) == "marks")=false:=by decide +kernel
 have e6:(("leap" : Str) == "heads")=false:=by decide +kernel
 simp[fsS,GU,e0,e1,e2,e3,e4,e5,e6]
theorem oe:GU ("behind_head" : Str) (fsS A fs lp bh)=some (.bl bh):=by
 have e0:(("behind_head" : Str) == "numbers")=false:=by decide +kernel
 have e1:(("behind_head" : Str) == "titles")=false:=by decide +kernel
 have e2:(("behind_head" : Str) == "feet")=false:=by decide +kernel
 have e3:(("behind_head" : Str) == "feet_set")=false:=by decide +kernel
 have e4:(("behind_head" : Str) == "words")=false:=by decide +kernel
 have e5:(("behind_head" : Str) == "marks")=false:=by decide +kernel
 have e6:(("behind_head" : Str) == "heads")=false:=by decide +kernel
 have e7:(("behind_head" : Str) == "leap")=false:=by decide +kernel
 simp[fsS,GU,e0,e1,e2,e3,e4,e5,e6,e7]
theorem vD{fs':Int}:bS "feet_set" (.int fs') (fsS A fs lp bh)=fsS A fs' lp bh:=by
 have e0:¬ (("numbers" : Str) = "feet_set"):=by decide +kernel
 have e1:¬ (("titles" : Str) = "feet_set"):=by decide +kernel
 have e2:¬ (("feet" : Str) = "feet_set"):=by decide +kernel
 simp[fsS,bS,e0,e1,e2]
theorem qz{lp':Int}:bS "leap" (.int lp') (fsS A fs lp bh)=fsS A fs lp' bh:=by
 have e0:¬ (("numbers" : Str) = "leap"):=by decide +kernel
 have e1:¬ (("titles" : Str) = "leap"):=by decide +kernel
 have e2:¬ (("feet" : Str) = "leap"):=by decide +kernel
 have e3:¬ (("feet_set" : Str) = "leap"):=by decide +kernel
 have e4:¬ (("words" : Str) = "leap"):=by decide +kernel
 have e5:¬ (("marks" : Str) = "leap"):=by decide +kernel
 have e6:¬ (("heads" : Str) = "leap"):=by decide +kernel
 simp[fsS,bS,e0,e1,e2,e3,e4,e5,e6]
theorem sT{bh':Bool}:bS "behind_head" (.bl bh') (fsS A fs lp bh)=fsS A fs lp bh':=by
 have e0:¬ (("numbers" : Str) = "behind_head"):=by decide +kernel
 have e1:¬ (("titles" : Str) = "behind_head"):=by decide +kernel
 have e2:¬ (("feet" : Str) = "behind_head"):=by decide +kernel
 have e3:¬ (("feet_set" : Str) = "behind_head"):=by decide +kernel
 have e4:¬ (("words" : Str) = "behind_head"):=by decide +kernel
 have e5:¬ (("marks" : Str) = "behind_head"):=by decide +kernel
 have e6:¬ (("heads" : Str) = "behind_head"):=by decide +kernel
 have e7:¬ (("leap" : Str) = "behind_head"):=by decide +kernel
 simp[fsS,bS,e0,e1,e2,e3,e4,e5,e6,e7]

theorem jl{m:Str}(h:[("numbers" : Str),("titles" : Str),("feet" : Str),("feet_set" : Str),("words" : Str),("marks" : Str),("heads" : Str),("leap" : Str),("behind_head" : Str)].all (λn=>!(m==n))=true):(fsS A fs lp bh).lookup m=none:=by
 simp only[IP,List.all_nil,Ko,HC,Bool.not_eq_true']at h;obtain⟨h1,h2,h3,h4,h5,h6,h7,h8,h9⟩:=h;simp[fsS,GU,h1,h2,h3,h4,h5,h6,h7,h8,h9]
theorem og:(fsS A fs lp bh).length<1000:=by show 9<1000;decide
end
theorem xp{n:Str}{v:V}:∀{l:List (Str×V)},(bS n v l).length<=l.length+1
 |[]=>Gi _
 |(m,x)::r=>by
  by_cases e:m=n
  .simp[bS,e]
  .have:=xp (n:=n) (v:=v) (l:=r);simp[bS,e];exact this
theorem iI{n:Str}{v:V}:∀{l:List (Str×V)},(l.map Prod.fst).all (λm=>m != n)=true->bS n v l=l++[(n,v)]
 |[],_=>rfl
 |(m,x)::r,h=>by
  rw[Gp,IP,HC]at h;have e:¬ (m=n):=by simpa using h.1
  have ih:=iI (n:=n) (v:=v) h.2;simp[bS,e]at ih⊢;exact ih
theorem Dl(A:Sad):(bS "behind_head" (.bl false) (bS "leap" (.int 0) (bS "heads" (.ref A.ha) (bS "marks" (.ref A.ma) (bS "words" (.ref A.wa) (bS "feet_set" (.int 0) (bS "feet" (.ref A.fa) (bS "titles" (.ref A.ta) (bS "numbers" (.ref A.na) [])))))))))=fsS A 0 0 false:=by
 rw[show bS "numbers" (.ref A.na) []=([("numbers",.ref A.na)]:List (Str×V))from rfl];rw[iI (n := "titles") (by show(["numbers"]:List Str).all (λm=>m != "titles")=true;decide +kernel)];rw[iI (n := "feet") (by show(["numbers","titles"]:List Str).all (λm=>m != "feet")=true;decide +kernel)];rw[iI (n := "feet_set") (by show(["numbers","titles","feet"]:List Str).all (λm=>m != "feet_set")=true;decide +kernel)];rw[iI (n := "words") (by show(["numbers","titles","feet","feet_set"]:List Str).all (λm=>m != "words")=true;decide +kernel)];rw[iI (n := "marks") (by show(["numbers","titles","feet","feet_set","words"]:List Str).all (λm=>m != "marks")=true;decide +kernel)];rw[iI (n := "heads") (by show(["numbers","titles","feet","feet_set","words","marks"]:List Str).all (λm=>m != "heads")=true;decide +kernel)];rw[iI (n := "leap") (by show(["numbers","titles","feet","feet_set","words","marks","heads"]:List Str).all (λm=>m != "leap")=true;decide +kernel)];rw[iI (n := "behind_head") (by show(["numbers","titles","feet","feet_set","words","marks","heads","leap"]:List Str).all (λm=>m != "behind_head")=true;decide +kernel)];rfl
def WtA(F:Hp)(v:V)(t:Wt):Prop:=∃a w f,v=.ref a/\F a=some (.tup [.int t.lead,.bl t.kept,.ref w,.ref f])/\WkA F (.ref w) t.w/\cQ F f t.foot
def HdA(F:Hp)(v:V)(h:Str×Nat):Prop:=∃a,v=.ref a/\F a=some (.tup [.str h.1,.int (h.2:Int)])
def TlA(F:Hp)(v:V)(ws:List Wk):Prop:=∃l,v=.ref l/\cQ F l ws
def mkV(ms:List (Str×Nat)):List (Key×V):=ms.map λm=>(.inr m.1,.int (m.2:Int))
theorem oh{n:Str}:∀ms:List (Str×Nat),cX (mkV ms) (.inr n)=(lkS n ms).map λ(k:Nat)=>V.int (k:Int)
 |[]=>rfl
 |(m,k)::r=>by
  have ih:=oh (n:=n) r;by_cases c:m=n
  .subst c;have e:lkS m ((m,k)::r)=some k:=by unfold lkS;simp
   rw[e];unfold mkV;rw[Gp,lI rfl];rfl
  .have e:lkS n ((m,k)::r)=lkS n r:=by
    show(if m=n then some k else lkS n r)=lkS n r;exact if_neg c
   rw[e,<-ih];unfold mkV;rw[Gp,dY (λz=>c (by injection z))]
theorem B2(ms:List (Str×Nat))(n:Str)(k:Nat):mkV (ms++[(n,k)])=mkV ms++[(.inr n,.int (k:Int))]:=by simp[mkV]
theorem yM(ms:List (Str×Nat)):(mkV ms).length=ms.length:=by unfold mkV;rw[F9]
theorem WtA.mono{F F':Hp}(s:am F F'){v:V}{t:Wt}(h:WtA F v t):WtA F' v t:=by
 obtain⟨a,w,f,e,h1,h2,h3⟩:=h;exact⟨a,w,f,e,s _ _ h1,h2.mono s,h3.mono s⟩
theorem HdA.mono{F F':Hp}(s:am F F'){v:V}{h:Str×Nat}(z:HdA F v h):HdA F' v h:=by
 obtain⟨a,e,h1⟩:=z;exact⟨a,e,s _ _ h1⟩
theorem TlA.mono{F F':Hp}(s:am F F'){v:V}{ws:List Wk}(z:TlA F v ws):TlA F' v ws:=by
 obtain⟨a,e,h1⟩:=z;exact⟨a,e,h1.mono s⟩
structure ScA(G:Hp)(A:Sad)(c:Sc):Prop where
 nums:G A.na=some (.lst (c.nums.map V.str))
 titles:∃tvs,G A.ta=some (.lst tvs)/\aW (TlA G) tvs c.titles
 feet:∃kvs,G A.fa=some (.dK kvs)/\FtA G kvs c.feet
theorem ScA.mono{G G':Hp}(s:am G G'){A:Sad}{c:Sc}(S:ScA G A c):ScA G' A c:=by
 obtain⟨h1,⟨tvs,h2,h3⟩,⟨kvs,h4,h5⟩⟩:=S;exact⟨s _ _ h1,⟨tvs,s _ _ h2,h3.imp λ_ _=>TlA.mono s⟩,⟨kvs,s _ _ h4,h5.mono s⟩⟩
structure StA(C:Addr)(G H:Hp)(A:Sad)(c:Sc)(σ:Ss):Prop where
 old:am G H
 ins:H A.x=some (.ins C A.dx (fsS A (σ.fs:Int) σ.lp σ.bh))
 cl:ScA G A c
 fr:∀b∈A.os,G b=none
 ne:A.wa≠A.ha
 words:∃wvs,H A.wa=some (.lst wvs)/\aW (WtA (hid A.os H)) wvs σ.ws
 marks:H A.ma=some (.dK (mkV σ.ms))
 heads:∃hvs,H A.ha=some (.lst hvs)/\aW (HdA (hid A.os H)) hvs σ.hs
section
variable {C:Addr}{G H H':Hp}{A:Sad}{c:Sc}{σ:Ss}
theorem StA.same(S:StA C G H A c σ)(m:am H H'):StA C G H' A c σ:=by
 obtain⟨w1,w2,w3⟩:=S.words;obtain⟨h1,h2,h3⟩:=S.heads;exact⟨S.old.trans m,m _ _ S.ins,S.cl,S.fr,S.ne,⟨w1,m _ _ w2,w3.imp λ_ _=>WtA.mono (a9 m)⟩,m _ _ S.marks,⟨h1,m _ _ h2,h3.imp λ_ _=>HdA.mono (a9 m)⟩⟩
theorem StA.nt(S:StA C G H A c σ):∀b∈A.os,∀us,H b≠some (.tup us):=λb hb=>by
 obtain⟨w1,w2,w3⟩:=S.words;obtain⟨h1,h2,h3⟩:=S.heads;simp only[Sad.os,Hk,G_,or_false]at hb;rcases hb with rfl|rfl|rfl|rfl
 .exact gh S.ins (λus z=>by cases z)
 .exact gh w2 (λus z=>by cases z)
 .exact gh S.marks (λus z=>by cases z)
 .exact gh h2 (λus z=>by cases z)
theorem StA.nes(S:StA C G H A c σ):A.x≠A.wa/\A.x≠A.ma/\A.x≠A.ha/\A.wa≠A.ma/\A.ma≠A.ha:=by
 obtain⟨w1,w2,w3⟩:=S.words;obtain⟨h1,h2,h3⟩:=S.heads;have i:=S.ins;have k:=S.marks;refine⟨λz=>?_,λz=>?_,λz=>?_,λz=>?_,λz=>?_⟩
 .rw[z,w2]at i;cases i
 .rw[z,k]at i;cases i
 .rw[z,h2]at i;cases i
 .rw[z,k]at w2;cases w2
 .rw[z,h2]at k;cases k
theorem B3:A.x∈A.os:=by simp[Sad.os]
theorem CB:A.wa∈A.os:=by simp[Sad.os]
theorem wd:A.ma∈A.os:=by simp[Sad.os]
theorem zu:A.ha∈A.os:=by simp[Sad.os]
theorem StA.flds(S:StA C G H A c σ)(fs':Nat)(lp':Int)(bh':Bool):StA C G (upd H A.x (.ins C A.dx (fsS A (fs':Int) lp' bh'))) A c { σ with fs:=fs',lp:=lp',bh:=bh' }:=by
 obtain⟨w1,w2,w3⟩:=S.words;obtain⟨h1,h2,h3⟩:=S.heads;obtain⟨n1,n2,n3,n4,n5⟩:=S.nes;have e:hid A.os (upd H A.x (.ins C A.dx (fsS A (fs':Int) lp' bh')))=hid A.os H:=bG B3;refine⟨aX S.old (S.fr _ B3),ac,S.cl,S.fr,S.ne,⟨w1,?_,?_⟩,?_,⟨h1,?_,?_⟩⟩
 .rw[aj (GX n1)];exact w2
 .rw[e];exact w3
 .rw[aj (GX n2)];exact S.marks
 .rw[aj (GX n3)];exact h2
 .rw[e];exact h3
theorem StA.mark(S:StA C G H A c σ)(n:Str)(k:Nat):StA C G (upd H A.ma (.dK (mkV (σ.ms++[(n,k)])))) A c { σ with ms:=σ.ms++[(n,k)] }:=by
 obtain⟨w1,w2,w3⟩:=S.words;obtain⟨h1,h2,h3⟩:=S.heads;obtain⟨n1,n2,n3,n4,n5⟩:=S.nes;have e:hid A.os (upd H A.ma (.dK (mkV (σ.ms++[(n,k)]))))=hid A.os H:=bG wd;refine⟨aX S.old (S.fr _ wd),?_,S.cl,S.fr,S.ne,⟨w1,?_,?_⟩,ac,⟨h1,?_,?_⟩⟩
 .rw[aj n2];exact S.ins
 .rw[aj n4];exact w2
 .rw[e];exact w3
 .rw[aj (GX n5)];exact h2
 .rw[e];exact h3
theorem uJ{os:List Addr}(nt:∀b∈os,∀us,H b≠some (.tup us)){l:Addr}{ws:List Wk}(n:l∉os)(h:cQ H l ws):cQ (hid os H) l ws:=by
 obtain⟨vs,h1,h2⟩:=h;exact⟨vs,bo n h1,oa nt h2⟩
theorem uK{os:List Addr}(nt:∀b∈os,∀us,H b≠some (.tup us)){a:Addr}{us:List V}(h:H a=some (.tup us)):hid os H a=some (.tup us):=bo (λz=>nt a z us h) h
theorem StA.word(S:StA C G H A c σ){wvs:List V}(hw:H A.wa=some (.lst wvs)){v:V}{t:Wt}{a w f:Addr}(e1:v=.ref a)(h1:H a=some (.tup [.int t.lead,.bl t.kept,.ref w,.ref f]))(h2:WkA H (.ref w) t.w)(h3:cQ H f t.foot)(n1:f≠A.wa)(n2:f≠A.ha):StA C G (upd H A.wa (.lst (wvs++[v]))) A c { σ with ws:=σ.ws++[t] }:=by
 obtain⟨w1,w2,w3⟩:=S.words;obtain⟨hv,hh2,hh3⟩:=S.heads;obtain⟨m1,m2,m3,m4,m5⟩:=S.nes;rw[hw]at w2;injection w2 with w2;injection w2 with w2;subst w2;have e:hid A.os (upd H A.wa (.lst (wvs++[v])))=hid A.os H:=bG CB;have nf:f∉A.os:=λz=>by
  obtain⟨fv,hf,_⟩:=h3;simp only[Sad.os,Hk,G_,or_false]at z;rcases z with z|z|z|z
  .rw[z,S.ins]at hf;cases hf
  .exact n1 z
  .rw[z,S.marks]at hf;cases hf
  .exact n2 z
 refine⟨aX S.old (S.fr _ CB),?_,S.cl,S.fr,S.ne,⟨wvs++[v],ac,?_⟩,?_,⟨hv,?_,?_⟩⟩
 .rw[aj m1];exact S.ins
 .rw[e];obtain⟨b,z1,z2⟩:=h2;exact w3.snoc ⟨a,w,f,e1,uK S.nt h1,⟨b,z1,uK S.nt z2⟩,uJ S.nt nf h3⟩
 .rw[aj (GX m4)];exact S.marks
 .rw[aj (GX S.ne)];exact hh2
 .rw[e];exact hh3
theorem StA.headp(S:StA C G H A c σ){hvs:List V}(hw:H A.ha=some (.lst hvs)){a:Addr}{n:Str}{k:Nat}(h1:H a=some (.tup [.str n,.int (k:Int)])):StA C G (upd H A.ha (.lst (hvs++[.ref a]))) A c { σ with hs:=σ.hs++[(n,k)] }:=by
 obtain⟨w1,w2,w3⟩:=S.words;obtain⟨hv,hh2,hh3⟩:=S.heads;obtain⟨m1,m2,m3,m4,m5⟩:=S.nes;rw[hw]at hh2;injection hh2 with hh2;injection hh2 with hh2;subst hh2;have e:hid A.os (upd H A.ha (.lst (hvs++[.ref a])))=hid A.os H:=bG zu;refine⟨aX S.old (S.fr _ zu),?_,S.cl,S.fr,S.ne,⟨w1,?_,?_⟩,?_,⟨hvs++[.ref a],ac,?_⟩⟩
 .rw[aj m3];exact S.ins
 .rw[aj S.ne];exact w2
 .rw[e];exact w3
 .rw[aj m5];exact S.marks
 .rw[e];exact hh3.snoc ⟨a,rfl,uK S.nt h1⟩
theorem StA.re(S:StA C G H A c σ):StA C (hid A.os H) H A c σ:=
 ⟨bT,S.ins,S.cl.mono (jR S.old S.fr),(λb hb=>by unfold hid;rw[if_pos hb]),S.ne,S.words,S.marks,S.heads⟩
theorem StA.base{G':Hp}(S:StA C G' H A c σ)(m:am G G')(cl:ScA G A c):StA C G H A c σ:=
 ⟨m.trans S.old,S.ins,cl,(λb hb=>m.free (S.fr b hb)),S.ne,S.words,S.marks,S.heads⟩
theorem StA.fresh(S:StA C G H A c σ){p:Addr}(hp:H p=none):p∉A.os:=λz=>by
 obtain⟨w1,w2,w3⟩:=S.words;obtain⟨h1,h2,h3⟩:=S.heads;simp only[Sad.os,Hk,G_,or_false]at z;rcases z with rfl|rfl|rfl|rfl
 .rw[S.ins]at hp;cases hp
 .rw[w2]at hp;cases hp
 .rw[S.marks]at hp;cases hp
 .rw[h2]at hp;cases hp
theorem StA.out(S:StA C G H A c σ):am G (hid A.os H):=jR S.old S.fr
end
theorem r9{β:Type}{n:Str}{v:β}:∀{l:List (Str×β)},lkS n l=some v->(n,v)∈l
 |[],h=>by cases h
 |(m,k)::r,h=>by
  by_cases c:m=n
  .have e:lkS n ((m,k)::r)=some k:=if_pos c;rw[e]at h;cases h;rw[c];exact Gk
  .have e:lkS n ((m,k)::r)=lkS n r:=if_neg c;rw[e]at h;exact Gh _ (r9 h)
def oK(tw nf tl nm:Addr):Xc->Addr
 |.twice=>tw
 |.nofoot=>nf
 |.toolong=>tl
 |.nomark=>nm
structure Bd(σ:Ss)(n:Nat):Prop where
 ws:σ.ws.length<=400
 fs:σ.fs<=σ.ws.length
 ms:σ.ms.length+n<=1000000
theorem xq{σ σ':Ss}{ld:Int}{w:Wk}{f:List Wk}(h:fC σ ld w f=.ok σ'):σ.ws.length≠400/\σ'.ws.length=σ.ws.length+1/\σ'.fs=σ.fs/\σ'.ms=σ.ms/\σ'.hs=σ.hs:=by
 unfold fC at h;by_cases c:σ.ws.length=400
 .rw[if_pos c]at h;cases h
 .rw[if_neg c]at h;cases h;exact⟨c,by simp,rfl,rfl,rfl⟩
theorem vh{c:Sc}{σ σ':Ss}{ld:Int}{w:Wk}(h:ci c σ ld w=.ok σ'):σ.ws.length≠400/\σ'.ws.length=σ.ws.length+1/\σ'.fs<=σ.fs+1/\σ'.ms=σ.ms:=by
 unfold ci at h;by_cases k:w.1=.foot
 .rw[if_pos k]at h;unfold g9 at h;cases hv:lkS (rest w.2) c.feet with
  |none=>rw[hv]at h;cases h
  |some g =>
   rw[hv]at h;obtain⟨h1,h2,h3,h4,h5⟩:=xq h;exact⟨h1,h2,by rw[h3];exact Gi _,h4⟩
 .rw[if_neg k]at h;obtain⟨h1,h2,h3,h4,h5⟩:=xq h;exact⟨h1,h2,by rw[h3];exact HJ _,h4⟩
theorem sU{c:Sc}{byh:Bool}:∀{ws:List Wk} {σ σ':Ss} {ld:Int} (hm:∀w∈ws,w.1≠.mark),bX c σ ld byh ws=.ok σ'->(σ.ws.length<=400->σ'.ws.length<=400)/\(σ.fs<=σ.ws.length->σ'.fs<=σ'.ws.length)/\σ'.ms=σ.ms
 |[],σ,σ',ld,_,h=>by cases h;exact⟨id,id,rfl⟩
 |w::r,σ,σ',ld,hm,h=>by
  have h:(if w.1=.mark then(match dN σ (rest w.2)with|.error x=>.error x|.ok s'=>bX c s' ld byh r)else(match ci c σ ld w with|.error x=>.error x|.ok s'=>bX c { s' with bh:=byh } 0 byh r))=Except.ok σ':=h
  rw[if_neg (hm w Gk)]at h;cases e:ci c σ ld w with
  |error x=>rw[e]at h;cases h
  |ok s' =>
   rw[e]at h;obtain⟨b1,b2,b3,b4⟩:=vh e;obtain⟨i1,i2,i3⟩:=sU (λw hw=>hm w (Gh _ hw)) h;exact⟨λz=>i1 (by show s'.ws.length<=400;omega),λz=>i2 (by show s'.fs<=s'.ws.length;omega),i3.trans b4⟩
def GWk(w:Wk):Prop:=(w.1≠.entry/\∃n:List Nat,n.length<=200/\(∀d∈n,d<127)/\w.2=.str (tx n))\/(w.1=.entry/\∃k:Nat,w.2=.int (k:Int))
structure kG(c:Sc):Prop where
 few:c.nums.length<=200
 tl:c.titles.length=c.nums.length
 tw:∀t∈c.titles,t.length<=130/\∀w∈t,GWk w
 fl:c.feet.length<=200
 fw:∀p∈c.feet,p.2.length<=39/\∀w∈p.2,GWk w/\w.1≠.mark/\w.1≠.foot
 nl:∀n∈c.nums,∃l:List Nat,n=tx l/\l.length<=100
 nc:∀l:List Nat,tx l∈c.nums->∀d∈l,d<127
def qA(c:Sc)(w:Wk):Prop:=(w.1=.plain/\∃n:List Nat,w.2=.str (tx n))\/(w.1=.entry/\∃k:Nat,w.2=.int (k:Int)/\k<c.nums.length)\/(jz w.1=true/\∃n:List Nat,n.length<=200/\(∀d∈n,d<127)/\w.2=.str (tx n))
structure sV(c:Sc)(σ:Ss):Prop where
 ws:∀t∈σ.ws,qA c t.w/\t.foot.length<=40/\∀w∈t.foot,qA c w/\(w.1=.plain\/∃p∈c.feet,w∈p.2)
 ms:∀m∈σ.ms,∃l:List Nat,m.1=tx l/\l.length<=200/\∀d∈l,d<127
theorem FtA.get{F:Hp}:∀{vs:List (Key×V)} {ws:List (Str×List Wk)} {i:Nat} {p:Key×V},FtA F vs ws->vs[i]?=some p->∃q,ws[i]?=some q/\FtE F p q
 |v::_,w::_,0,x,h,e=>by cases e;exact⟨w,rfl,h.1⟩
 |_::_,_::_,i+1,x,h,e=>FtA.get (i:=i) h.2 (by simpa using e)
 |[],[],_,_,_,e=>by simp at e
theorem AQ{H:Hp}{a:Addr}{o o':HO}:upd (upd H a o) a o'=upd H a o':=by
 funext b
 by_cases e:b=a
 .subst e;rw[ac,ac]
 .rw[aj e,aj e,aj e]
theorem B4{H:Hp}{a:Addr}{o:HO}(h:H a=some o):upd H a o=H:=by
 funext b
 by_cases e:b=a
 .subst e;rw[ac,h]
 .rw[aj e]
theorem AR{H H2:Hp}{a:Addr}{o:Obj}{kvs:List (Key×V)}(h:H a=some (.dK kvs))(s:am (upd H a (.frz o (.dK kvs))) H2):am H (upd H2 a (.dK kvs)):=λb u z=>by
 by_cases e:b=a
 .subst e;rw[ac];rw[h]at z;exact z
 .rw[aj e];exact s _ _ (by rw[aj e];exact z)
theorem Fd(k:Kw):inV (.str k.s) [.str (PySem.Str.ofString "number"),.str (PySem.Str.ofString "page"),.str (PySem.Str.ofString "row")]=jz k:=by
 cases k<;>decide +kernel
def zv(s:Ss)(w:Wk):V×V:=
 match w.1 with
 |.plain=>(.str "text",.str (rest w.2))
 |.entry=>(.str "page",.int (match w.2 with|.int k=>((s.hs.getD k.toNat (Hy,0)).2:Nat)|_=>0))
 |.number=>(.str "text",.str (k_ (sS s (rest w.2)) "0" s.hs))
 |k=>(.str k.s,.int (sS s (rest w.2):Nat))
def SyA(F:Hp)(v:V)(s:V×V):Prop:=∃a,v=.ref a/\F a=some (.tup [s.1,s.2])
theorem SyA.mono{F F':Hp}(m:am F F'){v:V}{s:V×V}(h:SyA F v s):SyA F' v s:=by
 obtain⟨a,e,h⟩:=h;exact⟨a,e,m _ _ h⟩
def TwA(σ:Ss)(F:Hp)(v:V)(t:Wt×Addr):Prop:=∃a s us,v=.ref a/\F a=some (.tup [.int t.1.lead,.bl t.1.kept,.ref s,.ref t.2])/\SyA F (.ref s) (zv σ t.1.w)/\F t.2=some (.lst us)/\aW (SyA F) us (t.1.foot.map (zv σ))
theorem TwA.mono{σ:Ss}{F F':Hp}(m:am F F'){v:V}{t:Wt×Addr}(h:TwA σ F v t):TwA σ F' v t:=by
 obtain⟨a,s,us,e,h1,h2,h3,h4⟩:=h;exact⟨a,s,us,e,m _ _ h1,h2.mono m,m _ _ h3,h4.imp λ_ _=>SyA.mono m⟩
def we(σ:Ss)(w:Wk):Prop:=(w.1=.plain/\∃n:List Nat,w.2=.str (tx n))\/(w.1=.entry/\∃k:Nat,w.2=.int (k:Int)/\k<σ.hs.length)\/(jz w.1=true/\∃(n:List Nat) (k:Nat),w.2=.str (tx n)/\lkS (tx n) σ.ms=some k)
def CC(σ:Ss):Prop:=∀t∈σ.ws,we σ t.w/\t.foot.length<=40/\∀w∈t.foot,we σ w
structure le(H F:Hp)(σ:Ss)(p:Addr)(vs:List V)(fs:List Addr):Prop where
 at_:F p=some (.lst vs)
 new:H p=none
 len:fs.length=σ.ws.length
 nd:fs.Nodup
 fr:∀f∈fs,H f=none/\f≠p
 all:aW (TwA σ (hid [p] F)) vs (σ.ws.zip fs)
theorem ftX{F F':Hp}(m:∀l ws,cQ F l ws->cQ F' l ws):∀{vs:List (Key×V)} {ws:List (Str×List Wk)},FtA F vs ws->FtA F' vs ws
 |[],[],_=>trivial
 |_::_,_::_,⟨⟨h1,l,h2,h3⟩,h⟩=>⟨⟨h1,l,h2,m _ _ h3⟩,ftX m h⟩
theorem FrX.get{H H':Hp}{x b:Addr}{u:HO}(f:FrX H H' x)(h:H b=some u)(n:b≠x):H' b=some u:=f b u n h
def RnW(c:Sc)(w:Wk):Prop:=GWk w/\(w.1=.entry->∃k:Nat,w.2=.int (k:Int)/\k<c.nums.length)
theorem RnW.ws{c:Sc}{w:Wk}(h:RnW c w)(n1:w.1≠.mark)(n2:w.1≠.foot):qA c w:=by
 obtain⟨g,en⟩:=h;rcases g with⟨ne,n,l1,l2,e⟩|⟨e,_⟩
 .cases hk:w.1 with
  |plain=>exact .inl ⟨hk,n,e⟩
  |entry=>exact absurd hk ne
  |mark=>exact absurd hk n1
  |foot=>exact absurd hk n2
  |number=>exact .inr (.inr ⟨by rw[hk];rfl,n,l1,l2,e⟩)
  |page=>exact .inr (.inr ⟨by rw[hk];rfl,n,l1,l2,e⟩)
  |row=>exact .inr (.inr ⟨by rw[hk];rfl,n,l1,l2,e⟩)
 .exact .inr (.inl ⟨e,en e⟩)
structure uL(c:Sc):Prop where
 fw:∀p∈c.feet,p.2.length<=39/\∀w∈p.2,qA c w
structure StB(c:Sc)(σ σ':Ss)(n:Nat):Prop where
 ok:sV c σ->sV c σ'
 ms:σ'.ms.length<=σ.ms.length+n
 ws:σ.ws.length<=400->σ'.ws.length<=400
 fs:σ.fs<=σ.ws.length->σ'.fs<=σ'.ws.length
theorem StB.refl{c:Sc}{σ:Ss}{n:Nat}:StB c σ σ n:=⟨id,Hs _ _,id,id⟩
theorem StB.trans{c:Sc}{σ σ1 σ2:Ss}{n m:Nat}(a:StB c σ σ1 n)(b:StB c σ1 σ2 m):StB c σ σ2 (n+m):=⟨λh=>b.ok (a.ok h),by have:=a.ms;have:=b.ms;omega,λh=>b.ws (a.ws h),λh=>b.fs (a.fs h)⟩
theorem StB.more{c:Sc}{σ σ1:Ss}{n m:Nat}(a:StB c σ σ1 n)(h:n<=m):StB c σ σ1 m:=⟨a.ok,by have:=a.ms;omega,a.ws,a.fs⟩
theorem yN{c:Sc}{σ σ':Ss}{ld:Int}{w:Wk}{f:List Wk}(h:fC σ ld w f=.ok σ')(hw:qA c w)(hf:f.length<=40/\∀w∈f,qA c w/\(w.1=.plain\/∃p∈c.feet,w∈p.2)):(sV c σ->sV c σ')/\σ'.ms=σ.ms/\σ'.hs=σ.hs/\σ'.fs=σ.fs/\σ'.ws.length=σ.ws.length+1/\σ.ws.length≠400:=by
 unfold fC at h;by_cases e:σ.ws.length=400
 .rw[if_pos e]at h;cases h
 .rw[if_neg e]at h;cases h;refine⟨λs=>⟨?_,s.ms⟩,rfl,rfl,rfl,by simp,e⟩;intro t ht;rcases List.mem_append.mp ht with ht|ht
  .exact s.ws t ht
  .rw[List.mem_singleton.mp ht];exact⟨hw,hf⟩
theorem B5{c:Sc}(fo:uL c){σ σ':Ss}{ld:Int}{w:Wk}(h:ci c σ ld w=.ok σ')(hw:RnW c w)(nm:w.1≠.mark):StB c σ σ' 0/\σ'.hs=σ.hs:=by
 unfold ci at h;by_cases k:w.1=.foot
 .rw[if_pos k]at h;unfold g9 at h;cases hv:lkS (rest w.2) c.feet with
  |none=>rw[hv]at h;cases h
  |some g =>
   rw[hv]at h;have gm:=fo.fw _ (r9 hv);have pl:qA c (.plain,.str (lM (σ.fs+1))):=.inl ⟨rfl,(lM (σ.fs+1)).cps.toList,by rw[<-zk]⟩;obtain⟨h1,h2,h3,h4,h5,h6⟩:=yN (c:=c) h pl ⟨by simp only[Gd];have:=gm.1;dsimp only at this;omega,λx hx=>by
    rcases List.mem_cons.mp hx with rfl|hx
    .exact⟨pl,.inl rfl⟩
    .exact⟨gm.2 x hx,.inr ⟨_,r9 hv,hx⟩⟩⟩
   refine⟨⟨λs=>h1 ⟨s.ws,s.ms⟩,by rw[h2];exact Gi _,λz=>?_,λz=>?_⟩,h3⟩
   .have:σ.ws.length≠400:=h6;have:σ'.ws.length=σ.ws.length+1:=h5;omega
   .have:σ'.ws.length=σ.ws.length+1:=h5;have:σ'.fs=σ.fs+1:=h4;omega
 .rw[if_neg k]at h;obtain⟨h1,h2,h3,h4,h5,h6⟩:=yN (c:=c) h (hw.ws nm k) ⟨by simp,by simp⟩;exact⟨⟨h1,by rw[h2];exact Gi _,λz=>by omega,λz=>by omega⟩,h3⟩
theorem lg{c:Sc}{σ:Ss}{ld:Int}{byh:Bool}{w:Wk}{r:List Wk}:bX c σ ld byh (w::r)=(if w.1=.mark then(match dN σ (rest w.2)with|.error x=>.error x|.ok s'=>bX c s' ld byh r)else(match ci c σ ld w with|.error x=>.error x|.ok s'=>bX c { s' with bh:=byh } 0 byh r)):=rfl
theorem oj{c:Sc}(fo:uL c){byh:Bool}:∀{ws:List Wk} {σ σ':Ss} {ld:Int},(∀w∈ws,RnW c w)->bX c σ ld byh ws=.ok σ'->StB c σ σ' ws.length/\σ'.hs=σ.hs
 |[],σ,σ',ld,_,h=>by cases h;exact⟨.refl,rfl⟩
 |w::r,σ,σ',ld,hw,h=>by
  rw[lg]at h;have hr:∀x∈r,RnW c x:=λx hx=>hw x (Gh _ hx);have h0:=hw w Gk;by_cases k:w.1=.mark
  .rw[if_pos k]at h;cases e:dN σ (rest w.2)with
   |error x=>rw[e]at h;cases h
   |ok s' =>
    rw[e]at h;obtain⟨b,hs⟩:=oj fo hr h;unfold dN at e;by_cases z:(lkS (rest w.2) σ.ms).isSome=true
    .rw[if_pos z]at e;cases e
    .rw[if_neg z]at e;cases e;have b0:StB c σ { σ with ms:=σ.ms++[(rest w.2,σ.ws.length)] } 1:=⟨λs=>⟨s.ws,λm hm=>by
      rcases List.mem_append.mp hm with hm|hm
      .exact s.ms m hm
      .rw[List.mem_singleton.mp hm];rcases h0.1 with⟨_,n,l1,l2,e⟩|⟨e,_⟩
       .exact⟨n,by rw[e];rfl,l1,l2⟩
       .rw[k]at e;cases e⟩,by simp,id,id⟩
     exact⟨(b0.trans b).more (by simp only[Gd];omega),hs⟩
  .rw[if_neg k]at h;cases e:ci c σ ld w with
   |error x=>rw[e]at h;cases h
   |ok s' =>
    rw[e]at h;obtain⟨b1,h1⟩:=B5 fo e h0 k;obtain⟨b2,h2⟩:=oj fo hr h;have b3:StB c s' { s' with bh:=byh } 0:=⟨λs=>⟨s.ws,s.ms⟩,Gi _,id,id⟩;exact⟨((b1.trans b3).trans b2).more (by simp only[Gd];omega),h2.trans h1⟩
def RdW(w:Wk):Prop:=GWk w/\w.1≠.entry
def TgG:Tg->Prop
 |.head n ws=>1<=n/\n<=3/\ws.length<=130/\∀w∈ws,RdW w
 |.par ws=>ws.length<=600/\∀w∈ws,RdW w
 |_=>True
def FtG(feet:List (Str×List Wk)):Prop:=feet.length<=200/\∀p∈feet,p.2.length<=39/\∀w∈p.2,RdW w/\w.1≠.mark/\w.1≠.foot
def g_(c:Sc)(things:List Tg):Except Xc Ss:=
 match iH c ss0 things with
 |.error e=>.error e
 |.ok σ=>match eO c σ with
  |some e=>.error e
  |none=>.ok σ
theorem RdW.run{c:Sc}{w:Wk}(h:RdW w):RnW c w:=⟨h.1,λz=>absurd z h.2⟩
theorem kG.run{c:Sc}(so:kG c)(st:∀t∈c.titles,∀w∈t,RdW w){k:Nat}(hk:k<c.nums.length):(∀w∈((.plain,.str (c.nums.getD k Hy))::c.titles.getD k []:List Wk),RnW c w)/\(∀w∈cg c k (c.nums.getD k Hy),RnW c w)/\(c.titles.getD k []).length<=130:=by
 have hn:c.nums[k]?=some (c.nums.getD k Hy):=by rw[GL,Ge hk];rfl
 have ht:c.titles[k]?=some (c.titles.getD k []):=by rw[GL,Ge (by rw[so.tl];exact hk)];rfl
 obtain⟨l,e,ll⟩:=so.nl _ (Gj hn);have p:RnW c (.plain,.str (c.nums.getD k Hy)):=⟨.inl ⟨by show Kw.plain≠Kw.entry;decide,l,by omega,so.nc l (by rw[<-e];exact Gj hn),by rw[e]⟩,λz=>by cases z⟩;have tw:=so.tw _ (Gj ht);have tr:=st _ (Gj ht);refine⟨λw hw=>?_,λw hw=>?_,tw.1⟩
 .rcases List.mem_cons.mp hw with rfl|hw
  .exact p
  .exact(tr w hw).run
 .unfold cg at hw;rcases List.mem_cons.mp hw with rfl|hw
  .exact p
  .rcases List.mem_append.mp hw with hw|hw
   .exact(tr w (List.mem_filter.mp hw).1).run
   .rw[List.mem_singleton.mp hw];exact⟨.inr ⟨rfl,k,rfl⟩,λ_=>⟨k,rfl,hk⟩⟩
theorem xr{c:Sc}(so:kG c)(fo:uL c)(st:∀t∈c.titles,∀w∈t,RdW w):∀{ns:List Str} {σ σ':Ss} {ld:Int} {k:Nat},c.nums.drop k=ns->fe c σ ld k ns=.ok σ'->StB c σ σ' 0/\σ'.hs=σ.hs
 |[],σ,σ',ld,k,_,h=>by cases h;exact⟨.refl,rfl⟩
 |n::r,σ,σ',ld,k,hd,h=>by
  have hk:k<c.nums.length:=by
   by_cases z:k<c.nums.length
   .exact z
   .rw[Jc (by omega)]at hd;cases hd
  have e0:c.nums.getD k Hy=n:=by
   rw[Hg hk]at hd;injection hd with hd _;rw[GL,Ge hk,hd];rfl
  have hd2:c.nums.drop (k+1)=r:=by
   rw[Hg hk]at hd;injection hd
  have h:(match bX c σ ld false (cg c k n)with|.error x=>.error x|.ok s'=>fe c s' 1 (k+1) r)=Except.ok σ':=h
  cases e:bX c σ ld false (cg c k n)with
  |error x=>rw[e]at h;cases h
  |ok s' =>
   rw[e]at h;have rn:=(so.run st hk).2.1;rw[e0]at rn;obtain⟨b1,h1⟩:=oj fo rn e;obtain⟨b2,h2⟩:=xr so fo st hd2 h;have nm:=sU (λw hw=>?_) e
   .exact⟨⟨λs=>b2.ok (b1.ok s),by have:=b2.ms;rw[nm.2.2]at this;exact this,λz=>b2.ws (b1.ws z),λz=>b2.fs (b1.fs z)⟩,h2.trans h1⟩
   .unfold cg at hw;rcases List.mem_cons.mp hw with rfl|hw
    .show Kw.plain≠Kw.mark;decide
    .rcases List.mem_append.mp hw with hw|hw
     .simpa using(List.mem_filter.mp hw).2
     .rw[List.mem_singleton.mp hw];show Kw.entry≠Kw.mark;decide
def bP:Tg->Nat
 |.head _ _=>1
 |_=>0
theorem AS{c:Sc}(so:kG c)(fo:uL c)(st:∀t∈c.titles,∀w∈t,RdW w){σ σ':Ss}{t:Tg}(h:gp c σ t=.ok σ')(tg:TgG t)(hk:bP t=1->σ.hs.length<c.nums.length):StB c σ σ' 600/\σ'.hs.length=σ.hs.length+bP t:=by
 cases t with
 |page=>cases h;exact⟨⟨λs=>⟨s.ws,s.ms⟩,Hs _ _,id,id⟩,rfl⟩
 |odd=>cases h;exact⟨⟨λs=>⟨s.ws,s.ms⟩,Hs _ _,id,id⟩,rfl⟩
 |lst =>
  obtain⟨b,e⟩:=xr so fo st (k:=0) rfl h;exact⟨b.more (by omega),by rw[e];rfl⟩
 |par ws =>
  obtain⟨b,e⟩:=oj fo (λw hw=>(tg.2 w hw).run) h;exact⟨b.more tg.1,by rw[e];rfl⟩
 |head n ws =>
  have hk:=hk rfl;obtain⟨r1,r2,r3⟩:=so.run st hk;obtain⟨b,e⟩:=oj fo r1 h;have b0:StB c σ { σ with hs:=σ.hs++[(c.nums.getD σ.hs.length Hy,σ.ws.length)] } 0:=⟨λs=>⟨s.ws,s.ms⟩,Gi _,id,id⟩;exact⟨(b0.trans b).more (by simp only[Gd];omega),by rw[e];simp[bP]⟩
theorem Eo{c:Sc}{σ:Ss}(ss:sV c σ)(fo:uL c)(hl:σ.hs.length=c.nums.length)(ck:eO c σ=none):CC σ:=by
 have nb:∀w∈σ.ws.map (·.w)++c.feet.flatMap (·.2),kZ σ w=false:=by
  unfold eO at ck;by_cases a:(σ.ms.any λm=>m.2=σ.ws.length)=true
  .rw[if_pos a]at ck;cases ck
  rw[if_neg a]at ck;by_cases b:((σ.ws.map (·.w)++c.feet.flatMap (·.2)).any (kZ σ))=true
  .rw[if_pos b]at ck;cases ck
  rw[Hw,Ia]at b;intro w hw;exact Bool.eq_false_iff.mpr (b w hw)
 have one:∀w,qA c w->(jz w.1=true->kZ σ w=false)->we σ w:=λw h z=>by
  rcases h with h|⟨h,k,e,kl⟩|⟨h,n,l1,l2,e⟩
  .exact .inl h
  .exact .inr (.inl ⟨h,k,e,by rw[hl];exact kl⟩)
  .have z:=z h;unfold kZ at z;rw[h,e]at z;change (true&&(lkS (tx n) σ.ms).isNone)=false at z;cases hv:lkS (tx n) σ.ms with
   |none=>rw[hv]at z;cases z
   |some k=>exact .inr (.inr ⟨h,n,k,e,hv⟩)
 intro t ht;obtain⟨h1,h2,h3⟩:=ss.ws t ht;refine⟨one _ h1 λ_=>nb _ (HG _ (List.mem_map_of_mem ht)),h2,λw hw=>one _ (h3 w hw).1 λz=>?_⟩;rcases(h3 w hw).2 with e|⟨p,hp,hw⟩
 .rw[e]at z;cases z
 .exact nb _ (GS _ (List.mem_flatMap.mpr ⟨p,hp,hw⟩))
theorem le.base{G H F:Hp}{σ:Ss}{p:Addr}{vs:List V}{fs:List Addr}(T:le H F σ p vs fs)(s:am G H):le G F σ p vs fs:=⟨T.at_,s.free T.new,T.len,T.nd,λf hf=>⟨s.free (T.fr f hf).1,(T.fr f hf).2⟩,T.all⟩
theorem le.same{H F F':Hp}{σ:Ss}{p:Addr}{vs:List V}{fs:List Addr}(T:le H F σ p vs fs)(s:am F F'):le H F' σ p vs fs:=⟨s _ _ T.at_,T.new,T.len,T.nd,T.fr,T.all.imp λ_ _=>TwA.mono (a9 s)⟩
end Tl

namespace L2
open PySem PySem.Spec PyProof.Rows Tl
theorem B6{X:Cx}{K:PySem.W.Frag}{tg l:Expr}{tl:TE}(hK:X.K=K)(hl:PE X l tl):PI X tg l (Cu K tl):=by
 subst hK;exact bq hl
theorem sW{K:PySem.W.Frag}{a:Addr}{xs:List V}{cv:St}{tc:TT}{te:TE}{Fin:List V->Hp->Prop}{H1:Hp}(Pv:Nat->List V->Hp->Prop)(h0:Pv 0 [] H1)(hl:∀i ys H,i<=xs.length->Pv i ys H->SqL K H a xs)(hz:∀i ys H,i<xs.length->Pv i ys H->ys.length<Gv)
  (hs:∀i x ys H,xs[i]?=some x->Pv i ys H->∃b u v,x=.ref b/\SqT K H b [u,v]/\tc (some u::some v::cv) H λb H3=>if b=true then te (some u::some v::cv) H3 λy H4=>Pv (i+1) (ys++[y]) H4 else Pv (i+1) ys H3)
  (hd:∀ys H,Pv xs.length ys H->Fin ys H):gLC (Itl K a) (g2 K) tc te 2 cv Fin H1:=by
 refine⟨λi m ys H=>m=xs.length-i/\i<=xs.length/\Pv i ys H,⟨xs.length,by simp,GZ _,h0⟩,?_⟩;rintro i m ys H ⟨rfl,hi,p⟩;have q:=hl i ys H hi p;by_cases hlt:i<xs.length
 .refine .inr ⟨⟨xs,xs[i],q,by simp[hlt]⟩,hz i ys H hlt p,Pv (i+1),λys' H' p'=>⟨xs.length-(i+1),by omega,rfl,hlt,p'⟩,λv H' y own ho=>?_⟩;obtain⟨e,y⟩:=y;subst e;obtain⟨b,u,w,rfl,hb,h⟩:=hs i v ys _ (y xs q) p
  match own,ho with
  |[o1,o2],_=>exact⟨b,_,rfl,hb,rfl,_,_,rfl,_,_,rfl,rfl,⟨[some u,some w],rfl,rfl⟩,h⟩
 .have e:i=xs.length:=by omega
  subst e;exact .inl ⟨⟨xs,q,Gi _⟩,hd ys H p⟩
section
variable {X:Cx}{elt iter:Expr}{ifs:List Expr}{scope:Scope}{cl:List (Str×Addr)}{pos px py pz' tp:Pos}{k1:Nat}{x y z:Str}{caps:List Str}{js:List Nat}{tc:TT}{te:TE}{wi:TI}
def g3(K:PySem.W.Frag):TG:=Bv K 3 (rR (bD 0) (rR (bD 1) (rR (bD 2) Bu)))
theorem Ep(hc:X.calm=true)(L:oG X scope cl [x,y,z] caps js)(hi:PI X (.Tuple [.Name x px,.Name y py,.Name z pz'] k1 tp) iter wi)
  (ht:∀s H C ex,PTs (X.blk (x::y::z::caps) s H scope cl C ex) ifs tc)(he:∀s H C ex,PE (X.blk (x::y::z::caps) s H scope cl C ex) elt te)
  (hN:(x::y::z::caps).Nodup:=by decide +kernel)(hx:(Ij scope X.env).names.lookup x=some .local:=by with_unfolding_all rfl)(hy:(Ij scope X.env).names.lookup y=some .local:=by with_unfolding_all rfl)(hz:(Ij scope X.env).names.lookup z=some .local:=by with_unfolding_all rfl)
  (hs:∀x,HE iter X.env x=pure x:=by intro _;rfl):PE X (.ListComp elt [⟨.Tuple [.Name x px,.Name y py,.Name z pz'] k1 tp,iter,ifs,0⟩] scope pos) (uC wi (g3 X.K) tc te 3 js):=
 xc (own:=[x,y,z]) (g:=g3 X.K) hc L hi (λs H C ex=>fc hc (bf (aS (i:=0) hN rfl (.inl hx) (.inr hx)) (bf (aS (i:=1) hN rfl (.inl hy) (.inr hy)) (bf (aS (i:=2) hN rfl (.inl hz) (.inr hz)) dW)))) ht he hs
end
theorem Er{X:Cx}{elt iter:Expr}{ifs:List Expr}{scope:Scope}{cl:List (Str×Addr)}{pos px py tp:Pos}{k1:Nat}{x y:Str}{caps:List Str}{js:List Nat}{tc:TT}{te:TE}{wi:TI}{k:Nat}{v:Str}{pv' spos:Pos}(hc:X.calm=true)(L:oG X scope cl [x,y] caps js)(hi:PI X (.Tuple [.Name x px,.Name y py] k1 tp) iter wi)
  (ht:∀s H C ex,PTs (X.blk (x::y::caps) s H scope cl C ex) ifs tc)(he:∀s H C ex,PE (X.blk (x::y::caps) s H scope cl C ex) elt te)
  (hXN:X.N.Nodup)(hk:X.N[k]?=some v)(hv:X.env.scope.names.lookup v=some .local)(hN:(x::y::caps).Nodup:=by decide +kernel)(hx:(Ij scope X.env).names.lookup x=some .local:=by with_unfolding_all rfl)(hy:(Ij scope X.env).names.lookup y=some .local:=by with_unfolding_all rfl)
  (hsw:IW (.ListComp elt [⟨.Tuple [.Name x px,.Name y py] k1 tp,iter,ifs,0⟩] scope pos) (some (.Name v pv')) spos.line X.env=pure true:=by rfl)
  (hs:∀x,HE iter X.env x=pure x:=by intro _;rfl):PS X (.Assign [.Name v pv'] (.ListComp elt [⟨.Tuple [.Name x px,.Name y py] k1 tp,iter,ifs,0⟩] scope pos) spos) (qg (uC wi (g2 X.K) tc te 2 js) (bD k)):=
 Ax (own:=[x,y]) (g:=g2 X.K) hc L hi (λs H C ex=>fc hc (bf (aS (i:=0) hN rfl (.inl hx) (.inr hx)) (bf (aS (i:=1) hN rfl (.inl hy) (.inr hy)) dW))) ht he hXN hk hv hsw hs
theorem B7{K:PySem.W.Frag}{a:Addr}{xs:List V}{cv:St}{tc:TT}{te:TE}{Fin:List V->Hp->Prop}{H1:Hp}(Pv:Nat->List V->Hp->Prop)(h0:Pv 0 [] H1)(hl:∀i ys H,i<=xs.length->Pv i ys H->SqL K H a xs)(hz:∀i ys H,i<xs.length->Pv i ys H->ys.length<Gv)
  (hs:∀i x ys H,xs[i]?=some x->Pv i ys H->∃b u v w,x=.ref b/\SqT K H b [u,v,w]/\tc (some u::some v::some w::cv) H λb H3=>if b=true then te (some u::some v::some w::cv) H3 λy H4=>Pv (i+1) (ys++[y]) H4 else Pv (i+1) ys H3)
  (hd:∀ys H,Pv xs.length ys H->Fin ys H):gLC (Itl K a) (g3 K) tc te 3 cv Fin H1:=by
 refine⟨λi m ys H=>m=xs.length-i/\i<=xs.length/\Pv i ys H,⟨xs.length,by simp,GZ _,h0⟩,?_⟩;rintro i m ys H ⟨rfl,hi,p⟩;have q:=hl i ys H hi p;by_cases hlt:i<xs.length
 .refine .inr ⟨⟨xs,xs[i],q,by simp[hlt]⟩,hz i ys H hlt p,Pv (i+1),λys' H' p'=>⟨xs.length-(i+1),by omega,rfl,hlt,p'⟩,λv H' y own ho=>?_⟩;obtain⟨e,y⟩:=y;subst e;obtain⟨b,u,w,z,rfl,hb,h⟩:=hs i v ys _ (y xs q) p
  match own,ho with
  |[o1,o2,o3],_=>exact⟨b,_,rfl,hb,rfl,_,_,rfl,_,_,rfl,_,_,rfl,rfl,⟨[some u,some w,some z],rfl,rfl⟩,h⟩
 .have e:i=xs.length:=by omega
  subst e;exact .inl ⟨⟨xs,q,Gi _⟩,hd ys H p⟩
end L2

namespace K59
open PySem PySem.Spec L2 Tl

def neW(ps:List (List Nat)):List (List Nat):=ps.filter λw=>!w.isEmpty
def c_(l:List Nat):List (List Nat):=neW (bu 32 l)
theorem uj(c:Nat):∀l:List Nat,((bu c l).map (·.length)).sum+(bu c l).length=l.length+1
 |[]=>rfl
 |x::r=>by
  have ih:=uj c r;rw[gk];by_cases hx:x=c
  .rw[if_pos hx,Gp,Hv,Gd,Gd];simp only[Gy];omega
  .rw[if_neg hx];cases e:bu c r with
   |nil=>exact absurd e (vd c r)
   |cons q qs =>
    rw[e]at ih;simp only[Gp,Hv,Gd]at ih⊢;omega
theorem lP{ls:List (List Nat)}{i:Nat}{y:V}(h:((ls.map tx).map V.str)[i]?=some y):∃w,ls[i]?=some w/\y=V.str (tx w):=by
 rw[GD,GD]at h;cases e:ls[i]? with
 |none=>rw[e]at h;cases h
 |some w=>rw[e]at h;exact⟨w,rfl,(GW h).symm⟩
theorem B8(ps:List (List Nat))(w:List Nat):neW (ps++[w])=if w=[]then neW ps else neW ps++[w]:=by
 unfold neW;rw[Hj];cases w with
 |nil=>simp
 |cons a r=>simp

def isL(c:Nat):Bool:=decide (97<=c/\c<=122)
def isF(c:Nat):Bool:=decide (48<=c/\c<=57)
def LL:List Nat:=[97,98,99,100,101,102,103,104,105,106,107,108,109,110,111,112,113,114,115,116,117,118,119,120,121,122]
def FF:List Nat:=[48,49,50,51,52,53,54,55,56,57]
theorem FP:(PySem.Str.ofString "abcdefghijklmnopqrstuvwxyz")=tx LL:=by decide +kernel
theorem FQ:(PySem.Str.ofString "0123456789")=tx FF:=by decide +kernel
theorem Fe:(PySem.Str.ofString "abcdefghijklmnopqrstuvwxyz0123456789")=tx (LL++FF):=by decide +kernel
theorem AT(c:Nat):decide (c∈LL)=isL c:=by
 by_cases h:c<123
 .have:∀c<123,decide (c∈LL)=isL c:=by decide +kernel
  exact this c h
 .have h1:c∉LL:=λhm=>h ((show ∀x∈LL,x<123 by decide) c hm);unfold isL;rw[decide_eq_false h1,decide_eq_false (by omega)]
theorem AU(c:Nat):decide (c∈FF)=isF c:=by
 by_cases h:c<123
 .have:∀c<123,decide (c∈FF)=isF c:=by decide +kernel
  exact this c h
 .have h1:c∉FF:=λhm=>h ((show ∀x∈FF,x<123 by decide) c hm);unfold isF;rw[decide_eq_false h1,decide_eq_false (by omega)]
theorem AV(c:Nat):(!(Hr (PySem.Str.ofString "abcdefghijklmnopqrstuvwxyz") ⟨#[c]⟩ 0 (PySem.Str.ofString "abcdefghijklmnopqrstuvwxyz").length 1).isEmpty)=isL c:=by rw[FP,ub,AT]
theorem AW(c:Nat):(!(Hr (PySem.Str.ofString "0123456789") ⟨#[c]⟩ 0 (PySem.Str.ofString "0123456789").length 1).isEmpty)=isF c:=by rw[FQ,ub,AU]
theorem Dm(c:Nat):(!(Hr (PySem.Str.ofString "abcdefghijklmnopqrstuvwxyz0123456789") ⟨#[c]⟩ 0 (PySem.Str.ofString "abcdefghijklmnopqrstuvwxyz0123456789").length 1).isEmpty)=(isL c||isF c):=by
 rw[Fe,ub,<-AT,<-AU];by_cases h1:c∈LL
 .rw[decide_eq_true (HG _ h1),decide_eq_true h1];rfl
 .by_cases h2:c∈FF
  .rw[decide_eq_true (GS _ h2),decide_eq_true h2,Bool.or_true]
  .rw[decide_eq_false h1,decide_eq_false h2,decide_eq_false (λh=>(List.mem_append.mp h).elim h1 h2)];rfl
theorem Dn{c:Nat}(h:isL c=true):isF c=false:=by
 unfold isL at h;have:=of_decide_eq_true h;exact decide_eq_false (by omega)
def bQ:List Nat->Bool
 |[]=>false
 |c::r=>decide ((c::r).length<=12)&&(isL c&&(c::r).all λd=>isL d||isF d)
theorem vk{c:Nat}{r:List Nat}(h:¬ (c::r).length<=12):bQ (c::r)=false:=by
 show(decide _&&_)=false;rw[decide_eq_false h,JE]
theorem oM{c:Nat}{r:List Nat}(h:(c::r).length<=12):bQ (c::r)=(isL c&&(c::r).all λd=>isL d||isF d):=by
 show(decide _&&_)=_;rw[decide_eq_true h,Jm]
theorem ce:(PySem.Str.ofString "")=tx []:=by decide +kernel
theorem xu(c:Nat)(r:List Nat):decide (V.str (tx (c::r))=V.str (PySem.Str.ofString ""))=false:=by
 refine decide_eq_false λh=>?_;have h2:=V.str.inj h;rw[ce]at h2;have h3:=jx h2;cases h3
theorem xv:decide (V.str (tx [])=V.str (PySem.Str.ofString ""))=true:=decide_eq_true (by rw[ce])
theorem FR(c:Nat)(r:List Nat):Txt.slice (tx (c::r)) none (some 1)=tx [c]:=by
 rw[show(some (1:Int))=some ((1:Nat):Int)from rfl,fj,cut_to];rfl
theorem FS(c:Nat)(r:List Nat):Txt.slice (tx (c::r)) (some 1) none=tx r:=by
 rw[show(some (1:Int))=some ((1:Nat):Int)from rfl,fj,cut_from];rfl
theorem c33:(PySem.Str.ofString "!")=tx [33]:=by decide +kernel
theorem Ff(c:Nat):decide (V.str (tx [c])=V.str (PySem.Str.ofString "!"))=decide (c=33):=by
 rw[c33];by_cases h:c=33
 .subst h;rw[decide_eq_true rfl,decide_eq_true rfl]
 .rw[decide_eq_false h];refine decide_eq_false λe=>h ?_;have:=jx (V.str.inj e);simpa using this
theorem Es(l:List Nat)(f:Nat->Bool):((l.map f).all id)=l.all f:=by rw[List.all_map];rfl

def opn:List Nat->Bool
 |c::r=>decide (c=91)&&bQ r
 |[]=>false
section
variable {cn:Option Nat}{w:List Nat}{t:List (List Nat)}{m:Nat}
end
theorem bY{s:Str}{l:List Nat}(h:s=tx l)(w:List Nat):decide (V.str (tx w)=V.str s)=decide (w=l):=by
 rw[h];by_cases e:w=l
 .rw[decide_eq_true e,e];exact decide_eq_true rfl
 .rw[decide_eq_false e];exact decide_eq_false λz=>e (jx (V.str.inj z))
theorem c91:(PySem.Str.ofString "[")=tx [91]:=by decide +kernel
theorem FT:(PySem.Str.ofString "|")=tx Ej:=by decide +kernel
theorem Et:(PySem.Str.ofString "]")=tx Ek:=by decide +kernel
def NdA(F:Hp)(v:V)(t:List Nat):Prop:=∃b,v=.ref b/\F b=some (.tup [.str "word",.str (tx t)])
theorem NdA.mono{F F':Hp}(s:am F F'){v:V}{t:List Nat}(h:NdA F v t):NdA F' v t:=by
 obtain⟨b,e,h⟩:=h;exact⟨b,e,s _ _ h⟩
theorem NdsA.mono{F F':Hp}(s:am F F'){vs:List V}{ts:List (List Nat)}(h:aW (NdA F) vs ts):aW (NdA F') vs ts:=h.imp λ_ _=>NdA.mono s
theorem a7{α:Type}{l:List α}{i:Nat}{x:α}(h:l[i]?=some x):l.take (i+1)=l.take i++[x]:=by
 obtain⟨hi,e⟩:=List.getElem?_eq_some_iff.mp h;rw[HF,h];rfl

def li:List (Key×V):=[(.inr (PySem.Str.ofString "#"),.str (PySem.Str.ofString "mark")),(.inr (PySem.Str.ofString "@"),.str (PySem.Str.ofString "number")),(.inr (PySem.Str.ofString "&"),.str (PySem.Str.ofString "page")),(.inr (PySem.Str.ofString "^"),.str (PySem.Str.ofString "row")),(.inr (PySem.Str.ofString "~"),.str (PySem.Str.ofString "foot"))]
inductive om (w:GJ):List Hd->List (Key×V)->Prop
 |nil:om w [] []
 |cons {e:Hd} {k:Key} {v:V} {es:List Hd} {kvs:List (Key×V)}:mC k e.key=true->e.hash=DO w k->bi v e.val->om w es kvs->om w (e::es) ((k,v)::kvs)
def xw(w:GJ)(es:Array Hd)(kvs:List (Key×V)):Prop:=om w es.toList kvs/\(kvs.map (·.1)).Nodup
theorem AX{P:GH}{w:GJ}{es:List Hd}{kvs:List (Key×V)}(h:om w es kvs):∃vs,KV kvs vs/\Pairs (bz P w) es vs/\vs.map (·.1)=kvs.map (·.1)/\∀e∈es,∃k,(bz P w).is k e.key=true/\e.hash=(bz P w).hash k:=by
 induction h with
 |nil=>exact⟨[],.nil,.nil,rfl,λe he=>nomatch he⟩
 |@cons e k v es kvs h1 h2 h3 _ ih =>
  obtain⟨vs,a,b,c,d⟩:=ih;refine⟨(k,e.val)::vs,.cons ⟨rfl,h3⟩ a,.cons h1 rfl b,by rw[Gp,Gp,c],λx hx=>?_⟩;rcases List.mem_cons.mp hx with rfl|hx
  .exact⟨k,h1,h2⟩
  .exact d x hx
theorem yO{P:GH}{w:GJ}{K:PySem.W.Frag}{a:Addr}{oc:F_}{od:Option Addr}{es:Array Hd}{ep:Nat}{sl:Array (Option F_)}{kvs:List (Key×V)}(b:(a==HI)=false)
  (l:K.lookup a=some ⟨oc,od,.dict es ep,sl⟩)(c:(⟨oc,od,.dict es ep,sl⟩:Obj).ExactDict)(e:xw w es kvs):uD P w K a kvs:=by
 obtain⟨vs,h1,h2,h3,h4⟩:=AX (P:=P) e.1;exact⟨b,_,vs,l,h1,es,ep,c,rfl,λx hx=>h4 x (by simpa using hx),h2,by rw[h3];exact e.2⟩
def mk(c:Nat):Option String:=if c=35 then some "mark" else if c=64 then some "number" else if c=38 then some "page" else if c=94 then some "row" else if c=126 then some "foot" else none
def lm:List Nat->String×List Nat
 |[]=>("plain",[])
 |c::r=>match mk c,bQ r with
  |some s,true=>(s,r)
  |_,_=>if c=33/\r≠[]then("plain",r)else("plain",c::r)
theorem B9(c:Nat)(h:mk c=none):cX li (.inr ⟨#[c]⟩)=none:=by
 unfold mk at h
 split at h
 .cases h
 split at h
 .cases h
 split at h
 .cases h
 split at h
 .cases h
 split at h
 .cases h
 rename_i h1 h2 h3 h4 h5
 have key:∀d:Nat,c≠d->¬ ((IQ (tx [d]):Key)=IQ (tx [c])):=λd hd e=>hd (by
  have e2:=jx (Sum.inr.inj e);have e3:d=c:=by simpa using e2
  exact e3.symm)
 unfold li;rw[show(PySem.Str.ofString "#")=tx [35] by decide +kernel,show(PySem.Str.ofString "@")=tx [64] by decide +kernel,show(PySem.Str.ofString "&")=tx [38] by decide +kernel,show(PySem.Str.ofString "^")=tx [94] by decide +kernel,show(PySem.Str.ofString "~")=tx [126] by decide +kernel];show cX _ (IQ (tx [c]))=none;rw[dY (key 35 h1),dY (key 64 h2),dY (key 38 h3),dY (key 94 h4),dY (key 126 h5)];rfl
theorem B_(c:Nat)(s:String)(h:mk c=some s):cX li (.inr ⟨#[c]⟩)=some (.str (PySem.Str.ofString s)):=by
 have hc:c=35\/c=64\/c=38\/c=94\/c=126:=by
  unfold mk at h
  split at h
  .omega
  split at h
  .omega
  split at h
  .omega
  split at h
  .omega
  split at h
  .omega
  cases h
 rcases hc with rfl|rfl|rfl|rfl|rfl
 all_goals
  have e:=GW h;subst e;decide +kernel

def plL(c:Nat)(r:List Nat):Kw×List Nat:=if c=33/\r≠[]then(.plain,r)else(.plain,c::r)
def kwC(c:Nat)(r:List Nat):Kw×List Nat:=if bQ r=true then(if c=35 then(.mark,r)else if c=64 then(.number,r)else if c=38 then(.page,r)else if c=94 then(.row,r)else if c=126 then(.foot,r)else plL c r)else plL c r
def kwL:List Nat->Kw×List Nat
 |[]=>(.plain,[])
 |c::r=>kwC c r
theorem Do:∀t:List Nat,PySem.Str.ofString (lm t).1=(kwL t).1.s/\(lm t).2=(kwL t).2
 |[]=>⟨rfl,rfl⟩
 |c::r=>by
  have pl:∀q:String×List Nat,q=(if c=33/\r≠[]then("plain",r)else("plain",c::r))->PySem.Str.ofString q.1=(plL c r).1.s/\q.2=(plL c r).2:=λq e=>by
   rw[e];unfold plL;by_cases h:c=33/\r≠[]
   .rw[if_pos h,if_pos h];exact⟨rfl,rfl⟩
   .rw[if_neg h,if_neg h];exact⟨rfl,rfl⟩
  have hk:lm (c::r)=match mk c,bQ r with
   |some s,true=>(s,r)
   |_,_=>if c=33/\r≠[]then("plain",r)else("plain",c::r):=rfl
  show PySem.Str.ofString (lm (c::r)).1=(kwC c r).1.s/\(lm (c::r)).2=(kwC c r).2;rw[hk];unfold kwC mk;cases hn:bQ r with
  |false =>
   rw[if_neg (show ¬ (false=true) by decide)];refine pl _ ?_
   split
   .rename_i h;cases h
   .rfl
  |true =>
   rw[if_pos rfl];by_cases h1:c=35
   .simp[h1,Kw.s]
   by_cases h2:c=64
   .simp[h2,Kw.s]
   by_cases h3:c=38
   .simp[h3,Kw.s]
   by_cases h4:c=94
   .simp[h4,Kw.s]
   by_cases h5:c=126
   .simp[h5,Kw.s]
   simp only[h1,h2,h3,h4,h5,if_false];exact pl _ rfl
def wkL(t:List Nat):Wk:=((kwL t).1,.str (tx (kwL t).2))
structure oN(t:List Nat):Prop where
 ne:t≠[]
 len:t.length<=61
 opn:opn t=false
 pl:(kwL t).1=.plain->(kwL t).2.length<=60
 sg:∀d∈t,d<127
def gT:List (Key×V):=[(.inr (PySem.Str.ofString "page"),.int 3),(.inr (PySem.Str.ofString "odd"),.int 4)]
def kwV(k:Kw):V:=.str k.s
theorem sJ{k:Kw}:∀{bs:List Kw},k∉bs->inV (kwV k) (bs.map kwV)=false
 |[],_=>rfl
 |b::r,h=>by
  have e:¬ (b=k):=λz=>h (by rw[z];exact Gk);have ih:=sJ (bs:=r) λz=>h (Gh _ z);unfold inV at ih⊢;rw[Gp,Iy,ih,Bool.or_false];show(b.s==k.s)=false;rw[Kw.beq,decide_eq_false e]
theorem xx:∀bs:List Kw,(bs.map kwV).all jd=true
 |[]=>rfl
 |_::r=>by rw[Gp,IP,xx r];rfl

theorem c32:(PySem.Str.ofString " ")=tx [32]:=by decide +kernel
def dI:List Nat:=[46,102,111,111,116]
def oO:List Nat:=[46,112,97,103,101]
def sX:List Nat:=[46,111,100,100]
def je:List Nat:=[46,108,105,115,116]
def FU:List Nat:=[46,108,101,116]
theorem jZ:(PySem.Str.ofString ".foot")=tx dI:=by decide +kernel
theorem zw:(PySem.Str.ofString ".let")=tx FU:=by decide +kernel
theorem zx:(PySem.Str.ofString ".page")=tx oO:=by decide +kernel
theorem zy:(PySem.Str.ofString ".odd")=tx sX:=by decide +kernel
theorem wj:(PySem.Str.ofString ".list")=tx je:=by decide +kernel
theorem cH1:(PySem.Str.ofString "=")=tx [61]:=by decide +kernel
theorem cH2:(PySem.Str.ofString "==")=tx [61,61]:=by decide +kernel
theorem cH3:(PySem.Str.ofString "===")=tx [61,61,61]:=by decide +kernel
theorem FV:(PySem.Str.ofString ".")=tx [46]:=by decide +kernel
def CD(w:List Nat)(r:Rw):Prop:=(w=oO/\r=.page)\/(w=sX/\r=.odd)\/(w=je/\r=.lst)
inductive jA:List (List Nat)->Rw->Prop
 |empty:jA [] .empty
 |foot {n:List Nat} {ts:List (List Nat)}:bQ n=true->n.length<=12->ts.length<=39->(∀t∈ts,oN t/\(kwL t).1∉[Kw.mark,Kw.foot])->jA (dI::n::ts) (.foot (tx n) (ts.map wkL))
 |alone {w:List Nat} {r:Rw}:CD w r->jA [w] r
 |head {k:Nat} {ts:List (List Nat)}:k<3->ts.length<=129->(∀t∈ts,oN t/\(kwL t).1∉[Kw.foot])->jA (Gc (k+1) 61::ts) (.head (k+1) (ts.map wkL))
 |par {c:Nat} {u:List Nat} {ts:List (List Nat)}:c≠46->(c::u)∉[[61],[61,61],[61,61,61]]->ts.length<=129->(∀t∈(c::u)::ts,oN t)->jA ((c::u)::ts) (.par (((c::u)::ts).map wkL))
def Ca(s:Rs):Rw->Prop
 |.foot n _=>lkS n s.feet=none
 |_=>True
def mL:Rs->List Rw->Prop
 |_,[]=>True
 |s,r::l=>Ca s r/\mL (bF s r) l
theorem mL.at:∀{l:List Rw} {s:Rs} {k:Nat} {r:Rw},mL s l->l[k]?=some r->Ca (aR s (l.take k)) r
 |x::l,s,0,r,h,e=>by cases e;exact h.1
 |x::l,s,k+1,r,h,e=>mL.at (l:=l) (k:=k) h.2 (by simpa using e)
 |[],_,_,_,_,e=>by simp at e
theorem on{w:List Nat}:∀(ls:List (List Nat)),inV (.str (tx w)) (ls.map λl=>.str (tx l))=decide (w∈ls)
 |[]=>rfl
 |l::r=>by
  have ih:=on (w:=w) r;unfold inV at ih⊢;rw[Gp,Iy,ih];show((tx l==tx w)||_)=_;by_cases e:w=l
  .subst e;simp
  .have:(tx l==tx w)=false:=by
    rw[beq_eq_false_iff_ne];exact λz=>e (jx z.symm)
   rw[this,Kn];simp[e]
theorem oP{n:Str}{v:V}:∀{l:List (Str×V)},(l.map Prod.fst).all (λm=>m != n)=true->bS n v l=l++[(n,v)]
 |[],_=>rfl
 |(m,x)::r,h=>by
  rw[Gp,IP,HC]at h;have e:¬ (m=n):=by simpa using h.1
  have ih:=oP (n:=n) (v:=v) h.2;simp[bS,e]at ih⊢;exact ih

def Eu(l:List Nat)(r:Rw):Prop:=l.length<=20000/\jA (c_ l) r
def mV:List (List Nat)->List Rw->Prop
 |[],[]=>True
 |l::ls,r::rs=>Eu l r/\mV ls rs
 |_,_=>False
theorem mV.len:∀{ls:List (List Nat)} {rs:List Rw},mV ls rs->ls.length=rs.length
 |[],[],_=>rfl
 |_::_,_::_,h=>congrArg (·+1) (mV.len h.2)
theorem mV.get:∀{ls:List (List Nat)} {rs:List Rw} {i:Nat} {l:List Nat},mV ls rs->ls[i]?=some l->∃r,rs[i]?=some r/\Eu l r
 |l::_,r::_,0,x,h,e=>by cases e;exact⟨r,rfl,h.1⟩
 |_::_,_::_,i+1,x,h,e=>mV.get (i:=i) h.2 (by simpa using e)
 |[],[],_,_,_,e=>by simp at e
def al(b:Nat):Nat:=(LL++FF).getD b 0
theorem Dp:∀k:Nat,k<36->atI (PySem.Str.ofString "abcdefghijklmnopqrstuvwxyz0123456789").cps.toList (k:Int)=some (al k):=by decide +kernel
theorem Ev:∀b:Nat,b<36->∀c:Nat,c<36->al b=al c->b=c:=by decide +kernel
theorem Ew:∀b:Nat,b<26->isL (al b)=true:=by decide +kernel
theorem Ex:∀b:Nat,b<36->(isL (al b)||isF (al b))=true:=by decide +kernel
structure Ix(xs:List Nat):Prop where
 ne:xs≠[]
 len:xs.length<=12
 fst:∀b,xs.head?=some b->b<26
 all:∀b∈xs,b<36
theorem Ix.name{xs:List Nat}(h:Ix xs):bQ (xs.map al)=true:=by
 cases xs with
 |nil=>exact absurd rfl h.ne
 |cons b r =>
  have hl:(al b::r.map al).length<=12:=by have:=h.len;simp at this⊢;omega
  show bQ (al b::r.map al)=true;rw[oM hl,Ew b (h.fst b rfl),Jm];refine List.all_eq_true.mpr λd hd=>?_;obtain⟨b',hb',rfl⟩:=List.mem_map.mp (show d∈(b::r).map al from hd);exact Ex b' (h.all b' hb')
theorem xy:∀cs:List Nat,cz [] (cs.map λc=>[c])=cs
 |[]=>rfl
 |[c]=>rfl
 |c::d::r=>by
  show[c]++[]++cz [] ((d::r).map λc=>[c])=_;rw[xy (d::r)];rfl
theorem uM:∀cs:List Nat,((cs.map λc=>tx [c]).map (·.length)).sum=cs.length
 |[]=>rfl
 |c::r=>by
  rw[Gp,Gp,Hv,uM r,aY];simp only[Gd,Gy];omega

theorem oQ:(PySem.Str.ofString "")=tx []:=by decide +kernel
theorem ej1(cs:List Nat):Txt.join (PySem.Str.ofString "") (cs.map λd=>tx [d])=tx cs:=by
 rw[oQ,show(cs.map λd=>tx [d])=((cs.map λd=>[d]).map tx) by rw[HU];rfl,jN,xy]
def nmB(bs:List Nat)(a j:Nat):List Nat:=bs.take a++[j/36%36]++[j%36]++bs.drop a
structure sY(bs:List Nat)(a:Nat):Prop where
 len:bs.length<=10
 fst:∀b,bs.head?=some b->b<26
 all:∀b∈bs,b<36
 lo:1<=a
 hi:a<=bs.length
theorem sY.ix{bs:List Nat}{a:Nat}(h:sY bs a)(j:Nat):Ix (nmB bs a j):=by
 have l1:=h.lo;have l2:=h.hi;have l3:=h.len
 match bs,h with
 |[],h=>simp at l2;omega
 |b::r,h =>
 obtain⟨a',rfl⟩:∃a',a=a'+1:=⟨a-1,by omega⟩;refine⟨by simp[nmB],?_,?_,?_⟩
 .have e1:(List.take (a'+1) (b::r)).length=a'+1:=by rw[GC];omega
  have e2:(List.drop (a'+1) (b::r)).length=(b::r).length-(a'+1):=by rw[Il]
  unfold nmB;simp only[Ga,e1,e2,Gd,Gy]at l2 l3⊢;omega
 .intro x hx;have:x=b:=by simpa[nmB]using hx.symm
  rw[this];exact h.fst b rfl
 .intro x hx;simp only[nmB,List.mem_append,JL]at hx;rcases hx with((hx|hx)|hx)|hx
  .exact h.all x (List.mem_of_mem_take hx)
  .rw[hx];exact J6 _ (by decide)
  .rw[hx];exact J6 _ (by decide)
  .exact h.all x (List.mem_of_mem_drop hx)
theorem uk:∀{xs ys:List Nat},(∀x∈xs,x<36)->(∀y∈ys,y<36)->xs.map al=ys.map al->xs=ys
 |[],[],_,_,_=>rfl
 |x::xs,y::ys,h1,h2,e=>by
  rw[Gp,Gp]at e;injection e with e1 e2;rw[Ev x (h1 x Gk) y (h2 y Gk) e1,uk (λz hz=>h1 z (Gh _ hz)) (λz hz=>h2 z (Gh _ hz)) e2]
theorem sY.inj{bs:List Nat}{a:Nat}(h:sY bs a){i j:Nat}(hi:i<1296)(hj:j<1296)(e:(nmB bs a i).map al=(nmB bs a j).map al):i=j:=by
 have e:=uk (h.ix i).all (h.ix j).all e;unfold nmB at e;rw[Gs,Gs,Gs,Gs]at e;have e:=List.append_cancel_left e;simp only[List.singleton_append,List.cons.injEq]at e;omega
structure NmF(nm:Nat->List Nat):Prop where
 name:∀j,bQ (nm j)=true
 len:∀j,(nm j).length<=12
 sg:∀j,∀d∈nm j,33<=d/\d<127
 inj:∀i j,i<1296->j<1296->nm i=nm j->i=j
theorem Fg:∀b:Nat,b<36->33<=al b/\al b<127:=by decide +kernel
theorem sY.nmF{bs:List Nat}{a:Nat}(h:sY bs a):NmF λj=>(nmB bs a j).map al:=
 ⟨fun j=>(h.ix j).name,fun j=>by rw [F9]; exact (h.ix j).len,fun j d hd=>by
  obtain⟨b,hb,rfl⟩:=List.mem_map.mp hd;exact Fg b ((h.ix j).all b hb),λi j hi hj e=>h.inj hi hj e⟩
abbrev NWd:=Kw×List Nat
structure Cb(l:List Nat):Prop where
 ne:l≠[]
 len:l.length<=60
 sg:∀d∈l,33<=d/\d<127
def hJ(k:Kw)(marks feet:Nat):Nat:=if k=.foot then feet else marks
def WdG(nm:Nat->List Nat)(k:Kw)(at_ marks feet:Nat)(w:NWd):Prop:=
 (k=.mark/\w=(.mark,nm at_))\/(k≠.mark/\w.1=.plain/\Cb w.2/\(k≠.plain->hJ k marks feet=0))\/(k≠.mark/\k≠.plain/\w.1=k/\∃j,j<hJ k marks feet/\w.2=nm j)
def sgK:Kw->Nat
 |.mark=>35|.number=>64|.page=>38|.row=>94|.foot=>126|_=>33
def sZ(w:NWd):Prop:=w.1≠.entry/\(∀d∈w.2,33<=d/\d<127)/\((w.1=.plain/\w.2≠[]/\w.2.length<=60)\/(w.1≠.plain/\bQ w.2=true/\w.2.length<=12))
theorem WdG.ok{nm:Nat->List Nat}(hn:NmF nm){k:Kw}{at_ marks feet:Nat}{w:NWd}(ke:k≠.entry)(h:WdG nm k at_ marks feet w):sZ w:=by
 rcases h with⟨_,rfl⟩|⟨_,h1,h2,_⟩|⟨_,h0,h1,j,_,h2⟩
 .exact⟨by show Kw.mark≠Kw.entry;decide,hn.sg _,.inr ⟨by show Kw.mark≠Kw.plain;decide,hn.name _,hn.len _⟩⟩
 .exact⟨by rw[h1];decide,h2.sg,.inl ⟨h1,h2.ne,h2.len⟩⟩
 .exact⟨by rw[h1];exact ke,by rw[h2];exact hn.sg _,.inr ⟨by rw[h1];exact h0,by rw[h2];exact hn.name _,by rw[h2];exact hn.len _⟩⟩
def isM(c:Nat):Bool:=decide (c∈[35,64,38,94,126])
def lq(tight:Bool):List Nat->Bool
 |[]=>false
 |c::r=>decide (c∈[46,33,91])||(if tight then decide (c=61)else decide ((c::r)∈[[61],[61,61],[61,61,61]]))||(isM c&&bQ r)
theorem vm(tight:Bool)(c:Nat)(r:List Nat):lq tight (c::r)=(decide (c∈[46,33,91])||(if tight then decide (c=61)else decide ((c::r)∈[[61],[61,61],[61,61,61]]))||(isM c&&bQ r)):=rfl
def wrW(tight:Bool)(w:NWd):List Nat:=if w.1=.plain then(if lq tight w.2=true then 33::w.2 else w.2)else sgK w.1::w.2
structure Ey(t:List Nat)(w:NWd):Prop where
 good:oN t
 back:kwL t=w
 nb:32∉t
 dot:t.head?≠some 46
 hd:t∉[[61],[61,61],[61,61,61]]
theorem Cc{k:Kw}{r:List Nat}(hk:k≠.plain)(he:k≠.entry)(hn:bQ r=true):kwC (sgK k) r=(k,r):=by
 unfold kwC;rw[if_pos hn];cases k<;>first|rfl|exact absurd rfl hk|exact absurd rfl he
theorem Cd{r:List Nat}(h:r≠[]):kwC 33 r=(.plain,r):=by
 have p:plL 33 r=(.plain,r):=by unfold plL;rw[if_pos ⟨rfl,h⟩]
 unfold kwC;by_cases hn:bQ r=true
 .rw[if_pos hn];exact p
 .rw[if_neg hn];exact p
theorem AY{c:Nat}{r:List Nat}(h1:c≠33)(h2:(isM c&&bQ r)=false):kwC c r=(.plain,c::r):=by
 have p:plL c r=(.plain,c::r):=by unfold plL;rw[if_neg (λz=>h1 z.1)]
 unfold kwC;by_cases hn:bQ r=true
 .rw[hn,Ko]at h2;have m:=of_decide_eq_false h2;simp only[Hk,G_,or_false,not_or]at m;rw[if_pos hn,if_neg m.1,if_neg m.2.1,if_neg m.2.2.1,if_neg m.2.2.2.1,if_neg m.2.2.2.2];exact p
 .rw[if_neg hn];exact p
theorem zA(tight:Bool){w:NWd}(h:sZ w):Ey (wrW tight w) w:=by
 obtain⟨k,r⟩:=w;obtain⟨he,sg,h⟩:=h;dsimp only at he sg h;have n32:∀l:List Nat,(∀d∈l,33<=d/\d<127)->32∉l:=λl hl z=>by have:=hl 32 z;omega
 rcases h with⟨hk,hne,hl⟩|⟨hk,hn,hl⟩
 .subst hk;unfold wrW;rw[if_pos rfl];by_cases b:lq tight r=true
  .rw[if_pos b];have kb:kwL (33::r)=(.plain,r):=Cd hne;have sg':∀d∈33::r,33<=d/\d<127:=λd hd=>by
    rcases List.mem_cons.mp hd with rfl|hd
    .exact⟨by decide,by decide⟩
    .exact sg d hd
   refine⟨⟨by simp,by simp only[Gd];omega,rfl,λ_=>by rw[kb];exact hl,λd hd=>(sg' d hd).2⟩,kb,n32 _ sg',by simp,by simp⟩
  .rw[if_neg b];rw[Hw]at b
   match r,hne,b with
   |c::u,_,b =>
   unfold lq at b;simp only[IG]at b;obtain⟨⟨b1,b2⟩,b3⟩:=b;have b1:=of_decide_eq_false b1;simp only[Hk,G_,or_false,not_or]at b1;have kb:kwL (c::u)=(.plain,c::u):=AY b1.2.1 b3;have op:opn (c::u)=false:=by show(decide (c=91)&&bQ u)=false;rw[decide_eq_false b1.2.2];rfl
   refine⟨⟨by simp,(by show(c::u).length<=61;omega),op,λ_=>by rw[kb];exact hl,λd hd=>(sg d hd).2⟩,kb,n32 _ sg,by simp;exact b1.1,?_⟩;cases tight with
   |true =>
    have b2:¬ (c=61):=of_decide_eq_false b2;simp[b2]
   |false=>exact of_decide_eq_false b2
 .unfold wrW;rw[if_neg hk];have kb:kwL (sgK k::r)=(k,r):=Cc hk he hn;have s1:33<=sgK k/\sgK k<127/\sgK k≠91/\sgK k≠46/\sgK k≠61:=by cases k<;>decide
  have sg':∀d∈sgK k::r,33<=d/\d<127:=λd hd=>by
   rcases List.mem_cons.mp hd with rfl|hd
   .exact⟨s1.1,s1.2.1⟩
   .exact sg d hd
  have op:opn (sgK k::r)=false:=by show(decide (sgK k=91)&&bQ r)=false;rw[decide_eq_false s1.2.2.1];rfl
  refine⟨⟨by simp,by simp only[Gd];omega,op,λz=>by rw[kb]at z;exact absurd z hk,λd hd=>(sg' d hd).2⟩,kb,n32 _ sg',by simp;exact s1.2.2.2.1,by simp[s1.2.2.2.2]⟩
inductive Wy where
 |words|empty|h1|h2|h3|page|odd|lst|foot
 deriving DecidableEq
def Wy.t:Wy->List Nat
 |.words=>[119,111,114,100,115]|.empty=>[]|.h1=>[61]|.h2=>[61,61]|.h3=>[61,61,61]
 |.page=>oO|.odd=>sX|.lst=>je|.foot=>dI
def Wy.hd:Wy->Bool
 |.h1=>true|.h2=>true|.h3=>true|_=>false
def Wy.bare:Wy->Bool
 |.empty=>true|.page=>true|.odd=>true|.lst=>true|_=>false
theorem Wy.inj:∀{a b:Wy},a.t=b.t->a=b:=by
 intro a b h;cases a<;>cases b<;>first|rfl|exact absurd h (by decide)
abbrev cS:=Wy×List (Kw×Int)
structure zB(kds:List Kw)(r:cS):Prop where
 bare:r.1.bare=true->r.2=[]
 len:r.2.length<=6
 head:r.1.hd=true->∀w∈r.2,w.1≠.foot
 foot:r.1=.foot->∀w∈r.2,w.1≠.mark/\w.1≠.foot
 kds:∀w∈r.2,w.1∈kds\/w.1=.plain
abbrev bM:=Wy×List Nat×List NWd
structure kH(r:bM):Prop where
 bare:r.1.bare=true->r.2.2=[]
 len:r.2.2.length<=129
 words:r.1=.words->r.2.2≠[]
 head:r.1.hd=true->∀w∈r.2.2,w.1≠.foot
 foot:r.1=.foot->bQ r.2.1=true/\r.2.1.length<=12/\(∀d∈r.2.1,33<=d/\d<127)/\r.2.2.length<=39/\∀w∈r.2.2,w.1≠.mark/\w.1≠.foot
 ok:∀w∈r.2.2,sZ w
def zC(w:NWd):Wk:=(w.1,.str (tx w.2))
def wkS(ws:List NWd):List Wk:=ws.map zC
def eZ(tight:Bool)(r:bM):List (List Nat):=(if r.1=.empty\/r.1=.words then[]else[r.1.t])++(if r.1=.foot then[r.2.1]else[])++r.2.2.map (wrW tight)
def aV(r:bM):Rw:=
 match r.1 with
 |.words=>.par (wkS r.2.2)
 |.empty=>.empty
 |.h1=>.head 1 (wkS r.2.2)
 |.h2=>.head 2 (wkS r.2.2)
 |.h3=>.head 3 (wkS r.2.2)
 |.page=>.page
 |.odd=>.odd
 |.lst=>.lst
 |.foot=>.foot (tx r.2.1) (wkS r.2.2)
theorem Dq{tight:Bool}{ws:List NWd}(h:∀w∈ws,sZ w):(ws.map (wrW tight)).map wkL=wkS ws:=by
 rw[HU];refine Jx λw hw=>?_;show wkL (wrW tight w)=zC w;unfold wkL zC;rw[(zA tight (h w hw)).back]
theorem Ez(tight:Bool){r:bM}(h:kH r):jA (eZ tight r) (aV r):=by
 obtain⟨wy,n,ws⟩:=r;have g:∀t∈ws.map (wrW tight),∃w∈ws,Ey t w:=λt ht=>by
  obtain⟨w,hw,rfl⟩:=List.mem_map.mp ht;exact⟨w,hw,zA tight (h.ok w hw)⟩
 have bk:=Dq (tight:=tight) h.ok;have ln:=h.len;dsimp only at bk ln;have hd:∀k,k<3->(∀w∈ws,w.1≠.foot)->jA (Gc (k+1) 61::ws.map (wrW tight)) (.head (k+1) (wkS ws)):=λk hk hf=>by
  rw[<-bk];refine .head hk (by rw[F9];exact ln) λt ht=>?_;obtain⟨w,hw,o⟩:=g t ht;exact⟨o.good,by rw[o.back];simpa using hf w hw⟩
 cases wy with
 |words =>
  show jA (ws.map (wrW tight)) (.par (wkS ws));rw[<-bk];have ne:=h.words rfl
  match ws,ne,g,ln with
  |w::r,_,g,ln =>
  obtain⟨w',_,o⟩:=g (wrW tight w) Gk;rw[Gp];cases e:wrW tight w with
  |nil=>exact absurd e o.good.ne
  |cons c u =>
   rw[e]at o;refine .par (λz=>o.dot (by rw[z];rfl)) o.hd (by rw[F9];simp only[Gd]at ln;omega) λt ht=>?_;rw[<-e,<-Gp]at ht;obtain⟨_,_,o'⟩:=g t ht;exact o'.good
 |empty =>
  have e:ws=[]:=h.bare rfl;subst e;exact .empty
 |h1=>exact hd 0 (by decide) (h.head rfl)
 |h2=>exact hd 1 (by decide) (h.head rfl)
 |h3=>exact hd 2 (by decide) (h.head rfl)
 |page =>
  have e:ws=[]:=h.bare rfl;subst e;exact .alone (.inl ⟨rfl,rfl⟩)
 |odd =>
  have e:ws=[]:=h.bare rfl;subst e;exact .alone (.inr (.inl ⟨rfl,rfl⟩))
 |lst =>
  have e:ws=[]:=h.bare rfl;subst e;exact .alone (.inr (.inr ⟨rfl,rfl⟩))
 |foot =>
  obtain⟨f1,f2,f3,f4,f5⟩:=h.foot rfl;show jA (dI::n::ws.map (wrW tight)) (.foot (tx n) (wkS ws));rw[<-bk];refine .foot f1 f2 (by rw[F9];exact f4) λt ht=>?_;obtain⟨w,hw,o⟩:=g t ht;exact⟨o.good,by rw[o.back];simpa using f5 w hw⟩
theorem mM(tight:Bool){r:bM}(h:kH r):∀t∈eZ tight r,32∉t/\t≠[]/\t.length<=61:=λt ht=>by
 unfold eZ at ht;rcases List.mem_append.mp ht with ht|ht
 .rcases List.mem_append.mp ht with ht|ht
  .by_cases c:r.1=.empty\/r.1=.words
   .rw[if_pos c]at ht;cases ht
   .rw[if_neg c]at ht;rw[List.mem_singleton.mp ht];revert c;cases r.1<;>decide
  .by_cases c:r.1=.foot
   .rw[if_pos c]at ht;rw[List.mem_singleton.mp ht];obtain⟨f1,f2,f3,_⟩:=h.foot c;exact⟨λz=>(by have:=f3 32 z;omega),(λz=>by rw[z]at f1;cases f1),(by omega)⟩
   .rw[if_neg c]at ht;cases ht
 .obtain⟨w,hw,rfl⟩:=List.mem_map.mp ht;have o:=zA tight (h.ok w hw);exact⟨o.nb,o.good.ne,o.good.len⟩
theorem yP(tight:Bool){r:bM}(h:kH r):(eZ tight r).length<=131:=by
 have:=h.len;unfold eZ;simp only[Ga,F9];have a:(if r.1=.empty\/r.1=.words then([]:List (List Nat))else[r.1.t]).length<=1:=by split<;>simp
 have b:(if r.1=.foot then[r.2.1]else([]:List (List Nat))).length<=1:=by split<;>simp
 omega
abbrev mW(l:List Nat):List Nat:=PySem.StrLaws.dbl 32 l
def mO(a b:Nat)(d:Bool)(l:List Nat):List Nat:=Gc a 32++(if d then mW l else l)++Gc b 32
theorem s_(c:Nat):∀n:Nat,oI [c] n=Gc n c
 |0=>rfl
 |n+1=>by
  rw[mI,s_ c n,GY];rfl
theorem lQ:∀(l:List (List Nat)),(∀t∈l,t.length<=61)->((l.map tx).map (·.length)).sum<=61*l.length
 |[],_=>Gi _
 |x::r,h=>by
  have h1:=lQ r λt ht=>h t (Gh _ ht);have h2:=h x Gk;rw[Gp,Gp,Hv,aY,Gd];omega
theorem um(n:Nat):Txt.mul (PySem.Str.ofString " ") (n:Int)=tx (Gc n 32):=by
 rw[show(PySem.Str.ofString " ")=tx [32] by decide +kernel,AC,s_]
theorem yQ{n:Nat}(h:n<=10):MulOk (PySem.Str.ofString " ") (n:Int):=by
 rw[show(PySem.Str.ofString " ")=tx [32] by decide +kernel];exact sA (by omega) (by simp)
def oR:List (List Nat)->List (List Nat)->Prop
 |[],[]=>True
 |r::rs,s::ss=>(∃a b d,a<=10/\b<=10/\s=mO a b d r)/\oR rs ss
 |_,_=>False
theorem Ce(l:List Nat):∃h r,bu 32 l=h::r:=by
 cases e:bu 32 l with
 |nil=>exact absurd e (vd 32 l)
 |cons h r=>exact⟨h,r,rfl⟩
theorem r_{c:Nat}{l h:List Nat}{r:List (List Nat)}(e:bu 32 l=h::r)(n:c≠32):bu 32 (c::l)=(c::h)::r:=by
 rw[gk,if_neg n,e]
theorem lC(l:List Nat):bu 32 (32::l)=[]::bu 32 l:=by rw[gk,if_pos rfl]
theorem yR(r:List (List Nat)):neW ([]::r)=neW r:=rfl
theorem AZ(l:List Nat):c_ (mW l)=c_ l:=by
 have key:∀l:List Nat,∃h r r',bu 32 l=h::r/\bu 32 (mW l)=h::r'/\neW r=neW r':=λl=>by
  induction l with
  |nil=>exact⟨[],[],[],rfl,rfl,rfl⟩
  |cons c l ih =>
   obtain⟨h,r,r',e1,e2,e3⟩:=ih;by_cases hc:c=32
   .subst hc;refine⟨[],h::r,[]::h::r',by rw[lC,e1],?_,?_⟩
    .show bu 32 (PySem.StrLaws.dbl 32 (32::l))=_;rw[show PySem.StrLaws.dbl 32 (32::l)=32::32::mW l from by simp[PySem.StrLaws.dbl],lC,lC,e2]
    .rw[yR];unfold neW at e3⊢;rw[Im,Im,e3]
   .refine⟨c::h,r,r',r_ e1 hc,?_,e3⟩;show bu 32 (PySem.StrLaws.dbl 32 (c::l))=_;rw[show PySem.StrLaws.dbl 32 (c::l)=c::mW l from by simp[PySem.StrLaws.dbl,hc]];exact r_ e2 hc
 obtain⟨h,r,r',e1,e2,e3⟩:=key l;unfold c_;rw[e1,e2];unfold neW at e3⊢;rw[Im,Im,e3]
theorem uo(l:List Nat):∀a:Nat,c_ (Gc a 32++l)=c_ l
 |0=>rfl
 |a+1=>by
  rw[GY,JY];unfold c_;rw[lC,yR];exact uo l a
theorem zD(l:List Nat):c_ (l++[32])=c_ l:=by
 have key:∀l:List Nat,bu 32 (l++[32])=bu 32 l++[[]]:=λl=>by
  induction l with
  |nil=>rfl
  |cons c l ih =>
   rw[JY];by_cases hc:c=32
   .subst hc;rw[lC,lC,ih];rfl
   .obtain⟨h,r,e⟩:=Ce l;rw[r_ (by rw[ih,e];rfl) hc,r_ e hc];rfl
 unfold c_;rw[key];unfold neW;rw[Hj];simp
theorem vn(l:List Nat):∀b:Nat,c_ (l++Gc b 32)=c_ l
 |0=>by rw[List.replicate_zero,GF]
 |b+1=>by
  rw[List.replicate_succ',<-Gs,zD];exact vn l b
theorem xz{ws:List (List Nat)}(h:∀t∈ws,32∉t/\t≠[]):c_ (cz [32] ws)=ws:=by
 by_cases e:ws=[]
 .subst e;rfl
 .unfold c_;rw[sC 32 ws e λp hp=>(h p hp).1];unfold neW;refine List.filter_eq_self.mpr λw hw=>?_;have:=(h w hw).2;cases w with
  |nil=>exact absurd rfl this
  |cons _ _=>rfl
abbrev EA:=@mO
theorem A1(a b:Nat)(d:Bool)(l:List Nat):c_ (EA a b d l)=c_ l:=by
 show c_ (mO a b d l)=_;unfold mO;rw[vn,uo];cases d with
 |true=>exact AZ l
 |false=>rfl
theorem yS(l:List Nat):(mW l).length<=2*l.length:=by
 induction l with
 |nil=>exact Gi _
 |cons c l ih =>
  by_cases hc:c=32
  .subst hc;show(PySem.StrLaws.dbl 32 (32::l)).length<=_;rw[show PySem.StrLaws.dbl 32 (32::l)=32::32::mW l from by simp[PySem.StrLaws.dbl]];simp only[Gd];omega
  .show(PySem.StrLaws.dbl 32 (c::l)).length<=_;rw[show PySem.StrLaws.dbl 32 (c::l)=c::mW l from by simp[PySem.StrLaws.dbl,hc]];simp only[Gd];omega
theorem A2{b:Nat}:∀(l:List (List Nat)),(∀t∈l,t.length<=b)->(cz [32] l).length<=l.length*(b+1)
 |[],_=>by simp[cz]
 |[a],h=>by
  have:=h a Gk;simp[cz];omega
 |a::c::r,h=>by
  have h1:=h a Gk;have h2:=A2 (c::r) λt ht=>h t (Gh _ ht);show(a++[32]++cz [32] (c::r)).length<=_;rw[Ga,Ga];simp only[Gd,Gy]at h2⊢;have:(r.length+1+1)*(b+1)=(r.length+1)*(b+1)+(b+1):=by rw[Nat.add_mul (r.length+1) 1,Nat.one_mul]
  omega
theorem qB(tight:Bool){r:bM}(h:kH r):(cz [32] (eZ tight r)).length<=8200:=by
 have h1:=A2 (b:=61) (eZ tight r) λt ht=>(mM tight h t ht).2.2;have h2:=yP tight h;omega
structure SpR(tight:Bool)(l:List Nat)(r:bM):Prop where
 len:l.length<=20000
 ws:c_ l=eZ tight r
theorem SpR.of(tight:Bool){r:bM}(h:kH r)(a b:Nat)(d:Bool)(ha:a<=10)(hb:b<=10):SpR tight (EA a b d (cz [32] (eZ tight r))) r:=by
 refine⟨?_,?_⟩
 .have h1:=qB tight h;have h2:=yS (cz [32] (eZ tight r));show(mO a b d _).length<=_;unfold mO;simp only[Ga,Hc]
  split<;>omega
 .rw[A1,xz λt ht=>⟨(mM tight h t ht).1,(mM tight h t ht).2.1⟩]
def wo(tight:Bool):List (List Nat)->List bM->Prop
 |[],[]=>True
 |l::ls,r::rs=>SpR tight l r/\wo tight ls rs
 |_,_=>False
theorem oR.snoc{r s:List Nat}(h:∃a b d,a<=10/\b<=10/\s=mO a b d r):∀{rs ss:List (List Nat)},oR rs ss->oR (rs++[r]) (ss++[s])
 |[],[],_=>⟨h,trivial⟩
 |_::_,_::_,z=>⟨z.1,z.2.snoc h⟩
theorem oR.all{tight:Bool}:∀{ns:List bM} {ss:List (List Nat)},(∀r∈ns,kH r)->oR (ns.map λr=>cz [32] (eZ tight r)) ss->wo tight ss ns
 |[],[],_,_=>trivial
 |r::ns,s::ss,h,z=>by
  obtain⟨⟨a,b,d,ha,hb,rfl⟩,z2⟩:=z;exact⟨SpR.of tight (h r Gk) a b d ha hb,oR.all (λx hx=>h x (Gh _ hx)) z2⟩
 |[],_::_,_,z=>z.elim
 |_::_,[],_,z=>z.elim
theorem wo.rows{tight:Bool}:∀{ls:List (List Nat)} {rs:List bM},wo tight ls rs->(∀r∈rs,kH r)->mV ls (rs.map aV)
 |[],[],_,_=>trivial
 |l::_,r::_,a,h=>⟨⟨a.1.len,by rw[a.1.ws];exact Ez tight (h r Gk)⟩,a.2.rows λx hx=>h x (Gh _ hx)⟩

def KcA(F:Hp)(v:V)(w:Kw×Int):Prop:=∃a,v=.ref a/\F a=some (.tup [.str w.1.s,.int w.2])
def RrA(F:Hp)(v:V)(r:cS):Prop:=∃a l us,v=.ref a/\F a=some (.tup [.str (tx r.1.t),.ref l])/\F l=some (.lst us)/\aW (KcA F) us r.2
theorem KcA.mono{F F':Hp}(s:am F F'){v:V}{w:Kw×Int}(h:KcA F v w):KcA F' v w:=by
 obtain⟨a,e,h⟩:=h;exact⟨a,e,s _ _ h⟩
theorem RrA.mono{F F':Hp}(s:am F F'){v:V}{r:cS}(h:RrA F v r):RrA F' v r:=by
 obtain⟨a,l,us,e,h1,h2,h3⟩:=h;exact⟨a,l,us,e,s _ _ h1,s _ _ h2,h3.imp λ_ _=>KcA.mono s⟩
structure iK(H G:Hp)(p:Addr)(rows:List cS):Prop where
 old:am H G
 fr:H p=none
 st:∃vs lo,G p=some (.lst vs)/\H lo=none/\vs.length=rows.length/\
  ((rows=[]/\lo=p)\/∃vi a us ini w ws,vs=vi++[.ref a]/\rows=ini++[(w,ws)]/\lo≠p/\hid [p,lo] G a=some (.tup [.str (tx w.t),.ref lo])/\G lo=some (.lst us)/\aW (KcA (hid [p,lo] G)) us ws/\aW (RrA (hid [p,lo] G)) vi ini)
theorem iK.same{H G G':Hp}{p:Addr}{rows:List cS}(R:iK H G p rows)(m:am G G'):iK H G' p rows:=by
 obtain⟨old,fr,vs,lo,h1,h2,h3,h4⟩:=R;refine⟨old.trans m,fr,vs,lo,m _ _ h1,h2,h3,?_⟩;rcases h4 with h4|⟨vi,a,us,ini,w,ws,e1,e2,e3,e4,e5,e6,e7⟩
 .exact .inl h4
 .exact .inr ⟨vi,a,us,ini,w,ws,e1,e2,e3,a9 m _ _ e4,m _ _ e5,e6.imp λ_ _=>KcA.mono (a9 m),e7.imp λ_ _=>RrA.mono (a9 m)⟩
theorem iK.all{H G:Hp}{p:Addr}{rows:List cS}(R:iK H G p rows):∃vs,G p=some (.lst vs)/\vs.length=rows.length/\aW (RrA (hid [p] G)) vs rows:=by
 obtain⟨old,fr,vs,lo,h1,h2,h3,h4⟩:=R;refine⟨vs,h1,h3,?_⟩;rcases h4 with⟨rfl,_⟩|⟨vi,a,us,ini,w,ws,rfl,rfl,e3,e4,e5,e6,e7⟩
 .match vs,h3 with
  |[],_=>trivial
 .have m:am (hid [p,lo] G) (hid [p] G):=λb o z=>by
   obtain⟨c,z⟩:=jy.mp z;exact bo (λw=>c (by simp at w⊢;exact .inl w)) z
  exact(e7.imp λ_ _=>RrA.mono m).snoc ⟨a,lo,us,rfl,m _ _ e4,bo (by simpa using e3) e5,e6.imp λ_ _=>KcA.mono m⟩
theorem iK.add{H G G':Hp}{p pl pt:Addr}{rows:List cS}{w:Wy}{vs:List V}(R:iK H G p rows)(m:am G G')(n1:G pl=none)(k1:G' pl=some (.lst []))(n2:G pt=none)(k2:G' pt=some (.tup [.str (tx w.t),.ref pl]))(hv:G' p=some (.lst vs)):iK H (upd G' p (.lst (vs++[.ref pt]))) p (rows++[(w,[])]):=by
 obtain⟨vs',h1,h2,h3⟩:=R.all;obtain⟨old,fr,_⟩:=R;rw[m _ _ h1]at hv;injection hv with hv;injection hv with hv;subst hv;have npl:pl≠p:=λz=>by rw[z,h1]at n1;cases n1
 have npt:pt≠p:=λz=>by rw[z,h1]at n2;cases n2
 have ntl:pt≠pl:=λz=>by rw[z,k1]at k2;cases k2
 have e:hid [p,pl] (upd G' p (.lst (vs'++[.ref pt])))=hid [p,pl] G':=bG (by simp);have mm:am (hid [p] G) (hid [p,pl] G'):=λb o z=>by
  obtain⟨c,z⟩:=jy.mp z;refine bo (λw=>?_) (m _ _ z);simp only[Hk,G_,or_false]at w c;rcases w with w|w
  .exact c w
  .rw[w,n1]at z;cases z
 refine⟨aX (old.trans m) fr,fr,vs'++[.ref pt],pl,ac,old.free n1,by simp[h2],.inr ⟨vs',pt,[],rows,w,[],rfl,rfl,npl,?_,?_,trivial,?_⟩⟩
 .rw[e];exact bo (by simp[npt,ntl]) k2
 .rw[aj npl];exact k1
 .rw[e];exact h3.imp λ_ _=>RrA.mono mm
theorem iK.last{H G:Hp}{p:Addr}{ini:List cS}{w:Wy}{ws:List (Kw×Int)}(R:iK H G p (ini++[(w,ws)])):∃vi a lo us,G p=some (.lst (vi++[.ref a]))/\G a=some (.tup [.str (tx w.t),.ref lo])/\G lo=some (.lst us)/\us.length=ws.length/\∀G' pk kc,am G G'->G pk=none->G' pk=some (.tup [.str kc.1.s,.int kc.2])->iK H (upd G' lo (.lst (us++[.ref pk]))) p (ini++[(w,ws++[kc])]):=by
 obtain⟨old,fr,vs,lo,h1,h2,h3,h4⟩:=R;rcases h4 with⟨e,_⟩|⟨vi,a,us,ini',w',ws',e1,e2,e3,e4,e5,e6,e7⟩
 .simp at e
 .have e2':=List.append_inj' e2 rfl;obtain⟨rfl,e2'⟩:=e2';injection e2' with e2' _;injection e2' with e2a e2b;subst e2a;subst e2b;subst e1;refine⟨vi,a,lo,us,h1,bT _ _ e4,e5,e6.len,λG' pk kc m nk kk=>?_⟩;have e:hid [p,lo] (upd G' lo (.lst (us++[.ref pk])))=hid [p,lo] G':=bG (by simp);have n1:pk≠p:=λz=>by rw[z,h1]at nk;cases nk
  have n2:pk≠lo:=λz=>by rw[z,e5]at nk;cases nk
  refine⟨aX (old.trans m) h2,fr,vi++[.ref a],lo,?_,h2,by simpa using h3,.inr ⟨vi,a,us++[.ref pk],ini,w,ws++[kc],rfl,rfl,e3,?_,ac,?_,?_⟩⟩
  .rw[aj (GX e3)];exact m _ _ h1
  .rw[e];exact a9 m _ _ e4
  .rw[e];exact(e6.imp λ_ _=>KcA.mono (a9 m)).snoc ⟨pk,rfl,bo (by simp[n1,n2]) kk⟩
  .rw[e];exact e7.imp λ_ _=>RrA.mono (a9 m)
inductive WyD where
 |word|eq|way (w:Wy)
def WyD.t:WyD->List Nat
 |.word=>[119,111,114,100]|.eq=>[61]|.way w=>w.t
def zE(wys:List WyD)(w:Wy):Prop:=w=.words\/.way w∈wys\/(w.hd=true/\.eq∈wys)
structure lR(wys:List WyD)(kds:List Kw)(n:Nat)(rows:List cS):Prop where
 len:rows.length<=n
 sum:(rows.map (·.2.length)).sum<=n
 ok:∀r∈rows,zB kds r/\zE wys r.1
theorem lR.add{wys:List WyD}{kds:List Kw}{n:Nat}{rows:List cS}(h:lR wys kds n rows){w:Wy}(hw:zE wys w):lR wys kds (n+1) (rows++[(w,[])]):=by
 refine⟨by rw[Ga];have:=h.len;simp only[Gd,Gy];omega,by rw[Gm,IS];have:=h.sum;simp;omega,λr hr=>?_⟩;rcases List.mem_append.mp hr with hr|hr
 .exact h.ok r hr
 .rw[List.mem_singleton.mp hr];exact⟨⟨λ_=>rfl,by simp,(λ_ x hx=>by cases hx),(λ_ x hx=>by cases hx),(λx hx=>by cases hx)⟩,hw⟩
theorem A3:(PySem.Str.ofString "word")=tx [119,111,114,100]:=by decide +kernel
theorem ku:(PySem.Str.ofString "words")=tx [119,111,114,100,115]:=by decide +kernel
theorem at3:∀k:Nat,k<3->∃w:Wy,w.hd=true/\atI [V.str (PySem.Str.ofString "="),V.str (PySem.Str.ofString "=="),V.str (PySem.Str.ofString "===")] (k:Int)=some (.str (tx w.t))
 |0,_=>⟨.h1,rfl,congrArg (λz=>some (V.str z)) cH1⟩
 |1,_=>⟨.h2,rfl,congrArg (λz=>some (V.str z)) cH2⟩
 |2,_=>⟨.h3,rfl,congrArg (λz=>some (V.str z)) cH3⟩
theorem EB(w:Wy):inV (.str (tx w.t)) [V.str (PySem.Str.ofString ""),V.str (PySem.Str.ofString ".page"),V.str (PySem.Str.ofString ".odd"),V.str (PySem.Str.ofString ".list")]=w.bare:=by
 rw[oQ,zx,zy,wj];refine(on [[],oO,sX,je]).trans ?_;cases w<;>decide
theorem FW(k:Kw):inV (.str k.s) [V.str (PySem.Str.ofString "mark"),V.str (PySem.Str.ofString "foot")]=(decide (k=.mark)||decide (k=.foot)):=by
 cases k<;>decide +kernel
theorem Fh{w:Wy}(h:w.bare=false):∃c u,w.t=c::u/\(decide (c=61)=w.hd):=by
 cases w<;>first|exact⟨_,_,rfl,rfl⟩|cases h

def mkN(ws:List (Kw×Int)):Nat:=(ws.filter λw=>decide (w.1=.mark)).length
def cj(rows:List cS):Nat:=(rows.map λr=>mkN r.2).sum
def ftN(rows:List cS):Nat:=(rows.filter λr=>decide (r.1=.foot)).length
theorem CF{v:V}{i:Nat}{u:TS}{D:eX}{σ:St}{H:Hp}(h:u D (σ.set i (some v)) H):Bs (qg (tC v) (bD i)) u D σ H:=h
def b1(b:Bool):Nat:=if b then 1 else 0
theorem xA(ws:List (Kw×Int))(w:Kw×Int):mkN (ws++[w])=mkN ws+b1 (decide (w.1=.mark)):=by
 unfold mkN;rw[Hj,Ga];cases h:decide (w.1=.mark)<;>simp[Jp,h,b1]
theorem A4(rows:List cS)(r:cS):cj (rows++[r])=cj rows+mkN r.2:=by unfold cj;simp
theorem xB(rows:List cS)(r:cS):ftN (rows++[r])=ftN rows+b1 (decide (r.1=.foot)):=by
 unfold ftN;rw[Hj,Ga];cases h:decide (r.1=.foot)<;>simp[Jp,h,b1]
theorem xC:∀rows:List cS,(rows.map λr=>((mkN r.2:Nat):Int)).sum=((cj rows:Nat):Int)
 |[]=>rfl
 |r::rs=>by
  have:=xC rs;unfold cj at this⊢;rw[Gp,Hv,this,Gp,Hv];omega
def WsR(nm:Nat->List Nat)(M F:Nat):Nat->List (Kw×Int)->List NWd->Prop
 |_,[],[]=>True
 |at_,k::r,w::s=>WdG nm k.1 at_ M F w/\WsR nm M F (at_+b1 (decide (k.1=.mark))) r s
 |_,_,_=>False
theorem WsR.snoc{nm:Nat->List Nat}{M F:Nat}{k:Kw×Int}{w:NWd}:∀{ws:List (Kw×Int)} {ds:List NWd} {at_:Nat},WsR nm M F at_ ws ds->WdG nm k.1 (at_+mkN ws) M F w->WsR nm M F at_ (ws++[k]) (ds++[w])
 |[],[],_,_,h=>⟨h,trivial⟩
 |x::ws,d::ds,at_,h,h2=>⟨h.1,WsR.snoc (ws:=ws) h.2 (by
  have:at_+mkN (x::ws)=at_+b1 (decide (x.1=.mark))+mkN ws:=by
   unfold mkN;cases e:decide (x.1=.mark)<;>simp[Jp,e,b1]<;>omega
  rw[this]at h2;exact h2)⟩
def xD(nm:Nat->List Nat)(M F at_ hung:Nat)(r:cS)(n:bM):Prop:=n.1=(if r.1=.words/\r.2=[]then .empty else r.1)/\n.2.1=(if r.1=.foot then nm hung else[])/\WsR nm M F at_ r.2 n.2.2
def eC(nm:Nat->List Nat)(M F:Nat):Nat->Nat->List cS->List bM->Prop
 |_,_,[],[]=>True
 |at_,hung,r::rs,n::ns=>xD nm M F at_ hung r n/\eC nm M F (at_+mkN r.2) (hung+b1 (decide (r.1=.foot))) rs ns
 |_,_,_,_=>False
theorem eC.snoc{nm:Nat->List Nat}{M F:Nat}{r:cS}{n:bM}:∀{rs:List cS} {ns:List bM} {at_ hung:Nat},eC nm M F at_ hung rs ns->xD nm M F (at_+cj rs) (hung+ftN rs) r n->eC nm M F at_ hung (rs++[r]) (ns++[n])
 |[],[],_,_,_,h=>⟨h,trivial⟩
 |x::rs,y::ns,at_,hung,h,h2=>⟨h.1,eC.snoc (rs:=rs) h.2 (by
  have e1:at_+cj (x::rs)=at_+mkN x.2+cj rs:=by unfold cj;simp;omega
  have e2:hung+ftN (x::rs)=hung+b1 (decide (x.1=.foot))+ftN rs:=by
   unfold ftN;cases e:decide (x.1=.foot)<;>simp[Jp,e,b1]<;>omega
  rw[e1,e2]at h2;exact h2)⟩
def NnA(F:Hp)(v:V)(n:bM):Prop:=∃a l,v=.ref a/\F a=some (.tup [.str (tx n.1.t),.str (tx n.2.1),.ref l])/\cQ F l (wkS n.2.2)
theorem NnA.mono{F F':Hp}(s:am F F'){v:V}{n:bM}(h:NnA F v n):NnA F' v n:=by
 obtain⟨a,l,e,h1,h2⟩:=h;exact⟨a,l,e,s _ _ h1,h2.mono s⟩
def bg:List bM:=[(.empty,[],[]),(.words,[],[(.plain,[101,110,100])])]
theorem Fi:(PySem.Str.ofString "end")=tx [101,110,100]:=by decide +kernel

abbrev Ttl:=List Nat×List NWd
def TtA(F:Hp)(v:V)(t:Ttl):Prop:=∃a l,v=.ref a/\F a=some (.tup [.str (tx t.1),.ref l])/\cQ F l (wkS t.2)
theorem TtA.mono{F F':Hp}(m:am F F'){v:V}{t:Ttl}(h:TtA F v t):TtA F' v t:=by
 obtain⟨a,l,e,h1,h2⟩:=h;exact⟨a,l,e,m _ _ h1,h2.mono m⟩
def bA(c:Nat×Nat×Nat)(l:Int):Nat×Nat×Nat:=if l=1 then(c.1+1,0,0)else if l=2 then(c.1,c.2.1+1,0)else(c.1,c.2.1,c.2.2+1)
def ctr(ls:List Int):Nat×Nat×Nat:=ls.foldl bA (0,0,0)
def uN(c:Nat×Nat×Nat):List V:=[V.int (c.1:Int),V.int (c.2.1:Int),V.int (c.2.2:Int)]
def eD(c:Nat×Nat×Nat)(l:Int):List Nat:=if l=1 then aT c.1 else if l=2 then aT c.1++[46]++aT c.2.1 else aT c.1++[46]++(aT c.2.1++[46]++aT c.2.2)
def fK(ls:List Int)(i:Nat):List (List Nat):=(HQ i).map λk=>eD (ctr (ls.take (k+1))) (ls.getD k 0)
def nV(n:Nat):V:=V.int (n:Int)
def Cf(ls:List Int):Prop:=∀l∈ls,l=1\/l=2\/l=3
theorem Dr{c:Nat×Nat×Nat}{n:Nat}(l:Int)(a:c.1<=n)(b:c.2.1<=n)(d:c.2.2<=n):(bA c l).1<=n+1/\(bA c l).2.1<=n+1/\(bA c l).2.2<=n+1:=by
 obtain⟨x,y,z⟩:=c;dsimp only at a b d;unfold bA;by_cases h:l=1
 .rw[if_pos h];refine⟨?_,?_,?_⟩<;>dsimp only<;>omega
 .rw[if_neg h];by_cases h:l=2
  .rw[if_pos h];refine⟨?_,?_,?_⟩<;>dsimp only<;>omega
  .rw[if_neg h];refine⟨?_,?_,?_⟩<;>dsimp only<;>omega
theorem yT:∀(ls:List Int) (c:Nat×Nat×Nat) (n:Nat),c.1<=n->c.2.1<=n->c.2.2<=n->(ls.foldl bA c).1<=n+ls.length/\(ls.foldl bA c).2.1<=n+ls.length/\(ls.foldl bA c).2.2<=n+ls.length
 |[],c,n,a,b,d=>⟨a,b,d⟩
 |l::r,c,n,a,b,d=>by
  obtain⟨s1,s2,s3⟩:=Dr l a b d;have:=yT r (bA c l) (n+1) s1 s2 s3;rw[J_,Gd];omega
theorem lev{z:Int}(h:z=1\/z=2\/z=3)(c:Nat×Nat×Nat){m:Nat}(b1:(bA c z).1<=m)(b2:(bA c z).2.1<=m)(b3:(bA c z).2.2<=m):∃(pre:List V) (k:Int) (cs:List Nat),fX (uN c) none (some (z-1))=pre/\atI (uN c) (z-1)=some (V.int k)/\pre++[V.int (k+1)]++(Gc (3-z).toNat [V.int 0]).flatten=uN (bA c z)/\pre.length<=2/\(3-z).toNat<=2/\0<=3-z/\3-z<=2/\fX (uN (bA c z)) none (some z)=cs.map nV/\cs.length<=3/\(∀n∈cs,n<=m)/\cz [46] (cs.map aT)=eD (bA c z) z:=by
 obtain⟨x,y,w⟩:=c;rcases h with rfl|rfl|rfl
 .refine⟨[],x,[x+1],rfl,rfl,rfl,by simp,by decide,by decide,by decide,rfl,by simp,?_,rfl⟩;intro n hn;simp at hn;subst hn;exact b1
 .refine⟨[nV x],y,[x,y+1],rfl,rfl,rfl,by simp,by decide,by decide,by decide,rfl,by simp,?_,rfl⟩;intro n hn;simp at hn;rcases hn with rfl|rfl
  .exact b1
  .exact b2
 .refine⟨[nV x,nV y],w,[x,y,w+1],rfl,rfl,rfl,by simp,by decide,by decide,by decide,rfl,by simp,?_,rfl⟩;intro n hn;simp at hn;rcases hn with rfl|rfl|rfl
  .exact b1
  .exact b2
  .exact b3
theorem A5(ls:List Int):(ctr ls).1<=ls.length/\(ctr ls).2.1<=ls.length/\(ctr ls).2.2<=ls.length:=by
 have:=yT ls (0,0,0) 0 (Gi _) (Gi _) (Gi _);rw[Iu]at this;exact this
theorem Cg{ls:List Int}{i:Nat}{z:Int}(h:ls[i]?=some z):ctr (ls.take (i+1))=bA (ctr (ls.take i)) z:=by
 unfold ctr;rw[a7 h,JR];rfl
theorem A6{ls:List Int}{i:Nat}{z:Int}(h:ls[i]?=some z):fK ls (i+1)=fK ls i++[eD (ctr (ls.take (i+1))) z]:=by
 unfold fK;rw[Kb,Gm,JK,GL,h];rfl
theorem oS(ls:List Int)(i:Nat):(fK ls i).length=i:=by unfold fK;rw[F9,Hh]
theorem FX:(PySem.Str.ofString ".")=tx [46]:=by decide +kernel
theorem wq{n:Nat}(h:n<=63):(aT n).length<=3:=jO 2 n (by omega)
theorem FY{n:Nat}(h:n<=63):n<10^100:=GA h (by decide +kernel)
theorem Ds{cs:List Int}{i:Nat}{y:V}(h:(cs.map V.int)[i]?=some y):∃n,y=V.int n/\cs[i]?=some n:=by
 rw[GD]at h;cases e:cs[i]? with
 |none=>rw[e]at h;cases h
 |some w=>rw[e]at h;exact⟨w,(GW h).symm,rfl⟩
theorem EC{cs:List Nat}{i:Nat}{y:V}(h:(cs.map nV)[i]?=some y):∃n:Nat,y=V.int (n:Int)/\cs[i]?=some n:=by
 rw[GD]at h;cases e:cs[i]? with
 |none=>rw[e]at h;cases h
 |some w=>rw[e]at h;exact⟨w,(GW h).symm,rfl⟩
theorem xE:∀(cs:List Nat),(∀n∈cs,n<=63)->(((cs.map aT).map tx).map (·.length)).sum<=3*cs.length
 |[],_=>Gi _
 |n::r,h=>by
  have h1:=xE r (λm hm=>h m (Gh _ hm));have h2:=wq (h n Gk);rw[Gp,Gp,Gp,Hv,aY,Gd];omega
end K59
namespace K59
open PySem PySem.Spec L2 Tl

theorem lts{t:TS}{D:eX}{σ:St}{H:Hp}(k:let D':=D;let s':=σ;t D' s' H):t D σ H:=k
local macro_rules | `(tactic| refine ⟨$a,$as,*⟩)=>`(tactic| ((try (refine lts ?_; intro _ _)); refine (⟨$a,$as,*⟩)))
local macro_rules | `(tactic| exact ⟨$a,$as,*⟩)=>`(tactic| ((try (refine lts ?_; intro _ _)); exact (⟨$a,$as,*⟩)))
local macro_rules | `(tactic| walk_at "c")=>`(tactic| exact (⟨rfl,rfl,rfl,by decide +kernel,rfl,by decide +kernel,by decide +kernel⟩))
noncomputable abbrev qC:Stmt:=top 59
noncomputable abbrev mX:Stmt:=top 57
noncomputable abbrev tf:Stmt:=top 58
noncomputable abbrev tj:Stmt:=top 62
noncomputable abbrev qD:Stmt:=top 73
noncomputable abbrev tq:Stmt:=top 63
noncomputable abbrev mY:Stmt:=top 60
noncomputable abbrev lS:Stmt:=top 64
noncomputable abbrev tu:Stmt:=top 66
noncomputable abbrev qE:Stmt:=top 68
noncomputable abbrev tz:Stmt:=top 67
noncomputable abbrev oT:Stmt:=top 74
noncomputable abbrev mZ:Stmt:=top 61
noncomputable abbrev m_:Stmt:=top 65
noncomputable abbrev tD:Stmt:=top 69
noncomputable abbrev oU:Stmt:=top 70
noncomputable abbrev lT:Stmt:=top 20
noncomputable abbrev lU:Stmt:=top 23
noncomputable abbrev kI:Stmt:=bv 55 0
noncomputable abbrev fZ:Stmt:=bv 55 8
noncomputable abbrev iL:Stmt:=bv 55 5
noncomputable abbrev hU:Stmt:=bv 55 7
noncomputable abbrev iM:Stmt:=bv 55 6
noncomputable abbrev jm:Stmt:=bv 55 4
noncomputable abbrev iN:Stmt:=bv 55 2
noncomputable abbrev iO:Stmt:=bv 55 3
noncomputable abbrev hV:Stmt:=bv 55 1
noncomputable abbrev hX:Stmt:=bv 55 11
noncomputable abbrev hZ:Stmt:=bv 55 10
noncomputable abbrev gt:Stmt:=bv 55 9
noncomputable abbrev kJ:Stmt:=bv 49 0
noncomputable abbrev h_:Stmt:=bv 49 6
noncomputable abbrev gu:Stmt:=bv 49 4
noncomputable abbrev qF:Stmt:=top 19
noncomputable abbrev qG:Stmt:=top 21
noncomputable abbrev qH:Stmt:=top 39
noncomputable abbrev lV:Stmt:=top 41
noncomputable abbrev ng:Stmt:=top 43
noncomputable abbrev qI:Stmt:=top 38
noncomputable abbrev qJ:Stmt:=top 30
noncomputable abbrev lW:Stmt:=top 28
noncomputable abbrev qK:Stmt:=top 26
noncomputable abbrev ia:Stmt:=bv 49 7
noncomputable abbrev ib:Stmt:=bv 49 3
noncomputable abbrev gv:Stmt:=bv 49 5
noncomputable abbrev iP:Stmt:=bv 49 1
noncomputable abbrev oV:Stmt:=top 18
noncomputable abbrev ni:Stmt:=top 48
noncomputable abbrev nj:Stmt:=top 54
noncomputable abbrev zF:Stmt:=top 75
set_option genInjectivity false in
structure AdD where
 (mR:Addr)(lA:Gu)(nF:Addr)(mq:Gu)(tL:Addr)(rK:Gu)(tM:Addr)(rL:Gu)(rE:Addr)(pK:Gu)(tN:Addr)(rM:Gu)(nH:Addr)(mt:Gu)(mf:Addr)(kR:Gu)(tQ:Addr)(rP:Gu)(rF:Addr)(pL:Gu)(tO:Addr)(rN:Gu)(pE:Addr)(nN:Gu)(nG:Addr)(mr:Gu)(nI:Addr)(mv:Gu)(tP:Addr)(rO:Gu)(pF:Addr)(nO:Gu)(md:Addr)(kQ:Gu)(mh:Addr)(kS:Gu)(kP:Addr)(jX:Gu)(ga:Addr)(fN:Gu)(i4:Addr)(iC:Gu)(iq:Addr)(gN:Gu)(i5:Addr)(iD:Gu)(jn:Addr)(i6:Gu)(iY:Addr)(iA:Gu)(iZ:Addr)(iB:Gu)(iy:Addr)(gQ:Gu)(ir:Addr)(gO:Gu)(iu:Addr)(gP:Gu)(gJ:Addr)(ge:Gu)(kO:Addr)(jW:Gu)(im:Addr)(gK:Gu)(gH:Addr)(gb:Gu)(rC:Addr)(pI:Gu)(rD:Addr)(pJ:Gu)(rB:Addr)(pH:Gu)(mj:Addr)(kU:Gu)(nM:Addr)(my:Gu)(rH:Addr)(pN:Gu)(rG:Addr)(pM:Gu)(mi:Addr)(kT:Gu)(rJ:Addr)(pO:Gu)(ip:Addr)(gM:Gu)(io:Addr)(gL:Gu)(gI:Addr)(gc:Gu)(iX:Addr)(iz:Gu)(pG:Addr)(nP:Gu)(nJ:Addr)(mw:Gu)(nK:Addr)(mx:Gu)(z7:Addr)(uw:Gu)(bK:Addr)(aF:Addr)
set_option genInjectivity false in
structure Adr extends AdD where
 (jt ju fb df fg cY cZ bZ dF:Addr)
structure TxD(K:PySem.W.Frag)(mg:Str->Option F_)(a:AdD):Prop where
 bE:mK K mg "Reader" a.bK
 jo:dj K a.bK "shorts"
 fR:dj K a.bK "feet"
 eS:dj K a.bK "things"
 dg:dj K a.bK "going_on"
 aC:mK K mg "Setter" a.aF
 fE:dj K a.aF "numbers"
 gf:dj K a.aF "titles"
 fS:dj K a.aF "feet"
 dS:dj K a.aF "feet_set"
 cw:dj K a.aF "words"
 cu:dj K a.aF "marks"
 dt:dj K a.aF "heads"
 cJ:dj K a.aF "leap"
 dh:dj K a.aF "behind_head"
 jv:b8 K mg "_law_alike" qC ["found","due"] a.mR a.lA
 ny:b8 K mg "_law_cell_at" mX ["script","k"] a.nF a.mq
 bV:b8 K mg "_law_draw" tf ["cell","k","many"] a.tL a.rK
 tH:b8 K mg "_law_form" tj ["cell"] a.tM a.rL
 rj:b8 K mg "_law_leads" qD ["named","titles"] a.rE a.pK
 l0:b8 K mg "_law_name" tq ["cell","j"] a.tN a.rM
 j0:b8 K mg "_law_sign_by" mY ["cell","k"] a.nH a.mt
 l7:b8 K mg "_law_plain_by" lS ["cell"] a.mf a.kR
 tK:b8 K mg "_law_word" tu ["first","kind","cell","at","marks","feet"] a.tQ a.rP
 rm:b8 K mg "_law_named" qE ["rows","first"] a.rF a.pL
 tI:b8 K mg "_law_rows" tz ["script","ways","kinds"] a.tO a.rN
 pA:b8 K mg "_law_spaced" oT ["rows","first"] a.pE a.nN
 nz:b8 K mg "_law_is_name" mZ ["word"] a.nG a.mr
 nA:b8 K mg "_law_written" m_ ["kind","rest"] a.nI a.mv
 tJ:b8 K mg "_law_text" tD ["way","name","words"] a.tP a.rO
 pB:b8 K mg "_law_titles" oU ["named"] a.pF a.nO
 jF:b8 K mg "figures_of" lT ["number"] a.md a.kQ
 l8:b8 K mg "numbers_of" lU ["levels"] a.mh a.kS
 kN:cW K a.aF "__init__" "Setter.__init__" kI ["self","all_heads","feet"] a.kP a.jX
 f_:cW K a.aF "check_marks" "Setter.check_marks" fZ ["self"] a.ga a.fN
 iV:cW K a.aF "set_mark" "Setter.set_mark" iL ["self","name"] a.i4 a.iC
 ij:cW K a.aF "next_foot" "Setter.next_foot" hU ["self","name"] a.iq a.gN
 iW:cW K a.aF "set_word" "Setter.set_word" iM ["self","lead","word"] a.i5 a.iD
 dG:cW K a.aF "set_run" "Setter.set_run" jm ["self","lead","words","by_head"] a.jn a.i6
 iT:cW K a.aF "set_head" "Setter.set_head" iN ["self","k"] a.iY a.iA
 iU:cW K a.aF "set_list" "Setter.set_list" iO ["self"] a.iZ a.iB
 il:cW K a.aF "set_thing" "Setter.set_thing" hV ["self","thing"] a.iy a.gQ
 ik:cW K a.aF "number_at" "Setter.number_at" hX ["self","k"] a.ir a.gO
 fh:cW K a.aF "saying_of" "Setter.saying_of" hZ ["self","word"] a.iu a.gP
 gG:cW K a.aF "words_told" "Setter.words_told" gt ["self"] a.gJ a.ge
 kM:cW K a.bK "__init__" "Reader.__init__" kJ ["self"] a.kO a.jW
 dP:cW K a.bK "add_thing" "Reader.add_thing" h_ ["self","thing"] a.im a.gK
 gE:cW K a.bK "read_alone" "Reader.read_alone" gu ["self","words"] a.gH a.gb
 kD:b8 K mg "is_name" qF ["word"] a.rC a.pI
 rh:b8 K mg "kind_of" qG ["word"] a.rD a.pJ
 rc:b8 K mg "by_name" qH ["shorts"] a.rB a.pH
 l_:b8 K mg "size_among" lV ["named","nodes","count"] a.mj a.kU
 nE:b8 K mg "words_out" ng ["named","nodes","arguments"] a.nM a.my
 rz:b8 K mg "put_out" qI ["shorts","nodes"] a.rH a.pN
 rq:b8 K mg "node_of" qJ ["word","count"] a.rG a.pM
 l9:b8 K mg "opens_call" lW ["word"] a.mi a.kT
 rA:xj K mg "tree_of" qK ["words","count"] a.rJ a.pO .none
 dQ:cW K a.bK "words_out" "Reader.words_out" ia ["self","words","barred"] a.ip a.gM
 ii:cW K a.bK "read_foot" "Reader.read_foot" ib ["self","words"] a.io a.gL
 gF:cW K a.bK "read_words" "Reader.read_words" gv ["self","words"] a.gI a.gc
 iS:cW K a.bK "read_row" "Reader.read_row" iP ["self","words"] a.iX a.iz
 pC:b8 K mg "words_in" oV ["row"] a.pG a.nP
 nC:b8 K mg "read_rows" ni ["rows"] a.nJ a.mw
 nD:b8 K mg "set_words" nj ["rows","form"] a.nK a.mx
 wu:b8 K mg "law" zF ["script"] a.z7 a.uw
structure Txt(P:GH)(w:GJ)(K:PySem.W.Frag)(mg:Str->Option F_)(a:Adr):Prop extends TxD K mg a.toAdD where
 si:mg "all" = none
 i8:mg "bool" = none
 oz:mg "dict" = none
 fB:mg "enumerate" = none
 iJ:mg "int" = none
 bx:mg "isinstance" = none
 bO:mg "len" = none
 kE:mg "list" = none
 lB:mg "max" = none
 eQ:mg "range" = none
 jG:mg "str" = none
 sj:mg "sum" = none
 fT:mg "tuple" = none
 sk:mg "zip" = none
 yf:rW K mg "NoFoot" a.cY
 tR:rW K mg "NoMark" a.cZ
 rQ:rW K mg "TooLong" a.bZ
 y7:rW K mg "Twice" a.dF
 dw:ud K a.bZ a.bZ
 gq:mg "ALONE" = some (.ref a.jt)/\∀H,SqT K H a.jt [.str (PySem.Str.ofString ".page"),.str (PySem.Str.ofString ".odd"),.str (PySem.Str.ofString ".list")]
 eI:∃t,mg "FIGURES" = some (.str (PySem.Str.ofString "0123456789") t)
 gr:mg "HEADS" = some (.ref a.ju)/\∀H,SqT K H a.ju [.str (PySem.Str.ofString "="),.str (PySem.Str.ofString "=="),.str (PySem.Str.ofString "===")]
 fP:mg "KINDS" = some (.ref a.fb)/\uD P w K a.fb li
 fQ:mg "LEAPS" = some (.ref a.df)/\uD P w K a.df gT
 dR:∃t,mg "LETTERS" = some (.str (PySem.Str.ofString "abcdefghijklmnopqrstuvwxyz") t)
 cp:∃t,mg "LONGEST_NAME" = some (.int 12 t)
 cq:∃t,mg "LONGEST_TEXT" = some (.int 60 t)
 cU:∃t,mg "MOST_CALLS" = some (.int 400 t)
 bW:∃t,mg "MOST_FOOT_WORDS" = some (.int 39 t)
 bH:∃t,mg "MOST_WORDS_books" = some (.int 400 t)
 bJ:∃t,mg "MOST_WORDS_shorts" = some (.int 400 t)
 dJ:mg "POINTING" = some (.ref a.fg)/\∀H,SqT K H a.fg [.str (PySem.Str.ofString "number"),.str (PySem.Str.ofString "page"),.str (PySem.Str.ofString "row")]
section
variable {P:GH}{w:GJ}{K:PySem.W.Frag}{mg:Str->Option F_}{base:Heap}{a:Adr}


theorem uq:aL ["found","due","k"] ["found","due"] (av qC):=by walk_at "c"
theorem qL(T:Txt P w K mg a):∀n:Nat,a_ P w K mg base CX0 n a.mR a.lA ["found","due"] (xg K n)
 |0=>⟨λvs H Q E h=>(by obtain⟨d,x,y,_,h0,_⟩:=h;exact absurd h0 (Jw _)),λA outer s H args us vs Q E _ _ _ _ h=>(by obtain⟨d,x,y,_,h0,_⟩:=h;exact absurd h0 (Jw _))⟩
 |n+1=>by
  have g_l_alike:=qL T n;have jv:=T.jv;have i8:=T.i8;have iJ:=T.iJ;have bx:=T.bx;have bO:=T.bO;have kE:=T.kE;have eQ:=T.eQ;have jG:=T.jG;have fT:=T.fT

  refine T.jv.fn.ok uq (λvs H Q E h=>?_) (λcdv A outer s H vs Q E hr h=>?_)
  .obtain⟨d,x,y,rfl,_⟩:=h;rfl
  obtain⟨d,x,y,rfl,hd,rx,ry,q⟩:=h;refine⟨_,(ag (aI (dL (aH dZ rfl bx GR (aa (pv 1) (aa (e_ (v:=.ty "bool") rfl i8 Jd rfl) ae))) (λ_=>rfl)) (ai (aP (j6 (aH dZ rfl bx GR (aa (pv 0) (aa (e_ (v:=.ty "bool") rfl i8 Jd rfl) ae))) (jw (dA bn (pv 0) (pv 1) (nomark _)))))) aK)
   (ag (aI (dL (aH dZ rfl bx GR (aa (pv 1) (aa (e_ (v:=.ty "int") rfl iJ HL rfl) ae))) (λ_=>rfl)) (ai (aP (j6 (aH dZ rfl bx GR (aa (pv 0) (aa (e_ (v:=.ty "int") rfl iJ HL rfl) ae))) (j6 (DV (aH dZ rfl bx GR (aa (pv 0) (aa (e_ (v:=.ty "bool") rfl i8 Jd rfl) ae)))) (jw (dA bn (pv 0) (pv 1) (nomark _))))))) aK)
   (ag (aI (dL (aH dZ rfl bx GR (aa (pv 1) (aa (e_ (v:=.ty "str") rfl jG IB rfl) ae))) (λ_=>rfl)) (ai (aP (j6 (aH dZ rfl bx GR (aa (pv 0) (aa (e_ (v:=.ty "str") rfl jG IB rfl) ae))) (jw (dA bn (pv 0) (pv 1) (nomark _)))))) aK)
   (ag (aI (dL (aH dZ rfl bx GR (aa (pv 1) (aa (e_ (v:=.ty "tuple") rfl fT Io rfl) ae))) (λ_=>rfl)) (ai (aI (lE (dL (aH dZ rfl bx GR (aa (pv 0) (aa (e_ (v:=.ty "tuple") rfl fT Io rfl) ae))) (λ_=>rfl))) (ai (aP cN)) aK)) (ai (aI (lE (dL (aH dZ rfl bx GR (aa (pv 0) (aa (e_ (v:=.ty "list") rfl kE PyProof.Rows.boot_list rfl) ae))) (λ_=>rfl))) (ai (aP cN)) aK)))
   (ag (aI (au iF (aH oF rfl bO PySem.boot_len (aa (pv 0) ae)) (aH oF rfl bO PySem.boot_len (aa (pv 1) ae)) (nomark _)) (ai (aP cN)) aK)
   (ag (cA Hb rfl (mD rfl eQ (aa (aH oF rfl bO PySem.boot_len (aa (pv 1) ae)) ae)) (aS (i:=2) uq.nd rfl (Gr rfl)) (ai (aI (lE (dL (aD jv g_l_alike hr rfl (aa (aJ Aq (pv 0) (pv 2) (λ_ _=>rfl)) (aa (aJ Aq (pv 1) (pv 2) (λ_ _=>rfl)) ae))) (λ_=>rfl))) (ai (aP cN)) aK)))
   (ai (aP cN)))))))),?_⟩
  cases d with
  |bl b =>
   unfold Rep at rx ry;subst rx ry;refine⟨_,rfl,_,"bool",true,rfl,by decide,rfl,_,rfl,?_⟩;refine aM ?_;refine⟨_,rfl,_,"bool",true,rfl,by decide,rfl,_,rfl,?_⟩;refine aM ?_;refine⟨_,rfl,_,rfl,rfl,?_⟩;rw[decide_eq_true rfl];exact q
  |int i =>
   unfold Rep at rx ry;subst rx ry;refine⟨_,rfl,_,"bool",false,rfl,by decide,rfl,_,rfl,?_⟩;refine ay ?_;refine⟨_,rfl,_,"int",true,rfl,by decide,rfl,_,rfl,?_⟩;refine aM ?_;refine⟨_,rfl,_,"int",true,rfl,by decide,rfl,_,rfl,?_⟩;refine aM ?_;refine⟨_,rfl,_,"bool",false,rfl,by decide,rfl,_,rfl,_,rfl,?_⟩;refine aM ?_;refine⟨_,rfl,_,rfl,rfl,?_⟩;rw[decide_eq_true rfl];exact q
  |str i =>
   unfold Rep at rx ry;subst rx ry;refine⟨_,rfl,_,"bool",false,rfl,by decide,rfl,_,rfl,?_⟩;refine ay ?_;refine⟨_,rfl,_,"int",false,rfl,by decide,rfl,_,rfl,?_⟩;refine ay ?_;refine⟨_,rfl,_,"str",true,rfl,by decide,rfl,_,rfl,?_⟩;refine aM ?_;refine⟨_,rfl,_,"str",true,rfl,by decide,rfl,_,rfl,?_⟩;refine aM ?_;refine⟨_,rfl,_,rfl,rfl,?_⟩;rw[decide_eq_true rfl];exact q
  |lst l =>
   unfold Rep at rx ry;unfold DD.deep at hd;obtain⟨a1,xs,rfl,s1,hl,r1⟩:=rx;obtain⟨a2,ys,rfl,s2,_,r2⟩:=ry;have l1:=r1.len;have l2:=r2.len;refine⟨_,rfl,_,"bool",false,rfl,by decide,.inl ⟨⟨_,s2⟩,rfl⟩,_,rfl,?_⟩;refine ay ?_;refine⟨_,rfl,_,"int",false,rfl,by decide,.inl ⟨⟨_,s2⟩,rfl⟩,_,rfl,?_⟩;refine ay ?_;refine⟨_,rfl,_,"str",false,rfl,by decide,.inl ⟨⟨_,s2⟩,rfl⟩,_,rfl,?_⟩;refine ay ?_;refine⟨_,rfl,_,"tuple",false,rfl,by decide,.inl ⟨⟨_,s2⟩,rfl⟩,_,rfl,?_⟩;refine ay ?_;refine⟨_,rfl,_,"list",true,rfl,by decide,.inl ⟨⟨_,s1⟩,rfl⟩,_,rfl,?_⟩;refine ay ?_;refine⟨_,rfl,_,_,rfl,.inl ⟨_,s1,rfl⟩,_,rfl,_,_,rfl,.inl ⟨_,s2,rfl⟩,rfl,_,rfl,?_⟩;refine Cz (by rw[l1,l2]) ?_;refine⟨_,rfl,_,_,rfl,.inl ⟨_,s2,rfl⟩,_,rfl,by omega,by omega,jp (λi σ H2=>H2=H/\∃v,σ=[some (.ref a1),some (.ref a2),v]) ⟨rfl,none,rfl⟩ ?_ ?_⟩
   .rintro i σ H2 hi ⟨rfl,v,rfl⟩;have hi2:i<l.length:=by simp at hi;omega
    obtain⟨x,ex,hx⟩:=r1.get (Ge hi2);obtain⟨y,ey,hy⟩:=r2.get (Ge hi2);have hdd:=qq (Ge hi2);have ix:∀{zs:List V} {z:V},zs[i]?=some z->atI zs (0+(i:Int))=some z:=λe=>by rw[JB];exact cF e
    refine⟨_,rfl,_,rfl,.inl ⟨_,_,_,_,rfl,rfl,s1,ix ex,_,rfl,_,rfl,.inl ⟨_,_,_,_,rfl,rfl,s2,ix ey,_,_,_,rfl,by omega,hx,hy,_,rfl,?_⟩⟩⟩;refine ay ?_;exact⟨rfl,_,rfl⟩
   .rintro σ H2 ⟨rfl,v,rfl⟩;exact q
  |tup l =>
   unfold Rep at rx ry;unfold DD.deep at hd;obtain⟨a1,xs,rfl,s1,hl,r1⟩:=rx;obtain⟨a2,ys,rfl,s2,_,r2⟩:=ry;have l1:=r1.len;have l2:=r2.len;refine⟨_,rfl,_,"bool",false,rfl,by decide,.inr ⟨⟨_,s2⟩,rfl⟩,_,rfl,?_⟩;refine ay ?_;refine⟨_,rfl,_,"int",false,rfl,by decide,.inr ⟨⟨_,s2⟩,rfl⟩,_,rfl,?_⟩;refine ay ?_;refine⟨_,rfl,_,"str",false,rfl,by decide,.inr ⟨⟨_,s2⟩,rfl⟩,_,rfl,?_⟩;refine ay ?_;refine⟨_,rfl,_,"tuple",true,rfl,by decide,.inr ⟨⟨_,s2⟩,rfl⟩,_,rfl,?_⟩;refine aM ?_;refine⟨_,rfl,_,"tuple",true,rfl,by decide,.inr ⟨⟨_,s1⟩,rfl⟩,_,rfl,?_⟩;refine ay ?_;refine⟨_,rfl,_,_,rfl,.inr ⟨_,s1,rfl⟩,_,rfl,_,_,rfl,.inr ⟨_,s2,rfl⟩,rfl,_,rfl,?_⟩;refine Cz (by rw[l1,l2]) ?_;refine⟨_,rfl,_,_,rfl,.inr ⟨_,s2,rfl⟩,_,rfl,by omega,by omega,jp (λi σ H2=>H2=H/\∃v,σ=[some (.ref a1),some (.ref a2),v]) ⟨rfl,none,rfl⟩ ?_ ?_⟩
   .rintro i σ H2 hi ⟨rfl,v,rfl⟩;have hi2:i<l.length:=by simp at hi;omega
    obtain⟨x,ex,hx⟩:=r1.get (Ge hi2);obtain⟨y,ey,hy⟩:=r2.get (Ge hi2);have hdd:=qq (Ge hi2);have ix:∀{zs:List V} {z:V},zs[i]?=some z->atI zs (0+(i:Int))=some z:=λe=>by rw[JB];exact cF e
    refine⟨_,rfl,_,rfl,.inr (.inl ⟨_,_,_,_,rfl,rfl,s1,ix ex,_,rfl,_,rfl,.inr (.inl ⟨_,_,_,_,rfl,rfl,s2,ix ey,_,_,_,rfl,by omega,hx,hy,_,rfl,?_⟩)⟩)⟩;refine ay ?_;exact⟨rfl,_,rfl⟩
   .rintro σ H2 ⟨rfl,v,rfl⟩;exact q
theorem zG(T:Txt P w K mg a):a_ P w K mg base CX0 5 a.mR a.lA ["found","due"] (xg K 5):=qL T 5
def xF(K:PySem.W.Frag):Sp:=λvs H Q _=>∃(b:Addr) (ns:List Int) (k:Nat),vs=[.ref b,.int (k:Int)]/\SqL K H b (ns.map V.int)/\Q (.int (ns.getD k 0)) H
theorem xG:aL ["script","k"] ["script","k"] (av mX):=by walk_at "c"
theorem xH(T:Txt P w K mg a):a_ P w K mg base CX0 1 a.nF a.mq ["script","k"] (xF K):=by
 refine T.ny.fn.ok xG (λvs H Q E h=>?_) (λcdv A outer s H vs Q E hr h=>?_)
 .obtain⟨b,ns,k,rfl,_⟩:=h;rfl
 obtain⟨b,ns,k,rfl,hS,q⟩:=h;refine⟨_,(ag (aI (au vU (pv 1) (aH bw rfl T.bO PySem.boot_len (aa (pv 0) ae)) (nomark _)) (ai (aP (aJ bN (pv 0) (pv 1) (λ_ _=>rfl)))) aK)
   (ai (aP ah))),?_⟩
 refine⟨_,rfl,_,rfl,_,_,rfl,.inl hS,_,_,rfl,rfl,_,rfl,?_⟩;refine eY (λc=>?_) (λc=>?_)
 .have hk:k<ns.length:=by
   have:=of_decide_eq_true c;rw[F9]at this;omega
  refine⟨_,rfl,_,rfl,_,_,_,_,rfl,rfl,hS,cF (j:=k) (v:=.int (ns.getD k 0)) ?_,q⟩;rw[GD,Ge hk,GL,Ge hk];rfl
 .have hk:ns.length<=k:=by
   refine II λhk=>c (decide_eq_true ?_);rw[F9];omega
  have e:ns.getD k 0=0:=by rw[GL,Je hk];rfl
  rw[e]at q;exact q
def bU(c k m:Int):Int:=(c+1)*(48271+7919*k*k)%2147483647*((c+1)*(48271+7919*k*k)%2147483647)%2147483629/7%m
theorem dX(c k:Int){m:Int}(h:0<m):0<=bU c k m/\bU c k m<m:=⟨Int.emod_nonneg _ (by omega),Int.emod_lt_of_pos _ h⟩
theorem Fj{k:Int}(h0:0<=k)(h1:k<=100000):0<=7919*k*k/\7919*k*k<=79190000000000:=by
 have a:=Int.mul_nonneg h0 h0;have b:k*k<=100000*100000:=Int.mul_le_mul h1 h1 h0 (by decide);rw[Int.mul_assoc];omega
def A7:Sp:=λvs H Q _=>∃c k m:Int,vs=[.int c,.int k,.int m]/\(0<=k/\k<=100000)/\0<m/\Q (.int (bU c k m)) H
theorem vo:aL ["cell","k","many","number"] ["cell","k","many"] (av tf):=by walk_at "c"
theorem bR(T:Txt P w K mg a):a_ P w K mg base CX0 1 a.tL a.rK ["cell","k","many"] A7:=by
 refine T.bV.fn.ok vo (λvs H Q E h=>?_) (λcdv A outer s H vs Q E hr h=>?_)
 .obtain⟨c,k,m,rfl,_⟩:=h;rfl
 obtain⟨c,k,m,rfl,⟨h0,h1⟩,hm,q⟩:=h;refine⟨_,(ag (aA (i:=3) vo.nd rfl (Gr rfl) (aG nS (aG tZ (aG ca (pv 0) ah) (aG ca ah (aG tZ (aG tZ ah (pv 1)) (pv 1)))) ah))
   (ai (aP (aG nS (aG yw (aG nS (aG tZ (pv 3) (pv 3)) ah) ah) (pv 2))))),?_⟩
 have sq:=Fj h0 h1;refine⟨_,rfl,_,_,rfl,rfl,_,rfl,_,_,rfl,rfl,.inl ⟨by decide,by decide⟩,_,rfl,_,_,rfl,rfl,.inr ⟨by omega,by omega⟩,_,_,rfl,rfl,_,_,rfl,rfl,.inr ⟨by omega,by omega⟩,_,_,rfl,rfl,(by decide:(0:Int)<2147483647),?_⟩;refine⟨_,rfl,_,rfl,_,_,rfl,rfl,.inl ⟨by omega,by omega⟩,_,_,rfl,rfl,(by decide:(0:Int)<2147483629),_,_,rfl,rfl,⟨by decide,by decide⟩,_,rfl,_,_,rfl,rfl,hm,?_⟩;exact q
theorem jS(c k:Int){m:Nat}(h:0<m):∃d:Nat,bU c k (m:Int)=(d:Int)/\d<m:=by
 have:=dX c k (show(0:Int)<(m:Int) by omega);exact⟨(bU c k m).toNat,by omega,by omega⟩

theorem at4(a b c d:Int):∀k:Nat,k<4->∃w,atI [V.int a,V.int b,V.int c,V.int d] (k:Int)=some (V.int w)
 |0,_=>⟨a,rfl⟩
 |1,_=>⟨b,rfl⟩
 |2,_=>⟨c,rfl⟩
 |3,_=>⟨d,rfl⟩

def A8:Sp:=λvs H Q _=>∃c:Int,vs=[.int c]/\∀p H' (x y z u:Int),H p=none->am H H'->H' p=some (.tup [.int x,.int y,.int z,.int u])->Q (.ref p) H'
theorem vp:aL ["cell","wide"] ["cell"] (av tj):=by walk_at "c"
theorem A9(T:Txt P w K mg a):a_ P w K mg base CX0 2 a.tM a.rL ["cell"] A8:=by
 refine T.tH.fn.ok vp (λvs H Q E h=>?_) (λcdv A outer s H vs Q E hr h=>?_)
 .obtain⟨c,rfl,_⟩:=h;rfl
 obtain⟨c,rfl,q⟩:=h;refine⟨_,(ag (aA (i:=1) vp.nd rfl (Gr rfl) (aJ bN (aQ (aa (aG ca ah (aD T.bV (bR T) (hr.mono (by decide)) rfl (aa (pv 0) (aa ah (aa ah ae))))) (aa ah (aa ah (aa (aG ca ah (aD T.bV (bR T) (hr.mono (by decide)) rfl (aa (pv 0) (aa ah (aa ah ae))))) ae))))) (aD T.bV (bR T) (hr.mono (by decide)) rfl (aa (pv 0) (aa ah (aa ah ae)))) (λ_ _=>rfl)))
   (ai (aP (bp (aa (pv 1) (aa (aG ca ah (aD T.bV (bR T) (hr.mono (by decide)) rfl (aa (pv 0) (aa ah (aa ah ae))))) (aa (aG nS (pv 0) (aG ca (aG D0 ah ah) ah)) (aa (aG ca ah (aD T.bV (bR T) (hr.mono (by decide)) rfl (aa (pv 0) (aa ah (aa ah ae))))) ae)))))))),?_⟩
 obtain⟨n,en,hn⟩:=jS c 77 (show 0<4 by decide);have en:bU c 77 4=(n:Int):=en;refine⟨_,rfl,_,75,200,rfl,⟨by decide,by decide⟩,by decide,_,_,rfl,rfl,_,rfl,_,76,30,rfl,⟨by decide,by decide⟩,by decide,_,_,rfl,rfl,le4,λp1 hp1=>?_⟩;obtain⟨w,hw⟩:=at4 (1+bU c 75 200) 1 200 (1+bU c 76 30) n hn;refine⟨_,rfl,_,77,4,rfl,⟨by decide,by decide⟩,by decide,_,_,_,_,rfl,rfl,SqL.of ac,(by rw[en];exact hw),?_⟩;refine⟨_,rfl,_,rfl,_,78,60,rfl,⟨by decide,by decide⟩,by decide,_,_,rfl,rfl,_,rfl,_,_,rfl,rfl,⟨by decide,by decide,by decide⟩,_,_,rfl,rfl,_,_,rfl,rfl,(by show(0:Int)<10^H_ 60+1;decide),_,rfl,_,79,60,rfl,⟨by decide,by decide⟩,by decide,_,_,rfl,rfl,le4,λp2 hp2=>?_⟩;exact q p2 _ _ _ _ _ ((af hp1 _).free hp2) ((af hp1 _).trans (af hp2 _)) ac

def bI:List Wk->Nat->List (Str×Nat)
 |[],_=>[]
 |w::r,n=>if w.1=.mark then(rest w.2,n)::bI r n else bI r (n+1)
def aU(ws:List Wk):Nat:=(ws.filter λw=>!decide (w.1=.mark)).length
theorem jT:∀(a b:List Wk) (n:Nat),bI (a++b) n=bI a n++bI b (n+aU a)
 |[],b,n=>by simp[bI,aU]
 |w::r,b,n=>by
  by_cases h:w.1=.mark
  .have e:aU (w::r)=aU r:=by unfold aU;simp[h]
   rw[e];show(if w.1=.mark then _ else _)=(if w.1=.mark then _ else _)++_;rw[if_pos h,if_pos h];show(rest w.2,n)::bI (r++b) n=_;rw[jT r b n];rfl
  .have e:aU (w::r)=aU r+1:=by unfold aU;simp[h]
   rw[e];show(if w.1=.mark then _ else bI (r++b) (n+1))=(if w.1=.mark then _ else bI r (n+1))++_;rw[if_neg h,if_neg h,jT r b (n+1),show n+1+aU r=n+(aU r+1) by omega]
abbrev Lk:=Int×Bool
def lk(t:Wt):Lk:=(t.lead,t.kept)
def cC(n:Nat)(ld:Int)(byh:Bool):List Lk:=if n=0 then[]else(ld,false)::Gc (n-1) (0,byh)
def cm(w:Int)(h:Bool):List Lk->List Lk
 |[]=>[]
 |(l,k)::r=>(if 0<w then(w,k)else(l,h||k))::r
def sz(ws:List NWd):Nat:=aU (wkS ws)
def lsT(ld:Int):List Ttl->List Lk
 |[]=>[]
 |t::r=>cC (sz t.2+2) ld false++lsT 1 r
structure Lds where
 wait:Int
 hd:Bool
 go:Bool
def ldB(tt:List Ttl)(s:Lds)(r:bM):List Lk:=if r.1=.words then cC (sz r.2.2) (if s.go then 0 else if s.hd then 1 else 2) false else if r.1=.lst then lsT 2 tt else if r.1.hd=true then cC (1+sz r.2.2) 2 true else[]
def ldW(w:Int)(r:bM):Int:=if r.1=.page then(if w<3 then 3 else w)else if r.1=.odd then(if w<4 then 4 else w)else w
def ldN(tt:List Ttl)(s:Lds)(r:bM):Lds:=⟨if(ldB tt s r).isEmpty then ldW s.wait r else 0,if(ldB tt s r).isEmpty then s.hd else r.1.hd,if r.1=.foot then s.go else decide (r.1=.words)&&(s.go || !(ldB tt s r).isEmpty)⟩
def eV(tt:List Ttl):Lds->List bM->List Lk
 |_,[]=>[]
 |s,r::rs=>cm (ldW s.wait r) s.hd (ldB tt s r)++eV tt (ldN tt s r) rs
theorem jU(n:Nat)(ld:Int)(byh:Bool):(cC n ld byh).length=n:=by
 unfold cC;by_cases e:n=0
 .rw[if_pos e,e];rfl
 .rw[if_neg e];simp;omega
theorem cO(n:Nat)(ld:Int)(byh:Bool):cC (n+1) ld byh=(ld,false)::Gc n (0,byh):=by unfold cC;simp
theorem oW(n:Nat)(ld:Int)(b:Bool):(cC n ld b).isEmpty=decide (n=0):=by
 cases n with
 |zero=>rfl
 |succ n=>rw[cO];rfl
def ld0:Lds:=⟨0,false,false⟩

def LkA(F:Hp)(v:V)(l:Lk):Prop:=∃a,v=.ref a/\F a=some (.tup [.int l.1,.bl l.2])
theorem LkA.mono{F F':Hp}(m:am F F'){v:V}{l:Lk}(h:LkA F v l):LkA F' v l:=by
 obtain⟨a,e,h⟩:=h;exact⟨a,e,m _ _ h⟩
def owV(b:List Lk):List V:=b.map λx=>V.int x.1
def kpV(b:List Lk):List V:=b.map λx=>V.bl x.2
theorem Dt(a b:List Lk):owV (a++b)=owV a++owV b:=Gm
theorem Du(a b:List Lk):kpV (a++b)=kpV a++kpV b:=Gm
theorem Dw{α:Type}(x:α)(n:Nat):(Gc n [x]).flatten=Gc n x:=by
 induction n with
 |zero=>rfl
 |succ n ih=>rw[GY,Ib,ih];rfl
theorem zH(ws:List NWd):sz ws<=ws.length:=by
 have:aU (wkS ws)<=(wkS ws).length:=Hq _ _;unfold wkS at this;rw[F9]at this;exact this
theorem xI{ws:List Wk}{j:Nat}{w:Wk}(h:ws[j]?=some w):aU (ws.take (j+1))=aU (ws.take j)+(if w.1=.mark then 0 else 1):=by
 rw[a7 h];unfold aU;rw[Hj,Ga];by_cases c:w.1=.mark<;>simp[c]
theorem tE:∀{tt:List Ttl} {t:Ttl} {k:Nat} {ld:Int},tt[k]?=some t->lsT ld (tt.take (k+1))=lsT ld (tt.take k)++cC (sz t.2+2) (if k=0 then ld else 1) false
 |[],_,_,_,h=>by simp at h
 |u::tt,t,0,ld,h=>by
  have:u=t:=by simpa using h
  subst this;show cC _ ld false++lsT 1 []=[]++_;rw[show lsT 1 []=[]from rfl,GF];rfl
 |u::tt,t,k+1,ld,h=>by
  have h:tt[k]?=some t:=by simpa using h
  show cC _ ld false++lsT 1 (tt.take (k+1))=(cC _ ld false++lsT 1 (tt.take k))++_;rw[tE (ld:=1) h,Gs];simp
theorem se:∀(tt:List Ttl) (ld:Int),(∀t∈tt,t.2.length<=129)->(lsT ld tt).length<=131*tt.length
 |[],_,_=>Gi _
 |t::tt,ld,h=>by
  have h1:=h t Gk;have h2:=zH t.2;have h3:=se tt 1 λx hx=>h x (Gh _ hx);show(cC (sz t.2+2) ld false++lsT 1 tt).length<=_;rw[Ga,jU,Gd];omega
theorem ED(w:Wy):inV (.str (tx w.t)) [V.str (PySem.Str.ofString ".page"),V.str (PySem.Str.ofString ".odd")]=(decide (w=.page)||decide (w=.odd)):=by
 rw[zx,zy];refine(on [oO,sX]).trans ?_;cases w<;>decide
def zI(K:PySem.W.Frag):Sp:=λvs H Q _=>∃(na ta:Addr) (nv tv:List V) (named:List bM) (tt:List Ttl),vs=[.ref na,.ref ta]/\H na=some (.lst nv)/\aW (NnA H) nv named/\H ta=some (.lst tv)/\aW (TtA H) tv tt/\named.length<=200/\tt.length<=63/\(∀r∈named,r.2.2.length<=129)/\(∀t∈tt,t.2.length<=129)/\∀p H' us,H p=none->am H H'->H' p=some (.lst us)->aW (LkA H') us (eV tt ld0 named)->Q (.ref p) H'
theorem bB:aL ["named","titles","due","wait","before","going","way","name","words","own","keeps","size","k"] ["named","titles"] (av qD):=by walk_at "c"
theorem zJ(T:Txt P w K mg a):a_ P w K mg base CX0 1 a.rE a.pK ["named","titles"] (zI K):=by
 refine T.rj.fn.ok bB (λvs H Q E h=>?_) (λcdv A outer s H vs Q E hr h=>?_)
 .obtain⟨na,ta,nv,tv,named,tt,rfl,_⟩:=h;rfl
 obtain⟨na,ta,nv,tv,named,tt,rfl,hna,nal,hta,tal,nl,tl,nw,tw,q⟩:=h;have hu:=ID (gS hr);refine⟨_,(ag (aA (i:=2) bB.nd rfl (Gr rfl) (aQ ae))
   (ag (aA (i:=3) bB.nd rfl (Gr rfl) ah)
   (ag (aA (i:=4) bB.nd rfl (Gr rfl) aq)
   (ag (aA (i:=5) bB.nd rfl (Gr rfl) cN)
   (ag (cA Hb rfl (bq (pv 0)) (fc rfl (bf (aS (i:=6) bB.nd rfl (Gr rfl)) (bf (aS (i:=7) bB.nd rfl (Gr rfl)) (bf (aS (i:=8) bB.nd rfl (Gr rfl)) dW)))) (ag (aA (i:=9) bB.nd rfl (Gr rfl) (aQ ae))
   (ag (aA (i:=10) bB.nd rfl (Gr rfl) (aQ ae))
   (ag (aA (i:=11) bB.nd rfl (Gr rfl) (aH bw rfl T.bO PySem.boot_len (aa (fY rfl (eB (caps:=[]) (js:=[]) (cap:=trivial)) (bq (pv 8)) (λ_ _ _ _=>(jq (au iF (aJ (r:=lH K) bC (pv 0) ah (λ_ _=>rfl)) aq (nomark _)))) (λ_ _ _ _=>(pv 0))) ae)))
   (ag (aI (au bn (pv 6) aq (nomark _)) (ag (aA (i:=9) bB.nd rfl (Gr rfl) (aG kg (aQ (aa ah ae)) (pv 11)))
   (ag (aA (i:=10) bB.nd rfl (Gr rfl) (aG kg (aQ (aa cN ae)) (pv 11)))
   (ai (aI (PW.pt (fF (au ja (pv 11) ah (nomark _)) (dU (lE (dL (pv 5) (λ_=>rfl)))))) (ai (nR (aG j7 ah (gX mF rfl T.iJ HL (aa (dA bn (pv 4) aq (nomark _)) ae))) (nQ (pv 9) ah jL))) aK)))) (ai (aI (au bn (pv 6) aq (nomark _)) (ai (cA Hb rfl (mD rfl T.eQ (aa (aH bw rfl T.bO PySem.boot_len (aa (pv 1) ae)) ae)) (aS (i:=12) bB.nd rfl (Gr rfl)) (ag (aA (i:=11) bB.nd rfl (Gr rfl) (aH bw rfl T.bO PySem.boot_len (aa (fY rfl (eB (caps:=[]) (js:=[]) (cap:=trivial)) (bq (aJ bC (aJ bN (pv 1) (pv 12) (λ_ _=>rfl)) ah (λ_ _=>rfl))) (λ_ _ _ _=>(jq (au iF (aJ (r:=lH K) bC (pv 0) ah (λ_ _=>rfl)) aq (nomark _)))) (λ_ _ _ _=>(pv 0))) ae)))
   (ag (bj (cG PySem.F.plainAttrs_list PySem.F.slot_list_extend PySem.F.type_list_extend j_ (pv 9) (aa (aG gg (aQ (aa (aG j7 ah (gX mF rfl T.iJ HL (aa (dA ja (pv 12) ah (nomark _)) ae))) ae)) (aG kg (aQ (aa ah ae)) (aG ca (pv 11) ah))) ae)))
   (ai (bj (cG PySem.F.plainAttrs_list PySem.F.slot_list_extend PySem.F.type_list_extend j_ (pv 10) (aa (aG kg (aQ (aa cN ae)) (aG ca (pv 11) ah)) ae)))))))) (ai (aI (PW.pt (fF (au iF (pv 6) aq (nomark _)) (dU (au bn (aJ ef (pv 6) ah (λ_ _=>rfl)) aq (nomark _))))) (ag (aA (i:=9) bB.nd rfl (Gr rfl) (aG gg (aQ (aa ah ae)) (aG kg (aQ (aa ah ae)) (pv 11))))
   (ai (aA (i:=10) bB.nd rfl (Gr rfl) (aG gg (aQ (aa cN ae)) (aG kg (aQ (aa cN ae)) (pv 11)))))) (ai (aI (au gY (pv 6) (bp (aa aq (aa aq ae))) (by with_unfolding_all rfl)) (ai (aA (i:=3) bB.nd rfl (Gr rfl) (aH (mE rfl) rfl T.lB IC (aa (pv 3) (aa (aG ca ah (gX mF rfl T.iJ HL (aa (dA bn (pv 6) aq (nomark _)) ae))) ae))))) aK)))))))
   (ag (aI (au (lL hu) (pv 9) (aQ ae) (nomark _)) (ag (aI (au ja (pv 3) ah (nomark _)) (ai (nR (pv 3) (nQ (pv 9) ah jL))) (ai (aI (au bn (pv 4) aq (nomark _)) (ai (nR cN (nQ (pv 10) ah jL))) aK)))
   (ag (aA (i:=3) bB.nd rfl (Gr rfl) ah)
   (ag (aA (i:=4) bB.nd rfl (Gr rfl) (pv 6))
   (ag (aI (au bn (aJ ef (pv 6) ah (λ_ _=>rfl)) aq (nomark _)) (ai (aA (i:=4) bB.nd rfl (Gr rfl) aq)) aK)
   (ai (bj (cG PySem.F.plainAttrs_list PySem.F.slot_list_extend PySem.F.type_list_extend j_ (pv 2) (aa (xk rfl (eB (caps:=[]) (js:=[]) (cap:=trivial)) (Eh rfl T.sk (pv 9) (pv 10)) (λ_ _ _ _=>du) (λ_ _ _ _=>(bp (aa (pv 0) (aa (pv 1) ae))))) ae)))))))) aK)
   (ai (aI (au iF (pv 6) aq (nomark _)) (ai (aA (i:=5) bB.nd rfl (Gr rfl) (j6 (dA bn (pv 6) aq (nomark _)) (jw (Ct (pv 5) (jw (dA (lL hu) (pv 9) (aQ ae) (nomark _)))))))) aK))))))))
   (ai (aP (pv 2)))))))),?_⟩
 have ln:=nal.len;have lt:=tal.len;refine⟨aN (by simp),λp1 hp1=>?_⟩;have s1:=af hp1 (.lst []);have k1:upd H p1 (.lst []) p1=some (.lst []):=ac;generalize upd H p1 (.lst [])=H1 at s1 k1⊢;refine⟨_,rfl,na,rfl,⟨_,SqL.of (s1 _ _ hna)⟩,cK (K:=K) (a:=na) (xs:=nv) (λi σ' G=>∃(L:Lds) (b:Str) (v6 v7 v8 v9 v10 v11 v12:Option V) (us:List V) (dn:List Lk),σ'=[some (.ref na),some (.ref ta),some (.ref p1),some (.int L.wait),some (.str b),some (.bl L.go),v6,v7,v8,v9,v10,v11,v12]/\decide (V.str b=V.str (PySem.Str.ofString "head"))=L.hd/\am H G/\G p1=some (.lst us)/\aW (LkA (hid [p1] G)) us dn/\eV tt ld0 named=dn++eV tt L (named.drop i)/\us.length<=9000*i) ⟨ld0,(PySem.Str.ofString ""),none,none,none,none,none,none,none,[],[],rfl,by decide +kernel,s1,k1,trivial,rfl,GZ _⟩ (λi σ' G _ g=>by obtain⟨_,_,_,_,_,_,_,_,_,_,_,_,_,m,_⟩:=g;exact SqL.of (m _ _ hna)) ?_ ?_⟩
 .rintro i y σ' G hy ⟨L,b,v6,v7,v8,v9,v10,v11,v12,us,dn,rfl,hbh,m,g1,dal,es,ul⟩;obtain⟨⟨wy,nm,ws⟩,hn,bb,l,rfl,hbb,hl⟩:=nal.getL hy;have hi:=(List.getElem?_eq_some_iff.mp hn).1;have wl:=nw _ (Gj hn);dsimp only at hbb hl wl;have ed:named.drop i=(wy,nm,ws)::named.drop (i+1):=by
   obtain⟨hi,e⟩:=List.getElem?_eq_some_iff.mp hn;rw[Hg hi,e]
  rw[ed]at es;have es:eV tt ld0 named=dn++(cm (ldW L.wait (wy,nm,ws)) L.hd (ldB tt L (wy,nm,ws))++eV tt (ldN tt L (wy,nm,ws)) (named.drop (i+1))):=es;obtain⟨cs,l1,l2⟩:=hl;have lc:=l2.len;have lw:(wkS ws).length=ws.length:=by unfold wkS;rw[F9]
  have szl:=zH ws;refine⟨bb,_,rfl,SqT.of (m _ _ hbb),rfl,_,_,rfl,_,_,rfl,_,_,rfl,rfl,?_⟩;refine⟨aN (by simp),λp2 hp2=>?_⟩;have c2:=af hp2 (.lst []);have k2:upd G p2 (.lst []) p2=some (.lst []):=ac;generalize upd G p2 (.lst [])=G1 at c2 k2⊢;refine⟨aN (by simp),λp3 hp3=>?_⟩;have c3:=af hp3 (.lst []);have k3:upd G1 p3 (.lst []) p3=some (.lst []):=ac;have n3:G p3=none:=c2.free hp3;have n23:p2≠p3:=λz=>by rw[z,hp3]at k2;cases k2
  have k2:=c3 _ _ k2;have c23:=c2.trans c3;generalize upd G1 p3 (.lst [])=G2 at c3 k3 k2 c23⊢;refine⟨_,rfl,l,rfl,⟨_,SqL.of (c23 _ _ (m _ _ l1))⟩,dC (K:=K) (a:=l) (xs:=cs) (λj ys F=>G2=F/\ys.length=aU ((wkS ws).take j)/\ys.length<=j) ⟨rfl,rfl,Gi _⟩ (λj ys F _ z=>by rw[<-z.1];exact SqL.of (c23 _ _ (m _ _ l1))) ?_ ?_ ?_⟩
  .rintro j ys F hj ⟨_,_,z⟩;exact aw (by omega)
  .rintro j y' ys F hy' ⟨rfl,z,zl⟩;obtain⟨w',hw',wb,rfl,hwb⟩:=l2.getL hy';have en:=xI hw';refine⟨_,rfl,_,_,_,_,rfl,rfl,SqT.of (c23 _ _ (m _ _ hwb)),rfl,rfl,_,rfl,?_⟩;by_cases hm:w'.1=.mark
   .rw[decide_eq_true (show V.str w'.1.s=V.str (PySem.Str.ofString "mark") by rw[hm];rfl)];refine ay ?_;exact⟨rfl,by rw[en,if_pos hm];exact z,by omega⟩
   .rw[decide_eq_false (show ¬ (V.str w'.1.s=V.str (PySem.Str.ofString "mark"))from λzz=>hm (Kw.inj (b:=.mark) (V.str.inj zz)))];refine aM ?_;exact⟨_,rfl,rfl,by rw[en,if_neg hm,Ga,z];rfl,by rw[Ga];simp only[Gd,Gy];omega⟩
  rintro zs F ⟨rfl,zq,_⟩ p4 hp4;rw[lc,Gz]at zq;have zq:zs.length=sz ws:=zq;have c4:=af hp4 (.lst zs);have k4:upd G2 p4 (.lst zs) p4=some (.lst zs):=ac;have k2:=c4 _ _ k2;have k3:=c4 _ _ k3;have mG:=c23.trans c4;generalize upd G2 p4 (.lst zs)=G3 at c4 k4 k2 k3 mG⊢;refine⟨_,_,rfl,.inl (SqL.of k4),?_⟩;dsimp only[bD];rw[zq];refine cH (λσ' G'=>∃(po pk:Addr) (u11 u12:Option V),σ'=[some (.ref na),some (.ref ta),some (.ref p1),some (.int (ldW L.wait (wy,nm,ws))),some (.str b),some (.bl L.go),some (.str (tx wy.t)),some (.str (tx nm)),some (.ref l),some (.ref po),some (.ref pk),u11,u12]/\am G G'/\G po=none/\G pk=none/\po≠pk/\G' po=some (.lst (owV (ldB tt L (wy,nm,ws))))/\G' pk=some (.lst (kpV (ldB tt L (wy,nm,ws))))) ?_ (λkey=>?_)
  .rintro σ' G4 ⟨po,pk,u11,u12,rfl,m4,npo,npk,nok,ko,kk_⟩;have hln:(ldB tt L (wy,nm,ws)).length<=8500:=by
    unfold ldB
    split
    .rw[jU];dsimp only;omega
    split
    .have:=se tt 2 tw;omega
    split
    .rw[jU];dsimp only;omega
    .exact GZ _
   have emp:((ldB tt L (wy,nm,ws)).isEmpty=true->wy≠.words->wy≠.lst->wy.hd=false):=λz h1 h2=>by
    cases hh:wy.hd with
    |false=>rfl
    |true =>
     unfold ldB at z;rw[if_neg h1,if_neg h2,if_pos hh,oW]at z;simp at z
   have nem:(ldB tt L (wy,nm,ws)).isEmpty=false->∃c u,wy.t=c::u/\decide (c=61)=wy.hd:=λz=>by
    cases wy<;>first|exact⟨_,_,rfl,rfl⟩|(exfalso;revert z;exact(by decide:¬ (true=false)))
   have ldw:(ldB tt L (wy,nm,ws)).isEmpty=false->ldW L.wait (wy,nm,ws)=L.wait:=λz=>by
    cases wy<;>first|rfl|(exfalso;revert z;exact(by decide:¬ (true=false)))
   have eN:(ldN tt L (wy,nm,ws)).wait=(if(ldB tt L (wy,nm,ws)).isEmpty then ldW L.wait (wy,nm,ws)else 0)/\(ldN tt L (wy,nm,ws)).hd=(if(ldB tt L (wy,nm,ws)).isEmpty then L.hd else wy.hd)/\(ldN tt L (wy,nm,ws)).go=(if wy=.foot then L.go else decide (wy=.words)&&(L.go || !(ldB tt L (wy,nm,ws)).isEmpty)):=⟨rfl,rfl,rfl⟩;generalize ldN tt L (wy,nm,ws)=L' at es eN;generalize ldW L.wait (wy,nm,ws)=wt at *;generalize ldB tt L (wy,nm,ws)=B at *;refine cH (λσ' G'=>∃(b':Str) (us':List V) (xs:List V),σ'=[some (.ref na),some (.ref ta),some (.ref p1),some (.int (L'.wait)),some (.str b'),some (.bl L.go),some (.str (tx wy.t)),some (.str (tx nm)),some (.ref l),some (.ref po),some (.ref pk),u11,u12]/\decide (V.str b'=V.str (PySem.Str.ofString "head"))=L'.hd/\am H G'/\G' p1=some (.lst us')/\aW (LkA (hid [p1] G')) us' (dn++cm wt L.hd B)/\us'.length<=9000*i+8500/\G' po=some (.lst xs)/\xs.isEmpty=B.isEmpty) ?_ (λkey=>?_)
   .rintro σ' G5 ⟨b',us5,xs,rfl,hb5,m5,g5,dal5,ul5,kx,hx⟩;have fin:∀(g:Bool) (G':Hp),g=L'.go->am G5 G'->G' p1=some (.lst us5)->∃(L0:Lds) (b:Str) (v6 v7 v8 v9 v10 v11 v12:Option V) (us:List V) (dn:List Lk),[some (.ref na),some (.ref ta),some (.ref p1),some (.int (L'.wait)),some (.str b'),some (.bl g),some (.str (tx wy.t)),some (.str (tx nm)),some (.ref l),some (.ref po),some (.ref pk),u11,u12]=[some (.ref na),some (.ref ta),some (.ref p1),some (.int L0.wait),some (.str b),some (.bl L0.go),v6,v7,v8,v9,v10,v11,v12]/\decide (V.str b=V.str (PySem.Str.ofString "head"))=L0.hd/\am H G'/\G' p1=some (.lst us)/\aW (LkA (hid [p1] G')) us dn/\eV tt ld0 named=dn++eV tt L0 (named.drop (i+1))/\us.length<=9000*(i+1):=λg G' eg mm kp=>by subst eg;exact⟨L',b',_,_,_,_,_,_,_,us5,_,rfl,hb5,m5.trans mm,kp,dal5.imp λ_ _=>LkA.mono (a9 mm),by rw[es,Gs],by omega⟩
    refine⟨_,rfl,rfl,_,rfl,?_⟩;rw[bY jZ];by_cases hf:wy=.foot
    .rw[decide_eq_true (show wy.t=dI by rw[hf];rfl)];refine ay ?_;exact fin _ _ (by rw[eN.2.2,if_pos hf]) (am.refl _) g5
    .rw[decide_eq_false (show ¬ (wy.t=dI)from λz=>hf (Wy.inj (b:=.foot) z))];refine aM ?_;have eg:=eN.2.2;rw[if_neg hf]at eg;refine⟨_,rfl,rfl,_,rfl,?_⟩;rw[bY ku];by_cases hw:wy=.words
     .rw[decide_eq_true (show wy.t=[119,111,114,100,115] by rw[hw];rfl)];rw[decide_eq_true hw]at eg;refine aM ?_;refine⟨_,rfl,_,rfl,?_⟩;cases hg:L.go with
      |true =>
       refine aM ?_;exact fin _ _ (by rw[eg,hg];rfl) (am.refl _) g5
      |false =>
       refine ay ?_;refine⟨_,rfl,aN (by simp),λp5 hp5=>?_⟩;have c5:=af hp5 (.lst []);refine⟨_,_,xs,rfl,rfl,SqL.of (c5 _ _ kx),SqL.of ac,?_⟩;exact fin _ _ (by rw[eg,hg,hx];rfl) c5 (c5 _ _ g5)
     .rw[decide_eq_false (show ¬ (wy.t=[119,111,114,100,115])from λz=>hw (Wy.inj (b:=.words) z))];rw[decide_eq_false hw]at eg;refine ay ?_;exact fin _ _ (by rw[eg];rfl) (am.refl _) g5
   .have g4:=m4 _ _ g1;have dal4:aW (LkA (hid [p1] G4)) us dn:=dal.imp λ_ _=>LkA.mono (a9 m4);have npp:po≠p1/\pk≠p1:=⟨λz=>(by rw[z,g1]at npo;cases npo),λz=>(by rw[z,g1]at npk;cases npk)⟩;refine⟨_,rfl,aN (by simp),λp5 hp5=>?_⟩;have c5:=af hp5 (.lst []);have k5:upd G4 p5 (.lst []) p5=some (.lst []):=ac;have ko:=c5 _ _ ko;have kk_:=c5 _ _ kk_;have g4:=c5 _ _ g4;have m5:=m4.trans c5;have dal5:aW (LkA (hid [p1] (upd G4 p5 (.lst [])))) us dn:=dal4.imp λ_ _=>LkA.mono (a9 c5);generalize upd G4 p5 (.lst [])=G5 at c5 k5 ko kk_ g4 m5 dal5⊢;refine⟨_,_,_,rfl,rfl,SqL.of ko,SqL.of k5,_,rfl,?_⟩;have eo:(owV B).isEmpty=B.isEmpty:=by cases B<;>rfl
    rw[eo];cases hB:B with
    |nil =>
     subst hB;refine ay ?_;exact key _ _ ⟨b,us,[],by rw[eN.1];rfl,by rw[hbh,eN.2.1];rfl,m.trans m5,g4,by rw[show cm wt L.hd []=[]from rfl,GF];exact dal5,by omega,ko,rfl⟩
    |cons x0 B0 =>
     obtain⟨o0,q0⟩:=x0;rw[hB]at ko kk_ eN ldw hln nem key;have ewt:wt=L.wait:=ldw rfl;obtain⟨c,u,ec,hc⟩:=nem rfl;refine aM ?_;refine cH (λσ' G'=>σ'=[some (.ref na),some (.ref ta),some (.ref p1),some (.int (wt)),some (.str b),some (.bl L.go),some (.str (tx wy.t)),some (.str (tx nm)),some (.ref l),some (.ref po),some (.ref pk),u11,u12]/\am G G'/\G' po=some (.lst (owV (cm wt L.hd ((o0,q0)::B0))))/\G' pk=some (.lst (kpV (cm wt L.hd ((o0,q0)::B0))))) ?_ (λkey2=>?_)
     .rintro σ' G6 ⟨rfl,m6,ko6,kk6⟩;have lF:(cm wt L.hd ((o0,q0)::B0)).length<=8500:=hln;have ne6:(cm wt L.hd ((o0,q0)::B0)).isEmpty=false:=rfl;generalize cm wt L.hd ((o0,q0)::B0)=Fm at *;refine⟨_,rfl,?_⟩;dsimp only[bD];refine cH (λσ' G'=>∃b':Str,σ'=[some (.ref na),some (.ref ta),some (.ref p1),some (.int (0)),some (.str b'),some (.bl L.go),some (.str (tx wy.t)),some (.str (tx nm)),some (.ref l),some (.ref po),some (.ref pk),u11,u12]/\G6=G'/\decide (V.str b'=V.str (PySem.Str.ofString "head"))=wy.hd) ?_ (λkey3=>?_)
      .rintro σ' G7 ⟨b',rfl,rfl,hb'⟩;have g6:=m6 _ _ g1;have dal6:aW (LkA (hid [p1] G6)) us dn:=dal.imp λ_ _=>LkA.mono (a9 m6);refine⟨_,rfl,.inl ⟨rfl,_,SqL.of g6⟩,_,rfl,_,rfl,po,pk,rfl,rfl,⟨_,SqL.of ko6⟩,⟨_,SqL.of kk6⟩,Ei (K:=K) (a:=po) (b:=pk) (xs:=owV Fm) (ys:=kpV Fm) (λj zs F=>am G6 F/\aW (LkA F) zs (Fm.take j)) (by unfold owV kpV;rw[F9,F9]) ⟨am.refl _,trivial⟩ (λj zs F _ z=>⟨SqL.of (z.1 _ _ ko6),SqL.of (z.1 _ _ kk6)⟩) ?_ ?_ ?_⟩
       .rintro j zs F hj ⟨_,z⟩;have:=z.len;rw[GC]at this;exact GA (show zs.length<=1000000 by omega) (by decide)
       .rintro j x y' zs F pt ex ey ⟨mz,az⟩ hpt;unfold owV at ex;unfold kpV at ey;rw[GD]at ex ey;obtain⟨d,hd,rfl⟩:=Option.map_eq_some_iff.mp ex;rw[hd]at ey;cases ey;have ct:=af hpt (.tup [V.int d.1,V.bl d.2]);refine dM ?_;refine⟨_,rfl,_,rfl,le2,λp8 hp8=>?_⟩;have c8:=ct.trans (af hp8 (.tup [V.int d.1,V.bl d.2]));refine⟨mz.trans c8,?_⟩;rw[a7 hd];exact(az.imp λ_ _=>LkA.mono c8).snoc ⟨p8,rfl,ac⟩
       rintro zs F ⟨mz,az⟩ p9 hp9;rw[show(owV Fm).length=Fm.length by unfold owV;rw[F9],Gz]at az;have lz:=az.len;have c9:=af hp9 (.lst zs);have np9:p9≠p1:=λz=>by rw[z,mz _ _ g6]at hp9;cases hp9
       refine⟨_,_,_,_,rfl,rfl,c9 _ _ (mz _ _ g6),ac,GE (GA (show us.length+zs.length<=3000000 by omega) (by decide)),?_⟩;have m9:=(m6.trans mz).trans c9;have hn1:∀{v:V} {x:Lk},LkA F v x->LkA (hid [p1] (upd F p9 (.lst zs))) v x:=λ{v x} h=>by
        obtain⟨a,e,h⟩:=h;exact⟨a,e,bo (λz=>by rw[List.mem_singleton.mp z,mz _ _ g6]at h;cases h) (c9 _ _ h)⟩
       refine key _ _ ⟨b',us++zs,owV Fm,by rw[eN.1];rfl,by rw[hb',eN.2.1];rfl,aX (m.trans m9) hp1,ac,?_,by rw[Ga];omega,?_,by rw[show(owV Fm).isEmpty=Fm.isEmpty by cases Fm<;>rfl,ne6];rfl⟩
       .rw[bG (by simp)];exact(dal6.imp λ_ _=>LkA.mono (a9 (mz.trans c9))).app (az.imp λ_ _=>hn1)
       .rw[aj npp.1];exact(mz.trans c9) _ _ ko6
      .refine⟨_,rfl,_,_,c,rfl,rfl,(by rw[aY];cases wy<;>exact aN (by decide)),(by rw[ec];exact fH _ _),rfl,_,rfl,?_⟩
       rw[bY cH1,show decide ([c]=[61])=wy.hd from by rw[<-hc];simp];cases hh:wy.hd with
       |false =>
        refine ay ?_;refine key3 _ _ ⟨tx wy.t,rfl,rfl,?_⟩;rw[hh];refine decide_eq_false ?_;revert hh;cases wy<;>first|(intro z;cases z;done)|(intro _;decide +kernel)
       |true =>
        refine aM ?_;exact key3 _ _ ⟨(PySem.Str.ofString "head"),rfl,rfl,by rw[hh];decide +kernel⟩
     .refine⟨_,rfl,_,_,rfl,rfl,_,rfl,?_⟩;refine eY (λw0=>?_) (λw0=>?_)
      .have w0:0<wt:=of_decide_eq_true w0;refine⟨_,rfl,_,rfl,_,_,_,0,rfl,rfl,ko,uE (by simp[owV]),?_⟩;have mu:=aX (o:=.lst ((owV ((o0,q0)::B0)).set 0 (.int wt))) m5 npo;refine key2 _ _ ⟨rfl,mu,?_,?_⟩
       .rw[ac];show some (HO.lst (.int wt::owV B0))=some (HO.lst (owV ((if 0<wt then(wt,q0)else(o0,L.hd||q0))::B0)));rw[if_pos w0];rfl
       .rw[aj (GX nok),kk_];show some (HO.lst (.bl q0::kpV B0))=some (HO.lst (kpV ((if 0<wt then(wt,q0)else(o0,L.hd||q0))::B0)));rw[if_pos w0];rfl
      .have w0:¬ (0<wt):=λz=>w0 (decide_eq_true z);have eF:cm wt L.hd ((o0,q0)::B0)=(o0,L.hd||q0)::B0:=by show(if 0<wt then _ else _)::_=_;rw[if_neg w0]
       rw[eF]at key2;refine⟨_,rfl,rfl,_,rfl,?_⟩;rw[hbh];cases hh:L.hd with
       |true =>
        refine aM ?_;refine⟨_,rfl,_,_,_,0,rfl,rfl,kk_,uE (by simp[kpV]),?_⟩;have mu:=aX (o:=.lst ((kpV ((o0,q0)::B0)).set 0 (.bl true))) m5 npk;refine key2 _ _ ⟨rfl,mu,?_,?_⟩
        .rw[aj nok,ko];rfl
        .rw[ac,hh];rfl
       |false =>
        refine ay ?_;exact key2 _ _ ⟨rfl,m5,ko,by rw[hh];exact kk_⟩
  .have rp:∀(x:V) (n:Nat),(Gc ((n:Nat):Int).toNat [x]).flatten=Gc n x:=λx n=>by rw[Hx];exact Dw x n
   have hta3:=mG _ _ (m _ _ hta);refine⟨_,rfl,rfl,_,rfl,?_⟩;rw[bY ku];by_cases hw:wy=.words
   .rw[decide_eq_true (show wy.t=[119,111,114,100,115] by rw[hw];rfl)];refine aM ?_;subst hw;refine⟨le1,λq1 h1=>?_⟩;have d1:=af h1 (.lst [V.int 0]);have e1:upd G3 q1 (.lst [V.int 0]) q1=some (.lst [V.int 0]):=ac;generalize upd G3 q1 (.lst [V.int 0])=F1 at d1 e1⊢;refine⟨_,rfl,_,_,_,rfl,rfl,e1,(by omega),(by omega),(by rw[Hx];exact GE (aw (by simp;omega))),λq2 h2=>?_⟩;rw[rp];have d2:=af h2 (.lst (Gc (sz ws) (V.int 0)));have e2:upd F1 q2 (.lst (Gc (sz ws) (V.int 0))) q2=some (.lst (Gc (sz ws) (V.int 0))):=ac;generalize upd F1 q2 (.lst (Gc (sz ws) (V.int 0)))=F2 at d2 e2⊢;refine⟨le1,λq3 h3=>?_⟩;have d3:=af h3 (.lst [V.bl false]);have e3:upd F2 q3 (.lst [V.bl false]) q3=some (.lst [V.bl false]):=ac;generalize upd F2 q3 (.lst [V.bl false])=F3 at d3 e3⊢;refine⟨_,rfl,_,_,_,rfl,rfl,e3,(by omega),(by omega),(by rw[Hx];exact GE (aw (by simp;omega))),λq4 h4=>?_⟩;rw[rp];have d4:=af h4 (.lst (Gc (sz ws) (V.bl false)));have e4:upd F3 q4 (.lst (Gc (sz ws) (V.bl false))) q4=some (.lst (Gc (sz ws) (V.bl false))):=ac;have e2:=(d3.trans d4) _ _ e2;have nq:q2≠q4:=λz=>by rw[<-z,d3 _ _ (by assumption)]at h4;cases h4
    have mm:=mG.trans (d1.trans (d2.trans (d3.trans d4)));have n2:G q2=none:=(mG.trans d1).free h2;have n4:G q4=none:=(mG.trans (d1.trans (d2.trans d3))).free h4;generalize upd F3 q4 (.lst (Gc (sz ws) (V.bl false)))=F4 at d4 e4 e2 mm⊢;have fin:∀(G':Hp) (ld:Int),(sz ws≠0->ld=(if L.go then 0 else if L.hd then 1 else 2))->G' q2=some (.lst (owV (cC (sz ws) ld false)))->G' q4=some (.lst (Gc (sz ws) (V.bl false)))->G' q2=some (.lst (owV (ldB tt L (.words,nm,ws))))/\G' q4=some (.lst (kpV (ldB tt L (.words,nm,ws)))):=λG' ld el z1 z2=>by
     have eb:ldB tt L (.words,nm,ws)=cC (sz ws) (if L.go then 0 else if L.hd then 1 else 2) false:=rfl;rw[z1,z2,eb];cases hs:sz ws with
     |zero=>exact⟨rfl,rfl⟩
     |succ n =>
      rw[<-el (by omega),cO,GY];exact⟨rfl,by simp[kpV]⟩
    refine⟨_,rfl,_,_,rfl,rfl,_,rfl,?_⟩;by_cases hz:sz ws=0
    .rw[decide_eq_false (show ¬ ((0:Int)<((sz ws:Nat):Int)) by omega)];refine ay ?_;refine ay ?_;obtain⟨y1,y2⟩:=fin F4 0 (λc=>absurd hz c) (by rw[e2,hz];rfl) e4;exact key _ _ ⟨q2,q4,_,_,rfl,mm,n2,n4,nq,y1,y2⟩
    .rw[decide_eq_true (show(0:Int)<((sz ws:Nat):Int) by omega)];obtain⟨n,hn'⟩:∃n,sz ws=n+1:=⟨sz ws-1,by omega⟩;refine aM ?_;refine⟨_,rfl,_,rfl,?_⟩;cases hg:L.go with
     |true =>
      refine ay ?_;obtain⟨y1,y2⟩:=fin F4 0 (λ_=>by rw[hg];rfl) (by rw[e2,hn',cO,GY];simp[owV]) e4;exact key _ _ ⟨q2,q4,_,_,rfl,mm,n2,n4,nq,y1,y2⟩
     |false =>
      refine aM ?_;refine⟨_,rfl,rfl,.inr ⟨_,rfl,_,_,rfl,rfl,_,rfl,_,_,_,0,rfl,rfl,e2,uE (by simp;omega),?_⟩⟩;rw[hbh];obtain⟨y1,y2⟩:=fin (upd F4 q2 (.lst ((Gc (sz ws) (V.int 0)).set 0 (.int (2-(if L.hd=true then 1 else 0)))))) (2-(if L.hd=true then 1 else 0)) (λ_=>by rw[hg];cases L.hd<;>rfl) (by rw[ac,hn',cO,GY];simp[owV]) (by rw[aj (GX nq)];exact e4)
      exact key _ _ ⟨q2,q4,_,_,rfl,aX mm n2,n2,n4,nq,y1,y2⟩
   .rw[decide_eq_false (show ¬ (wy.t=[119,111,114,100,115])from λz=>hw (Wy.inj (b:=.words) z))];refine ay ?_;refine⟨_,rfl,rfl,_,rfl,?_⟩;rw[bY wj];by_cases hL:wy=.lst
    .rw[decide_eq_true (show wy.t=je by rw[hL];rfl)];refine aM ?_;subst hL;have ewt:ldW L.wait (.lst,nm,ws)=L.wait:=rfl;have el:(lsT 2 tt).length<=131*tt.length:=se tt 2 tw;refine⟨_,rfl,_,_,rfl,.inl (SqL.of hta3),_,rfl,(by omega),(by omega),jp (λj σ' G'=>∃(u11 u12:Option V),σ'=[some (.ref na),some (.ref ta),some (.ref p1),some (.int L.wait),some (.str b),some (.bl L.go),some (.str (tx (Wy.lst).t)),some (.str (tx nm)),some (.ref l),some (.ref p2),some (.ref p3),u11,u12]/\am G G'/\G' p2=some (.lst (owV (lsT 2 (tt.take j))))/\G' p3=some (.lst (kpV (lsT 2 (tt.take j))))) ⟨_,_,rfl,mG,k2,k3⟩ ?_ ?_⟩
     .rintro j σ' G4 hj ⟨u11,u12,rfl,m4,y2,y3⟩;rw[JB];have hjt:j<tt.length:=by simp at hj;omega
      obtain⟨t,ht⟩:∃t,tt[j]?=some t:=⟨tt[j],Ge hjt⟩;obtain⟨v,hv,tb,tl',rfl,htb,c5,c51,c52⟩:=tal.getR ht;have tw5:=tw t (Gj ht);have lc5:=c52.len;have lw5:(wkS t.2).length=t.2.length:=by unfold wkS;rw[F9]
      have sz5:=zH t.2;have mo:=m.trans m4;have lj:(lsT 2 (tt.take j)).length<=8500:=by
       have:=se (tt.take j) 2 λx hx=>tw x (List.mem_of_mem_take hx);rw[GC]at this;omega
      refine⟨_,rfl,_,rfl,_,_,_,_,rfl,rfl,SqL.of (mo _ _ hta),cF hv,_,_,_,_,rfl,rfl,SqT.of (mo _ _ htb),rfl,tl',rfl,⟨_,SqL.of (mo _ _ c51)⟩,dC (K:=K) (a:=tl') (xs:=c5) (λj ys F=>G4=F/\ys.length=aU ((wkS t.2).take j)/\ys.length<=j) ⟨rfl,rfl,Gi _⟩ (λj ys F _ z=>by rw[<-z.1];exact SqL.of (mo _ _ c51)) ?_ ?_ ?_⟩
      .rintro j ys F hj ⟨_,_,z⟩;exact aw (by omega)
      .rintro j y' ys F hy' ⟨rfl,z,zl⟩;obtain⟨w',hw',wb,rfl,hwb⟩:=c52.getL hy';have en:=xI hw';refine⟨_,rfl,_,_,_,_,rfl,rfl,SqT.of (mo _ _ hwb),rfl,rfl,_,rfl,?_⟩;by_cases hm:w'.1=.mark
       .rw[decide_eq_true (show V.str w'.1.s=V.str (PySem.Str.ofString "mark") by rw[hm];rfl)];refine ay ?_;exact⟨rfl,by rw[en,if_pos hm];exact z,by omega⟩
       .rw[decide_eq_false (show ¬ (V.str w'.1.s=V.str (PySem.Str.ofString "mark"))from λzz=>hm (Kw.inj (b:=.mark) (V.str.inj zz)))];refine aM ?_;exact⟨_,rfl,rfl,by rw[en,if_neg hm,Ga,z];rfl,by rw[Ga];simp only[Gd,Gy];omega⟩
      rintro zs5 F ⟨rfl,zq5,_⟩ q1 h1;rw[lc5,Gz]at zq5;have zq5:zs5.length=sz t.2:=zq5;have d1:=af h1 (.lst zs5);have e1:upd G4 q1 (.lst zs5) q1=some (.lst zs5):=ac;have y2:=d1 _ _ y2;have y3:=d1 _ _ y3;generalize upd G4 q1 (.lst zs5)=F1 at d1 e1 y2 y3⊢;refine⟨_,_,rfl,.inl (SqL.of e1),?_⟩;dsimp only[bD];rw[zq5];have eld:(2:Int)-(if decide ((0:Int)<((j:Nat):Int))=true then 1 else 0)=(if j=0 then 2 else 1):=by
       by_cases c:j=0
       .rw[if_pos c,decide_eq_false (by omega)];rfl
       .rw[if_neg c,decide_eq_true (by omega)];rfl
      refine⟨_,rfl,.inl ⟨rfl,_,SqL.of y2⟩,_,rfl,_,_,rfl,rfl,.inr ⟨_,rfl,_,_,rfl,rfl,le1,λq2 h2=>?_⟩⟩;dsimp only;rw[eld];generalize eld':(if j=0 then(2:Int)else 1)=ld at *;have d2:=af h2 (.lst [V.int ld]);have e2:upd F1 q2 (.lst [V.int ld]) q2=some (.lst [V.int ld]):=ac;generalize upd F1 q2 (.lst [V.int ld])=F2 at d2 e2⊢;refine⟨le1,λq3 h3=>?_⟩;have d3:=af h3 (.lst [V.int 0]);have e3:upd F2 q3 (.lst [V.int 0]) q3=some (.lst [V.int 0]):=ac;generalize upd F2 q3 (.lst [V.int 0])=F3 at d3 e3⊢;refine⟨_,rfl,_,_,rfl,rfl,_,_,_,rfl,rfl,e3,(by omega),(by omega),(by rw[show((sz t.2:Nat):Int)+1=((sz t.2+1:Nat):Int) by omega,Hx];exact GE (aw (by simp;omega))),λq4 h4=>?_⟩;rw[show((sz t.2:Nat):Int)+1=((sz t.2+1:Nat):Int) by omega,rp];have d4:=af h4 (.lst (Gc (sz t.2+1) (V.int 0)));have e4:upd F3 q4 (.lst (Gc (sz t.2+1) (V.int 0))) q4=some (.lst (Gc (sz t.2+1) (V.int 0))):=ac;have e2:=(d3.trans d4) _ _ e2;generalize upd F3 q4 (.lst (Gc (sz t.2+1) (V.int 0)))=F4 at d4 e4 e2⊢;refine⟨_,_,_,_,rfl,rfl,e2,e4,(by simp;exact GE (aw (by omega))),λq5 h5=>?_⟩;have d5:=d2.trans (d3.trans (d4.trans (af h5 (.lst ([V.int ld]++Gc (sz t.2+1) (V.int 0))))));have e5:upd F4 q5 (.lst ([V.int ld]++Gc (sz t.2+1) (V.int 0))) q5=some (.lst ([V.int ld]++Gc (sz t.2+1) (V.int 0))):=ac;generalize upd F4 q5 (.lst ([V.int ld]++Gc (sz t.2+1) (V.int 0)))=F5 at d5 e5⊢;have m5:=m4.trans (d1.trans d5);have lo:(owV (lsT 2 (tt.take j))).length<=8500:=by unfold owV;rw[F9];exact lj
      have lk_:(kpV (lsT 2 (tt.take j))).length<=8500:=by unfold kpV;rw[F9];exact lj
      refine⟨_,_,_,_,rfl,rfl,d5 _ _ y2,e5,GE (GA (show(owV (lsT 2 (tt.take j))).length+([V.int ld]++Gc (sz t.2+1) (V.int 0)).length<=3000000 by simp;omega) (by decide)),?_⟩;have m6:=aX (o:=.lst (owV (lsT 2 (tt.take j))++([V.int ld]++Gc (sz t.2+1) (V.int 0)))) m5 hp2;have z2:upd F5 p2 (.lst (owV (lsT 2 (tt.take j))++([V.int ld]++Gc (sz t.2+1) (V.int 0)))) p2=some (.lst (owV (lsT 2 (tt.take j))++([V.int ld]++Gc (sz t.2+1) (V.int 0)))):=ac;have z3:upd F5 p2 (.lst (owV (lsT 2 (tt.take j))++([V.int ld]++Gc (sz t.2+1) (V.int 0)))) p3=some (.lst (kpV (lsT 2 (tt.take j)))):=by rw[aj (GX n23)];exact d5 _ _ y3
      generalize upd F5 p2 (.lst (owV (lsT 2 (tt.take j))++([V.int ld]++Gc (sz t.2+1) (V.int 0))))=F6 at m6 z2 z3⊢;refine⟨_,rfl,.inl ⟨rfl,_,SqL.of z3⟩,le1,λq6 h6=>?_⟩;have d6:=af h6 (.lst [V.bl false]);have e6:upd F6 q6 (.lst [V.bl false]) q6=some (.lst [V.bl false]):=ac;generalize upd F6 q6 (.lst [V.bl false])=F7 at d6 e6⊢;refine⟨_,rfl,_,_,rfl,rfl,_,_,_,rfl,rfl,e6,(by omega),(by omega),(by rw[show((sz t.2:Nat):Int)+2=((sz t.2+2:Nat):Int) by omega,Hx];exact GE (aw (by simp;omega))),λq7 h7=>?_⟩;rw[show((sz t.2:Nat):Int)+2=((sz t.2+2:Nat):Int) by omega,rp];have d7:=d6.trans (af h7 (.lst (Gc (sz t.2+2) (V.bl false))));have e7:upd F7 q7 (.lst (Gc (sz t.2+2) (V.bl false))) q7=some (.lst (Gc (sz t.2+2) (V.bl false))):=ac;generalize upd F7 q7 (.lst (Gc (sz t.2+2) (V.bl false)))=F8 at d7 e7⊢;refine⟨_,_,_,_,rfl,rfl,d7 _ _ z3,e7,GE (GA (show(kpV (lsT 2 (tt.take j))).length+(Gc (sz t.2+2) (V.bl false)).length<=3000000 by simp;omega) (by decide)),?_⟩;refine⟨_,_,rfl,aX (m6.trans d7) n3,?_,?_⟩
      .rw[aj n23,d7 _ _ z2,tE ht,Dt,cO,eld'];simp[owV]
      .rw[ac,tE ht,Du,cO];simp[kpV,GY]
     .rintro σ' G4 ⟨u11,u12,rfl,m4,y2,y3⟩;rw[show H_ ((tv.length:Nat):Int)=tt.length by rw[lt];exact Hx _,Gz]at y2 y3;exact key _ _ ⟨p2,p3,_,_,rfl,m4,hp2,n3,n23,y2,y3⟩
    .rw[decide_eq_false (show ¬ (wy.t=je)from λz=>hL (Wy.inj (b:=.lst) z))];refine ay ?_;refine⟨_,rfl,rfl,_,rfl,?_⟩;rw[show(!decide (V.str (tx wy.t)=V.str (PySem.Str.ofString ""))) = !decide (wy=.empty)from by
      rw[bY oQ];cases wy<;>decide]
     have eE:wy.hd=false->ldB tt L (wy,nm,ws)=[]:=λz=>by
      unfold ldB;rw[if_neg hw,if_neg hL,if_neg (by rw[z];decide)]
     have pw:(decide (wy=.page)||decide (wy=.odd))=false->ldW L.wait (wy,nm,ws)=L.wait:=λz=>by
      rw[IG,decide_eq_false_iff_not,decide_eq_false_iff_not]at z;unfold ldW;rw[if_neg z.1,if_neg z.2]
     have pv_:(decide (wy=.page)||decide (wy=.odd))=true->ldW L.wait (wy,nm,ws)=(if 3+(if decide (V.str (tx wy.t)=V.str (PySem.Str.ofString ".odd"))=true then 1 else 0)>L.wait then 3+(if decide (V.str (tx wy.t)=V.str (PySem.Str.ofString ".odd"))=true then 1 else 0)else L.wait):=λz=>by
      rw[bY zy];unfold ldW;cases wy<;>first|(cases z;done)|rfl
     cases hh:wy.hd with
     |false =>
      by_cases he:wy=.empty
      .rw[decide_eq_true he];refine ay ?_;refine ay ?_;refine⟨_,rfl,le2,λq5 h5=>?_⟩;have d5:=mG.trans (af h5 (.tup [V.str (PySem.Str.ofString ".page"),V.str (PySem.Str.ofString ".odd")]));have y2:upd G3 q5 (.tup [V.str (PySem.Str.ofString ".page"),V.str (PySem.Str.ofString ".odd")]) p2=some (.lst []):=af h5 _ _ _ k2;have y3:upd G3 q5 (.tup [V.str (PySem.Str.ofString ".page"),V.str (PySem.Str.ofString ".odd")]) p3=some (.lst []):=af h5 _ _ _ k3;refine⟨_,_,rfl,.inr (SqT.of ac),rfl,rfl,_,rfl,?_⟩;rw[ED];cases hpo:(decide (wy=.page)||decide (wy=.odd))with
       |false =>
        refine ay ?_;exact key _ _ ⟨p2,p3,_,_,by rw[pw hpo];rfl,d5,hp2,n3,n23,by rw[eE hh];exact y2,by rw[eE hh];exact y3⟩
       |true =>
        refine aM ?_;refine⟨_,rfl,_,rfl,rfl,.inr ⟨_,rfl,_,_,rfl,rfl,_,_,rfl,?_⟩⟩;refine key _ _ ⟨p2,p3,some (.int ((sz ws:Nat):Int)),v12,?_,d5,hp2,n3,n23,by rw[eE hh];exact y2,by rw[eE hh];exact y3⟩;rw[pv_ hpo];rfl
      .rw[decide_eq_false he];refine aM ?_;obtain⟨c,u,ec,hc⟩:∃c u,wy.t=c::u/\decide (c=61)=wy.hd:=by
        cases wy<;>first|exact⟨_,_,rfl,rfl⟩|exact absurd rfl he
       refine⟨_,rfl,_,_,c,rfl,rfl,(by rw[aY];cases wy<;>exact aN (by decide)),(by rw[ec];exact fH _ _),rfl,_,rfl,?_⟩
       rw[bY cH1,show decide ([c]=[61])=false from by rw[<-hh,<-hc];simp];refine ay ?_;refine⟨_,rfl,le2,λq5 h5=>?_⟩;have d5:=mG.trans (af h5 (.tup [V.str (PySem.Str.ofString ".page"),V.str (PySem.Str.ofString ".odd")]));have y2:upd G3 q5 (.tup [V.str (PySem.Str.ofString ".page"),V.str (PySem.Str.ofString ".odd")]) p2=some (.lst []):=af h5 _ _ _ k2;have y3:upd G3 q5 (.tup [V.str (PySem.Str.ofString ".page"),V.str (PySem.Str.ofString ".odd")]) p3=some (.lst []):=af h5 _ _ _ k3;refine⟨_,_,rfl,.inr (SqT.of ac),rfl,rfl,_,rfl,?_⟩;rw[ED];cases hpo:(decide (wy=.page)||decide (wy=.odd))with
       |false =>
        refine ay ?_;exact key _ _ ⟨p2,p3,_,_,by rw[pw hpo];rfl,d5,hp2,n3,n23,by rw[eE hh];exact y2,by rw[eE hh];exact y3⟩
       |true =>
        refine aM ?_;refine⟨_,rfl,_,rfl,rfl,.inr ⟨_,rfl,_,_,rfl,rfl,_,_,rfl,?_⟩⟩;refine key _ _ ⟨p2,p3,some (.int ((sz ws:Nat):Int)),v12,?_,d5,hp2,n3,n23,by rw[eE hh];exact y2,by rw[eE hh];exact y3⟩;rw[pv_ hpo];rfl
     |true =>
      have he:wy≠.empty:=λz=>by rw[z]at hh;cases hh
      rw[decide_eq_false he];refine aM ?_;obtain⟨c,u,ec,hc⟩:∃c u,wy.t=c::u/\decide (c=61)=wy.hd:=by
       cases wy<;>first|exact⟨_,_,rfl,rfl⟩|exact absurd rfl he
      refine⟨_,rfl,_,_,c,rfl,rfl,(by rw[aY];cases wy<;>exact aN (by decide)),(by rw[ec];exact fH _ _),rfl,_,rfl,?_⟩
      rw[bY cH1,show decide ([c]=[61])=true from by rw[<-hh,<-hc];simp];refine aM ?_;have eb:ldB tt L (wy,nm,ws)=(2,false)::Gc (sz ws) (0,true):=by
       unfold ldB;rw[if_neg hw,if_neg hL,if_pos hh,KC,cO]
      have ewt:ldW L.wait (wy,nm,ws)=L.wait:=by
       unfold ldW;rw[if_neg (λz=>by rw[show wy=.page from z]at hh;cases hh),if_neg (λz=>by rw[show wy=.odd from z]at hh;cases hh)]
      refine⟨le1,λq1 h1=>?_⟩;have d1:=af h1 (.lst [V.int 2]);have e1:upd G3 q1 (.lst [V.int 2]) q1=some (.lst [V.int 2]):=ac;generalize upd G3 q1 (.lst [V.int 2])=F1 at d1 e1⊢;refine⟨le1,λq2 h2=>?_⟩;have d2:=af h2 (.lst [V.int 0]);have e2:upd F1 q2 (.lst [V.int 0]) q2=some (.lst [V.int 0]):=ac;have e1:=d2 _ _ e1;generalize upd F1 q2 (.lst [V.int 0])=F2 at d2 e2 e1⊢;refine⟨_,rfl,_,_,_,rfl,rfl,e2,(by omega),(by omega),(by rw[Hx];exact GE (aw (by simp;omega))),λq3 h3=>?_⟩;rw[rp];have d3:=af h3 (.lst (Gc (sz ws) (V.int 0)));have e3:upd F2 q3 (.lst (Gc (sz ws) (V.int 0))) q3=some (.lst (Gc (sz ws) (V.int 0))):=ac;have e1:=d3 _ _ e1;generalize upd F2 q3 (.lst (Gc (sz ws) (V.int 0)))=F3 at d3 e3 e1⊢;refine⟨_,_,_,_,rfl,rfl,e1,e3,(by simp;exact GE (aw (by omega))),λq4 h4=>?_⟩;have d4:=af h4 (.lst ([V.int 2]++Gc (sz ws) (V.int 0)));have e4:upd F3 q4 (.lst ([V.int 2]++Gc (sz ws) (V.int 0))) q4=some (.lst ([V.int 2]++Gc (sz ws) (V.int 0))):=ac;have m4:=mG.trans (d1.trans (d2.trans (d3.trans d4)));have n4:G q4=none:=(mG.trans (d1.trans (d2.trans d3))).free h4;generalize upd F3 q4 (.lst ([V.int 2]++Gc (sz ws) (V.int 0)))=F4 at d4 e4 m4⊢;refine⟨le1,λq5 h5=>?_⟩;have d5:=af h5 (.lst [V.bl false]);have e5:upd F4 q5 (.lst [V.bl false]) q5=some (.lst [V.bl false]):=ac;generalize upd F4 q5 (.lst [V.bl false])=F5 at d5 e5⊢;refine⟨le1,λq6 h6=>?_⟩;have d6:=af h6 (.lst [V.bl true]);have e6:upd F5 q6 (.lst [V.bl true]) q6=some (.lst [V.bl true]):=ac;have e5:=d6 _ _ e5;generalize upd F5 q6 (.lst [V.bl true])=F6 at d6 e6 e5⊢;refine⟨_,rfl,_,_,_,rfl,rfl,e6,(by omega),(by omega),(by rw[Hx];exact GE (aw (by simp;omega))),λq7 h7=>?_⟩;rw[rp];have d7:=af h7 (.lst (Gc (sz ws) (V.bl true)));have e7:upd F6 q7 (.lst (Gc (sz ws) (V.bl true))) q7=some (.lst (Gc (sz ws) (V.bl true))):=ac;have e5:=d7 _ _ e5;generalize upd F6 q7 (.lst (Gc (sz ws) (V.bl true)))=F7 at d7 e7 e5⊢;refine⟨_,_,_,_,rfl,rfl,e5,e7,(by simp;exact GE (aw (by omega))),λq8 h8=>?_⟩;have d8:=af h8 (.lst ([V.bl false]++Gc (sz ws) (V.bl true)));have mz:=d5.trans (d6.trans (d7.trans d8));have n8:G q8=none:=(m4.trans (d5.trans (d6.trans d7))).free h8;refine key _ _ ⟨q4,q8,_,_,by rw[ewt];rfl,m4.trans mz,n4,n8,λz=>?_,?_,?_⟩
      .rw[<-z,(d5.trans (d6.trans d7)) _ _ e4]at h8;cases h8
      .rw[mz _ _ e4,eb];simp[owV]
      .rw[ac,eb];simp[kpV]
 rintro σ' G ⟨L,b,v6,v7,v8,v9,v10,v11,v12,us,dn,rfl,hbh,m,g1,dal,es,ul⟩;rw[ln,Ip]at es;have es:eV tt ld0 named=dn:=by rw[es];exact GF _
 exact⟨_,rfl,q p1 G us hp1 m g1 (by rw[es];exact dal.imp λ_ _=>LkA.mono bT)⟩

def iQ(c:Int):List Nat:=(bU c 60 26).toNat::(HQ (bU c 57 10).toNat).map λ(k:Nat)=>(bU c (61+(k:Int)) 36).toNat
def lX(c:Int):Nat:=1+(bU c 58 (1+bU c 57 10)).toNat
def f7(c:Int)(j:Nat):List Nat:=(nmB (iQ c) (lX c) j).map al
theorem zK(c:Int):sY (iQ c) (lX c):=by
 have h1:=dX c 57 (show(0:Int)<10 by decide);have h2:=dX c 58 (show(0:Int)<1+bU c 57 10 by omega);have h3:=dX c 60 (show(0:Int)<26 by decide);refine⟨?_,?_,?_,?_,?_⟩
 .unfold iQ;simp only[Gd,F9,Hh];omega
 .intro b hb;have:b=(bU c 60 26).toNat:=by simpa[iQ]using hb.symm
  omega
 .intro b hb;rcases List.mem_cons.mp hb with rfl|hb
  .omega
  .obtain⟨k,_,rfl⟩:=List.mem_map.mp hb;have:=dX c (61+(k:Int)) (show(0:Int)<36 by decide);omega
 .unfold lX;omega
 .unfold lX iQ;simp only[Gd,F9,Hh];omega
theorem Fk(c:Int):NmF (f7 c):=(zK c).nmF

def A_:Sp:=λvs H Q _=>∃(c:Int) (j:Nat),vs=[.int c,.int (j:Int)]/\∀H',am H H'->Q (.str (tx (f7 c j))) H'
theorem ky:aL ["cell","j","some","size","base","at"] ["cell","j"] (av tq):=by walk_at "c"
theorem qM(T:Txt P w K mg a):a_ P w K mg base CX0 2 a.tN a.rM ["cell","j"] A_:=by
 refine T.l0.fn.ok ky (λvs H Q E h=>?_) (λcdv A outer s H vs Q E hr h=>?_)
 .obtain⟨c,j,rfl,_⟩:=h;rfl
 obtain⟨c,j,rfl,q⟩:=h;refine⟨_,(ag (aA (i:=2) ky.nd rfl (Or.inr rfl) aq)
   (ag (aA (i:=3) ky.nd rfl (Gr rfl) (aG ca ah (aD T.bV (bR T) (hr.mono (by decide)) rfl (aa (pv 0) (aa ah (aa ah ae))))))
   (ag (aA (i:=4) ky.nd rfl (Gr rfl) (aG dH (aJ ef (pv 2) (aD T.bV (bR T) (hr.mono (by decide)) rfl (aa (pv 0) (aa ah (aa ah ae)))) (λ_ _=>rfl)) (cG PySem.F.plainAttrs_str PySem.F.slot_str_join PySem.F.type_str_join nY aq (aa (fY rfl (eB (caps:=["cell","some"]) (js:=[0,2]) (cap:=⟨⟨rfl,.inl rfl,rfl,.inl rfl⟩,⟨⟨rfl,.inl rfl,rfl,.inl rfl⟩,trivial⟩⟩)) (mD rfl T.eQ (aa (aG j7 (pv 3) ah) ae)) (λ_ _ _ _=>du) (λ_ _ _ _=>(aJ ef (pv 2) (aD T.bV (bR T) (hr.mono (by decide)) rfl (aa (pv 1) (aa (aG ca ah (pv 0)) (aa ah ae)))) (λ_ _=>rfl)))) ae))))
   (ag (aA (i:=5) ky.nd rfl (Gr rfl) (aG ca ah (aD T.bV (bR T) (hr.mono (by decide)) rfl (aa (pv 0) (aa ah (aa (pv 3) ae))))))
   (ai (aP (aG dH (aG dH (aG dH (dm ki (pv 4) eJ (dB (pv 5))) (aJ ef (pv 2) (aG nS (aG yw (pv 1) ah) ah) (λ_ _=>rfl))) (aJ ef (pv 2) (aG nS (pv 1) ah) (λ_ _=>rfl))) (dm ki (pv 4) (dB (pv 5)) eJ)))))))),?_⟩
 generalize hS:(PySem.Str.ofString "abcdefghijklmnopqrstuvwxyz0123456789")=S;have hat:∀k:Nat,k<36->atI S.cps.toList (k:Int)=some (al k):=hS▸Dp;have hSl:S.length<=Gv:=hS▸aN (by decide +kernel);have h1:=dX c 57 (show(0:Int)<10 by decide);have h2:=dX c 58 (show(0:Int)<1+bU c 57 10 by omega);have h3:=dX c 60 (show(0:Int)<26 by decide);refine⟨_,rfl,_,57,10,rfl,⟨by decide,by decide⟩,by decide,_,_,rfl,rfl,?_⟩;dsimp only[bD];have e60:bU c 60 26=((bU c 60 26).toNat:Int):=by omega
 refine⟨_,rfl,_,rfl,_,60,26,rfl,⟨by decide,by decide⟩,by decide,_,_,al (bU c 60 26).toNat,rfl,rfl,hSl,(by rw[e60];exact hat _ (by omega)),rfl,_,rfl,_,_,rfl,rfl,_,rfl,by omega,by omega,lJ (λi ys G=>G=H/\ys=(((HQ i).map λ(k:Nat)=>al (bU c (61+(k:Int)) 36).toNat).map λd=>tx [d]).map V.str) ⟨rfl,rfl⟩ ?_ ?_ ?_⟩
 .rintro i ys G hi ⟨_,rfl⟩;simp only[F9,Hh];exact aw (by omega)
 .rintro i ys G hi ⟨rfl,rfl⟩;refine dM ?_;have h4:=dX c (61+(i:Int)) (show(0:Int)<36 by decide);have e4:bU c (61+(i:Int)) 36=((bU c (61+(i:Int)) 36).toNat:Int):=by omega
  refine⟨_,rfl,_,rfl,_,rfl,_,_,rfl,rfl,c,61+(i:Int),36,(by rw[JB];rfl),⟨by omega,by omega⟩,by decide,_,_,al (bU c (61+(i:Int)) 36).toNat,rfl,rfl,hSl,(by rw[e4];exact hat _ (by omega)),rfl,?_⟩;rw[Kb,Gm,Gm,Gm];rfl
 rintro ys G ⟨rfl,rfl⟩ p hp;have en:(1+bU c 57 10-1).toNat=(bU c 57 10).toNat:=by omega
 rw[en];have hb:(al (bU c 60 26).toNat::((HQ (bU c 57 10).toNat).map λ(k:Nat)=>al (bU c (61+(k:Int)) 36).toNat))=(iQ c).map al:=by
  unfold iQ;rw[Gp,HU];rfl
 have bl:(iQ c).length=1+(bU c 57 10).toNat:=by unfold iQ;simp only[Gd,F9,Hh];omega
 refine⟨_,_,_,rfl,rfl,SqL.of ac,by decide,by simp only[uM,F9,Hh];omega,_,_,rfl,rfl,(by rw[ej1,aY,aY];simp only[F9,Hh,Gd,Gy];exact GE (aw (by omega))),?_⟩;dsimp only[bD];rw[ej1,eR,List.singleton_append,hb];have s1:=af hp (.lst ((((HQ (bU c 57 10).toNat).map λ(k:Nat)=>al (bU c (61+(k:Int)) 36).toNat).map λd=>tx [d]).map V.str));generalize upd G p _=G1 at s1⊢;refine⟨_,rfl,_,rfl,c,58,1+bU c 57 10,rfl,⟨by decide,by decide⟩,by omega,_,_,rfl,rfl,?_⟩;dsimp only[bD];have ea:1+bU c 58 (1+bU c 57 10)=((lX c:Nat):Int):=by unfold lX;omega
 rw[ea];have la:lX c<=(iQ c).length:=(zK c).hi;have l10:=(zK c).len;have q1:(j:Int)/36%36=((j/36%36:Nat):Int):=by omega
 have q2:(j:Int)%36=((j%36:Nat):Int):=by omega
 have sl1:Txt.slice (tx ((iQ c).map al)) none (some ((lX c:Nat):Int))=tx (((iQ c).take (lX c)).map al):=by rw[fj,Tl.cut_to,List.map_take]
 have sl2:Txt.slice (tx ((iQ c).map al)) (some ((lX c:Nat):Int)) none=tx (((iQ c).drop (lX c)).map al):=by rw[fj,Tl.cut_from,List.map_drop]
 have hla:((iQ c).map al).length<=10:=by rw[F9];exact l10
 have LN:(tx ((iQ c).map al)).length<=Gv:=by rw[aY];exact GE (aw (by omega))
 refine⟨_,rfl,_,rfl,_,rfl,_,rfl,LN,_,rfl,_,rfl,_,_,rfl,rfl,⟨by decide,by decide⟩,_,_,rfl,rfl,(by (first|decide|(show(0:Int)<_;first|decide|omega))),_,_,al (j/36%36),rfl,rfl,hSl,(by rw[q1];exact hat _ (J6 _ (by decide))),_,_,rfl,rfl,(by rw[sl1,aY];simp only[F9,GC];exact GE (aw (by show min _ _+1<=1000;omega))),_,rfl,_,rfl,_,_,rfl,rfl,(by (first|decide|(show(0:Int)<_;first|decide|omega))),_,_,al (j%36),rfl,rfl,hSl,(by rw[q2];exact hat _ (J6 _ (by decide))),_,_,rfl,rfl,?_,_,rfl,_,rfl,_,rfl,_,rfl,LN,_,_,rfl,rfl,?_,?_⟩
 .rw[sl1];show(tx _++tx [_]).length+1<=_;rw[eR,aY];simp only[Ga,F9,GC,Gd,Gy];exact GE (aw (by omega))
 .rw[sl1,sl2];show((tx _++tx [_])++tx [_]).length+_<=_;rw[eR,eR,aY,aY];simp only[Ga,F9,GC,Il,Gd,Gy];exact GE (aw (by omega))
 .rw[sl1,sl2];show Q (.str (((tx _++tx [_])++tx [_])++tx _)) G1;rw[eR,eR,eR];have:=q G1 s1;unfold f7 nmB at this;rw[Gm,Gm,Gm]at this;exact this
def zL:List Nat:=[33,34,35,36,38,39,40,41,42,43,44,45,46,47,48,49,50,51,52,53,54,55,56,57,58,59,60,61,62,63,64,65,66,67,68,69,70,71,72,73,74,75,76,77,78,79,80,81,82,83,84,85,86,87,88,89,90,91,92,93,94,95,96,97,98,99,100,101,102,103,104,105,106,107,108,109,110,111,112,113,114,115,116,117,118,119,120,121,122,123,124,125,126]
def oq(c k:Int):Nat:=zL.getD (bU c k 93).toNat 0
theorem EE:∀k:Nat,k<93->32<zL.getD k 0/\zL.getD k 0<127:=by decide +kernel
theorem vq(c k:Int):32<oq c k/\oq c k<127:=by
 have:=dX c k (show(0:Int)<93 by decide);exact EE _ (by omega)
def xJ:Sp:=λvs H Q _=>∃c k:Int,vs=[.int c,.int k]/\(0<=k/\k<=100000)/\Q (.str (tx [oq c k])) H
theorem qN:aL ["cell","k","some"] ["cell","k"] (av mY):=by walk_at "c"
theorem qO(T:Txt P w K mg a):a_ P w K mg base CX0 2 a.nH a.mt ["cell","k"] xJ:=by
 refine T.j0.fn.ok qN (λvs H Q E h=>?_) (λcdv A outer s H vs Q E hr h=>?_)
 .obtain⟨c,k,rfl,_⟩:=h;rfl
 obtain⟨c,k,rfl,hk,q⟩:=h;refine⟨_,(ag (aA (i:=2) qN.nd rfl (Gr rfl) aq)
   (ai (aP (aJ ef (pv 2) (aD T.bV (bR T) (hr.mono (by decide)) rfl (aa (pv 0) (aa (pv 1) (aa ah ae)))) (λ_ _=>rfl))))),?_⟩
 have b:=dX c k (show(0:Int)<93 by decide);obtain⟨d,hd⟩:=Int.eq_ofNat_of_zero_le b.1;have e:∀j:Nat,j<93->atI (PySem.Str.ofString "!\"#$&'()*+,-./0123456789:;<=>?@ABCDEFGHIJKLMNOPQRSTUVWXYZ[\\]^_`abcdefghijklmnopqrstuvwxyz{|}~").cps.toList (j:Int)=some (zL.getD j 0):=by decide +kernel
 refine⟨_,rfl,_,rfl,_,rfl,c,k,93,rfl,hk,by decide,_,_,oq c k,rfl,rfl,aN (by decide +kernel),?_,q⟩;rw[hd];have:=e d (by omega);rw[this];unfold oq;rw[hd];rfl

def plP:List (List Nat):=[[46,112,97,103,101],[46,108,101,116],[61],[61,61],[61,61,61],[35,97,98],[38,120,49],[33],[33,33],[91,97,98],[124],[93],[36,49],[126,97],[64],[94,48]]
theorem EF:∀w∈plP,w≠[]/\w.length<=60/\∀d∈w,33<=d/\d<127:=by decide
theorem cP:[V.str (PySem.Str.ofString ".page"),V.str (PySem.Str.ofString ".let"),V.str (PySem.Str.ofString "="),V.str (PySem.Str.ofString "=="),V.str (PySem.Str.ofString "==="),V.str (PySem.Str.ofString "#ab"),V.str (PySem.Str.ofString "&x1"),V.str (PySem.Str.ofString "!"),V.str (PySem.Str.ofString "!!"),V.str (PySem.Str.ofString "[ab"),V.str (PySem.Str.ofString "|"),V.str (PySem.Str.ofString "]"),V.str (PySem.Str.ofString "$1"),V.str (PySem.Str.ofString "~a"),V.str (PySem.Str.ofString "@"),V.str (PySem.Str.ofString "^0")]=(plP.map tx).map V.str:=by decide +kernel
theorem Fl(c:Nat):Txt.mul (tx [c]) 60=tx (Gc 60 c):=(AC [c] 60).trans (by rw[s_])
theorem Dx(c:Nat):MulOk (tx [c]) 60:=sA (n:=60) (by omega) (by simp)

def vE:Sp:=λvs H Q _=>∃c:Int,vs=[.int c]/\∀l H',Cb l->am H H'->Q (.str (tx l)) H'
theorem kK:aL ["cell","some","way"] ["cell"] (av lS):=by walk_at "c"
theorem vF(T:Txt P w K mg a):a_ P w K mg base CX0 3 a.mf a.kR ["cell"] vE:=by
 refine T.l7.fn.ok kK (λvs H Q E h=>?_) (λcdv A outer s H vs Q E hr h=>?_)
 .obtain⟨c,rfl,_⟩:=h;rfl
 obtain⟨c,rfl,q⟩:=h;refine⟨_,(@ag _ _ _ _ _ (@CA _ 1 _ _ _ _ _ _ kK.nd rfl (Gr rfl) (CL.str (CL.str (CL.str (CL.str (CL.str (CL.str (CL.str (CL.str (CL.str (CL.str (CL.str (CL.str (CL.str (CL.str (CL.str (CL.str CL.nil)))))))))))))))) (by first|exact .inl rfl|exact .inr rfl))
   (@ag _ _ _ _ _ (aA (i:=2) kK.nd rfl (Gr rfl) (aD T.bV (bR T) (hr.mono (by decide)) rfl (@aa _ _ _ _ _ (pv 0) (@aa _ _ _ _ _ ah (@aa _ _ _ _ _ ah ae (by rfl)) (by rfl)) (by rfl))))
   (@ag _ _ _ _ _ (@aI _ _ _ _ _ _ _ _ (au bn (pv 2) ah (nomark _)) (@ai _ _ _ (@aP _ _ _ _ (@aJ _ _ _ _ _ _ _ bN (pv 1) (aD T.bV (bR T) (hr.mono (by decide)) rfl (@aa _ _ _ _ _ (pv 0) (@aa _ _ _ _ _ ah (@aa _ _ _ _ _ ah ae (by rfl)) (by rfl)) (by rfl))) (λ_ _=>rfl)))) aK)
   (@ag _ _ _ _ _ (@aI _ _ _ _ _ _ _ _ (au bn (pv 2) ah (nomark _)) (@ai _ _ _ (@aP _ _ _ _ (aG oH (aD T.j0 (qO T) (hr.mono (by decide)) rfl (@aa _ _ _ _ _ (pv 0) (@aa _ _ _ _ _ ah ae (by rfl)) (by rfl))) ah))) aK)
   (@ai _ _ _ (@aP _ _ _ _ (cG PySem.F.plainAttrs_str PySem.F.slot_str_join PySem.F.type_str_join nY aq (@aa _ _ _ _ _ (fY rfl (eB (caps:=["cell"]) (js:=[0]) (cap:=⟨⟨rfl,.inl rfl,rfl,.inl rfl⟩,trivial⟩)) (mD rfl T.eQ (@aa _ _ _ _ _ (aG ca ah (aD T.bV (bR T) (hr.mono (by decide)) rfl (@aa _ _ _ _ _ (pv 0) (@aa _ _ _ _ _ ah (@aa _ _ _ _ _ ah ae (by rfl)) (by rfl)) (by rfl)))) ae (by rfl))) (λ_ _ _ _=>du) (λ_ _ _ _=>(aD T.j0 (qO T) (hr.mono (by decide)) rfl (@aa _ _ _ _ _ (pv 1) (@aa _ _ _ _ _ (aG ca ah (pv 0)) ae (by rfl)) (by rfl))))) ae (by rfl))))))))),?_⟩
 refine⟨aN (by simp),λp1 hp1=>?_⟩;have s1:=af hp1 (.lst [V.str (PySem.Str.ofString ".page"),V.str (PySem.Str.ofString ".let"),V.str (PySem.Str.ofString "="),V.str (PySem.Str.ofString "=="),V.str (PySem.Str.ofString "==="),V.str (PySem.Str.ofString "#ab"),V.str (PySem.Str.ofString "&x1"),V.str (PySem.Str.ofString "!"),V.str (PySem.Str.ofString "!!"),V.str (PySem.Str.ofString "[ab"),V.str (PySem.Str.ofString "|"),V.str (PySem.Str.ofString "]"),V.str (PySem.Str.ofString "$1"),V.str (PySem.Str.ofString "~a"),V.str (PySem.Str.ofString "@"),V.str (PySem.Str.ofString "^0")]);have k1:upd H p1 (.lst [V.str (PySem.Str.ofString ".page"),V.str (PySem.Str.ofString ".let"),V.str (PySem.Str.ofString "="),V.str (PySem.Str.ofString "=="),V.str (PySem.Str.ofString "==="),V.str (PySem.Str.ofString "#ab"),V.str (PySem.Str.ofString "&x1"),V.str (PySem.Str.ofString "!"),V.str (PySem.Str.ofString "!!"),V.str (PySem.Str.ofString "[ab"),V.str (PySem.Str.ofString "|"),V.str (PySem.Str.ofString "]"),V.str (PySem.Str.ofString "$1"),V.str (PySem.Str.ofString "~a"),V.str (PySem.Str.ofString "@"),V.str (PySem.Str.ofString "^0")]) p1=some (.lst ((plP.map tx).map V.str)):=by rw[ac,cP]
 generalize upd H p1 (.lst [V.str (PySem.Str.ofString ".page"),V.str (PySem.Str.ofString ".let"),V.str (PySem.Str.ofString "="),V.str (PySem.Str.ofString "=="),V.str (PySem.Str.ofString "==="),V.str (PySem.Str.ofString "#ab"),V.str (PySem.Str.ofString "&x1"),V.str (PySem.Str.ofString "!"),V.str (PySem.Str.ofString "!!"),V.str (PySem.Str.ofString "[ab"),V.str (PySem.Str.ofString "|"),V.str (PySem.Str.ofString "]"),V.str (PySem.Str.ofString "$1"),V.str (PySem.Str.ofString "~a"),V.str (PySem.Str.ofString "@"),V.str (PySem.Str.ofString "^0")])=H1 at s1 k1⊢;refine⟨_,rfl,_,3,10,rfl,⟨by decide,by decide⟩,by decide,?_⟩;refine⟨_,rfl,rfl,_,rfl,?_⟩;refine eY (λ_=>?_) (λ_=>?_)
 .obtain⟨n,en,hn⟩:=jS c 4 (show 0<16 by decide);have en:bU c 4 16=(n:Int):=en;obtain⟨w,hw⟩:∃w,plP[n]?=some w:=⟨plP[n],Ge hn⟩;obtain⟨o1,o2,o3⟩:=EF w (Gj hw);exact⟨_,rfl,_,rfl,_,4,16,rfl,⟨by decide,by decide⟩,by decide,_,_,_,_,rfl,rfl,SqL.of k1,(by rw[en];exact cF (by rw[GD,GD,hw];rfl)),q w _ ⟨o1,o2,o3⟩ s1⟩
 dsimp only[fV];refine⟨_,rfl,rfl,_,rfl,?_⟩;refine eY (λ_=>?_) (λ_=>?_)
 .have sg:=vq c 5;refine⟨_,rfl,c,5,rfl,⟨by decide,by decide⟩,_,_,rfl,rfl,Dx _,?_⟩
  .rw[Fl];exact q _ _ ⟨by simp,by simp,λd hd=>by rw[List.eq_of_mem_replicate hd];omega⟩ s1
 dsimp only[fV];have h6:=dX c 6 (show(0:Int)<5 by decide);refine⟨rfl,_,rfl,_,6,5,rfl,⟨by decide,by decide⟩,by decide,_,_,rfl,rfl,_,rfl,by omega,by omega,lJ (λi ys G=>G=H1/\ys=(((HQ i).map λ(k:Nat)=>oq c (10+(k:Int))).map λd=>tx [d]).map V.str) ⟨rfl,rfl⟩ ?_ ?_ ?_⟩
 .rintro i ys G hi ⟨_,rfl⟩;simp only[F9,Hh];exact aw (by omega)
 .rintro i ys G hi ⟨rfl,rfl⟩;refine dM ?_;refine⟨_,rfl,_,rfl,_,_,rfl,rfl,c,10+(i:Int),(by rw[JB];rfl),⟨by omega,by omega⟩,rfl,?_⟩;rw[Kb,Gm,Gm,Gm];rfl
 rintro ys G ⟨rfl,rfl⟩ p hp;refine⟨_,_,_,rfl,rfl,SqL.of ac,by decide,by simp only[uM,F9,Hh];omega,?_⟩;rw[ej1];refine q _ _ ⟨?_,?_,?_⟩ (s1.trans (af hp _))
 .intro z;have:=congrArg Ke z;simp only[F9,Hh,Gy]at this;omega
 .simp only[F9,Hh];omega
 .intro d hd;obtain⟨k,_,rfl⟩:=List.mem_map.mp hd;have:=vq c (10+(k:Int));omega
def Ba:Sp:=λvs H Q _=>∃(f cell:Int) (k:Kw) (at_ marks feet:Nat),vs=[.int f,.str k.s,.int cell,.int (at_:Int),.int (marks:Int),.int (feet:Int)]/\k≠.entry/\∀p H' w,H p=none->am H H'->H' p=some (.tup [.str w.1.s,.str (tx w.2)])->WdG (f7 f) k at_ marks feet w->Q (.ref p) H'
theorem ic:aL ["first","kind","cell","at","marks","feet","many","rest"] ["first","kind","cell","at","marks","feet"] (av tu):=by walk_at "c"
theorem Bb(T:Txt P w K mg a):a_ P w K mg base CX0 4 a.tQ a.rP ["first","kind","cell","at","marks","feet"] Ba:=by
 refine T.tK.fn.ok ic (λvs H Q E h=>?_) (λcdv A outer s H vs Q E hr h=>?_)
 .obtain⟨f,cell,k,at_,marks,feet,rfl,_⟩:=h;rfl
 obtain⟨f,cell,k,at_,marks,feet,rfl,ke,q⟩:=h;refine⟨_,(ag (aA (i:=6) ic.nd rfl (Gr rfl) (pv 4))
   (ag (aI (au bn (pv 1) aq (nomark _)) (ai (aA (i:=6) ic.nd rfl (Gr rfl) (pv 5))) aK)
   (ag (aI (au bn (pv 1) aq (nomark _)) (ai (aA (i:=7) ic.nd rfl (Gr rfl) (aD T.l0 (qM T) (hr.mono (by decide)) rfl (aa (pv 0) (aa (pv 3) ae))))) (ai (aI (PW.pt (iE (au bn (pv 1) aq (nomark _)) (i7 (au bn (pv 6) ah (nomark _))))) (ag (aA (i:=1) ic.nd rfl (Gr rfl) aq)
   (ai (aA (i:=7) ic.nd rfl (Gr rfl) (aD T.l7 (vF T) (hr.mono (by decide)) rfl (aa (pv 2) ae))))) (ai (aA (i:=7) ic.nd rfl (Gr rfl) (aD T.l0 (qM T) (hr.mono (by decide)) rfl (aa (pv 0) (aa (aD T.bV (bR T) (hr.mono (by decide)) rfl (aa (pv 2) (aa ah (aa (pv 6) ae)))) ae))))))))
   (ai (aP (bp (aa (pv 1) (aa (pv 7) ae)))))))),?_⟩
 refine⟨_,rfl,?_⟩;dsimp only[bD];refine cH (λσ' H'=>σ'=[some (.int f),some (.str k.s),some (.int cell),some (.int (at_:Int)),some (.int (marks:Int)),some (.int (feet:Int)),some (.int ((hJ k marks feet:Nat):Int)),none]/\H'=H) ?_ (λkey=>?_)
 .rintro σ' H' ⟨rfl,rfl⟩;refine cH (λσ' H2=>∃w:NWd,σ'=[some (.int f),some (.str w.1.s),some (.int cell),some (.int (at_:Int)),some (.int (marks:Int)),some (.int (feet:Int)),some (.int ((hJ k marks feet:Nat):Int)),some (.str (tx w.2))]/\am H' H2/\WdG (f7 f) k at_ marks feet w) ?_ (λkey=>?_)
  .rintro σ' H2 ⟨w,rfl,s,g⟩;exact⟨_,rfl,_,rfl,le2,λp1 hp1=>q p1 _ w (s.free hp1) (s.trans (af hp1 _)) ac g⟩
  .refine⟨_,rfl,rfl,_,rfl,?_⟩;by_cases hm:k=.mark
   .subst hm;rw[decide_eq_true (show V.str Kw.mark.s=V.str "mark" from rfl)];refine aM ?_;exact⟨_,rfl,_,rfl,f,at_,rfl,λH2 s=>key _ _ ⟨(.mark,f7 f at_),rfl,s,.inl ⟨rfl,rfl⟩⟩⟩
   .rw[decide_eq_false (show ¬ (V.str k.s=V.str "mark")from λz=>hm (Kw.inj (b:=.mark) (V.str.inj z)))];refine ay ?_;refine⟨_,rfl,rfl,_,rfl,?_⟩;have pl:(k≠.plain->hJ k marks feet=0)->∀l H2,Cb l->am H' H2->_:=λz l H2 ol s=>key _ H2 ⟨(.plain,l),rfl,s,.inr (.inl ⟨hm,rfl,ol,z⟩)⟩;by_cases hp:k=.plain
    .rw[decide_eq_true (show V.str k.s=V.str "plain" by rw[hp];rfl)];refine aM ?_;refine aM ?_;exact⟨_,rfl,cell,rfl,λl H2 ol s=>pl (λz=>absurd hp z) l H2 ol s⟩
    .rw[decide_eq_false (show ¬ (V.str k.s=V.str "plain")from λz=>hp (Kw.inj (b:=.plain) (V.str.inj z)))];refine ay ?_;refine⟨_,rfl,rfl,_,rfl,?_⟩;by_cases h0:hJ k marks feet=0
     .rw[h0,decide_eq_true (show V.int ((0:Nat):Int)=V.int 0 from rfl)];refine aM ?_;have pl:=pl (λ_=>h0);rw[h0]at pl;exact⟨_,rfl,cell,rfl,λl H2 ol s=>pl l H2 ol s⟩
     .rw[decide_eq_false (show ¬ (V.int ((hJ k marks feet:Nat):Int)=V.int 0)from λz=>h0 (by injection z with z;omega))];refine ay ?_;obtain⟨j,ej,hj⟩:=jS cell 9 (show 0<hJ k marks feet by omega);refine⟨_,rfl,_,rfl,_,rfl,cell,9,((hJ k marks feet:Nat):Int),rfl,⟨by decide,by decide⟩,by omega,f,j,by rw[ej];rfl,λH2 s=>key _ _ ⟨(k,f7 f j),rfl,s,.inr (.inr ⟨hm,hp,rfl,j,hj,rfl⟩)⟩⟩
 .refine⟨_,rfl,rfl,_,rfl,?_⟩;by_cases hf:k=.foot
  .rw[decide_eq_true (show V.str k.s=V.str "foot" by rw[hf];rfl)];refine aM ?_;exact⟨_,rfl,key _ _ ⟨by unfold hJ;rw[if_pos hf];rfl,rfl⟩⟩
  .rw[decide_eq_false (show ¬ (V.str k.s=V.str "foot")from λz=>hf (Kw.inj (b:=.foot) (V.str.inj z)))];refine ay ?_;exact key _ _ ⟨by unfold hJ;rw[if_neg hf];rfl,rfl⟩
def zM(K:PySem.W.Frag):Sp:=λvs H Q _=>∃(ra:Addr) (f:Int) (rows:List cS) (rv:List V),vs=[.ref ra,.int f]/\H ra=some (.lst rv)/\aW (RrA H) rv rows/\rows.length<=62/\(∀r∈rows,r.2.length<=6/\∀w∈r.2,w.1≠.entry)/\∀p H' ns us,H p=none->am H H'->H' p=some (.lst us)->aW (NnA H') us (ns++bg)->eC (f7 f) (cj rows) (ftN rows) 0 0 rows ns->Q (.ref p) H'
theorem b9:aL ["rows","first","marks","feet","named","at","hung","way","words","done","kind","cell","name"] ["rows","first"] (av qE):=by walk_at "c"
theorem zN(T:Txt P w K mg a):a_ P w K mg base CX0 5 a.rF a.pL ["rows","first"] (zM K):=by
 refine T.rm.fn.ok b9 (λvs H Q E h=>?_) (λcdv A outer s H vs Q E hr h=>?_)
 .obtain⟨ra,f,rows,rv,rfl,_⟩:=h;rfl
 obtain⟨ra,f,rows,rv,rfl,hra,al,rl,rok,q⟩:=h;have hu:=ID (gS hr);refine⟨_,(@ag _ _ _ _ _ (aA (i:=2) b9.nd rfl (Gr rfl) (aH (BQ rfl) rfl T.sj PyProof.Rows.boot_sum (aa (xk rfl (eB (caps:=[]) (js:=[]) (cap:=trivial)) (bq (pv 0)) (λ_ _ _ _=>du) (λ_ _ _ _=>(aH (r:=FM K) bw rfl T.bO PySem.boot_len (aa (fY rfl (eB (caps:=[]) (js:=[]) (cap:=trivial)) (B6 (K:=K) rfl (pv 1)) (λ_ _ _ _=>(jq (au bn (aJ (r:=lH K) bC (pv 0) ah (λ_ _=>rfl)) aq (nomark _)))) (λ_ _ _ _=>(pv 0))) ae)))) ae)))
   (@ag _ _ _ _ _ (aA (i:=3) b9.nd rfl (Gr rfl) (aH bw rfl T.bO PySem.boot_len (aa (xk rfl (eB (caps:=[]) (js:=[]) (cap:=trivial)) (bq (pv 0)) (λ_ _ _ _=>(jq (au bn (pv 0) aq (nomark _)))) (λ_ _ _ _=>(pv 0))) ae)))
   (@ag _ _ _ _ _ (aA (i:=4) b9.nd rfl (Gr rfl) (aQ ae))
   (@ag _ _ _ _ _ (aA (i:=5) b9.nd rfl (Gr rfl) ah)
   (@ag _ _ _ _ _ (aA (i:=6) b9.nd rfl (Gr rfl) ah)
   (@ag _ _ _ _ _ (cA Hb rfl (bq (pv 0)) (fc rfl (bf (aS (i:=7) b9.nd rfl (Gr rfl)) (bf (aS (i:=8) b9.nd rfl (Gr rfl)) dW))) (@ag _ _ _ _ _ (aA (i:=9) b9.nd rfl (Gr rfl) (aQ ae))
   (@ag _ _ _ _ _ (cA Hb rfl (bq (pv 8)) (fc rfl (bf (aS (i:=10) b9.nd rfl (Gr rfl)) (bf (aS (i:=11) b9.nd rfl (Gr rfl)) dW))) (@ag _ _ _ _ _ (bj (cG PySem.F.plainAttrs_list PySem.F.slot_list_append PySem.F.type_list_append cB (pv 9) (aa (aD T.tK (Bb T) (hr.mono (by decide)) rfl (aa (pv 1) (aa (pv 10) (aa (pv 11) (aa (pv 5) (aa (pv 2) (aa (pv 3) ae))))))) ae)))
   (ai (aA (i:=5) b9.nd rfl (Gr rfl) (aG ca (pv 5) (gX mF rfl T.iJ HL (aa (dA bn (pv 10) aq (nomark _)) ae)))))))
   (@ag _ _ _ _ _ (aA (i:=12) b9.nd rfl (Gr rfl) aq)
   (@ag _ _ _ _ _ (aI (au bn (pv 7) aq (nomark _)) (@ag _ _ _ _ _ (aA (i:=12) b9.nd rfl (Gr rfl) (aD T.l0 (qM T) (hr.mono (by decide)) rfl (aa (pv 1) (aa (pv 6) ae))))
   (ai (aA (i:=6) b9.nd rfl (Gr rfl) (aG ca (pv 6) ah)))) aK)
   (@ag _ _ _ _ _ (aI (PW.pt (fF (au bn (pv 7) aq (nomark _)) (dU (au (sQ hu) (pv 8) (aQ ae) (nomark _))))) (ai (aA (i:=7) b9.nd rfl (Gr rfl) aq)) aK)
   (ai (bj (cG PySem.F.plainAttrs_list PySem.F.slot_list_append PySem.F.type_list_append cB (pv 4) (aa (bp (aa (pv 7) (aa (pv 12) (aa (pv 9) ae)))) ae))))))))))
   (ai (aP (aG gg (pv 4) (aQ (aa (bp (aa aq (aa aq (aa (aQ ae) ae)))) (aa (bp (aa aq (aa aq (aa (aQ (aa (bp (aa aq (aa aq ae))) ae)) ae)))) ae)))))))))))),?_⟩
 have lr:=al.len;refine(⟨_,rfl,ra,rfl,⟨_,SqL.of hra⟩,sW (K:=K) (a:=ra) (xs:=rv) (λi ys G=>am H G/\ys=((rows.take i).map λr=>((mkN r.2:Nat):Int)).map V.int) ⟨am.refl _,rfl⟩ (λi ys G _ z=>SqL.of (z.1 _ _ hra)) ?_ ?_ ?_⟩)
 .rintro i ys G hi ⟨_,rfl⟩;simp only[F9,GC];exact aw (by omega)
 .rintro i y ys G hy ⟨m,rfl⟩;obtain⟨⟨wy,ws⟩,hw,b,l,us,rfl,hb,hl,kc⟩:=al.getL hy;have lu:=kc.len;have r6:=(rok _ (Gj hw)).1;dsimp only at lu r6 kc;refine(⟨b,_,_,rfl,SqT.of (m _ _ hb),dM ?_⟩);refine(⟨_,rfl,l,rfl,⟨_,SqL.of (m _ _ hl)⟩,dC (K:=K) (a:=l) (xs:=us) (λj zs G'=>G=G'/\zs.length=mkN (ws.take j)) ⟨rfl,rfl⟩ (λj zs G' _ z=>by rw[<-z.1];exact SqL.of (m _ _ hl)) ?_ ?_ ?_⟩)
  .rintro j zs G' hj ⟨_,z⟩;have:mkN (ws.take j)<=(ws.take j).length:=Hq _ _;rw[GC]at this;exact aw (by omega)
  .rintro j x zs G' hx ⟨rfl,z⟩;obtain⟨w,hw2,c,rfl,hc⟩:=kc.getL hx;have en:mkN (ws.take (j+1))=mkN (ws.take j)+b1 (decide (w.1=.mark)):=by rw[a7 hw2,xA]
   refine(⟨_,rfl,_,_,_,_,rfl,rfl,SqT.of (m _ _ hc),rfl,rfl,_,rfl,?_⟩);by_cases hm:w.1=.mark
   .rw[decide_eq_true (show V.str w.1.s=V.str "mark" by rw[hm];rfl)];refine aM ?_;refine(⟨_,rfl,rfl,?_⟩);rw[en,Ga,z,decide_eq_true hm];rfl
   .rw[decide_eq_false (show ¬ (V.str w.1.s=V.str "mark")from λzz=>hm (Kw.inj (b:=.mark) (V.str.inj zz)))];refine ay ?_;refine(⟨rfl,?_⟩);rw[en,z,decide_eq_false hm];rfl
  rintro zs G' ⟨rfl,z⟩ pz1 hpz1;rw[lu,Gz]at z;refine(⟨_,_,rfl,.inl (SqL.of ac),m.trans (af hpz1 _),?_⟩);rw[a7 hw,Gm,Gm,z];rfl
 rintro ys G ⟨m,rfl⟩ pa hpa;rw[lr,Gz];refine(⟨pa,_,rfl,SqL.of ac,?_⟩);have eM:(rows.map λr=>((mkN r.2:Nat):Int)).sum=((cj rows:Nat):Int):=xC rows;dsimp only[bD];rw[eM];have s1:=m.trans (af hpa (.lst ((rows.map λr=>((mkN r.2:Nat):Int)).map V.int)));generalize upd G pa (.lst ((rows.map λr=>((mkN r.2:Nat):Int)).map V.int))=G1 at s1⊢;refine(⟨_,rfl,ra,rfl,⟨_,SqL.of (s1 _ _ hra)⟩,sW (K:=K) (a:=ra) (xs:=rv) (λi ys G=>G1=G/\ys.length=ftN (rows.take i)) ⟨rfl,rfl⟩ (λi ys G _ z=>by rw[<-z.1];exact SqL.of (s1 _ _ hra)) ?_ ?_ ?_⟩)
 .rintro i ys G hi ⟨_,z⟩;have:ftN (rows.take i)<=(rows.take i).length:=Hq _ _;rw[GC]at this;exact aw (by omega)
 .rintro i y ys G hy ⟨rfl,z⟩;obtain⟨⟨wy,ws⟩,hw,b,l,us,rfl,hb,hl,kc⟩:=al.getL hy;have en:ftN (rows.take (i+1))=ftN (rows.take i)+b1 (decide (wy=.foot)):=by rw[a7 hw,xB]
  refine(⟨b,_,_,rfl,SqT.of (s1 _ _ hb),?_⟩);refine(⟨_,rfl,rfl,_,rfl,?_⟩);rw[bY jZ];by_cases hm:wy=.foot
  .rw[decide_eq_true (show wy.t=dI by rw[hm];rfl)];refine aM ?_;refine(⟨_,rfl,rfl,?_⟩);rw[en,Ga,z,decide_eq_true hm];rfl
  .rw[decide_eq_false (show ¬ (wy.t=dI)from λzz=>hm (Wy.inj (b:=.foot) zz))];refine ay ?_;refine(⟨rfl,?_⟩);rw[en,z,decide_eq_false hm];rfl
 rintro ys G ⟨rfl,z⟩ pb hpb;rw[lr,Gz]at z;refine(⟨_,_,rfl,.inl (SqL.of ac),?_⟩);dsimp only[bD];rw[z];have s2:=s1.trans (af hpb (.lst ys));generalize upd G1 pb (.lst ys)=G2 at s2⊢;generalize hM:cj rows=M at *;generalize hF:ftN rows=F at *;refine⟨aN (by simp),λpn hpn=>?_⟩;have hHpn:=s2.free hpn;have s3:=s2.trans (af hpn (.lst []));have k3:upd G2 pn (.lst []) pn=some (.lst []):=ac;generalize upd G2 pn (.lst [])=G3 at s3 k3⊢;refine⟨_,rfl,ra,rfl,⟨_,SqL.of (s3 _ _ hra)⟩,cK (K:=K) (a:=ra) (xs:=rv) (λi σ' G=>∃(v7 v8 v9 v10 v11 v12:Option V) (us:List V) (ns:List bM),σ'=[some (.ref ra),some (.int f),some (.int (M:Int)),some (.int (F:Int)),some (.ref pn),some (.int ((cj (rows.take i):Nat):Int)),some (.int ((ftN (rows.take i):Nat):Int)),v7,v8,v9,v10,v11,v12]/\am H G/\G pn=some (.lst us)/\us.length=i/\aW (NnA (hid [pn] G)) us ns/\eC (f7 f) M F 0 0 (rows.take i) ns) ⟨none,none,none,none,none,none,[],[],rfl,s3,k3,rfl,trivial,trivial⟩ (λi σ' G _ g=>by obtain⟨_,_,_,_,_,_,_,_,_,m,_⟩:=g;exact SqL.of (m _ _ hra)) ?_ ?_⟩
 .rintro i y σ' G hy ⟨v7,v8,v9,v10,v11,v12,us,ns,rfl,m,gn,ul,nal,rr⟩;obtain⟨⟨wy,ws⟩,hw,b,l,cs,rfl,hb,hl,kc⟩:=al.getL hy;have hi:=(List.getElem?_eq_some_iff.mp hw).1;have lu:=kc.len;obtain⟨r6,rne⟩:=rok _ (Gj hw);dsimp only at lu r6 kc rne;refine⟨b,_,rfl,SqT.of (m _ _ hb),rfl,_,_,rfl,_,_,rfl,rfl,?_⟩;refine⟨aN (by simp),λpd hpd=>?_⟩;have hHpd:=m.free hpd;have npd:pd≠pn:=λz=>by rw[z,gn]at hpd;cases hpd
  have m1:=m.trans (af hpd (.lst []));have kd1:upd G pd (.lst []) pd=some (.lst []):=ac;have gn1:=af hpd (.lst []) _ _ gn;have nal1:aW (NnA (hid [pn,pd] (upd G pd (.lst [])))) us ns:=nal.imp λ_ _=>NnA.mono (λb o z=>by
   obtain⟨c,z⟩:=jy.mp z;refine bo (λw=>?_) (af hpd (.lst []) _ _ z);simp only[Hk,G_,or_false]at w c;rcases w with w|w
   .exact c w
   .rw[w,hpd]at z;cases z)
  generalize upd G pd (.lst [])=G4 at m1 kd1 gn1 nal1⊢;refine⟨_,rfl,l,rfl,⟨_,SqL.of (m1 _ _ hl)⟩,cK (K:=K) (a:=l) (xs:=cs) (λj σ' G'=>∃(v10 v11:Option V) (ds:List V) (dn:List NWd),σ'=[some (.ref ra),some (.int f),some (.int (M:Int)),some (.int (F:Int)),some (.ref pn),some (.int ((cj (rows.take i)+mkN (ws.take j):Nat):Int)),some (.int ((ftN (rows.take i):Nat):Int)),some (.str (tx wy.t)),some (.ref l),some (.ref pd),v10,v11,v12]/\am H G'/\G' pn=some (.lst us)/\G' pd=some (.lst ds)/\aW (NnA (hid [pn,pd] G')) us ns/\cb (hid [pn,pd] G') ds (wkS dn)/\WsR (f7 f) M F (0+cj (rows.take i)) (ws.take j) dn/\ds.length=j) ⟨v10,v11,[],[],rfl,m1,gn1,kd1,nal1,trivial,trivial,rfl⟩ (λj σ' G' _ g=>by obtain⟨_,_,_,_,_,m,_⟩:=g;exact SqL.of (m _ _ hl)) ?_ ?_⟩
  .rintro j x σ' G5 hx ⟨w10,w11,ds,dn,rfl,m5,gn5,kd5,nal5,wal,wr,dl⟩;obtain⟨⟨kd,cell⟩,hw2,c,rfl,hc⟩:=kc.getL hx;have hj:=(List.getElem?_eq_some_iff.mp hw2).1;have ke:=rne _ (Gj hw2);refine⟨c,_,rfl,SqT.of (m5 _ _ hc),rfl,_,_,rfl,_,_,rfl,rfl,?_⟩;refine⟨_,rfl,.inl ⟨rfl,_,SqL.of kd5⟩,_,rfl,_,rfl,_,rfl,_,rfl,_,rfl,_,rfl,f,cell,kd,cj (rows.take i)+mkN (ws.take j),M,F,rfl,ke,λpw G6 w hpw m6 k6 wg=>?_⟩;have np1:pw≠pn:=λz=>by rw[z,gn5]at hpw;cases hpw
   have np2:pw≠pd:=λz=>by rw[z,kd5]at hpw;cases hpw
   refine⟨_,_,_,rfl,rfl,m6 _ _ kd5,aw (by omega),?_⟩;have e:hid [pn,pd] (upd G6 pd (.lst (ds++[.ref pw])))=hid [pn,pd] G6:=bG (by simp);refine⟨_,rfl,_,rfl,rfl,.inr ⟨_,rfl,_,_,rfl,rfl,?_⟩⟩;refine⟨some (.str kd.s),some (.int cell),ds++[.ref pw],dn++[w],?_,aX (m5.trans m6) hHpd,?_,ac,?_,?_,?_,by rw[Ga,dl];rfl⟩
   .have en:mkN (ws.take (j+1))=mkN (ws.take j)+b1 (decide (kd=.mark)):=by rw[a7 hw2,xA]
    have ev:(((cj (rows.take i)+mkN (ws.take j):Nat):Int)+(if decide (V.str kd.s=V.str (PySem.Str.ofString "mark"))=true then 1 else 0))=((cj (rows.take i)+mkN (ws.take (j+1)):Nat):Int):=by
     rw[en];by_cases hm:kd=.mark
     .rw[if_pos (decide_eq_true (show V.str kd.s=V.str (PySem.Str.ofString "mark") by rw[hm];rfl)),decide_eq_true hm];show _=((_+(_+1):Nat):Int);omega
     .rw[if_neg (show ¬ (decide (V.str kd.s=V.str (PySem.Str.ofString "mark"))=true)from λz=>hm (Kw.inj (b:=.mark) (V.str.inj (of_decide_eq_true z)))),decide_eq_false hm];show _=((_+(_+0):Nat):Int);omega
    rw[<-ev];rfl
   .rw[aj (GX npd)];exact m6 _ _ gn5
   .rw[e];exact nal5.imp λ_ _=>NnA.mono (a9 m6)
   .rw[e];unfold wkS;rw[Gm];exact(cb.mono (a9 m6) wal).snoc ⟨pw,rfl,bo (by simp[np1,np2]) k6⟩
   .rw[a7 hw2];refine wr.snoc ?_;rw[Iu];exact wg
  rintro σ' G5 ⟨w10,w11,ds,dn,rfl,m5,gn5,kd5,nal5,wal,wr,dl⟩;rw[lu]at dl;rw[lu,Gz]at wr;rw[lu,Gz];have m5':am (hid [pn,pd] G5) (hid [pn] G5):=λb o z=>by
   obtain⟨c,z⟩:=jy.mp z;exact bo (λw=>c (by simp at w⊢;exact .inl w)) z
  have nal6:aW (NnA (hid [pn] G5)) us ns:=nal5.imp λ_ _=>NnA.mono m5';have lsd:cQ (hid [pn] G5) pd (wkS dn):=⟨ds,bo (by simpa using npd) kd5,cb.mono m5' wal⟩;have eH:ftN (rows.take (i+1))=ftN (rows.take i)+b1 (decide (wy=.foot)):=by rw[a7 hw,xB]
  have eA:cj (rows.take (i+1))=cj (rows.take i)+mkN ws:=by rw[a7 hw,A4]
  rw[<-eA];dsimp only;refine cH (λσ' G'=>σ'=[some (.ref ra),some (.int f),some (.int (M:Int)),some (.int (F:Int)),some (.ref pn),some (.int ((cj (rows.take (i+1)):Nat):Int)),some (.int ((ftN (rows.take i):Nat):Int)),some (.str (tx wy.t)),some (.ref l),some (.ref pd),w10,w11,some (.str (PySem.Str.ofString ""))]/\G5=G') ?_ (λkey=>key [some (.ref ra),some (.int f),some (.int (M:Int)),some (.int (F:Int)),some (.ref pn),some (.int ((cj (rows.take (i+1)):Nat):Int)),some (.int ((ftN (rows.take i):Nat):Int)),some (.str (tx wy.t)),some (.ref l),some (.ref pd),w10,w11,some (.str (PySem.Str.ofString ""))] G5 ⟨rfl,rfl⟩);rintro σ' G5' ⟨rfl,rfl⟩;refine cH (λσ' G'=>σ'=[some (.ref ra),some (.int f),some (.int (M:Int)),some (.int (F:Int)),some (.ref pn),some (.int ((cj (rows.take (i+1)):Nat):Int)),some (.int ((ftN (rows.take (i+1)):Nat):Int)),some (.str (tx wy.t)),some (.ref l),some (.ref pd),w10,w11,some (.str (tx (if wy=.foot then f7 f (ftN (rows.take i))else[])))]/\am G5 G') ?_ (λkey=>?_)
  .rintro σ' G6 ⟨rfl,m6⟩;refine cH (λσ' G'=>σ'=[some (.ref ra),some (.int f),some (.int (M:Int)),some (.int (F:Int)),some (.ref pn),some (.int ((cj (rows.take (i+1)):Nat):Int)),some (.int ((ftN (rows.take (i+1)):Nat):Int)),some (.str (tx (if wy=.words/\ws=[]then Wy.empty else wy).t)),some (.ref l),some (.ref pd),w10,w11,some (.str (tx (if wy=.foot then f7 f (ftN (rows.take i))else[])))]/\am G5 G') ?_ (λkey=>?_)
   .rintro σ' G7 ⟨rfl,m7⟩;refine⟨_,rfl,.inl ⟨rfl,_,SqL.of (m7 _ _ gn5)⟩,_,rfl,_,rfl,_,rfl,le3,λpt hpt=>?_⟩;have m8:=m7.trans (af hpt (.tup [.str (tx (if wy=.words/\ws=[]then Wy.empty else wy).t),.str (tx (if wy=.foot then f7 f (ftN (rows.take i))else[])),.ref pd]));have npt:pt≠pn:=λz=>by rw[z,m7 _ _ gn5]at hpt;cases hpt
    refine⟨_,_,_,rfl,rfl,m8 _ _ gn5,aw (by omega),?_⟩;refine⟨_,_,_,_,_,_,us++[.ref pt],ns++[(if wy=.words/\ws=[]then Wy.empty else wy,if wy=.foot then f7 f (ftN (rows.take i))else[],dn)],rfl,aX (m5.trans m8) hHpn,ac,by rw[Ga,ul];rfl,?_,?_⟩
    .rw[bG (by simp)];exact(nal6.imp λ_ _=>NnA.mono (a9 m8)).snoc ⟨pt,pd,rfl,bo (by simpa using npt) ac,lsd.mono (a9 m8)⟩
    .rw[a7 hw];exact rr.snoc ⟨rfl,by rw[Iu],wr⟩
   .refine⟨_,rfl,rfl,_,rfl,?_⟩;rw[bY ku];by_cases h1:wy=.words
    .rw[decide_eq_true (show wy.t=[119,111,114,100,115] by rw[h1];rfl)];refine aM ?_;refine⟨_,rfl,aN (by simp),λp4 hp4=>?_⟩;have m7:=m6.trans (af hp4 (.lst []));refine⟨_,_,_,rfl,rfl,SqL.of ((m5.trans m7) _ _ hl),SqL.of ac,_,rfl,?_⟩;refine eY (λc2=>?_) (λc2=>?_)
     .have e0:ws=[]:=by
       cases ws with
       |nil=>rfl
       |cons _ _=>cases cs with
        |nil=>cases lu
        |cons _ _=>cases c2
      exact key _ _ ⟨by rw[show(if wy=.words/\ws=[]then Wy.empty else wy)=.empty from if_pos ⟨h1,e0⟩];exact congrArg (λz=>[some (.ref ra),some (.int f),some (.int (M:Int)),some (.int (F:Int)),some (.ref pn),some (.int ((cj (rows.take (i+1)):Nat):Int)),some (.int ((ftN (rows.take (i+1)):Nat):Int)),some (V.str z),some (.ref l),some (.ref pd),w10,w11,some (.str (tx (if wy=.foot then f7 f (ftN (rows.take i))else[])))]) oQ,m7⟩
     .have e0:ws≠[]:=λz=>by
       rw[z]at lu;rw[List.length_eq_zero_iff.mp lu]at c2;exact c2 rfl
      exact key _ _ ⟨by rw[show(if wy=.words/\ws=[]then Wy.empty else wy)=wy from if_neg (λz=>e0 z.2)],m7⟩
    .rw[decide_eq_false (show ¬ (wy.t=[119,111,114,100,115])from λz=>h1 (Wy.inj (b:=.words) z))];refine ay ?_;refine ay ?_;exact key _ _ ⟨by rw[show(if wy=.words/\ws=[]then Wy.empty else wy)=wy from if_neg (λz=>h1 z.1)],m6⟩
  .refine⟨_,rfl,rfl,_,rfl,?_⟩;rw[bY jZ];by_cases hf:wy=.foot
   .rw[decide_eq_true (show wy.t=dI by rw[hf];rfl)];refine aM ?_;refine⟨_,rfl,_,rfl,f,ftN (rows.take i),rfl,λG6 m6=>?_⟩;refine⟨_,rfl,_,_,rfl,rfl,?_⟩;refine key _ _ ⟨?_,m6⟩;rw[eH,decide_eq_true hf,if_pos hf];rfl
   .rw[decide_eq_false (show ¬ (wy.t=dI)from λz=>hf (Wy.inj (b:=.foot) z))];refine ay ?_;refine key _ _ ⟨?_,am.refl _⟩;rw[eH,decide_eq_false hf,if_neg hf];exact congrArg (λz=>[some (.ref ra),some (.int f),some (.int (M:Int)),some (.int (F:Int)),some (.ref pn),some (.int ((cj (rows.take (i+1)):Nat):Int)),some (.int ((ftN (rows.take i):Nat):Int)),some (.str (tx wy.t)),some (.ref l),some (.ref pd),w10,w11,some (V.str z)]) oQ
 rintro σ' G ⟨v7,v8,v9,v10,v11,v12,us,ns,rfl,m,gn,ul,nal,rr⟩;rw[lr,Gz]at rr;have nal':aW (NnA G) us ns:=nal.imp λ_ _=>NnA.mono bT;refine⟨_,rfl,aN (by simp),λp5 hp5=>?_⟩;have t5:=af hp5 (.lst []);have k5:upd G p5 (.lst []) p5=some (.lst []):=ac;generalize upd G p5 (.lst [])=G5 at t5 k5⊢;refine⟨le3,λp6 hp6=>?_⟩;have t6:=af hp6 (.tup [.str (PySem.Str.ofString ""),.str (PySem.Str.ofString ""),.ref p5]);have k6:upd G5 p6 (.tup [.str (PySem.Str.ofString ""),.str (PySem.Str.ofString ""),.ref p5]) p6=some (.tup [.str (tx []),.str (tx []),.ref p5]):=by rw[ac,oQ]
 generalize upd G5 p6 (.tup [.str (PySem.Str.ofString ""),.str (PySem.Str.ofString ""),.ref p5])=G6 at t6 k6⊢;refine⟨le2,λp7 hp7=>?_⟩;have t7:=af hp7 (.tup [.str (PySem.Str.ofString "plain"),.str (PySem.Str.ofString "end")]);have k7:upd G6 p7 (.tup [.str (PySem.Str.ofString "plain"),.str (PySem.Str.ofString "end")]) p7=some (.tup [.str (Kw.plain).s,.str (tx [101,110,100])]):=by rw[ac,Fi];rfl
 generalize upd G6 p7 (.tup [.str (PySem.Str.ofString "plain"),.str (PySem.Str.ofString "end")])=G7 at t7 k7⊢;refine⟨le1,λp8 hp8=>?_⟩;have t8:=af hp8 (.lst [.ref p7]);have k8:upd G7 p8 (.lst [.ref p7]) p8=some (.lst [.ref p7]):=ac;generalize upd G7 p8 (.lst [.ref p7])=G8 at t8 k8⊢;refine⟨le3,λp9 hp9=>?_⟩;have t9:=af hp9 (.tup [.str (PySem.Str.ofString "words"),.str (PySem.Str.ofString ""),.ref p8]);have k9:upd G8 p9 (.tup [.str (PySem.Str.ofString "words"),.str (PySem.Str.ofString ""),.ref p8]) p9=some (.tup [.str (tx Wy.words.t),.str (tx []),.ref p8]):=by rw[ac,oQ,ku];rfl
 generalize upd G8 p9 (.tup [.str (PySem.Str.ofString "words"),.str (PySem.Str.ofString ""),.ref p8])=G9 at t9 k9⊢;refine⟨le2,λp10 hp10=>?_⟩;have t10:=af hp10 (.lst [.ref p6,.ref p9]);have k10:upd G9 p10 (.lst [.ref p6,.ref p9]) p10=some (.lst [.ref p6,.ref p9]):=ac;generalize upd G9 p10 (.lst [.ref p6,.ref p9])=G10 at t10 k10⊢;have t510:=t5.trans (t6.trans (t7.trans (t8.trans (t9.trans t10))));refine⟨_,_,_,_,rfl,rfl,t510 _ _ gn,k10,(by show us.length+2<=_;exact GE (aw (by omega))),λp11 hp11=>?_⟩;have t11:=af hp11 (.lst (us++[.ref p6,.ref p9]));refine q p11 _ ns _ ((m.trans t510).free hp11) ((m.trans t510).trans t11) ac ?_ rr;refine(nal'.imp λ_ _=>NnA.mono (t510.trans t11)).app ⟨⟨p6,p5,rfl,?_,[],?_,trivial⟩,⟨p9,p8,rfl,?_,[.ref p7],?_,⟨p7,rfl,?_⟩,trivial⟩,trivial⟩
 .exact((t7.trans (t8.trans (t9.trans t10))).trans t11) _ _ k6
 .exact((t6.trans (t7.trans (t8.trans (t9.trans t10)))).trans t11) _ _ k5
 .exact(t10.trans t11) _ _ k9
 .exact((t9.trans t10).trans t11) _ _ k8
 .exact((t8.trans (t9.trans t10)).trans t11) _ _ k7
def Bc(K:PySem.W.Frag):Sp:=λvs H Q _=>∃(sa wa ka:Addr) (ns:List Int) (wys:List WyD) (kds:List Kw),vs=[.ref sa,.ref wa,.ref ka]/\SqL K H sa (ns.map V.int)/\ns.length<=63/\SqL K H wa ((wys.map λw=>tx w.t).map V.str)/\SqL K H ka (kds.map λk=>V.str k.s)/\0<wys.length/\0<kds.length/\wys.length<=900/\kds.length<=900/\(∀w,.way w∈wys->w.hd=false)/\∀p H' rows us,H p=none->am H H'->H' p=some (.lst us)->aW (RrA (hid [p] H')) us rows->lR wys kds 62 rows->Q (.ref p) H'
theorem jr:aL ["script","ways","kinds","rows","cell","way","kind"] ["script","ways","kinds"] (av tz):=by walk_at "c"
theorem Be(T:Txt P w K mg a):a_ P w K mg base CX0 2 a.tO a.rN ["script","ways","kinds"] (Bc K):=by
 refine T.tI.fn.ok jr (λvs H Q E h=>?_) (λcdv A outer s H vs Q E hr h=>?_)
 .obtain⟨sa,wa,ka,ns,wys,kds,rfl,_⟩:=h;rfl
 obtain⟨sa,wa,ka,ns,wys,kds,rfl,hsa,h63,hwa,hka,w0,k0,w9,k9,wnh,q⟩:=h;have hu:=ID (gS hr);refine⟨_,(ag (aA (i:=3) jr.nd rfl (Gr rfl) (aQ ae))
   (ag (cA Hb rfl (bq (dm nU (pv 0) (dB ah) (dB ah))) (aS (i:=4) jr.nd rfl (Gr rfl)) (ag (aA (i:=5) jr.nd rfl (Gr rfl) (aJ bN (pv 1) (aD T.bV (bR T) (hr.mono (by decide)) rfl (aa (pv 4) (aa ah (aa (aH bw rfl T.bO PySem.boot_len (aa (pv 1) ae)) ae)))) (λ_ _=>rfl)))
   (ai (aI (au bn (pv 5) aq (nomark _)) (ai (bj (cG PySem.F.plainAttrs_list PySem.F.slot_list_append PySem.F.type_list_append cB (pv 3) (aa (bp (aa (aJ bN (aQ (aa aq (aa aq (aa aq ae)))) (aD T.bV (bR T) (hr.mono (by decide)) rfl (aa (pv 4) (aa ah (aa ah ae)))) (λ_ _=>rfl)) (aa (aQ ae) ae))) ae)))) (ai (aI (au iF (pv 5) aq (nomark _)) (ai (bj (cG PySem.F.plainAttrs_list PySem.F.slot_list_append PySem.F.type_list_append cB (pv 3) (aa (bp (aa (pv 5) (aa (aQ ae) ae))) ae)))) (ag (aA (i:=6) jr.nd rfl (Gr rfl) (aJ bN (pv 2) (aD T.bV (bR T) (hr.mono (by decide)) rfl (aa (pv 4) (aa ah (aa (aH bw rfl T.bO PySem.boot_len (aa (pv 2) ae)) ae)))) (λ_ _=>rfl)))
   (ag (aI (PW.pt (iE (au (sQ hu) (pv 3) (aQ ae) (nomark _)) (iE (au gY (aJ bC (aJ bN (pv 3) (rS nT ah) (λ_ _=>rfl)) ah (λ_ _=>rfl)) (bp (aa aq (aa aq (aa aq (aa aq ae))))) (by with_unfolding_all rfl)) (i7 (au bn (aH bw rfl T.bO PySem.boot_len (aa (aJ bC (aJ bN (pv 3) (rS nT ah) (λ_ _=>rfl)) ah (λ_ _=>rfl)) ae)) ah (nomark _)))))) (ai (bj (cG PySem.F.plainAttrs_list PySem.F.slot_list_append PySem.F.type_list_append cB (pv 3) (aa (bp (aa aq (aa (aQ ae) ae))) ae)))) aK)
   (ag (aI (PW.pt (iE (PW.pt (fF (au bn (aJ ef (aJ bC (aJ bN (pv 3) (rS nT ah) (λ_ _=>rfl)) ah (λ_ _=>rfl)) ah (λ_ _=>rfl)) aq (nomark _)) (dU (au bn (pv 6) aq (nomark _))))) (i7 (PW.pt (fF (au bn (aJ bC (aJ bN (pv 3) (rS nT ah) (λ_ _=>rfl)) ah (λ_ _=>rfl)) aq (nomark _)) (dU (au gY (pv 6) (bp (aa aq (aa aq ae))) (by with_unfolding_all rfl)))))))) (ai (aA (i:=6) jr.nd rfl (Gr rfl) aq)) aK)
   (ai (bj (cG PySem.F.plainAttrs_list PySem.F.slot_list_append PySem.F.type_list_append cB (aJ bC (aJ bN (pv 3) (rS nT ah) (λ_ _=>rfl)) ah (λ_ _=>rfl)) (aa (bp (aa (pv 6) (aa (pv 4) ae))) ae)))))))))))))
   (ai (aP (pv 3))))),?_⟩
 refine⟨aN (by simp),λp1 hp1=>?_⟩;have s1:=af hp1 (.lst []);have k1:upd H p1 (.lst []) p1=some (.lst []):=ac;generalize upd H p1 (.lst [])=H1 at s1 k1⊢;have R0:iK H H1 p1 []:=⟨s1,hp1,[],p1,k1,hp1,rfl,.inl ⟨rfl,rfl⟩⟩;refine⟨_,rfl,_,rfl,_,rfl,_,_,rfl,s1.seq hsa,λp2 hp2=>?_⟩;have s2:=af hp2 (.lst (fX (ns.map V.int) (some 1) (some 130)));have k2:upd H1 p2 (.lst (fX (ns.map V.int) (some 1) (some 130))) p2=some (.lst ((jh ns (some 1) (some 130)).map V.int)):=by rw[ac,BR]
 have cl:(jh ns (some 1) (some 130)).length<=62:=by
  unfold jh HT.sIx;rw[GC,Il];simp only[show ¬ ((1:Int)<0) by decide,show ¬ ((130:Int)<0) by decide,if_false];have:min (H_ 1) ns.length=min 1 ns.length:=rfl;omega
 generalize jh ns (some 1) (some 130)=cs at k2 cl;generalize upd H1 p2 (.lst (fX (ns.map V.int) (some 1) (some 130)))=H2 at s2 k2⊢;have wl:((wys.map λw=>tx w.t).map V.str).length=wys.length:=by simp
 have kl:(kds.map λk=>V.str k.s).length=kds.length:=by simp
 have H2p:H p2=none:=s1.free hp2;have npp:p2≠p1:=λz=>by rw[z,k1]at hp2;cases hp2
 have B0:∃B:Hp,am H B/\B p2=some (.lst (cs.map V.int))/\B p1=none/\am B H2:=⟨hid [p1] H2,jR (s1.trans s2) (λb hb=>by rw[List.mem_singleton.mp hb];exact hp1),bo (by simpa using npp) k2,by unfold hid;simp,bT⟩;obtain⟨B,sB,kB,nB,sB2⟩:=B0;have R0:iK B H2 p1 []:=⟨sB2,nB,[],p1,s2 _ _ k1,nB,rfl,.inl ⟨rfl,rfl⟩⟩;have hwB:=sB.seq hwa;have hkB:=sB.seq hka;refine⟨p2,rfl,⟨_,SqL.of k2⟩,cK (K:=K) (a:=p2) (xs:=cs.map V.int) (λi σ' G=>∃(v4 v5 v6:Option V) (rows:List cS),σ'=[some (.ref sa),some (.ref wa),some (.ref ka),some (.ref p1),v4,v5,v6]/\iK B G p1 rows/\lR wys kds i rows) ⟨none,none,none,[],rfl,R0,⟨Gi _,Gi _,by simp⟩⟩ (λi σ' G _ g=>by obtain⟨_,_,_,_,_,R,_⟩:=g;exact SqL.of (R.old _ _ kB)) ?_ ?_⟩
 .rintro i y σ' G hy ⟨v4,v5,v6,rows,rfl,R,ok⟩;have hi:=(List.getElem?_eq_some_iff.mp hy).1;rw[F9]at hi;rw[GD]at hy;obtain⟨c,_,rfl⟩:=Option.map_eq_some_iff.mp hy;obtain⟨j,ej,hj⟩:=jS c 1 w0;obtain⟨wy,hwy⟩:∃wy,wys[j]?=some wy:=⟨wys[j],Ge hj⟩;have rl:=ok.len;obtain⟨us0,U1,U2,_⟩:=R.all;have addR:∀(w:Wy) (sw:Str) (G':Hp),sw=tx w.t->am G G'->zE wys w->∀pl,G' pl=none->∀pt,(upd G' pl (.lst [])) pt=none->∃us,(upd (upd G' pl (.lst [])) pt (.tup [.str sw,.ref pl])) p1=some (.lst us)/\us.length<Gv/\iK B (upd (upd (upd G' pl (.lst [])) pt (.tup [.str sw,.ref pl])) p1 (.lst (us++[.ref pt]))) p1 (rows++[(w,[])])/\lR wys kds (i+1) (rows++[(w,[])]):=λw sw G' esw m hw pl hpl pt hpt=>by
   subst esw;have m1:=af hpl (.lst []);have m2:=af hpt (.tup [.str (tx w.t),.ref pl]);obtain⟨us,u1,u2,_⟩:=R.all;have m3:=m.trans (m1.trans m2);exact⟨us,m3 _ _ u1,aw (by omega),R.add m3 (m.free hpl) (m2 _ _ ac) ((m.trans m1).free hpt) ac (m3 _ _ u1),ok.add hw⟩
  refine⟨_,rfl,_,rfl,_,rfl,_,_,rfl,.inl (R.old.seq hwB),c,1,(wys.length:Int),(by rw[wl];rfl),⟨by decide,by decide⟩,by omega,_,_,_,_,rfl,rfl,R.old.seq hwB,(by rw[ej];exact cF (by rw[GD,GD,hwy];rfl)),?_⟩;refine⟨_,rfl,rfl,_,rfl,?_⟩;rw[bY cH1];have wm:=Gj hwy;cases wy with
  |eq =>
   rw[decide_eq_true (show WyD.t .eq=[61]from rfl)];refine aM ?_;refine⟨_,rfl,.inl ⟨rfl,_,SqL.of U1⟩,le3,λp3 hp3=>?_⟩;obtain⟨n3,e3,h3⟩:=jS c 2 (show 0<3 by decide);have e3:bU c 2 3=(n3:Int):=e3;obtain⟨w,hw,ew⟩:=at3 n3 h3;have m3:=af hp3 (.lst [V.str (PySem.Str.ofString "="),V.str (PySem.Str.ofString "=="),V.str (PySem.Str.ofString "===")]);refine⟨_,rfl,c,2,3,rfl,⟨by decide,by decide⟩,by decide,_,_,_,_,rfl,rfl,SqL.of ac,(by rw[e3];exact ew),aN (by simp),λpl hpl=>?_⟩;refine⟨le2,λpt hpt=>?_⟩;obtain⟨us,u1,u2,u3,u4⟩:=addR w _ _ rfl m3 (.inr (.inr ⟨hw,wm⟩)) pl hpl pt hpt;exact⟨_,_,_,rfl,rfl,u1,u2,_,_,_,_,rfl,u3,u4⟩
  |way w =>
   have nh:=wnh w wm;rw[decide_eq_false (show ¬ (WyD.t (.way w)=[61])from λz=>by have:w=.h1:=Wy.inj z;rw[this]at nh;cases nh)];refine ay ?_;refine⟨_,rfl,rfl,_,rfl,?_⟩;rw[bY A3,decide_eq_false (show ¬ (WyD.t (.way w)=[119,111,114,100])from λz=>by revert z;cases w<;>decide)]
   refine aM ?_;refine⟨_,rfl,.inl ⟨rfl,_,SqL.of U1⟩,_,rfl,aN (by simp),λpl hpl=>?_⟩;refine⟨le2,λpt hpt=>?_⟩;obtain⟨us,u1,u2,u3,u4⟩:=addR w _ _ rfl (am.refl _) (.inr (.inl wm)) pl hpl pt hpt;exact⟨_,_,_,rfl,rfl,u1,u2,_,_,_,_,rfl,u3,u4⟩
  |word =>
   rw[decide_eq_false (show ¬ (WyD.t .word=[61]) by decide)];refine ay ?_;refine⟨_,rfl,rfl,_,rfl,?_⟩;rw[bY A3,decide_eq_true (show WyD.t .word=[119,111,114,100]from rfl)];refine ay ?_;obtain⟨j8,e8,h8⟩:=jS c 8 k0;obtain⟨kd,hkd⟩:∃kd,kds[j8]?=some kd:=⟨kds[j8],Ge h8⟩;refine⟨_,rfl,_,rfl,_,rfl,_,_,rfl,.inl (R.old.seq hkB),c,8,(kds.length:Int),(by rw[kl];rfl),⟨by decide,by decide⟩,by omega,_,_,_,_,rfl,rfl,R.old.seq hkB,(by rw[e8];exact cF (by rw[GD,hkd];rfl)),?_⟩;dsimp only[bD];have sumW:((rows++[((.words,[]):cS)]).map (·.2.length)).sum<=i:=by rw[Gm,IS];have:=ok.sum;simp;omega
   refine cH (λσ' G'=>∃(ini:List cS) (w:Wy) (ws:List (Kw×Int)),σ'=[some (.ref sa),some (.ref wa),some (.ref ka),some (.ref p1),some (.int c),some (.str (tx (WyD.t .word))),some (.str kd.s)]/\iK B G' p1 (ini++[(w,ws)])/\w.bare=false/\ws.length<=5/\(ini++[(w,ws)]).length<=i+1/\((ini++[(w,ws)]).map (·.2.length)).sum<=i/\∀r∈ini++[(w,ws)],zB kds r/\zE wys r.1) ?_ (λkey=>?_)
   .rintro σ' G2 ⟨ini,w,ws,rfl,R2,nb,wl5,rl2,sm2,ok2⟩;obtain⟨vi,ra,lo,us,g1,g2,g3,g4,g5⟩:=R2.last;obtain⟨ch,u,ew,hw⟩:=Fh nb;have kin:kd∈kds\/kd=.plain:=.inl (Gj hkd);refine cH (λσ' G'=>∃kd':Kw,σ'=[some (.ref sa),some (.ref wa),some (.ref ka),some (.ref p1),some (.int c),some (.str (tx (WyD.t .word))),some (.str kd'.s)]/\am G2 G'/\(w.hd=true->kd'≠.foot)/\(w=.foot->kd'≠.mark/\kd'≠.foot)/\(kd'∈kds\/kd'=.plain)) ?_ (λkey=>?_)
    .rintro σ' G3 ⟨kd',rfl,m3,c1,c2,c3⟩;refine⟨_,rfl,_,rfl,_,_,_,_,rfl,rfl,SqL.of (m3 _ _ g1),jP _ _,_,_,_,_,rfl,rfl,SqT.of (m3 _ _ g2),rfl,.inl ⟨rfl,_,SqL.of (m3 _ _ g3)⟩,_,rfl,_,rfl,le2,λpk hpk=>?_⟩;have m4:=af hpk (.tup [.str kd'.s,.int c]);refine⟨_,_,_,rfl,rfl,m4 _ _ (m3 _ _ g3),aw (by omega),?_⟩;refine⟨_,_,_,ini++[(w,ws++[(kd',c)])],rfl,g5 _ pk (kd',c) (m3.trans m4) (m3.free hpk) ac,⟨?_,?_,λr hr=>?_⟩⟩
     .simpa using rl2
     .rw[Gm,IS]at sm2⊢;simp at sm2⊢;omega
     .rcases List.mem_append.mp hr with hr|hr
      .exact ok2 r (HG _ hr)
      .rw[List.mem_singleton.mp hr];obtain⟨o1,o2⟩:=ok2 (w,ws) (GS _ Gk);have ap:∀{P:Kw×Int->Prop},(∀x∈ws,P x)->P (kd',c)->∀x∈ws++[(kd',c)],P x:=λh1 h2 x hx=>by
        rcases List.mem_append.mp hx with hx|hx
        .exact h1 x hx
        .rw[List.mem_singleton.mp hx];exact h2
       refine⟨⟨λz=>?_,?_,λz=>ap (o1.head z) (c1 z),λz=>ap (o1.foot z) (c2 z),ap o1.kds c3⟩,o2⟩
       .rw[show(w,ws++[(kd',c)]).1.bare=w.bare from rfl,nb]at z;cases z
       .show(ws++[(kd',c)]).length<=6;rw[Ga];simp only[Gd,Gy];omega
    .have m0:=am.refl G2;have kpl:∀G',am G2 G'->(∃kd':Kw,[some (V.ref sa),some (V.ref wa),some (V.ref ka),some (V.ref p1),some (V.int c),some (V.str (tx (WyD.t .word))),some (V.str (PySem.Str.ofString "plain"))]=[some (V.ref sa),some (V.ref wa),some (V.ref ka),some (V.ref p1),some (V.int c),some (V.str (tx (WyD.t .word))),some (V.str kd'.s)]/\am G2 G'/\(w.hd=true->kd'≠.foot)/\(w=.foot->kd'≠.mark/\kd'≠.foot)/\(kd'∈kds\/kd'=.plain)):=λG' m=>⟨.plain,rfl,m,λ_=>(by decide),λ_=>⟨by decide,by decide⟩,.inr rfl⟩;refine⟨_,rfl,_,rfl,_,_,_,_,rfl,rfl,SqL.of (m0 _ _ g1),jP _ _,_,_,_,_,rfl,rfl,SqT.of (m0 _ _ g2),rfl,_,_,ch,rfl,rfl,(by rw[aY];cases w<;>exact aN (by decide)),(by rw[ew];exact fH _ _),rfl,_,rfl,?_⟩
     rw[bY cH1,show decide ([ch]=[61])=w.hd from by rw[<-hw];simp];cases hh:w.hd with
     |true =>
      have nf:w≠.foot:=λz=>by rw[z]at hh;cases hh
      refine aM ?_;refine⟨_,rfl,rfl,_,rfl,?_⟩;by_cases hf:kd=.foot
      .rw[decide_eq_true (show V.str kd.s=V.str "foot" by rw[hf];rfl)];refine aM ?_;refine aM ?_;exact key _ _ (kpl _ m0)
      .rw[decide_eq_false (show ¬ (V.str kd.s=V.str "foot")from λz=>hf (Kw.inj (b:=.foot) (V.str.inj z)))];refine ay ?_;refine⟨_,rfl,_,rfl,_,_,_,_,rfl,rfl,SqL.of (m0 _ _ g1),jP _ _,_,_,_,_,rfl,rfl,SqT.of (m0 _ _ g2),rfl,rfl,_,rfl,?_⟩;rw[bY jZ,decide_eq_false (show ¬ (w.t=dI)from λz=>nf (Wy.inj (b:=.foot) z))];refine ay ?_;refine ay ?_;exact key _ _ ⟨kd,rfl,m0,λ_=>hf,λz=>absurd z nf,kin⟩
     |false =>
      have nh:w.hd=true->kd≠.foot:=λz=>by rw[hh]at z;cases z
      refine ay ?_;refine ay ?_;refine⟨_,rfl,_,rfl,_,_,_,_,rfl,rfl,SqL.of (m0 _ _ g1),jP _ _,_,_,_,_,rfl,rfl,SqT.of (m0 _ _ g2),rfl,rfl,_,rfl,?_⟩;rw[bY jZ];by_cases hw2:w=.foot
      .rw[decide_eq_true (show w.t=dI by rw[hw2];rfl)];refine aM ?_;refine⟨_,rfl,le2,λp9 hp9=>?_⟩;refine⟨_,_,rfl,.inr (SqT.of ac),rfl,rfl,_,rfl,?_⟩;refine eY (λc2=>?_) (λc2=>?_)
       .exact key _ _ (kpl _ (af hp9 _))
       .have c3:(decide (kd=.mark)||decide (kd=.foot))=false:=(FW kd).symm.trans (Bool.eq_false_iff.mpr c2);simp only[IG,decide_eq_false_iff_not]at c3;exact key _ _ ⟨kd,rfl,af hp9 _,nh,λ_=>c3,kin⟩
      .rw[decide_eq_false (show ¬ (w.t=dI)from λz=>hw2 (Wy.inj (b:=.foot) z))];refine ay ?_;refine ay ?_;exact key _ _ ⟨kd,rfl,m0,nh,λz=>absurd z hw2,kin⟩
   .refine⟨_,rfl,aN (by simp),λp10 hp10=>?_⟩;have m1:=af hp10 (.lst []);refine⟨_,_,_,rfl,rfl,SqL.of (m1 _ _ U1),SqL.of ac,_,rfl,?_⟩;rcases List.eq_nil_or_concat rows with e0|⟨ini,⟨w,ws⟩,e0⟩
    .have hz:us0=[]:=by
      rw[e0]at U2;exact List.length_eq_zero_iff.mp U2
     refine eY (λc2=>?_) (λc2=>?_)
     .refine aM ?_;refine⟨_,rfl,.inl ⟨rfl,_,SqL.of ((m1) _ _ U1)⟩,aN (by simp),λpl hpl=>?_⟩;refine⟨le2,λpt hpt=>?_⟩;obtain⟨us,u1,u2,u3,u4⟩:=addR .words _ _ ku (m1) (.inl rfl) pl hpl pt hpt;exact⟨_,_,_,rfl,rfl,u1,u2,key _ _ ⟨rows,.words,[],rfl,u3,rfl,by simp,u4.len,sumW,u4.ok⟩⟩
     .exact absurd (by rw[hz];rfl) c2
    .rw[List.concat_eq_append]at e0;have R':=R;rw[e0]at R';obtain⟨vi,ra,lo,us,g1,g2,g3,g4,g5⟩:=R'.last;have hz:us0=vi++[.ref ra]:=by
      rw[g1]at U1;injection U1 with U1;injection U1 with U1;exact U1.symm
     refine eY (λc2=>?_) (λc2=>?_)
     .rw[hz]at c2;exact absurd c2 (by cases vi<;>exact GB)
     refine⟨_,rfl,_,rfl,_,_,_,_,rfl,rfl,SqL.of (m1 _ _ g1),jP _ _,_,_,_,_,rfl,rfl,SqT.of (m1 _ _ g2),rfl,le4,λp11 hp11=>?_⟩;have m12:=m1.trans (af hp11 (.tup [V.str (PySem.Str.ofString ""),V.str (PySem.Str.ofString ".page"),V.str (PySem.Str.ofString ".odd"),V.str (PySem.Str.ofString ".list")]));refine⟨_,_,rfl,.inr (SqT.of ac),rfl,rfl,_,rfl,?_⟩;refine eY (λc2=>?_) (λc2=>?_)
     .refine aM ?_;refine⟨_,rfl,.inl ⟨rfl,_,SqL.of ((m12) _ _ U1)⟩,aN (by simp),λpl hpl=>?_⟩;refine⟨le2,λpt hpt=>?_⟩;obtain⟨us,u1,u2,u3,u4⟩:=addR .words _ _ ku (m12) (.inl rfl) pl hpl pt hpt;exact⟨_,_,_,rfl,rfl,u1,u2,key _ _ ⟨rows,.words,[],rfl,u3,rfl,by simp,u4.len,sumW,u4.ok⟩⟩
     .have nb:w.bare=false:=(EB w).symm.trans (Bool.eq_false_iff.mpr c2);refine⟨_,rfl,_,rfl,_,_,_,_,rfl,rfl,SqL.of (m12 _ _ g1),jP _ _,_,_,_,_,rfl,rfl,SqT.of (m12 _ _ g2),rfl,_,_,rfl,.inl (SqL.of (m12 _ _ g3)),rfl,_,rfl,?_⟩;refine eY (λc3=>?_) (λc3=>?_)
      .refine⟨_,rfl,.inl ⟨rfl,_,SqL.of ((m12) _ _ U1)⟩,aN (by simp),λpl hpl=>?_⟩;refine⟨le2,λpt hpt=>?_⟩;obtain⟨us,u1,u2,u3,u4⟩:=addR .words _ _ ku (m12) (.inl rfl) pl hpl pt hpt;exact⟨_,_,_,rfl,rfl,u1,u2,key _ _ ⟨rows,.words,[],rfl,u3,rfl,by simp,u4.len,sumW,u4.ok⟩⟩
      .have n6:us.length≠6:=λz=>c3 (decide_eq_true (by rw[z];rfl));have o:=(ok.ok (w,ws) (by rw[e0];exact GS _ Gk)).1.len;dsimp only at o;exact key _ _ ⟨ini,w,ws,rfl,R'.same m12,nb,by omega,by rw[<-e0];omega,by rw[<-e0];exact ok.sum,by rw[<-e0];exact ok.ok⟩
 rintro σ' G ⟨v4,v5,v6,rows,rfl,R,ok⟩;rw[F9]at ok;obtain⟨us,u1,u2,u3⟩:=R.all;exact⟨_,rfl,q p1 G rows us hp1 (sB.trans R.old) u1 u3 ⟨by have:=ok.len;omega,by have:=ok.sum;omega,ok.ok⟩⟩
def ym(K:PySem.W.Frag):Sp:=λvs H Q _=>∃(ra:Addr) (f:Int) (rs:List (List Nat)),vs=[.ref ra,.int f]/\SqL K H ra ((rs.map tx).map V.str)/\rs.length<=200/\(∀r∈rs,r.length<=8200)/\∀p H' ss,H p=none->am H H'->H' p=some (.lst ((ss.map tx).map V.str))->oR rs ss->ss.length=rs.length->Q (.ref p) H'
theorem fq:aL ["rows","first","spaced","k","row","ahead","end"] ["rows","first"] (av oT):=by walk_at "c"
theorem yn(T:Txt P w K mg a):a_ P w K mg base CX0 2 a.pE a.nN ["rows","first"] (ym K):=by
 refine T.pA.fn.ok fq (λvs H Q E h=>?_) (λcdv A outer s H vs Q E hr h=>?_)
 .obtain⟨ra,f,rs,rfl,_⟩:=h;rfl
 obtain⟨ra,f,rs,rfl,hra,rl,rln,q⟩:=h;refine⟨_,(ag (aA (i:=2) fq.nd rfl (Gr rfl) (aQ ae))
   (ag (cA Hb rfl (yI rfl T.fB (pv 0)) (fc rfl (bf (aS (i:=3) fq.nd rfl (Gr rfl)) (bf (aS (i:=4) fq.nd rfl (Gr rfl)) dW))) (ag (En (Dh (Dg vU (aH oF rfl T.bO PySem.boot_len (aa (pv 4) ae)) (nomark _)) (dU (au bn (aD T.bV (bR T) (hr.mono (by decide)) rfl (aa (aG ca (pv 1) (pv 3)) (aa ah (aa ah ae)))) ah (nomark _)))) (B1 (i:=4) fq.nd rfl (Gr rfl) (yj (pv 4) (by decide +kernel) (by decide +kernel))) aK)
   (ag (aA (i:=5) fq.nd rfl (Gr rfl) (aD T.bV (bR T) (hr.mono (by decide)) rfl (aa (aG ca (pv 1) (pv 3)) (aa ah (aa ah ae)))))
   (ag (aA (i:=6) fq.nd rfl (Gr rfl) (aD T.bV (bR T) (hr.mono (by decide)) rfl (aa (aG ca (pv 1) (pv 3)) (aa ah (aa ah ae)))))
   (ai (bj (cG PySem.F.plainAttrs_list PySem.F.slot_list_append PySem.F.type_list_append cB (pv 2) (aa (aG dH (aG dH (aG oH aq (aH (mE rfl) rfl T.lB IC (aa ah (aa (aG j7 (pv 5) ah) ae)))) (pv 4)) (aG oH aq (aH (mE rfl) rfl T.lB IC (aa ah (aa (aG j7 (pv 6) ah) ae))))) ae))))))))
   (ai (aP (pv 2))))),?_⟩
 refine⟨aN (by simp),λp1 hp1=>?_⟩;have s1:=af hp1 (.lst []);have k1:upd H p1 (.lst []) p1=some (.lst []):=ac;generalize upd H p1 (.lst [])=H1 at s1 k1⊢;refine⟨_,rfl,ra,rfl,⟨_,s1.seq hra⟩,xi (K:=K) (a:=ra) (xs:=(rs.map tx).map V.str) (λi σ' G=>∃(v3 v4 v5 v6:Option V) (ss:List (List Nat)),σ'=[some (.ref ra),some (.int f),some (.ref p1),v3,v4,v5,v6]/\am H G/\G p1=some (.lst ((ss.map tx).map V.str))/\oR (rs.take i) ss/\ss.length=i) ⟨none,none,none,none,[],rfl,s1,k1,trivial,rfl⟩ (λi σ' G _ g=>by obtain⟨_,_,_,_,_,_,m,_⟩:=g;exact m.seq hra) ?_ ?_⟩
 .rintro k y σ' G p0 hy ⟨v3,v4,v5,v6,ss,rfl,m,g1,sp,sl⟩ hp0;obtain⟨r,hr_,rfl⟩:=lP hy;have hk:=(List.getElem?_eq_some_iff.mp hr_).1;have rl2:=rln r (Gj hr_);have m1:=m.trans (af hp0 (.tup [.int (k:Int),.str (tx r)]));have k0:upd G p0 (.tup [.int (k:Int),.str (tx r)]) p0=some (.tup [.int (k:Int),.str (tx r)]):=ac;have g2:=af hp0 (.tup [.int (k:Int),.str (tx r)]) _ _ g1;generalize upd G p0 (.tup [.int (k:Int),.str (tx r)])=G1 at m1 k0 g2⊢;refine⟨p0,_,rfl,SqT.of k0,rfl,_,_,rfl,_,_,rfl,rfl,?_⟩;refine cH (λσ' G'=>∃d:Bool,σ'=[some (.ref ra),some (.int f),some (.ref p1),some (.int (k:Int)),some (.str (tx (if d then mW r else r))),v5,v6]/\G'=G1) ?_ (λkey=>?_)
  .rintro σ' G2 ⟨d,rfl,rfl⟩;have ha:=dX (f+(k:Int)) 84 (show(0:Int)<6 by decide);have hb:=dX (f+(k:Int)) 85 (show(0:Int)<6 by decide);have dl:(if d then mW r else r).length<=16400:=by have:=yS r;split<;>omega
   refine⟨_,rfl,_,rfl,_,_,rfl,rfl,_,84,6,rfl,⟨by decide,by decide⟩,by decide,?_⟩;refine⟨_,rfl,_,rfl,_,_,rfl,rfl,_,85,6,rfl,⟨by decide,by decide⟩,by decide,?_⟩;have ea:(if bU (f+(k:Int)) 84 6-2>0 then bU (f+(k:Int)) 84 6-2 else 0)=(((bU (f+(k:Int)) 84 6-2).toNat:Nat):Int):=by split<;>omega
   have eb:(if bU (f+(k:Int)) 85 6-3>0 then bU (f+(k:Int)) 85 6-3 else 0)=(((bU (f+(k:Int)) 85 6-3).toNat:Nat):Int):=by split<;>omega
   have a10:(bU (f+(k:Int)) 84 6-2).toNat<=10:=by omega
   have b10:(bU (f+(k:Int)) 85 6-3).toNat<=10:=by omega
   generalize (bU (f+(k:Int)) 84 6-2).toNat=na at ea a10;generalize (bU (f+(k:Int)) 85 6-3).toNat=nb at eb b10;refine⟨_,rfl,.inl ⟨rfl,_,SqL.of g2⟩,_,rfl,_,_,rfl,rfl,_,_,rfl,_,_,rfl,rfl,(by rw[ea];exact yQ a10),_,rfl,_,_,rfl,rfl,?_,_,rfl,_,_,rfl,rfl,_,_,rfl,_,_,rfl,rfl,(by rw[eb];exact yQ b10),_,_,rfl,rfl,?_,_,_,_,rfl,rfl,g2,aw (by simp only[F9];omega),?_⟩
   .rw[ea,um,aY,aY,Hc];exact GE (GA (show _<=20000 by omega) (by decide))
   .rw[ea,eb,um,um,eR,aY,aY,Ga,Hc,Hc];exact GE (GA (show _<=20000 by omega) (by decide))
   .rw[ea,eb,um,um,eR,eR];refine⟨_,_,_,_,ss++[mO na nb d r],rfl,aX m1 hp1,?_,?_,by rw[Ga,sl];rfl⟩
    .rw[ac,Gm,Gm];rfl
    .rw[a7 hr_];exact sp.snoc ⟨na,nb,d,a10,b10,rfl⟩
  .refine⟨_,rfl,_,_,rfl,⟨(by rw[aY];exact GE (GA rl2 (by decide))),rfl⟩,_,_,rfl,rfl,_,rfl,?_⟩;have kF:=key [some (.ref ra),some (.int f),some (.ref p1),some (.int (k:Int)),some (.str (tx r)),v5,v6] G1 ⟨false,rfl,rfl⟩;refine eY (λc1=>?_) (λc1=>?_)
   .refine⟨_,rfl,_,rfl,_,_,rfl,rfl,_,86,3,rfl,⟨by decide,by decide⟩,by decide,rfl,_,rfl,?_⟩;refine eY (λc2=>?_) (λc2=>?_)
    .refine⟨_,rfl,_,rfl,(by rw[aY];omega),?_⟩;refine key _ G1 ⟨true,?_,rfl⟩;rw[PyProof.Rows.replace_dbl _ _ _ 32 (by decide +kernel) (by decide +kernel)];rfl
    .exact kF
   .refine ay ?_;exact kF
 rintro σ' G ⟨v3,v4,v5,v6,ss,rfl,m,g1,sp,sl⟩;rw[F9,F9]at sl;rw[F9,F9,Gz]at sp;exact⟨_,rfl,q p1 G ss hp1 m g1 sp sl⟩
def xK:Sp:=λvs H Q _=>∃l:List Nat,vs=[.str (tx l)]/\l.length<=1000/\Q (.bl (bQ l)) H
theorem qP:aL ["word","sign"] ["word"] (av mZ):=by walk_at "c"
theorem xL(T:Txt P w K mg a):a_ P w K mg base CX0 1 a.nG a.mr ["word"] xK:=by
 refine T.nz.fn.ok qP (λvs H Q E h=>?_) (λcdv A outer s H vs Q E hr h=>?_)
 .obtain⟨l,rfl,_⟩:=h;rfl
 obtain⟨l,rfl,hl,q⟩:=h;refine⟨_,(ag (aI (PW.pt (iE (au vU (aH dq rfl T.bO PySem.boot_len (aa (pv 0) ae)) ah (nomark _)) (i7 (au ja (aH dq rfl T.bO PySem.boot_len (aa (pv 0) ae)) ah (nomark _))))) (ai (aP cN)) aK)
   (ag (cA Hb rfl (Ay (pv 0)) (aS (i:=1) qP.nd rfl (Gr rfl)) (ai (aI (au qj (pv 1) aq (by with_unfolding_all rfl)) (ai (aP cN)) aK)))
   (ai (aP (dA qj (aJ ef (pv 0) ah (λ_ _=>rfl)) aq (by with_unfolding_all rfl)))))),?_⟩
 refine⟨_,rfl,_,rfl,aN (by rw[aY];exact hl),_,_,rfl,rfl,_,rfl,?_⟩;rw[aY];cases l with
 |nil =>
  refine aM ?_;refine aM ?_;exact q
 |cons c r =>
  rw[decide_eq_false (by simp only[Gd];omega)];refine ay ?_;refine⟨_,rfl,_,rfl,aN (by rw[aY];exact hl),_,_,rfl,rfl,_,rfl,?_⟩;rw[aY];refine eY (λh=>?_) (λh=>?_)
  .have h2:¬ (c::r).length<=12:=by have:=of_decide_eq_true h;omega
   rw[vk h2]at q;exact q
  .have h2:(c::r).length<=12:=by
    refine II λz=>h (decide_eq_true ?_);omega
   rw[oM h2]at q;refine⟨_,rfl,_,rfl,C4 (x:=tx (c::r)) (λi σ H2=>H2=H/\(∃v,σ=[some (.str (tx (c::r))),v])/\(((c::r).take i).all λd=>isL d||isF d)=true) ⟨rfl,⟨none,rfl⟩,rfl⟩ ?_ ?_⟩
   .rintro i d σ H2 hd ⟨rfl,⟨v,rfl⟩,ha⟩;rw[AB]at hd;refine⟨_,rfl,_,_,rfl,rfl,_,rfl,?_⟩;rw[Dm];cases h3:(isL d||isF d)with
    |true =>
     refine ay ?_;refine⟨rfl,⟨_,rfl⟩,?_⟩;rw[HF,hd,List.all_append,ha];simp[h3]
    |false =>
     refine aM ?_;have h4:((c::r).all λd=>isL d||isF d)=false:=by
      refine Bool.eq_false_iff.mpr λz=>?_;have:=List.all_eq_true.mp z d (Gj hd);rw[h3]at this;cases this
     rw[h4,Kh]at q;exact q
   .rintro σ H2 ⟨rfl,⟨v,rfl⟩,ha⟩;rw[yG,Ho (Gi _)]at ha;rw[ha,Ko]at q;refine⟨_,rfl,_,_,c,rfl,rfl,aN (by rw[aY];exact hl),fH c r,_,_,rfl,rfl,?_⟩;rw[AW];have ha1:(isL c||isF c)=true:=List.all_eq_true.mp ha c Gk;cases h5:isL c with
    |true =>
     rw[h5]at q;rw[Dn h5];exact q
    |false =>
     rw[h5]at q;rw[h5,Kn]at ha1;rw[ha1];exact q

def kwI:Kw->Nat
 |.mark=>0|.number=>1|.page=>2|.row=>3|.foot=>4|_=>5
def kw5:List V:=[V.str (PySem.Str.ofString "mark"),V.str (PySem.Str.ofString "number"),V.str (PySem.Str.ofString "page"),V.str (PySem.Str.ofString "row"),V.str (PySem.Str.ofString "foot")]
theorem EG{k:Kw}(h1:k≠.plain)(h2:k≠.entry):(∃v,kw5[kwI k]?=some v/\eqV v (.str k.s)=true)/\(∀(m:Nat) (v:V),m<kwI k->kw5[m]?=some v->eqV v (.str k.s)=false)/\atI (PySem.Str.ofString "#@&^~").cps.toList ((kwI k:Nat):Int)=some (sgK k):=by
 have no:∀(n:Nat) (s:Str),(∀m:Nat,m<n->∀v,kw5[m]?=some v->eqV v (.str s)=false)↔((kw5.take n).all λv=>!eqV v (.str s))=true:=λn s=>by
  rw[List.all_eq_true];constructor
  .intro h v hv;obtain⟨m,hm,e⟩:=List.getElem_of_mem hv;rw[List.getElem_take]at e;rw[GC]at hm;rw[h m (by omega) v (by rw[<-e];exact Ge _)];rfl
  .intro h m hm v hv;have:=h v (Gj (i:=m) (by rw[List.getElem?_take,if_pos hm];exact hv));simpa using this
 have no:=λ(n:Nat) (s:Str) (z:((kw5.take n).all λv=>!eqV v (.str s))=true)=>λ(m:Nat) (v:V) hm hv=>(no n s).mpr z m hm v hv;cases k with
 |plain=>exact absurd rfl h1
 |entry=>exact absurd rfl h2
 |mark=>exact⟨⟨_,rfl,by decide +kernel⟩,no 0 _ (by decide +kernel),by decide +kernel⟩
 |number=>exact⟨⟨_,rfl,by decide +kernel⟩,no 1 _ (by decide +kernel),by decide +kernel⟩
 |page=>exact⟨⟨_,rfl,by decide +kernel⟩,no 2 _ (by decide +kernel),by decide +kernel⟩
 |row=>exact⟨⟨_,rfl,by decide +kernel⟩,no 3 _ (by decide +kernel),by decide +kernel⟩
 |foot=>exact⟨⟨_,rfl,by decide +kernel⟩,no 4 _ (by decide +kernel),by decide +kernel⟩
theorem CG:(PySem.Str.ofString "!")=tx [33]:=by decide +kernel
theorem Fn:(PySem.Str.ofString ".![=")=tx [46,33,91,61]:=by decide +kernel
theorem Fo:(PySem.Str.ofString "#@&^~")=tx [35,64,38,94,126]:=by decide +kernel

def xM:Sp:=λvs H Q _=>∃w:NWd,vs=[.str w.1.s,.str (tx w.2)]/\sZ w/\∀H',am H H'->Q (.str (tx (wrW true w))) H'
theorem xN:aL ["kind","rest"] ["kind","rest"] (av m_):=by walk_at "c"
theorem xO(T:Txt P w K mg a):a_ P w K mg base CX0 2 a.nI a.mv ["kind","rest"] xM:=by
 refine T.nA.fn.ok xN (λvs H Q E h=>?_) (λcdv A outer s H vs Q E hr h=>?_)
 .obtain⟨w,rfl,_⟩:=h;rfl
 obtain⟨w,rfl,ok,q⟩:=h;refine⟨_,(@ag _ _ _ _ _ (@aI _ _ _ _ _ _ _ _ (au iF (pv 0) aq (nomark _)) (@ai _ _ _ (@aP _ _ _ _ (aG dH (@aJ _ _ _ _ _ _ _ ef aq (cG PySem.F.plainAttrs_list PySem.F.slot_list_index PySem.F.type_list_index BP (@aQ _ _ _ _ (@v_ _ _ _ (CL.str (CL.str (CL.str (CL.str (CL.str CL.nil))))))) (@aa _ _ _ _ _ (pv 0) ae (by rfl))) (λ_ _=>rfl)) (pv 1)))) aK)
   (@ag _ _ _ _ _ (@aI _ _ _ _ _ _ _ _ (PW.pt (iE (au j9 (@aJ _ _ _ _ _ _ _ ef (pv 1) ah (λ_ _=>rfl)) aq (by with_unfolding_all rfl)) (i7 (PW.pt (fF (au j9 (@aJ _ _ _ _ _ _ _ ef (pv 1) ah (λ_ _=>rfl)) aq (by with_unfolding_all rfl)) (dU (dL (aD T.nz (xL T) (hr.mono (by decide)) rfl (@aa _ _ _ _ _ (dm ki (pv 1) (dB ah) eJ) ae (by rfl))) (λ_=>rfl)))))))) (@ai _ _ _ (@aP _ _ _ _ (aG dH aq (pv 1)))) aK)
   (@ai _ _ _ (@aP _ _ _ _ (pv 1))))),?_⟩
 obtain⟨k,r⟩:=w;obtain⟨he,sg,hw⟩:=ok;dsimp only at he sg hw;refine(⟨_,rfl,rfl,_,rfl,?_⟩);by_cases hk:k=.plain
 .subst hk;refine ay ?_;dsimp only[fV];obtain⟨_,hne,hl⟩|⟨z,_⟩:=hw
  .match r,hne,hl,sg,q with
   |c::u,_,hl,sg,q =>
   have eT:lq true (c::u)=true->∀H',am H H'->Q (.str (tx (33::c::u))) H':=λb H' s=>by
    have:=q H' s;rw[show wrW true (.plain,c::u)=33::c::u from by unfold wrW;rw[if_pos rfl,if_pos b]]at this;exact this
   have eF:lq true (c::u)=false->∀H',am H H'->Q (.str (tx (c::u))) H':=λb H' s=>by
    have:=q H' s;rw[show wrW true (.plain,c::u)=c::u from by unfold wrW;rw[if_pos rfl,if_neg (by rw[b];decide)]]at this;exact this
   have bang:∀{D:eX} {σ':St} {H'},σ'[1]?=some (some (.str (tx (c::u))))->D.rt=Q->lq true (c::u)=true->am H H'->True:=λ_ _ _ _=>trivial;have ln:(PySem.Str.ofString "!").length+(tx (c::u)).length<=Gv:=by rw[CG,aY,aY];exact GE (aw (by simp only[Gd,Gy]at hl⊢;omega))
   have add:∀H',am H H'->lq true (c::u)=true->Q (.str (PySem.Str.ofString "!"++tx (c::u))) H':=λH' s b=>by rw[CG,eR];exact eT b H' s
   have L1:(tx (c::u)).length<=Gv:=by rw[aY];exact GE (aw (by omega))
   have em:decide (c∈[35,64,38,94,126])=isM c:=rfl;have e4:decide (c∈[46,33,91,61])=(decide (c∈[46,33,91])||decide (c=61)):=by simp[Bool.or_assoc]
   refine(⟨_,rfl,_,_,c,rfl,rfl,L1,fH _ _,_,_,rfl,rfl,_,rfl,?_⟩);rw[Fn,ub];cases b1:decide (c∈[46,33,91,61])with
   |true =>
    refine aM ?_;refine aM ?_;exact(⟨_,rfl,_,_,rfl,rfl,ln,add _ (am.refl _) (by rw[vm,if_pos rfl,<-e4,b1];rfl)⟩)
   |false =>
    refine ay ?_;refine(⟨_,rfl,_,_,c,rfl,rfl,L1,fH _ _,_,_,rfl,rfl,_,rfl,?_⟩);rw[Fo,ub,em];have lb:lq true (c::u)=(isM c&&bQ u):=by rw[vm,if_pos rfl,<-e4,b1];rfl
    cases b3:isM c with
    |false =>
     rw[b3,JE]at lb;refine ay ?_;refine ay ?_;exact(⟨_,rfl,eF lb _ (am.refl _)⟩)
    |true =>
     rw[b3,Jm]at lb;refine aM ?_;refine(⟨_,rfl,_,rfl,_,rfl,L1,u,(by rw[fj,show jh (c::u) (some 1) none=(c::u).drop 1 from Tl.cut_from (c::u) 1];rfl),(by simp only[Gd]at hl;omega),_,rfl,?_⟩);cases b4:bQ u with
     |true =>
      rw[b4]at lb;refine aM ?_;exact(⟨_,rfl,_,_,rfl,rfl,ln,add _ (am.refl _) lb⟩)
     |false =>
      rw[b4]at lb;refine ay ?_;exact(⟨_,rfl,eF lb _ (am.refl _)⟩)
  .exact absurd rfl z
 .rw[show(!decide (V.str k.s=V.str "plain"))=true from by rw[decide_eq_false (show ¬ (V.str k.s=V.str "plain")from λz=>hk (Kw.inj (b:=.plain) (V.str.inj z)))];rfl];refine aM ?_;obtain⟨z,_⟩|⟨_,hn,hl⟩:=hw
  .exact absurd z hk
  obtain⟨i1,i2,i3⟩:=EG hk he;refine(⟨aN (by simp),λp1 hp1=>?_⟩);have s1:=af hp1 (.lst kw5);have k1:upd H p1 (.lst kw5) p1=some (.lst kw5):=ac;change upd H p1 (.lst kw5) p1=_ at k1;refine(⟨.inl ⟨rfl,_,SqL.of k1⟩,_,rfl,p1,.str k.s,kw5,kwI k,rfl,rfl,k1,rfl,rfl,i1,i2,_,_,sgK k,rfl,rfl,aN (by decide +kernel),i3,_,rfl,_,_,rfl,rfl,(by rw[aY];exact GE (aw (by show 1+r.length<=1000;omega))),?_⟩);have:=q _ s1;rw[show wrW true (k,r)=sgK k::r from by unfold wrW;rw[if_neg hk]]at this;show Q (.str (tx [sgK k]++tx r)) _;rw[eR];exact this

theorem EH(w:Wy):inV (.str (tx w.t)) [V.str (PySem.Str.ofString ""),V.str (PySem.Str.ofString "words")]=decide (w=.empty\/w=.words):=by
 rw[oQ,ku];refine(on [[],[119,111,114,100,115]]).trans ?_;cases w<;>decide

def Bf:Sp:=λvs H Q _=>∃(r:bM) (la:Addr),vs=[.str (tx r.1.t),.str (tx r.2.1),.ref la]/\cQ H la (wkS r.2.2)/\kH r/\∀H',am H H'->Q (.str (tx (cz [32] (eZ true r)))) H'
theorem mP:aL ["way","name","words","texts"] ["way","name","words"] (av tD):=by walk_at "c"
theorem Bg(T:Txt P w K mg a):a_ P w K mg base CX0 3 a.tP a.rO ["way","name","words"] Bf:=by
 refine T.tJ.fn.ok mP (λvs H Q E h=>?_) (λcdv A outer s H vs Q E hr h=>?_)
 .obtain⟨r,la,rfl,_⟩:=h;rfl
 obtain⟨r,la,rfl,hl,ok,q⟩:=h;refine⟨_,(ag (Er (k:=3) rfl (eB (caps:=[]) (js:=[]) (cap:=trivial)) (bq (pv 2)) (λ_ _ _ _=>du) (λ_ _ _ _=>(aD T.nA (xO T) (hr.mono (by decide)) rfl (aa (pv 0) (aa (pv 1) ae)))) mP.nd rfl rfl)
   (ag (aI (au bn (pv 0) aq (nomark _)) (ai (aA (i:=3) mP.nd rfl (Gr rfl) (aG gg (aQ (aa (pv 1) ae)) (pv 3)))) aK)
   (ag (aI (au wV (pv 0) (bp (aa aq (aa aq ae))) (by with_unfolding_all rfl)) (ai (aA (i:=3) mP.nd rfl (Gr rfl) (aG gg (aQ (aa (pv 0) ae)) (pv 3)))) aK)
   (ai (aP (cG PySem.F.plainAttrs_str PySem.F.slot_str_join PySem.F.type_str_join nY aq (aa (pv 3) ae))))))),?_⟩
 obtain⟨us,u1,u2⟩:=hl;have lu:=u2.len;have rwd:=mM true ok;have rln:=yP true ok;have okl:=ok.len;have okw:=ok.ok;obtain⟨wy,nm,ws⟩:=r;dsimp only at u2 lu okl okw;unfold wkS at lu;rw[F9]at lu;refine⟨_,rfl,la,rfl,⟨_,SqL.of u1⟩,sW (K:=K) (a:=la) (xs:=us) (λi ys G=>am H G/\ys=(((ws.take i).map (wrW true)).map tx).map V.str) ⟨am.refl _,rfl⟩ (λi ys G _ z=>SqL.of (z.1 _ _ u1)) ?_ ?_ ?_⟩
 .rintro i ys G hi ⟨_,rfl⟩;simp only[F9,GC];exact aw (by omega)
 .rintro i y ys G hy ⟨m,rfl⟩;obtain⟨w',hw',b,rfl,hb⟩:=u2.getL hy;unfold wkS at hw';rw[GD]at hw';obtain⟨w,hw,rfl⟩:=Option.map_eq_some_iff.mp hw';refine⟨b,_,_,rfl,SqT.of (m _ _ hb),dM ?_⟩;refine⟨_,rfl,_,rfl,w,rfl,okw w (Gj hw),λH' s=>⟨m.trans s,?_⟩⟩;rw[a7 hw,Gm,Gm,Gm];rfl
 rintro ys G ⟨m,rfl⟩ p1 hp1;rw[lu,Gz];have s1:=m.trans (af hp1 (.lst (((ws.map (wrW true)).map tx).map V.str)));have k1:upd G p1 (.lst (((ws.map (wrW true)).map tx).map V.str)) p1=some (.lst (((ws.map (wrW true)).map tx).map V.str)):=ac;generalize upd G p1 (.lst (((ws.map (wrW true)).map tx).map V.str))=G1 at s1 k1⊢;dsimp only[bD];refine cH (λσ' G'=>∃pt,σ'=[some (.str (tx wy.t)),some (.str (tx nm)),some (.ref la),some (.ref pt)]/\am H G'/\G' pt=some (.lst ((((if wy=.foot then[nm]else[])++ws.map (wrW true)).map tx).map V.str))) ?_ (λkey=>?_)
 .rintro σ' G2 ⟨pt,rfl,s2,k2⟩;refine cH (λσ' G'=>∃pt,σ'=[some (.str (tx wy.t)),some (.str (tx nm)),some (.ref la),some (.ref pt)]/\am H G'/\G' pt=some (.lst (((eZ true (wy,nm,ws)).map tx).map V.str))) ?_ (λkey=>?_)
  .rintro σ' G3 ⟨pt3,rfl,s3,k3⟩;refine⟨rfl,_,rfl,_,_,_,rfl,rfl,SqL.of k3,by decide,?_,?_⟩
   .have h1:=lQ (eZ true (wy,nm,ws)) λt ht=>(rwd t ht).2.2;simp only[F9];omega
   .rw[show(PySem.Str.ofString " ")=tx [32] by decide +kernel,jN];exact q _ s3
  .refine⟨_,rfl,le2,λp2 hp2=>?_⟩;have s3:=s2.trans (af hp2 (.tup [V.str (PySem.Str.ofString ""),V.str (PySem.Str.ofString "words")]));refine⟨_,_,rfl,.inr (SqT.of ac),rfl,rfl,_,rfl,?_⟩;have k2':=af hp2 (.tup [V.str (PySem.Str.ofString ""),V.str (PySem.Str.ofString "words")]) _ _ k2;generalize upd G2 p2 (.tup [V.str (PySem.Str.ofString ""),V.str (PySem.Str.ofString "words")])=G3 at s3 k2'⊢;refine eY (λc2=>?_) (λc2=>?_)
   .have c3:¬ (wy=.empty\/wy=.words):=λz=>by
     have:=EH wy;rw[decide_eq_true z]at this;change (!inV (.str (tx wy.t)) [V.str (PySem.Str.ofString ""),V.str (PySem.Str.ofString "words")])=true at c2;rw[this]at c2;cases c2
    refine⟨_,rfl,le1,λp4 hp4=>?_⟩;have s4:=af hp4 (.lst [.str (tx wy.t)]);refine⟨_,rfl,_,_,_,_,rfl,rfl,ac,s4 _ _ k2',?_,λp5 hp5=>?_⟩
    .simp only[F9,Ga,Gd,Gy];have:(if wy=.foot then[nm]else([]:List (List Nat))).length<=1:=by split<;>simp
     exact GE (aw (by omega))
    .refine key _ _ ⟨p5,rfl,(s3.trans s4).trans (af hp5 _),?_⟩;rw[ac];unfold eZ;rw[if_neg c3,Gs,Gm (l₁:=[wy.t]),Gm];rfl
   .have c3:wy=.empty\/wy=.words:=by
     have:=EH wy;change ¬ ((!inV (.str (tx wy.t)) [V.str (PySem.Str.ofString ""),V.str (PySem.Str.ofString "words")])=true)at c2;rw[this]at c2;by_cases z:wy=.empty\/wy=.words
     .exact z
     .rw[decide_eq_false z]at c2;exact absurd rfl c2
    refine key _ _ ⟨pt,rfl,s3,?_⟩;rw[k2'];unfold eZ;rw[if_pos c3];rfl
 .refine⟨_,rfl,rfl,_,rfl,?_⟩;rw[bY jZ];by_cases hf:wy=.foot
  .rw[decide_eq_true (show wy.t=dI by rw[hf];rfl)];refine aM ?_;refine⟨_,rfl,le1,λp4 hp4=>?_⟩;have s4:=af hp4 (.lst [.str (tx nm)]);refine⟨_,rfl,_,_,_,_,rfl,rfl,ac,s4 _ _ k1,?_,λp5 hp5=>?_⟩
   .simp only[F9,Gd,Gy];exact GE (aw (by omega))
   .refine key _ _ ⟨p5,rfl,(s1.trans s4).trans (af hp5 _),?_⟩;rw[ac,if_pos hf,Gm (l₁:=[nm]),Gm];rfl
  .rw[decide_eq_false (show ¬ (wy.t=dI)from λz=>hf (Wy.inj (b:=.foot) z))];refine ay ?_;refine key _ _ ⟨p1,rfl,s1,?_⟩;rw[k1,if_neg hf];rfl

def fA:Wy->Nat
 |.h1=>1|.h2=>2|.h3=>3|_=>0
def b7:Nat×Nat×Nat->List bM->List Ttl
 |_,[]=>[]
 |c,r::rs=>if r.1.hd=true then(eD (bA c (fA r.1:Int)) (fA r.1:Int),r.2.2)::b7 (bA c (fA r.1:Int)) rs else b7 c rs
def xP(c:Nat×Nat×Nat):List V:=[.int 0,.int (c.1:Int),.int (c.2.1:Int),.int (c.2.2:Int)]
theorem sf{n:Nat}(h:n<=300):((n:Int)).natAbs.log2<1920:=by
 have:∀m:Nat,m<=300->((m:Int)).natAbs.log2<1920:=by decide +kernel
 exact this n h

def yo(K:PySem.W.Frag):Sp:=λvs H Q _=>∃(na:Addr) (nv:List V) (named:List bM),vs=[.ref na]/\H na=some (.lst nv)/\aW (NnA H) nv named/\named.length<=200/\∀p H' us,H p=none->am H H'->H' p=some (.lst us)->aW (TtA H') us (b7 (0,0,0) named)->Q (.ref p) H'
theorem eG:aL ["named","counters","titles","way","name","words","k","number"] ["named"] (av oU):=by walk_at "c"
theorem yp(T:Txt P w K mg a):a_ P w K mg base CX0 1 a.pF a.nO ["named"] (yo K):=by
 refine T.pB.fn.ok eG (λvs H Q E h=>?_) (λcdv A outer s H vs Q E hr h=>?_)
 .obtain⟨na,nv,named,rfl,_⟩:=h;rfl
 obtain⟨na,nv,named,rfl,hna,nal,nl,q⟩:=h;refine⟨_,(ag (aA (i:=1) eG.nd rfl (Or.inr rfl) (aQ (aa ah (aa ah (aa ah (aa ah ae))))))
   (ag (aA (i:=2) eG.nd rfl (Gr rfl) (aQ ae))
   (ag (cA Hb rfl (bq (pv 0)) (fc rfl (bf (aS (i:=3) eG.nd rfl (Gr rfl)) (bf (aS (i:=4) eG.nd rfl (Gr rfl)) (bf (aS (i:=5) eG.nd rfl (Gr rfl)) dW)))) (ai (aI (PW.pt (fF (au iF (pv 3) aq (nomark _)) (dU (au bn (aJ ef (pv 3) ah (λ_ _=>rfl)) aq (nomark _))))) (ag (nR (aG ca (aJ bN (pv 1) (aH dq rfl T.bO PySem.boot_len (aa (pv 3) ae)) (λ_ _=>rfl)) ah) (nQ (pv 1) (aH dq rfl T.bO PySem.boot_len (aa (pv 3) ae)) jL))
   (ag (cA Hb rfl (u5 rfl T.eQ (aa (aG ca (aH dq rfl T.bO PySem.boot_len (aa (pv 3) ae)) ah) (aa ah ae))) (aS (i:=6) eG.nd rfl (Gr rfl)) (ai (nR ah (nQ (pv 1) (pv 6) jL))))
   (ag (aA (i:=7) eG.nd rfl (Gr rfl) (cG PySem.F.plainAttrs_str PySem.F.slot_str_join PySem.F.type_str_join nY aq (aa (fY rfl (eB (caps:=["counters"]) (js:=[1]) (cap:=⟨⟨rfl,.inl rfl,rfl,.inl rfl⟩,trivial⟩)) (u5 rfl T.eQ (aa ah (aa (aG ca (aH dq rfl T.bO PySem.boot_len (aa (pv 3) ae)) ah) ae))) (λ_ _ _ _=>du) (λ_ _ _ _=>(gX qk rfl T.jG IB (aa (aJ (r:=BE K) bN (pv 1) (pv 0) (λ_ _=>rfl)) ae)))) ae)))
   (ai (bj (cG PySem.F.plainAttrs_list PySem.F.slot_list_append PySem.F.type_list_append cB (pv 2) (aa (bp (aa (pv 7) (aa (pv 5) ae))) ae))))))) aK)))
   (ai (aP (pv 2)))))),?_⟩
 have ln:=nal.len;refine⟨le4,λp1 hp1=>?_⟩;have s1:=af hp1 (.lst [V.int 0,.int 0,.int 0,.int 0]);have k1:upd H p1 (.lst [V.int 0,.int 0,.int 0,.int 0]) p1=some (.lst (xP (0,0,0))):=ac;generalize upd H p1 (.lst [V.int 0,.int 0,.int 0,.int 0])=H1 at s1 k1⊢;refine⟨aN (by simp),λp2 hp2=>?_⟩;have hp2':=s1.free hp2;have n12:p1≠p2:=λz=>by rw[z]at k1;rw[k1]at hp2;cases hp2
 have s2:=s1.trans (af hp2 (.lst []));have k1':=af hp2 (.lst []) _ _ k1;have k2:upd H1 p2 (.lst []) p2=some (.lst []):=ac;generalize upd H1 p2 (.lst [])=H2 at s2 k1' k2⊢;refine⟨_,rfl,na,rfl,⟨_,SqL.of (s2 _ _ hna)⟩,cK (K:=K) (a:=na) (xs:=nv) (λi σ' G=>∃(c1 c2 c3:Nat) (v3 v4 v5 v6 v7:Option V) (us:List V) (tt:List Ttl),σ'=[some (.ref na),some (.ref p1),some (.ref p2),v3,v4,v5,v6,v7]/\am H G/\G p1=some (.lst (xP (c1,c2,c3)))/\G p2=some (.lst us)/\aW (TtA (hid [p1,p2] G)) us tt/\b7 (0,0,0) named=tt++b7 (c1,c2,c3) (named.drop i)/\us.length<=i/\c1<=i/\c2<=i/\c3<=i) ⟨0,0,0,none,none,none,none,none,[],[],rfl,s2,k1',k2,trivial,rfl,GZ _,GZ _,GZ _,GZ _⟩ (λi σ' G _ g=>by obtain⟨_,_,_,_,_,_,_,_,_,_,_,m,_⟩:=g;exact SqL.of (m _ _ hna)) ?_ ?_⟩
 .rintro i y σ' G hy ⟨c1,c2,c3,v3,v4,v5,v6,v7,us,tt,rfl,m,g1,g2,tal,et,ul,b1,b2,b3⟩;obtain⟨⟨wy,nm,ws⟩,hn,b,l,rfl,hb,hl⟩:=nal.getL hy;have hi:=(List.getElem?_eq_some_iff.mp hn).1;dsimp only at hb hl;have ed:named.drop i=(wy,nm,ws)::named.drop (i+1):=by
   obtain⟨hi,e⟩:=List.getElem?_eq_some_iff.mp hn;rw[Hg hi,e]
  rw[ed]at et;refine⟨b,_,rfl,SqT.of (m _ _ hb),rfl,_,_,rfl,_,_,rfl,_,_,rfl,rfl,?_⟩;refine⟨_,rfl,rfl,_,rfl,?_⟩;have skip:wy.hd=false->∃(c1' c2' c3':Nat) (v3 v4 v5 v6 v7:Option V) (us':List V) (tt':List Ttl),[some (.ref na),some (.ref p1),some (.ref p2),some (.str (tx wy.t)),some (.str (tx nm)),some (.ref l),v6,v7]=[some (.ref na),some (.ref p1),some (.ref p2),v3,v4,v5,v6,v7]/\True->True:=λ_=>⟨0,0,0,none,none,none,none,none,[],[],λ_=>trivial⟩;rw[show(!decide (V.str (tx wy.t)=V.str (PySem.Str.ofString ""))) = !decide (wy=.empty)from by
   rw[bY oQ];cases wy<;>decide]
  by_cases he:wy=.empty
  .rw[decide_eq_true he];refine ay ?_;refine ay ?_;refine⟨c1,c2,c3,_,_,_,_,_,us,tt,rfl,m,g1,g2,tal,?_,by omega,by omega,by omega,by omega⟩;rw[et,he];rfl
  .rw[decide_eq_false he];refine aM ?_;obtain⟨c,u,ec,hc⟩:∃c u,wy.t=c::u/\decide (c=61)=wy.hd:=by
    cases wy<;>first|exact⟨_,_,rfl,rfl⟩|exact absurd rfl he
   refine⟨_,rfl,_,_,c,rfl,rfl,(by rw[aY];cases wy<;>exact aN (by decide)),(by rw[ec];exact fH _ _),rfl,_,rfl,?_⟩
   rw[bY cH1,show decide ([c]=[61])=wy.hd from by rw[<-hc];simp];have no:wy.hd=false->b7 (0,0,0) named=tt++b7 (c1,c2,c3) (named.drop (i+1)):=λhh=>by
    rw[et];show tt++(if wy.hd=true then _ else _)=_;rw[if_neg (by rw[hh];decide)]
   cases wy with
   |words =>
    refine ay ?_;exact⟨c1,c2,c3,_,_,_,_,_,us,tt,rfl,m,g1,g2,tal,no rfl,by omega,by omega,by omega,by omega⟩
   |page =>
    refine ay ?_;exact⟨c1,c2,c3,_,_,_,_,_,us,tt,rfl,m,g1,g2,tal,no rfl,by omega,by omega,by omega,by omega⟩
   |odd =>
    refine ay ?_;exact⟨c1,c2,c3,_,_,_,_,_,us,tt,rfl,m,g1,g2,tal,no rfl,by omega,by omega,by omega,by omega⟩
   |lst =>
    refine ay ?_;exact⟨c1,c2,c3,_,_,_,_,_,us,tt,rfl,m,g1,g2,tal,no rfl,by omega,by omega,by omega,by omega⟩
   |foot =>
    refine ay ?_;exact⟨c1,c2,c3,_,_,_,_,_,us,tt,rfl,m,g1,g2,tal,no rfl,by omega,by omega,by omega,by omega⟩
   |empty=>exact absurd rfl he
   |h1 =>
    refine aM ?_;refine⟨_,rfl,_,rfl,_,rfl,aN (by decide),_,_,_,_,rfl,rfl,SqL.of g1,rfl,_,_,rfl,rfl,_,rfl,_,rfl,_,rfl,aN (by decide),_,_,_,_,rfl,rfl,g1,rfl,?_⟩;have m2:=aX (o:=.lst [V.int 0,.int (((c1:Nat):Int)+1),.int ((c2:Nat):Int),.int ((c3:Nat):Int)]) m hp1;have g2':upd G p1 (.lst [V.int 0,.int (((c1:Nat):Int)+1),.int ((c2:Nat):Int),.int ((c3:Nat):Int)]) p1=some (.lst [V.int 0,.int (((c1:Nat):Int)+1),.int ((c2:Nat):Int),.int ((c3:Nat):Int)]):=ac;have g3':upd G p1 (.lst [V.int 0,.int (((c1:Nat):Int)+1),.int ((c2:Nat):Int),.int ((c3:Nat):Int)]) p2=some (.lst us):=by rw[aj (GX n12)];exact g2
    have a3:aW (TtA (hid [p1,p2] (upd G p1 (.lst [V.int 0,.int (((c1:Nat):Int)+1),.int ((c2:Nat):Int),.int ((c3:Nat):Int)])))) us tt:=by rw[bG (by simp)];exact tal
    refine⟨_,rfl,_,rfl,aN (by decide),_,_,rfl,rfl,_,_,rfl,⟨by decide,by decide,by decide,by decide⟩,jp (λj σ' G'=>∃v6',σ'=[some (.ref na),some (.ref p1),some (.ref p2),some (.str (tx (Wy.h1).t)),some (.str (tx nm)),some (.ref l),v6',v7]/\am H G'/\G' p1=some (.lst [V.int 0,.int ((c1+1:Nat):Int),.int (if 1<=j then 0 else((c2:Nat):Int)),.int (if 2<=j then 0 else((c3:Nat):Int))])/\G' p2=some (.lst us)/\aW (TtA (hid [p1,p2] G')) us tt) ?_ ?_ ?_⟩
    .exact⟨_,rfl,m2,g2',g3',a3⟩
    .rintro j σ' G' hj ⟨w6,rfl,m3,g31,g32,a3'⟩;rcases(show j=0\/j=1 by have:(H_ (4-((((tx (Wy.h1).t).length:Nat):Int)+1)))=2:=rfl;omega)with rfl|rfl
     .refine⟨_,rfl,_,rfl,_,_,_,_,rfl,rfl,g31,rfl,?_⟩;refine⟨_,rfl,aX m3 hp1,by rw[ac];rfl,by rw[aj (GX n12)];exact g32,by rw[bG (by simp)];exact a3'⟩
     .refine⟨_,rfl,_,rfl,_,_,_,_,rfl,rfl,g31,rfl,?_⟩;refine⟨_,rfl,aX m3 hp1,by rw[ac];rfl,by rw[aj (GX n12)];exact g32,by rw[bG (by simp)];exact a3'⟩
    .rintro σ' G' ⟨w6,rfl,m3,g31,g32,a3'⟩;have g31:G' p1=some (.lst (xP (c1+1,0,0))):=g31;refine⟨rfl,_,rfl,_,rfl,aN (by decide),_,_,rfl,rfl,_,_,rfl,⟨by decide,by decide,by decide,by decide⟩,lJ (λi ys G2=>G'=G2/\ys=(([aT (c1+1)].take i).map tx).map V.str) ⟨rfl,rfl⟩ ?_ ?_ ?_⟩
     .rintro i' ys G2 hi' ⟨_,rfl⟩;exact aw (by simp only[F9,GC,Gd,Gy];omega)
     .rintro i' ys G2 hi' ⟨rfl,rfl⟩;refine dM ?_;rcases(show i'=0 by have:(H_ (((((tx (Wy.h1).t).length:Nat):Int)+1)-1))=1:=rfl;omega)with rfl
      .refine⟨_,rfl,_,rfl,_,_,_,_,rfl,rfl,SqL.of g31,rfl,_,rfl,sf (n:=c1+1) (by omega),rfl,?_⟩;rw[ji];rfl
     rintro ys G2 ⟨rfl,ey⟩ p3 hp3;have ey:ys=([aT (c1+1)].map tx).map V.str:=ey;subst ey;have m4:=af hp3 (.lst (([aT (c1+1)].map tx).map V.str));refine⟨_,_,_,rfl,rfl,SqL.of ac,by decide,?_,?_⟩
     .have h1:=lQ [aT (c1+1)] λt ht=>by
       simp only[Hk,G_,or_false]at ht;rcases ht with rfl<;>exact GM (jO 3 _ (by omega)) (by decide)
      simp only[F9,Gd,Gy];exact GM (Jq h1 _) (by show 61*1+1<=1048576;decide)
     .have ej:Txt.join (PySem.Str.ofString ".") ([aT (c1+1)].map tx)=tx (eD (bA (c1,c2,c3) (1:Int)) (1:Int)):=by
       rw[show(PySem.Str.ofString ".")=tx [46] by decide +kernel,jN];rfl
      refine⟨_,rfl,.inl ⟨rfl,_,SqL.of (m4 _ _ g32)⟩,_,rfl,_,rfl,le2,λpt hpt=>?_⟩;have m5:=af hpt (.tup [.str (Txt.join (PySem.Str.ofString ".") ([aT (c1+1)].map tx)),.ref l]);have q1:=m4 _ _ g31;have q2:=m4 _ _ g32;have k5:upd (upd G' p3 (.lst (([aT (c1+1)].map tx).map V.str))) pt (.tup [.str (Txt.join (PySem.Str.ofString ".") ([aT (c1+1)].map tx)),.ref l]) pt=some (.tup [.str (tx (eD (bA (c1,c2,c3) (1:Int)) (1:Int))),.ref l]):=by rw[ac,ej]
      have np:pt∉[p1,p2]:=λz=>by
       rcases List.mem_cons.mp z with z|z
       .rw[z,q1]at hpt;cases hpt
       .rw[List.mem_singleton.mp z,q2]at hpt;cases hpt
      have m45:=m4.trans m5;have mz:=m3.trans m45;have hz:am H (hid [p1,p2] _):=jR mz λb hb=>by
       rcases List.mem_cons.mp hb with rfl|hb
       .exact hp1
       .rw[List.mem_singleton.mp hb];exact hp2'
      have q1:=m5 _ _ q1;have q2:=m5 _ _ q2;generalize upd (upd G' p3 (.lst (([aT (c1+1)].map tx).map V.str))) pt (.tup [.str (Txt.join (PySem.Str.ofString ".") ([aT (c1+1)].map tx)),.ref l])=G5 at k5 m45 mz hz q1 q2⊢;refine⟨_,_,_,rfl,rfl,q2,aw (by omega),?_⟩;refine⟨c1+1,0,0,_,_,_,_,_,us++[.ref pt],tt++[(eD (bA (c1,c2,c3) (1:Int)) (1:Int),ws)],rfl,aX mz hp2',by rw[aj n12];exact q1,ac,?_,?_,by rw[Ga];simp only[Gd,Gy];omega,by omega,by omega,by omega⟩
      .rw[bG (by simp)];exact(a3'.imp λ_ _=>TtA.mono (a9 m45)).snoc ⟨pt,l,rfl,bo np k5,hl.mono hz⟩
      .rw[et,Gs];rfl
   |h2 =>
    refine aM ?_;refine⟨_,rfl,_,rfl,_,rfl,aN (by decide),_,_,_,_,rfl,rfl,SqL.of g1,rfl,_,_,rfl,rfl,_,rfl,_,rfl,_,rfl,aN (by decide),_,_,_,_,rfl,rfl,g1,rfl,?_⟩;have m2:=aX (o:=.lst [V.int 0,.int ((c1:Nat):Int),.int (((c2:Nat):Int)+1),.int ((c3:Nat):Int)]) m hp1;have g2':upd G p1 (.lst [V.int 0,.int ((c1:Nat):Int),.int (((c2:Nat):Int)+1),.int ((c3:Nat):Int)]) p1=some (.lst [V.int 0,.int ((c1:Nat):Int),.int (((c2:Nat):Int)+1),.int ((c3:Nat):Int)]):=ac;have g3':upd G p1 (.lst [V.int 0,.int ((c1:Nat):Int),.int (((c2:Nat):Int)+1),.int ((c3:Nat):Int)]) p2=some (.lst us):=by rw[aj (GX n12)];exact g2
    have a3:aW (TtA (hid [p1,p2] (upd G p1 (.lst [V.int 0,.int ((c1:Nat):Int),.int (((c2:Nat):Int)+1),.int ((c3:Nat):Int)])))) us tt:=by rw[bG (by simp)];exact tal
    refine⟨_,rfl,_,rfl,aN (by decide),_,_,rfl,rfl,_,_,rfl,⟨by decide,by decide,by decide,by decide⟩,jp (λj σ' G'=>∃v6',σ'=[some (.ref na),some (.ref p1),some (.ref p2),some (.str (tx (Wy.h2).t)),some (.str (tx nm)),some (.ref l),v6',v7]/\am H G'/\G' p1=some (.lst [V.int 0,.int ((c1:Nat):Int),.int ((c2+1:Nat):Int),.int (if 1<=j then 0 else((c3:Nat):Int))])/\G' p2=some (.lst us)/\aW (TtA (hid [p1,p2] G')) us tt) ?_ ?_ ?_⟩
    .exact⟨_,rfl,m2,g2',g3',a3⟩
    .rintro j σ' G' hj ⟨w6,rfl,m3,g31,g32,a3'⟩;obtain rfl:j=0:=by have:(H_ (4-((((tx (Wy.h2).t).length:Nat):Int)+1)))=1:=rfl;omega
     refine⟨_,rfl,_,rfl,_,_,_,_,rfl,rfl,g31,rfl,?_⟩;refine⟨_,rfl,aX m3 hp1,by rw[ac];rfl,by rw[aj (GX n12)];exact g32,by rw[bG (by simp)];exact a3'⟩
    .rintro σ' G' ⟨w6,rfl,m3,g31,g32,a3'⟩;have g31:G' p1=some (.lst (xP (c1,c2+1,0))):=g31;refine⟨rfl,_,rfl,_,rfl,aN (by decide),_,_,rfl,rfl,_,_,rfl,⟨by decide,by decide,by decide,by decide⟩,lJ (λi ys G2=>G'=G2/\ys=(([aT (c1),aT (c2+1)].take i).map tx).map V.str) ⟨rfl,rfl⟩ ?_ ?_ ?_⟩
     .rintro i' ys G2 hi' ⟨_,rfl⟩;exact aw (by simp only[F9,GC,Gd,Gy];omega)
     .rintro i' ys G2 hi' ⟨rfl,rfl⟩;refine dM ?_;rcases(show i'=0\/i'=1 by have:(H_ (((((tx (Wy.h2).t).length:Nat):Int)+1)-1))=2:=rfl;omega)with rfl|rfl
      .refine⟨_,rfl,_,rfl,_,_,_,_,rfl,rfl,SqL.of g31,rfl,_,rfl,sf (n:=c1) (by omega),rfl,?_⟩;rw[ji];rfl
      .refine⟨_,rfl,_,rfl,_,_,_,_,rfl,rfl,SqL.of g31,rfl,_,rfl,sf (n:=c2+1) (by omega),rfl,?_⟩;rw[ji];rfl
     rintro ys G2 ⟨rfl,ey⟩ p3 hp3;have ey:ys=([aT (c1),aT (c2+1)].map tx).map V.str:=ey;subst ey;have m4:=af hp3 (.lst (([aT (c1),aT (c2+1)].map tx).map V.str));refine⟨_,_,_,rfl,rfl,SqL.of ac,by decide,?_,?_⟩
     .have h1:=lQ [aT (c1),aT (c2+1)] λt ht=>by
       simp only[Hk,G_,or_false]at ht;rcases ht with rfl|rfl<;>exact GM (jO 3 _ (by omega)) (by decide)
      simp only[F9,Gd,Gy];exact GM (Jq h1 _) (by show 61*2+2<=1048576;decide)
     .have ej:Txt.join (PySem.Str.ofString ".") ([aT (c1),aT (c2+1)].map tx)=tx (eD (bA (c1,c2,c3) (2:Int)) (2:Int)):=by
       rw[show(PySem.Str.ofString ".")=tx [46] by decide +kernel,jN];rfl
      refine⟨_,rfl,.inl ⟨rfl,_,SqL.of (m4 _ _ g32)⟩,_,rfl,_,rfl,le2,λpt hpt=>?_⟩;have m5:=af hpt (.tup [.str (Txt.join (PySem.Str.ofString ".") ([aT (c1),aT (c2+1)].map tx)),.ref l]);have q1:=m4 _ _ g31;have q2:=m4 _ _ g32;have k5:upd (upd G' p3 (.lst (([aT (c1),aT (c2+1)].map tx).map V.str))) pt (.tup [.str (Txt.join (PySem.Str.ofString ".") ([aT (c1),aT (c2+1)].map tx)),.ref l]) pt=some (.tup [.str (tx (eD (bA (c1,c2,c3) (2:Int)) (2:Int))),.ref l]):=by rw[ac,ej]
      have np:pt∉[p1,p2]:=λz=>by
       rcases List.mem_cons.mp z with z|z
       .rw[z,q1]at hpt;cases hpt
       .rw[List.mem_singleton.mp z,q2]at hpt;cases hpt
      have m45:=m4.trans m5;have mz:=m3.trans m45;have hz:am H (hid [p1,p2] _):=jR mz λb hb=>by
       rcases List.mem_cons.mp hb with rfl|hb
       .exact hp1
       .rw[List.mem_singleton.mp hb];exact hp2'
      have q1:=m5 _ _ q1;have q2:=m5 _ _ q2;generalize upd (upd G' p3 (.lst (([aT (c1),aT (c2+1)].map tx).map V.str))) pt (.tup [.str (Txt.join (PySem.Str.ofString ".") ([aT (c1),aT (c2+1)].map tx)),.ref l])=G5 at k5 m45 mz hz q1 q2⊢;refine⟨_,_,_,rfl,rfl,q2,aw (by omega),?_⟩;refine⟨c1,c2+1,0,_,_,_,_,_,us++[.ref pt],tt++[(eD (bA (c1,c2,c3) (2:Int)) (2:Int),ws)],rfl,aX mz hp2',by rw[aj n12];exact q1,ac,?_,?_,by rw[Ga];simp only[Gd,Gy];omega,by omega,by omega,by omega⟩
      .rw[bG (by simp)];exact(a3'.imp λ_ _=>TtA.mono (a9 m45)).snoc ⟨pt,l,rfl,bo np k5,hl.mono hz⟩
      .rw[et,Gs];rfl
   |h3 =>
    refine aM ?_;refine⟨_,rfl,_,rfl,_,rfl,aN (by decide),_,_,_,_,rfl,rfl,SqL.of g1,rfl,_,_,rfl,rfl,_,rfl,_,rfl,_,rfl,aN (by decide),_,_,_,_,rfl,rfl,g1,rfl,?_⟩;have m2:=aX (o:=.lst [V.int 0,.int ((c1:Nat):Int),.int ((c2:Nat):Int),.int (((c3:Nat):Int)+1)]) m hp1;have g2':upd G p1 (.lst [V.int 0,.int ((c1:Nat):Int),.int ((c2:Nat):Int),.int (((c3:Nat):Int)+1)]) p1=some (.lst [V.int 0,.int ((c1:Nat):Int),.int ((c2:Nat):Int),.int (((c3:Nat):Int)+1)]):=ac;have g3':upd G p1 (.lst [V.int 0,.int ((c1:Nat):Int),.int ((c2:Nat):Int),.int (((c3:Nat):Int)+1)]) p2=some (.lst us):=by rw[aj (GX n12)];exact g2
    have a3:aW (TtA (hid [p1,p2] (upd G p1 (.lst [V.int 0,.int ((c1:Nat):Int),.int ((c2:Nat):Int),.int (((c3:Nat):Int)+1)])))) us tt:=by rw[bG (by simp)];exact tal
    refine⟨_,rfl,_,rfl,aN (by decide),_,_,rfl,rfl,_,_,rfl,⟨by decide,by decide,by decide,by decide⟩,jp (λj σ' G'=>∃v6',σ'=[some (.ref na),some (.ref p1),some (.ref p2),some (.str (tx (Wy.h3).t)),some (.str (tx nm)),some (.ref l),v6',v7]/\am H G'/\G' p1=some (.lst [V.int 0,.int ((c1:Nat):Int),.int ((c2:Nat):Int),.int ((c3+1:Nat):Int)])/\G' p2=some (.lst us)/\aW (TtA (hid [p1,p2] G')) us tt) ?_ ?_ ?_⟩
    .exact⟨_,rfl,m2,g2',g3',a3⟩
    .rintro j σ' G' hj ⟨w6,rfl,m3,g31,g32,a3'⟩;exact absurd hj (by have:(H_ (4-((((tx (Wy.h3).t).length:Nat):Int)+1)))=0:=rfl;omega)
    .rintro σ' G' ⟨w6,rfl,m3,g31,g32,a3'⟩;have g31:G' p1=some (.lst (xP (c1,c2,c3+1))):=g31;refine⟨rfl,_,rfl,_,rfl,aN (by decide),_,_,rfl,rfl,_,_,rfl,⟨by decide,by decide,by decide,by decide⟩,lJ (λi ys G2=>G'=G2/\ys=(([aT (c1),aT (c2),aT (c3+1)].take i).map tx).map V.str) ⟨rfl,rfl⟩ ?_ ?_ ?_⟩
     .rintro i' ys G2 hi' ⟨_,rfl⟩;exact aw (by simp only[F9,GC,Gd,Gy];omega)
     .rintro i' ys G2 hi' ⟨rfl,rfl⟩;refine dM ?_;rcases(show i'=0\/i'=1\/i'=2 by have:(H_ (((((tx (Wy.h3).t).length:Nat):Int)+1)-1))=3:=rfl;omega)with rfl|rfl|rfl
      .refine⟨_,rfl,_,rfl,_,_,_,_,rfl,rfl,SqL.of g31,rfl,_,rfl,sf (n:=c1) (by omega),rfl,?_⟩;rw[ji];rfl
      .refine⟨_,rfl,_,rfl,_,_,_,_,rfl,rfl,SqL.of g31,rfl,_,rfl,sf (n:=c2) (by omega),rfl,?_⟩;rw[ji];rfl
      .refine⟨_,rfl,_,rfl,_,_,_,_,rfl,rfl,SqL.of g31,rfl,_,rfl,sf (n:=c3+1) (by omega),rfl,?_⟩;rw[ji];rfl
     rintro ys G2 ⟨rfl,ey⟩ p3 hp3;have ey:ys=([aT (c1),aT (c2),aT (c3+1)].map tx).map V.str:=ey;subst ey;have m4:=af hp3 (.lst (([aT (c1),aT (c2),aT (c3+1)].map tx).map V.str));refine⟨_,_,_,rfl,rfl,SqL.of ac,by decide,?_,?_⟩
     .have h1:=lQ [aT (c1),aT (c2),aT (c3+1)] λt ht=>by
       simp only[Hk,G_,or_false]at ht;rcases ht with rfl|rfl|rfl<;>exact GM (jO 3 _ (by omega)) (by decide)
      simp only[F9,Gd,Gy];exact GM (Jq h1 _) (by show 61*3+3<=1048576;decide)
     .have ej:Txt.join (PySem.Str.ofString ".") ([aT (c1),aT (c2),aT (c3+1)].map tx)=tx (eD (bA (c1,c2,c3) (3:Int)) (3:Int)):=by
       rw[show(PySem.Str.ofString ".")=tx [46] by decide +kernel,jN];rfl
      refine⟨_,rfl,.inl ⟨rfl,_,SqL.of (m4 _ _ g32)⟩,_,rfl,_,rfl,le2,λpt hpt=>?_⟩;have m5:=af hpt (.tup [.str (Txt.join (PySem.Str.ofString ".") ([aT (c1),aT (c2),aT (c3+1)].map tx)),.ref l]);have q1:=m4 _ _ g31;have q2:=m4 _ _ g32;have k5:upd (upd G' p3 (.lst (([aT (c1),aT (c2),aT (c3+1)].map tx).map V.str))) pt (.tup [.str (Txt.join (PySem.Str.ofString ".") ([aT (c1),aT (c2),aT (c3+1)].map tx)),.ref l]) pt=some (.tup [.str (tx (eD (bA (c1,c2,c3) (3:Int)) (3:Int))),.ref l]):=by rw[ac,ej]
      have np:pt∉[p1,p2]:=λz=>by
       rcases List.mem_cons.mp z with z|z
       .rw[z,q1]at hpt;cases hpt
       .rw[List.mem_singleton.mp z,q2]at hpt;cases hpt
      have m45:=m4.trans m5;have mz:=m3.trans m45;have hz:am H (hid [p1,p2] _):=jR mz λb hb=>by
       rcases List.mem_cons.mp hb with rfl|hb
       .exact hp1
       .rw[List.mem_singleton.mp hb];exact hp2'
      have q1:=m5 _ _ q1;have q2:=m5 _ _ q2;generalize upd (upd G' p3 (.lst (([aT (c1),aT (c2),aT (c3+1)].map tx).map V.str))) pt (.tup [.str (Txt.join (PySem.Str.ofString ".") ([aT (c1),aT (c2),aT (c3+1)].map tx)),.ref l])=G5 at k5 m45 mz hz q1 q2⊢;refine⟨_,_,_,rfl,rfl,q2,aw (by omega),?_⟩;refine⟨c1,c2,c3+1,_,_,_,_,_,us++[.ref pt],tt++[(eD (bA (c1,c2,c3) (3:Int)) (3:Int),ws)],rfl,aX mz hp2',by rw[aj n12];exact q1,ac,?_,?_,by rw[Ga];simp only[Gd,Gy];omega,by omega,by omega,by omega⟩
      .rw[bG (by simp)];exact(a3'.imp λ_ _=>TtA.mono (a9 m45)).snoc ⟨pt,l,rfl,bo np k5,hl.mono hz⟩
      .rw[et,Gs];rfl
 rintro σ' G ⟨c1,c2,c3,v3,v4,v5,v6,v7,us,tt,rfl,m,g1,g2,tal,et,ul,b1,b2,b3⟩;rw[ln,Ip]at et;have et:b7 (0,0,0) named=tt:=by rw[et];exact GF _
 exact⟨_,rfl,q p2 G us hp2' m g2 (by rw[et];exact tal.imp λ_ _=>TtA.mono bT)⟩
def vG:Sp:=λvs H Q _=>∃n:Nat,vs=[.int (n:Int)]/\n<10^100/\Q (.str (tx (aT n))) H
theorem vH:aL ["number"] ["number"] (av lT):=by walk_at "c"
theorem pQ(T:Txt P w K mg a):a_ P w K mg base CX0 1 a.md a.kQ ["number"] vG:=by
 refine T.jF.fn.ok vH (λvs H Q E h=>?_) (λcdv A outer s H vs Q E hr h=>?_)
 .obtain⟨n,rfl,_⟩:=h;rfl
 obtain⟨n,rfl,hn,q⟩:=h;refine⟨_,(ai (aP (gX qk rfl T.jG IB (aa (pv 0) ae)))),?_⟩;refine⟨_,rfl,_,rfl,AG hn,?_⟩;have e:=ji n;exact Eq.mpr (congrArg (λz=>Q (.str z) H) e) q
def vI(K:PySem.W.Frag):Sp:=λvs H Q _=>∃(la:Addr) (ls:List Int),vs=[.ref la]/\SqL K H la (ls.map V.int)/\Cf ls/\ls.length<=63/\∀p H',H p=none->am H H'->H' p=some (.lst (((fK ls ls.length).map tx).map V.str))->Q (.ref p) H'
theorem gi:aL ["levels","counters","numbers","level"] ["levels"] (av lU):=by walk_at "c"
theorem vJ(T:Txt P w K mg a):a_ P w K mg base CX0 2 a.mh a.kS ["levels"] (vI K):=by
 refine T.l8.fn.ok gi (λvs H Q E h=>?_) (λcdv A outer s H vs Q E hr h=>?_)
 .obtain⟨la,ls,rfl,_⟩:=h;rfl
 obtain⟨la,ls,rfl,hL,l123,h63,q⟩:=h;refine⟨_,(ag (aA (i:=1) gi.nd rfl (Gr rfl) (aQ (aa ah (aa ah (aa ah ae)))))
   (ag (aA (i:=2) gi.nd rfl (Gr rfl) (aQ ae))
   (ag (cA Hb rfl (bq (pv 0)) (aS (i:=3) gi.nd rfl (Gr rfl)) (ag (aA (i:=1) gi.nd rfl (Gr rfl) (aG gg (aG gg (dm nU (pv 1) eJ (dB (aG j7 (pv 3) ah))) (aQ (aa (aG ca (aJ bN (pv 1) (aG j7 (pv 3) ah) (λ_ _=>rfl)) ah) ae))) (aG kg (aQ (aa ah ae)) (aG j7 ah (pv 3)))))
   (ai (bj (cG PySem.F.plainAttrs_list PySem.F.slot_list_append PySem.F.type_list_append cB (pv 2) (aa (cG PySem.F.plainAttrs_str PySem.F.slot_str_join PySem.F.type_str_join nY aq (aa (fY rfl (eB (caps:=[]) (js:=[]) (cap:=trivial)) (bq (dm nU (pv 1) eJ (dB (pv 3)))) (λ_ _ _ _=>du) (λ_ _ _ _=>(aD T.jF (pQ T) (hr.mono (by decide)) rfl (aa (pv 0) ae)))) ae)) ae))))))
   (ai (aP (pv 2)))))),?_⟩
 refine⟨aN (by decide),λp1 hp1=>?_⟩;refine⟨GZ _,λp2 hp2=>?_⟩;have s1:=af hp1 (.lst (uN (0,0,0)));have hr:H p2=none:=s1.free hp2;have s2:=s1.trans (af hp2 (.lst []));refine⟨_,rfl,_,rfl,⟨_,s2.seq hL⟩,cK (K:=K) (a:=la) (xs:=ls.map V.int) (λi σ H2=>am H H2/\∃(pc:Addr) (v:Option V),σ=[some (.ref la),some (.ref pc),some (.ref p2),v]/\H2 pc=some (.lst (uN (ctr (ls.take i))))/\H2 p2=some (.lst (((fK ls i).map tx).map V.str)))
  ⟨s2,p1,none,rfl,(af hp2 _) _ _ ac,ac⟩ (λi σ H2 _ h2=>h2.1.seq hL) ?_ ?_⟩
 .rintro i y σ H2 hi ⟨sH,pc,v,rfl,hc,hn⟩;obtain⟨z,rfl,ez⟩:=Ds hi;have i63:i<63:=by
   have:=(List.getElem?_eq_some_iff.mp ez).1;omega
  have bc:=A5 (ls.take (i+1));have nl:=oS ls i;rw[GC]at bc;rw[A6 ez];rw[Cg ez]at bc⊢;generalize ctr (ls.take i)=c at hc bc⊢;generalize fK ls i=ts at hn nl⊢;obtain⟨pre,k,cs,e1,e2,e3,l1,l2,l3,l4,e4,l5,cs63,e5⟩:=lev (l123 z (Gj ez)) c (m:=63) (by omega) (by omega) (by omega);rw[<-e5];rw[<-e3]at e4⊢;refine⟨_,rfl,_,rfl,_,_,rfl,rfl,_,rfl,_,_,rfl,SqL.of hc,λp3 hp3=>?_⟩;rw[e1];have s3:=af hp3 (.lst pre);refine⟨_,rfl,_,rfl,_,_,rfl,rfl,_,_,_,_,rfl,rfl,s3.seq (SqL.of hc),e2,_,_,rfl,rfl,le1,λp4 hp4=>?_⟩;refine⟨_,_,pre,[V.int (k+1)],rfl,rfl,(af hp4 _) _ _ ac,ac,aN (by simp;omega),λp5 hp5=>?_⟩;refine⟨le1,λp6 hp6=>?_⟩;refine⟨_,rfl,_,_,rfl,rfl,_,_,[V.int 0],rfl,rfl,ac,(by omega),(by omega),aN (by simp;omega),λp7 hp7=>?_⟩;refine⟨_,_,pre++[V.int (k+1)],(Gc (3-z).toNat [V.int 0]).flatten,rfl,rfl,(af hp7 _) _ _ ((af hp6 _) _ _ ac),ac,aN (by rw[yC];simp;omega),λp8 hp8=>?_⟩;have h28:H2 p8=none:=(s3.trans ((af hp4 _).trans ((af hp5 _).trans ((af hp6 _).trans (af hp7 _))))).free hp8;have s8:=s3.trans ((af hp4 (.lst [V.int (k+1)])).trans ((af hp5 (.lst (pre++[V.int (k+1)]))).trans ((af hp6 (.lst [V.int 0])).trans ((af hp7 (.lst (Gc (3-z).toNat [V.int 0]).flatten)).trans (af hp8 (.lst (pre++[V.int (k+1)]++(Gc (3-z).toNat [V.int 0]).flatten)))))));have hc8:=ac (H:=(upd (upd (upd (upd (upd H2 p3 (.lst pre)) p4 (.lst [V.int (k+1)])) p5 (.lst (pre++[V.int (k+1)]))) p6 (.lst [V.int 0])) p7 (.lst (Gc (3-z).toNat [V.int 0]).flatten))) (a:=p8) (o:=.lst (pre++[V.int (k+1)]++(Gc (3-z).toNat [V.int 0]).flatten));generalize upd (upd (upd (upd (upd (upd H2 p3 (.lst pre)) p4 (.lst [V.int (k+1)])) p5 (.lst (pre++[V.int (k+1)]))) p6 (.lst [V.int 0])) p7 (.lst (Gc (3-z).toNat [V.int 0]).flatten)) p8 (.lst (pre++[V.int (k+1)]++(Gc (3-z).toNat [V.int 0]).flatten))=H8 at s8 hc8⊢;generalize pre++[V.int (k+1)]++(Gc (3-z).toNat [V.int 0]).flatten=cv at hc8 e4⊢;have hn8:=s8 _ _ hn;refine⟨_,rfl,.inl ⟨rfl,_,SqL.of hn8⟩,rfl,_,rfl,_,rfl,_,rfl,_,_,rfl,SqL.of hc8,λp9 hp9=>?_⟩;rw[e4];have s9:=af hp9 (.lst (cs.map nV));refine⟨_,rfl,⟨_,SqL.of ac⟩,dC (K:=K) (a:=p9) (xs:=cs.map nV) (λi ys H3=>H3=upd H8 p9 (.lst (cs.map nV))/\ys=(((cs.take i).map aT).map tx).map V.str) ⟨rfl,rfl⟩ (λi ys H3 _ h3=>by rw[h3.1];exact SqL.of ac) ?_ ?_ ?_⟩
  .rintro j ys H3 hj ⟨_,rfl⟩;rw[F9,F9,F9,GC];exact GG (show _<1000 by omega) (aN (Gi _))
  .rintro j y ys H3 hj ⟨rfl,rfl⟩;obtain⟨n,rfl,en⟩:=EC hj;refine dM ?_;refine⟨_,rfl,n,rfl,FY (cs63 n (Gj en)),rfl,?_⟩;rw[a7 en];simp only[Gm,Gp,Jb]
  .rintro ys H3 ⟨rfl,rfl⟩ p hp;rw[F9,Gz];have s10:=af hp (.lst (((cs.map aT).map tx).map V.str));have hsum:=xE cs cs63;have hn10:=s10 _ _ (s9 _ _ hn8);refine⟨_,p,(cs.map aT).map tx,rfl,rfl,SqL.of ac,(by decide),(by rw[F9,F9];omega),_,_,_,rfl,rfl,hn10,?_,?_⟩
   .rw[F9,F9];exact GG (show _<1000 by omega) (aN (Gi _))
   .have st:=sH.trans (s8.trans (s9.trans s10));have nc:p8≠p2:=λz=>cr hn h28 z.symm;refine⟨st.put hr,p8,_,rfl,?_,?_⟩
    .rw[aj nc];exact s10 _ _ (s9 _ _ hc8)
    .rw[ac,FX,jN];simp only[Gm,Gp,Jb]
 .rintro σ H2 ⟨sH,pc,v,rfl,hc,hn⟩;rw[F9]at hn;exact⟨_,rfl,q p2 _ hr sH hn⟩

theorem fL{F:Hp}{x C dx:Addr}{L:List (Str×V)}{n:Nat}(f:Str)(v:V)(k:F x=some (.ins C dx L))(l:L.length<=n):∃F' L',upd F x (.ins C dx (bS f v L))=F'/\bS f v L=L'/\L'.length<=n+1/\F' x=some (.ins C dx L')/\FrX F F' x:=⟨_,_,rfl,rfl,GM xp (Nat.succ_le_succ l),ac,FrX.refl.at⟩
theorem ou{F:Hp}{p:Addr}(o:HO)(h:F p=none):∃F',upd F p o=F'/\F' p=some o/\am F F':=⟨_,rfl,ac,af h _⟩
theorem jV{H H1 H2:Hp}{x:Addr}(f:FrX H H1 x)(g:FrX H1 H2 x):FrX H H2 x:=λb u n h=>g b u n (f b u n h)
theorem eP{F:Hp}{p q:Addr}{o:HO}(a:F p=some o)(h:F q=none):p≠q:=λz=>by rw[z,h]at a;cases a

def HtA(F:Hp)(v:V)(h:Nat×List Wk):Prop:=∃a l,v=.ref a/\F a=some (.tup [.str "head",.int (h.1:Int),.ref l])/\cQ F l h.2
def d_(hs:List (Nat×List Wk)):List Int:=hs.map λh=>(h.1:Int)
def gx(hs:List (Nat×List Wk))(feet:List (Str×List Wk)):Sc:=⟨(fK (d_ hs) (d_ hs).length).map tx,hs.map (·.2),feet⟩

def uO(C:Addr):Sp:=λvs H Q _=>∃(x dx hl fa:Addr) (hv:List V) (hs:List (Nat×List Wk)) (kvs:List (Key×V)) (feet:List (Str×List Wk)),vs=[.ref x,.ref hl,.ref fa]/\H x=some (.ins C dx [])/\H hl=some (.lst hv)/\aW (HtA H) hv hs/\H fa=some (.dK kvs)/\FtA H kvs feet/\Cf (d_ hs)/\hs.length<=63/\∀H' A,A.x=x->FrX H H' x->StA C (hid A.os H') H' A (gx hs feet) ss0->(H A.wa=none/\H A.ma=none/\H A.ha=none)->Q .non H'
theorem uP:aL ["self","all_heads","feet"] ["self","all_heads","feet"] (av kI):=by walk_at "c"
theorem uQ(T:Txt P w K mg a):a_ P w K mg base CX0 3 a.kP a.jX ["self","all_heads","feet"] (uO a.aF):=by
 refine T.kN.fn.ok uP (λvs H Q E h=>?_) (λcdv A outer s H vs Q E hr h=>?_)
 .obtain⟨x,dx,hl,fa,hv,hs,kvs,feet,rfl,_⟩:=h;rfl
 obtain⟨x,dx,hl,fa,hv,hs,kvs,feet,rfl,hx,hh,ha,hf,hft,lv,hsl,q⟩:=h;refine⟨_,(ag (c7 (pv 0) (aD T.l8 (vJ T) (hr.mono (by decide)) rfl (aa (fY rfl (eB (caps:=[]) (js:=[]) (cap:=trivial)) (bq (pv 1)) (λ_ _ _ _=>du) (λ_ _ _ _=>(aJ (r:=lH K) bC (pv 0) ah (λ_ _=>rfl)))) ae)) rfl)
   (ag (c7 (pv 0) (fY rfl (eB (caps:=[]) (js:=[]) (cap:=trivial)) (bq (pv 1)) (λ_ _ _ _=>du) (λ_ _ _ _=>(aJ (r:=lH K) bC (pv 0) ah (λ_ _=>rfl)))) rfl)
   (ag (c7 (pv 0) (pv 2) rfl)
   (ag (c7 (pv 0) ah rfl)
   (ag (c7 (pv 0) (aQ ae) rfl)
   (ag (c7 (pv 0) wY rfl)
   (ag (c7 (pv 0) (aQ ae) rfl)
   (ag (c7 (pv 0) ah rfl)
   (ai (c7 (pv 0) cN rfl)))))))))),?_⟩
 have lh:=ha.len;have k:=hx;have f:FrX H H x:=FrX.refl;have l:([]:List (Str×V)).length<=0:=Gi _;refine⟨_,rfl,hl,rfl,⟨_,SqL.of hh⟩,dC (K:=K) (a:=hl) (xs:=hv) (λi ys G'=>H=G'/\ys=((d_ hs).take i).map V.int) ⟨rfl,rfl⟩ (λi ys G' _ z=>by rw[<-z.1];exact SqL.of hh) ?_ ?_ ?_⟩
 .rintro i ys G' hi ⟨_,z⟩;rw[z,F9,GC];exact aw (by unfold d_;rw[F9];omega)
 .rintro i y ys G' hy ⟨rfl,z⟩;obtain⟨h,hw,b,l,rfl,hb,_⟩:=ha.getL hy;refine dM ?_;refine⟨_,rfl,_,_,_,_,rfl,rfl,SqT.of hb,rfl,rfl,?_⟩;rw[z,a7 (l:=d_ hs) (x:=(h.1:Int)) (by unfold d_;rw[GD,hw];rfl),Gm];rfl
 rintro ys G' ⟨rfl,z⟩ q1 hq1;rw[lh,show hs.length=(d_ hs).length from by unfold d_;rw[F9],Gz]at z;have sq:=af hq1 (.lst ys);refine⟨q1,d_ hs,rfl,SqL.of (by rw[<-z];exact ac),lv,(by unfold d_;rw[F9];exact hsl),λna Hn hna sna kna=>?_⟩;have sn:=sq.trans sna;have kn:Hn na=some (.lst ((gx hs feet).nums.map V.str)):=kna;have hna':H na=none:=sq.free hna;clear sna kna sq;have e0:=f.free k hna';have f:=f.same sn;have k:=sn _ _ k;have a0:=kn;have d0:na≠x:=λz=>by rw[z,k]at a0;cases a0
 refine⟨_,rfl,_,_,_,_,rfl,k,T.aC.cl,T.fE,GA l (by decide),?_⟩;obtain⟨H2,L0,eH,g0,l,k,r⟩:=fL "numbers" (V.ref na) k l;rw[eH];have f:=jV f r;have a0:=r _ _ d0 a0;have hhn:H2 hl=some (.lst hv):=f.get hh (by intro z;rw[z,hx]at hh;cases hh);refine⟨_,rfl,hl,rfl,⟨_,SqL.of hhn⟩,dC (K:=K) (a:=hl) (xs:=hv) (λi ys G'=>H2=G'/\ys.length=i/\aW (TlA H) ys ((hs.take i).map (·.2))) ⟨rfl,rfl,trivial⟩ (λi ys G' _ z=>by rw[<-z.1];exact SqL.of hhn) ?_ ?_ ?_⟩
 .rintro i ys G' hi ⟨_,z,_⟩;rw[z];exact aw (by omega)
 .rintro i y ys G' hy ⟨rfl,z,al⟩;obtain⟨h,hw,b,l,rfl,hb,hb2⟩:=ha.getL hy;refine dM ?_;refine⟨_,rfl,_,_,_,_,rfl,rfl,SqT.of (f.get hb (by intro z;rw[z,hx]at hb;cases hb)),rfl,rfl,(by rw[Ga,z];rfl),?_⟩;rw[a7 hw,Gm];exact al.snoc ⟨l,rfl,hb2⟩
 rintro ys G' ⟨rfl,z,al⟩ q2 hq2;rw[lh,Gz]at al;have st:=af hq2 (.lst ys);have kt:upd H2 q2 (.lst ys) q2=some (.lst ys):=ac;generalize upd H2 q2 (.lst ys)=Ht at st kt⊢;have e1:=f.free k hq2;have d0_1:na≠q2:=eP a0 hq2;have f:=f.same st;have k:=st _ _ k;have a0:=st _ _ a0;have a1:=kt;have d1:q2≠x:=λz=>by rw[z,k]at a1;cases a1
 refine⟨_,rfl,_,_,_,_,rfl,k,T.aC.cl,T.gf,GA l (by decide),?_⟩;obtain⟨H4,L1,eH,g1,l,k,r⟩:=fL "titles" (V.ref q2) k l;rw[eH];have f:=jV f r;have a0:=r _ _ d0 a0;have a1:=r _ _ d1 a1;refine⟨_,rfl,_,rfl,_,_,_,_,rfl,k,T.aC.cl,T.fS,GA l (by decide),?_⟩;obtain⟨H5,L2,eH,g2,l,k,r⟩:=fL "feet" (V.ref fa) k l;rw[eH];have f:=jV f r;have a0:=r _ _ d0 a0;have a1:=r _ _ d1 a1;refine⟨_,rfl,_,_,_,_,rfl,k,T.aC.cl,T.dS,GA l (by decide),?_⟩;obtain⟨H6,L3,eH,g3,l,k,r⟩:=fL "feet_set" (V.int 0) k l;rw[eH];have f:=jV f r;have a0:=r _ _ d0 a0;have a1:=r _ _ d1 a1;refine⟨aN (by simp),λp4 hp4=>?_⟩;obtain⟨H7,eH,b4,w4⟩:=ou (.lst []) hp4;rw[eH];have e4:=f.free k hp4;have d0_4:na≠p4:=eP a0 hp4;have d1_4:q2≠p4:=eP a1 hp4;have f:=f.same w4;have k:=w4 _ _ k;have a0:=w4 _ _ a0;have a1:=w4 _ _ a1;have a4:=b4;have d4:p4≠x:=λz=>by rw[z,k]at a4;cases a4
 refine⟨_,rfl,_,_,_,_,rfl,k,T.aC.cl,T.cw,GA l (by decide),?_⟩;obtain⟨H8,L4,eH,g4,l,k,r⟩:=fL "words" (V.ref p4) k l;rw[eH];have f:=jV f r;have a0:=r _ _ d0 a0;have a1:=r _ _ d1 a1;have a4:=r _ _ d4 a4;intro p5 hp5;obtain⟨H9,eH,b5,w5⟩:=ou (.dK []) hp5;rw[eH];have e5:=f.free k hp5;have d0_5:na≠p5:=eP a0 hp5;have d1_5:q2≠p5:=eP a1 hp5;have d4_5:p4≠p5:=eP a4 hp5;have f:=f.same w5;have k:=w5 _ _ k;have a0:=w5 _ _ a0;have a1:=w5 _ _ a1;have a4:=w5 _ _ a4;have a5:=b5;have d5:p5≠x:=λz=>by rw[z,k]at a5;cases a5
 refine⟨_,rfl,_,_,_,_,rfl,k,T.aC.cl,T.cu,GA l (by decide),?_⟩;obtain⟨H10,L5,eH,g5,l,k,r⟩:=fL "marks" (V.ref p5) k l;rw[eH];have f:=jV f r;have a0:=r _ _ d0 a0;have a1:=r _ _ d1 a1;have a4:=r _ _ d4 a4;have a5:=r _ _ d5 a5;refine⟨aN (by simp),λp6 hp6=>?_⟩;obtain⟨H11,eH,b6,w6⟩:=ou (.lst []) hp6;rw[eH];have e6:=f.free k hp6;have d0_6:na≠p6:=eP a0 hp6;have d1_6:q2≠p6:=eP a1 hp6;have d4_6:p4≠p6:=eP a4 hp6;have d5_6:p5≠p6:=eP a5 hp6;have f:=f.same w6;have k:=w6 _ _ k;have a0:=w6 _ _ a0;have a1:=w6 _ _ a1;have a4:=w6 _ _ a4;have a5:=w6 _ _ a5;have a6:=b6;have d6:p6≠x:=λz=>by rw[z,k]at a6;cases a6
 refine⟨_,rfl,_,_,_,_,rfl,k,T.aC.cl,T.dt,GA l (by decide),?_⟩;obtain⟨H12,L6,eH,g6,l,k,r⟩:=fL "heads" (V.ref p6) k l;rw[eH];have f:=jV f r;have a0:=r _ _ d0 a0;have a1:=r _ _ d1 a1;have a4:=r _ _ d4 a4;have a5:=r _ _ d5 a5;have a6:=r _ _ d6 a6;refine⟨_,rfl,_,_,_,_,rfl,k,T.aC.cl,T.cJ,GA l (by decide),?_⟩;obtain⟨H13,L7,eH,g7,l,k,r⟩:=fL "leap" (V.int 0) k l;rw[eH];have f:=jV f r;have a0:=r _ _ d0 a0;have a1:=r _ _ d1 a1;have a4:=r _ _ d4 a4;have a5:=r _ _ d5 a5;have a6:=r _ _ d6 a6;refine⟨_,rfl,_,_,_,_,rfl,k,T.aC.cl,T.dh,GA l (by decide),?_⟩;obtain⟨H14,L8,eH,g8,l,k,r⟩:=fL "behind_head" (V.bl false) k l;rw[eH];have f:=jV f r;have a0:=r _ _ d0 a0;have a1:=r _ _ d1 a1;have a4:=r _ _ d4 a4;have a5:=r _ _ d5 a5;have a6:=r _ _ d6 a6;have eL:L8=fsS ⟨x,dx,na,q2,fa,p4,p5,p6⟩ 0 0 false:=by rw[<-g8,<-g7,<-g6,<-g5,<-g4,<-g3,<-g2,<-g1,<-g0];exact Dl ⟨x,dx,na,q2,fa,p4,p5,p6⟩
 rw[eL]at k;have nfx:fa≠x:=λz=>by rw[z,hx]at hf;cases hf
 have hid':∀b u,b≠x->b≠p4->b≠p5->b≠p6->H b=some u->hid [x,p4,p5,p6] H14 b=some u:=λb u n1 n2 n3 n4 h=>bo (by simp[n1,n2,n3,n4]) (f b u n1 h);have inH:∀b u,H b=some u->b≠x->hid [x,p4,p5,p6] H14 b=some u:=λb u h n1=>hid' b u n1 (λz=>by rw[z,e4]at h;cases h) (λz=>by rw[z,e5]at h;cases h) (λz=>by rw[z,e6]at h;cases h) h;have tupX:∀{b us},H b=some (.tup us)->hid [x,p4,p5,p6] H14 b=some (.tup us):=λ{b us} h=>inH b _ h (λz=>by rw[z,hx]at h;cases h);have lstX:∀{b us},H b=some (.lst us)->hid [x,p4,p5,p6] H14 b=some (.lst us):=λ{b us} h=>inH b _ h (λz=>by rw[z,hx]at h;cases h);have lsX:∀{l ws},cQ H l ws->cQ (hid [x,p4,p5,p6] H14) l ws:=λ{l ws} ⟨us,h1,h2⟩=>⟨us,lstX h1,h2.imp λv w ⟨b,z1,z2⟩=>⟨b,z1,tupX z2⟩⟩;refine q _ ⟨x,dx,na,q2,fa,p4,p5,p6⟩ rfl f ⟨bT,k,⟨?_,⟨ys,?_,?_⟩,⟨kvs,?_,?_⟩⟩,?_,d4_6,⟨[],a4,trivial⟩,a5,⟨[],a6,trivial⟩⟩ ⟨e4,e5,e6⟩
 .exact bo (by simp[Sad.os,d0,d0_4,d0_5,d0_6]) a0
 .exact bo (by simp[Sad.os,d1,d1_4,d1_5,d1_6]) a1
 .exact al.imp λv w ⟨l,z1,z2⟩=>⟨l,z1,lsX z2⟩
 .exact inH fa _ hf nfx
 .exact ftX (λl ws h=>lsX h) hft
 .intro b hb;unfold hid;rw[if_pos hb]
def ox(cls:Xc->Addr)(C:Addr):Sp:=λvs H Q E=>∃(A:Sad) (G:Hp) (c:Sc) (σ:Ss),vs=[.ref A.x]/\StA C G H A c σ/\kG c/\sV c σ/\σ.ws.length<=400/\(∀e,eO c σ=some e->∀H',am G H'->E (.ref (cls e)) none H')/\(eO c σ=none->∀H',am H H'->StA C G H' A c σ->Q .non H')
theorem cc:aL ["self","name","k","words","text","kind","rest"] ["self"] (av fZ):=by walk_at "c"
theorem oy(T:Txt P w K mg a):a_ P w K mg base (CXe P w) 1 a.ga a.fN ["self"] (ox (oK a.dF a.cY a.bZ a.cZ) a.aF):=by
 have dJ:=T.dJ;obtain⟨dJ,k_POINTING⟩:=dJ;refine T.f_.fn.okE cc (λvs H Q E h=>?_) (λcdv A outer s H vs Q E hr h=>?_)
 .obtain⟨A,G,c,σ,rfl,_⟩:=h;rfl
 obtain⟨A,G,c,σ,rfl,S,so,ss,wl,qe,q⟩:=h;refine⟨_,(ag (yL Ic rfl (BY (br (pv 0) rfl)) (fc rfl (bf (aS (i:=1) cc.nd rfl (Gr rfl)) (bf (aS (i:=2) cc.nd rfl (Gr rfl)) dW))) (ai (aI (au bn (pv 2) (aH bw rfl T.bO PySem.boot_len (aa (br (pv 0) rfl) ae)) (nomark _)) (ai (lK rfl nZ T.tR rfl (aa (n9 (eK kj (eK (rX (pv 1)) (eK kj qt)))) ae))) aK)))
   (ag (vZ (k:=3) rfl (eB (caps:=[]) (js:=[]) (cap:=trivial)) (bq (br (pv 0) rfl)) (λ_ _ _ _=>du) (λ_ _ _ _=>(aJ (r:=lH K) bC (pv 0) ah (λ_ _=>rfl))) cc.nd rfl rfl)
   (ag (yL Ic rfl (Dd (br (pv 0) rfl)) (aS (i:=4) cc.nd rfl (Gr rfl)) (ai (bj (cG PySem.F.plainAttrs_list PySem.F.slot_list_extend PySem.F.type_list_extend j_ (pv 3) (aa (pv 4) ae)))))
   (ai (cA Ic rfl (bq (pv 3)) (fc rfl (bf (aS (i:=5) cc.nd rfl (Gr rfl)) (bf (aS (i:=6) cc.nd rfl (Gr rfl)) dW))) (ai (aI (PW.pt (fF (au gY (pv 5) (c6 (v:=.ref a.fg) rfl dJ rfl) (by with_unfolding_all rfl)) (dU (au (pP (gS hr)) (pv 6) (br (pv 0) rfl) (by with_unfolding_all rfl))))) (ai (lK rfl nZ T.tR rfl (aa (n9 (eK kj (eK (rX (pv 6)) qt))) ae))) aK))))))),?_⟩
 obtain⟨wvs,w2,w3⟩:=S.words;have lw:=w3.len;obtain⟨n1,n2,n3,n4,n5⟩:=S.nes;refine⟨_,rfl,_,_,_,_,_,rfl,S.ins,T.aC.cl,T.cu,jk,A.ma,mkV σ.ms,rfl,S.marks,λhz o=>?_⟩;have kf:upd H A.ma (.frz o (.dK (mkV σ.ms))) A.ma=some (.frz o (.dK (mkV σ.ms))):=ac;have ix:upd H A.ma (.frz o (.dK (mkV σ.ms))) A.x=some (.ins a.aF A.dx (fsS A (σ.fs:Int) σ.lp σ.bh)):=by rw[aj n2];exact S.ins
 have iw:upd H A.ma (.frz o (.dK (mkV σ.ms))) A.wa=some (.lst wvs):=by rw[aj n4];exact w2
 have sg:am G (upd H A.ma (.frz o (.dK (mkV σ.ms)))):=aX S.old (S.fr _ wd);have th:∀H2,am (upd H A.ma (.frz o (.dK (mkV σ.ms)))) H2->am H (upd H2 A.ma (.dK (mkV σ.ms))):=λH2 s=>AR S.marks s;generalize upd H A.ma (.frz o (.dK (mkV σ.ms)))=Hf at kf ix iw sg th⊢;refine AM hz (λi σ' H2=>∃(v1 v2:Option V),σ'=[some (.ref A.x),v1,v2,none,none,none,none]/\am Hf H2/\∀m∈σ.ms.take i,m.2≠σ.ws.length) ?_ ?_ ?_ ?_
 .rintro i σ' H2 ⟨v1,v2,rfl,m,_⟩;exact m _ _ kf
 .exact⟨none,none,rfl,am.refl _,by simp⟩
 .rintro i qv p σ' H2 hq ⟨v1,v2,rfl,m,no⟩ hp;have hq':=hq;unfold mkV at hq';rw[GD]at hq';obtain⟨⟨mn,mk_⟩,hm,rfl⟩:=Option.map_eq_some_iff.mp hq';obtain⟨ml,e1,e2,e3⟩:=ss.ms _ (Gj hm);dsimp only at e1;subst e1;have s1:=m.trans (af hp (.tup [.str (tx ml),.int (mk_:Int)]));refine⟨p,_,rfl,SqT.of ac,rfl,_,_,rfl,_,_,rfl,rfl,?_⟩;refine⟨_,rfl,_,rfl,_,_,_,_,_,rfl,s1 _ _ ix,T.aC.cl,T.cw,jj,_,_,rfl,.inl (SqL.of (s1 _ _ iw)),rfl,_,rfl,?_⟩;by_cases c1:mk_=σ.ws.length
  .rw[decide_eq_true (show V.int (mk_:Int)=V.int ((wvs.length:Nat):Int) by rw[c1,lw])];refine aM ?_;refine⟨⟨trivial,⟨ml,rfl,by omega,e3⟩,trivial,trivial⟩,λz=>⟨le1,qe .nomark ?_ _ (sg.trans s1)⟩⟩;unfold eO;rw[if_pos];rw[List.any_eq_true];exact⟨_,Gj hm,decide_eq_true c1⟩
  .rw[decide_eq_false (show ¬ (V.int (mk_:Int)=V.int ((wvs.length:Nat):Int))from λz=>c1 (by injection z with z;omega))];refine ay ?_;refine⟨_,_,rfl,s1,?_⟩;rw[a7 hm];intro x hx;rcases List.mem_append.mp hx with hx|hx
   .exact no x hx
   .rw[List.mem_singleton.mp hx];exact c1
 rintro σ' H2 ⟨v1,v2,rfl,m,no⟩;rw[yM,Gz]at no;have s0:=th H2 m;have S1:=S.same s0;generalize upd H2 A.ma (.dK (mkV σ.ms))=H3 at s0 S1⊢;obtain⟨wvs',w2',w3'⟩:=S1.words;have lw':=w3'.len;refine⟨_,rfl,_,_,_,_,_,rfl,S1.ins,T.aC.cl,T.cw,jj,A.wa,rfl,⟨_,SqL.of w2'⟩,dC (K:=K) (a:=A.wa) (xs:=wvs') (λi ys G'=>H3=G'/\ys.length=i/\cb H3 ys ((σ.ws.take i).map (·.w))) ⟨rfl,rfl,trivial⟩ (λi ys G' _ z=>by rw[<-z.1];exact SqL.of w2') ?_ ?_ ?_⟩
 .rintro i ys G' hi ⟨_,z,_⟩;exact aw (by omega)
 .rintro i y ys G' hy ⟨rfl,zl,al⟩;obtain⟨tw,hw,ta,wa',fa',rfl,h1,h2,h3⟩:=w3'.getL hy;refine dM ?_;refine⟨_,rfl,_,_,_,_,rfl,rfl,SqT.of (bT _ _ h1),rfl,rfl,?_,?_⟩
  .rw[Ga,zl];rfl
  .rw[a7 hw,Gm];exact al.snoc (h2.mono bT)
 rintro ys G' ⟨rfl,zl,al⟩ pw hpw;rw[lw',Gz]at al;have s4:=af hpw (.lst ys);have k4:upd H3 pw (.lst ys) pw=some (.lst ys):=ac;have S4:=S1.same s4;have al4:=cb.mono s4 al;have fr:=S1.fresh hpw;have gpw:G pw=none:=S1.old.free hpw;generalize upd H3 pw (.lst ys)=H4 at s4 k4 S4 al4⊢;obtain⟨kvs,f1,f2⟩:=S4.cl.feet;have fl:=f2.len;have hfa:H4 A.fa=some (.dK kvs):=S4.old _ _ f1;have npf:pw≠A.fa:=λz=>by rw[z,f1]at gpw;cases gpw
 have nos:∀b∈A.os,b≠A.fa:=λb hb z=>by have:=S4.fr b hb;rw[z,f1]at this;cases this
 refine⟨_,rfl,_,_,_,_,_,rfl,S4.ins,T.aC.cl,T.fS,uI,A.fa,kvs,rfl,hfa,λhz2 o2=>?_⟩;have F1:∀b,b≠A.fa->upd H4 A.fa (.frz o2 (.dK kvs)) b=H4 b:=λb hb=>aj hb;have F2:upd H4 A.fa (.frz o2 (.dK kvs)) A.fa=some (.frz o2 (.dK kvs)):=ac;generalize upd H4 A.fa (.frz o2 (.dK kvs))=F at F1 F2⊢;refine BZ hz2 (λi σ' H2=>∃(us:List V) (v4:Option V),σ'=[some (.ref A.x),v1,v2,some (.ref pw),v4,none,none]/\H2=upd F pw (.lst us)/\cb H4 us (σ.ws.map (·.w)++(c.feet.take i).flatMap (·.2))/\us.length<=400+39*i) ?_ ?_ ?_ ?_
 .rintro i σ' H2 ⟨us,v4,rfl,rfl,_⟩;rw[aj (GX npf)];exact F2
 .refine⟨ys,none,rfl,(B4 (by rw[F1 _ npf];exact k4)).symm,?_,by omega⟩;rw[JJ,List.flatMap_nil,GF];exact al4
 .rintro i ⟨fk,fv⟩ σ' H2 hq ⟨us,v4,rfl,rfl,al5,ul⟩;obtain⟨⟨fn,fw⟩,hf,e1,l,e2,l1,l2,l3⟩:=f2.get hq;dsimp only at e2;subst e2;have hi:=(List.getElem?_eq_some_iff.mp hq).1;have ff:=(so.fw _ (Gj hf)).1;dsimp only at ff;have ll:=l3.len;dsimp only at ll;have nl:l≠pw:=λz=>by rw[z,gpw]at l2;cases l2
  have nlf:l≠A.fa:=λz=>by rw[z,f1]at l2;cases l2
  have fle:=so.fl;refine⟨_,rfl,.inl ⟨rfl,_,SqL.of ac⟩,_,rfl,_,_,_,_,rfl,rfl,ac,(by rw[aj nl,F1 _ nlf];exact S4.old _ _ l2),GE (GA (show us.length+l1.length<=10000 by omega) (by decide)),?_⟩;rw[AQ];refine⟨us++l1,_,rfl,rfl,?_,by rw[Ga];omega⟩;rw[a7 hf,Jy,<-Gs];refine al5.app ?_;rw[show List.flatMap (λx:Str×List Wk=>x.2) [(fn,fw)]=fw from by simp];exact cb.mono S4.old l3
 rintro σ' H2 ⟨us,v4,rfl,rfl,al5,ul⟩;rw[fl,Gz]at al5;have T5:∀{b xs},H4 b=some (.tup xs)->upd (upd F pw (.lst us)) A.fa (.dK kvs) b=some (.tup xs):=λ{b xs} h=>by
  have b1:b≠A.fa:=λz=>by rw[z,hfa]at h;cases h
  have b2:b≠pw:=λz=>by rw[z,k4]at h;cases h
  rw[aj b1,aj b2,F1 _ b1];exact h
 have s5:am H3 (upd (upd F pw (.lst us)) A.fa (.dK kvs)):=λb u h=>by
  have b2:b≠pw:=λz=>by rw[z,hpw]at h;cases h
  by_cases b1:b=A.fa
  .rw[b1,ac];have:=s4 _ _ h;rw[b1,hfa]at this;exact this
  .rw[aj b1,aj b2,F1 _ b1];exact s4 _ _ h
 have k5:upd (upd F pw (.lst us)) A.fa (.dK kvs) pw=some (.lst us):=by rw[aj npf];exact ac
 generalize upd (upd F pw (.lst us)) A.fa (.dK kvs)=H5 at T5 s5 k5⊢;have S5:=S1.same s5;have al6:cb H5 us (σ.ws.map (·.w)++c.feet.flatMap (·.2)):=al5.imp λv w ⟨b,z1,z2⟩=>⟨b,z1,T5 z2⟩;have l6:=al6.len;have all:∀w∈σ.ws.map (·.w)++c.feet.flatMap (·.2),jz w.1=true->∃n:List Nat,n.length<=200/\(∀d∈n,d<127)/\w.2=.str (tx n):=λw hw hk=>by
  rcases List.mem_append.mp hw with hw|hw
  .obtain⟨t,ht,rfl⟩:=List.mem_map.mp hw;rcases(ss.ws t ht).1 with⟨z,_⟩|⟨z,_⟩|⟨_,h⟩
   .rw[z]at hk;cases hk
   .rw[z]at hk;cases hk
   .exact h
  .obtain⟨p,hp,hw⟩:=List.mem_flatMap.mp hw;rcases((so.fw p hp).2 w hw).1 with⟨_,h⟩|⟨z,_⟩
   .exact h
   .rw[z]at hk;cases hk
 have noA:(σ.ms.any λm=>m.2=σ.ws.length)=false:=by
  rw[Ia];intro m hm;simpa using no m hm
 refine⟨_,rfl,pw,rfl,⟨_,SqL.of k5⟩,cK (K:=K) (a:=pw) (xs:=us) (λi σ' H2=>∃(v5 v6:Option V),σ'=[some (.ref A.x),v1,v2,some (.ref pw),v4,v5,v6]/\H2=H5/\∀w∈(σ.ws.map (·.w)++c.feet.flatMap (·.2)).take i,kZ σ w=false) ⟨none,none,rfl,rfl,by simp⟩ (λi σ' H2 _ g=>by obtain⟨_,_,_,rfl,_⟩:=g;exact SqL.of k5) ?_ ?_⟩
 .rintro i y σ' H2 hy ⟨v5,v6,rfl,rfl,nb⟩;obtain⟨⟨kd,vv⟩,hw,b,rfl,hb⟩:=al6.getL hy;have gw:=all _ (Gj hw);dsimp only at gw;have step:kZ σ (kd,vv)=false->∀w∈(σ.ws.map (·.w)++c.feet.flatMap (·.2)).take (i+1),kZ σ w=false:=λz=>by
   rw[a7 hw];intro w hw;rcases List.mem_append.mp hw with hw|hw
   .exact nb w hw
   .rw[List.mem_singleton.mp hw];exact z
  refine⟨b,_,rfl,SqT.of hb,rfl,_,_,rfl,_,_,rfl,rfl,?_⟩;refine⟨_,rfl,_,_,rfl,.inr (k_POINTING _),rfl,rfl,_,rfl,?_⟩;rw[Fd];by_cases hk:jz kd=true
  .rw[hk];refine aM ?_;obtain⟨n,nl,nc,hn⟩:=gw hk
   .subst hn;refine⟨_,rfl,_,rfl,_,_,_,_,_,rfl,S5.ins,T.aC.cl,T.cu,jk,_,_,rfl,gZ.k (k:=.inr (tx n)) S5.marks,_,rfl,?_⟩;rw[oh];cases hv:lkS (tx n) σ.ms with
    |none =>
     refine aM ?_;refine⟨⟨trivial,⟨n,rfl,by omega,nc⟩,trivial⟩,λz=>⟨le1,qe .nomark ?_ _ S5.old⟩⟩;unfold eO;rw[if_neg (by rw[noA];decide),if_pos];rw[List.any_eq_true];refine⟨_,Gj hw,?_⟩;show(jz kd&&(lkS (tx n) σ.ms).isNone)=true;rw[hk,hv];rfl
    |some k =>
     refine ay ?_;refine⟨_,_,rfl,rfl,step ?_⟩;show(jz kd&&(lkS (tx n) σ.ms).isNone)=false;rw[hv];exact Kh _
  .rw[Hw]at hk;rw[hk];refine ay ?_;refine ay ?_;refine⟨_,_,rfl,rfl,step ?_⟩;show(jz kd&&_)=false;rw[hk];rfl
 rintro σ' H2 ⟨v5,v6,rfl,rfl,nb⟩;rw[l6,Gz]at nb;refine q ?_ _ (s0.trans s5) S5;unfold eO;rw[if_neg (by rw[noA];decide),if_neg];rw[Hw,Ia];intro w hw;rw[nb w hw];decide
def qQ(cls:Xc->Addr)(C:Addr):Sp:=λvs H Q E=>∃(A:Sad) (G:Hp) (c:Sc) (σ:Ss) (n:List Nat),vs=[.ref A.x,.str (tx n)]/\StA C G H A c σ/\n.length<=200/\(∀d∈n,d<127)/\σ.ms.length<=1000000/\(∀e,dN σ (tx n)=.error e->∀H',am G H'->E (.ref (cls e)) none H')/\∀σ' H',dN σ (tx n)=.ok σ'->StA C G H' A c σ'->Q .non H'
theorem qR:aL ["self","name"] ["self","name"] (av iL):=by walk_at "c"
theorem qS(T:Txt P w K mg a):a_ P w K mg base (CXe P w) 1 a.i4 a.iC ["self","name"] (qQ (oK a.dF a.cY a.bZ a.cZ) a.aF):=by
 refine T.iV.fn.okE qR (λvs H Q E h=>?_) (λcdv A outer s H vs Q E hr h=>?_)
 .obtain⟨A,G,c,σ,n,rfl,_⟩:=h;rfl
 obtain⟨A,G,c,σ,n,rfl,S,nl,nc,ml,qe,q⟩:=h;refine⟨_,(ag (aI (au (uc (gS hr)) (pv 1) (br (pv 0) rfl) (by with_unfolding_all rfl)) (ai (lK rfl nZ T.y7 rfl (aa (n9 (eK kj (eK (rX (pv 1)) (eK kj qt)))) ae))) aK)
   (ai (yF (gS hr) (br (pv 0) rfl) (pv 1) (aH bw rfl T.bO PySem.boot_len (aa (br (pv 0) rfl) ae)) rfl))),?_⟩
 obtain⟨wvs,w2,w3⟩:=S.words;have lw:=w3.len;refine⟨_,rfl,_,rfl,_,_,_,_,_,rfl,S.ins,T.aC.cl,T.cu,jk,_,_,rfl,gZ.k (k:=.inr (tx n)) S.marks,_,rfl,?_⟩;rw[oh];cases hv:lkS (tx n) σ.ms with
 |some k =>
  refine aM ?_;exact⟨⟨trivial,⟨n,rfl,by omega,nc⟩,trivial,trivial⟩,λz=>⟨le1,qe .twice (by unfold dN;rw[hv];rfl) H S.old⟩⟩
 |none =>
  refine ay ?_;dsimp only[fV];refine⟨_,rfl,_,_,_,_,_,rfl,S.ins,T.aC.cl,T.cw,jj,_,_,rfl,.inl (SqL.of w2),_,rfl,_,_,_,_,_,rfl,S.ins,T.aC.cl,T.cu,jk,_,rfl,_,_,rfl,uz.k (k:=.inr (tx n)) S.marks (by rw[yM];exact GA ml (by decide)),?_⟩;rw[wX _ (by rw[oh,hv];rfl),lw,<-B2];exact q _ _ (by unfold dN;rw[hv];rfl) (S.mark (tx n) σ.ws.length)
def pS(cls:Xc->Addr)(C:Addr):Sp:=λvs H Q E=>∃(A:Sad) (G:Hp) (c:Sc) (σ:Ss) (n:List Nat),vs=[.ref A.x,.str (tx n)]/\StA C G H A c σ/\kG c/\n.length<=200/\(∀d∈n,d<127)/\σ.fs<=1000/\(∀e,g9 c σ (tx n)=.error e->∀H',am G H'->E (.ref (cls e)) none H')/\∀σ' f H' p,g9 c σ (tx n)=.ok (σ',f)->StA C G H' A c σ'->H p=none->cQ H' p f->Q (.ref p) H'
theorem pT:aL ["self","name"] ["self","name"] (av hU):=by walk_at "c"
theorem pU(T:Txt P w K mg a):a_ P w K mg base (CXe P w) 2 a.iq a.gN ["self","name"] (pS (oK a.dF a.cY a.bZ a.cZ) a.aF):=by
 refine T.ij.fn.okE pT (λvs H Q E h=>?_) (λcdv A outer s H vs Q E hr h=>?_)
 .obtain⟨A,G,c,σ,n,rfl,_⟩:=h;rfl
 obtain⟨A,G,c,σ,n,rfl,S,so,nl,nc,ml,qe,q⟩:=h;refine⟨_,(ag (aI (au (pP (gS hr)) (pv 1) (br (pv 0) rfl) (by with_unfolding_all rfl)) (ai (lK rfl nZ T.yf rfl (aa (n9 (eK kj (eK (rX (pv 1)) qt))) ae))) aK)
   (ag (c7 (pv 0) (aG ca (br (pv 0) rfl) ah) rfl)
   (ai (aP (aG gg (aQ (aa (bp (aa aq (aa (aG dH (aG dH aq (aD T.jF (pQ T) (hr.mono (by decide)) rfl (aa (br (pv 0) rfl) ae))) aq) ae))) ae)) (uA (gS hr) (br (pv 0) rfl) (pv 1) (λ_ _=>rfl))))))),?_⟩
 obtain⟨kvs,f2,f3⟩:=S.cl.feet;refine⟨_,rfl,_,rfl,_,_,_,_,_,rfl,S.ins,T.aC.cl,T.fS,uI,_,_,rfl,gZ.k (k:=.inr (tx n)) (S.old _ _ f2),_,rfl,?_⟩;obtain⟨v1,v2⟩:=FtA.val (n:=tx n) f3;cases hv:lkS (tx n) c.feet with
 |none =>
  rw[v1 hv];refine aM ?_;exact⟨⟨trivial,⟨n,rfl,by omega,nc⟩,trivial⟩,λz=>⟨le1,qe .nofoot (by unfold g9;rw[hv]) H S.old⟩⟩
 |some f =>
  obtain⟨l,e,hl⟩:=v2 f hv;rw[e];refine ay ?_;dsimp only[fV];refine⟨_,rfl,_,_,_,_,_,rfl,S.ins,T.aC.cl,T.dS,sI,_,_,rfl,rfl,_,rfl,_,_,_,_,rfl,S.ins,T.aC.cl,T.dS,og,?_⟩;rw[vD];have S1:StA a.aF G (upd H A.x (.ins a.aF A.dx (fsS A ((σ.fs:Int)+1) σ.lp σ.bh))) A c { σ with fs:=σ.fs+1 }:=S.flds (σ.fs+1) σ.lp σ.bh;have hfr:∀p,upd H A.x (.ins a.aF A.dx (fsS A ((σ.fs:Int)+1) σ.lp σ.bh)) p=none->H p=none:=λp hp=>by
   by_cases z:p=A.x
   .rw[z,ac]at hp;cases hp
   .rw[aj z]at hp;exact hp
  generalize upd H A.x (.ins a.aF A.dx (fsS A ((σ.fs:Int)+1) σ.lp σ.bh))=H1 at S1 hfr⊢;have cL:(PySem.Str.ofString "(")=tx [40]:=by decide +kernel
  have cR:(PySem.Str.ofString ")")=tx [41]:=by decide +kernel
  have fl:(aT (σ.fs+1)).length<=5:=jO 4 _ (by omega);refine⟨_,rfl,_,_,_,_,_,rfl,S1.ins,T.aC.cl,T.dS,sI,σ.fs+1,rfl,GA (show σ.fs+1<=1001 by omega) (by decide +kernel),_,_,rfl,rfl,(by rw[cL,aY,aY];exact GE (aw (by simp only[Gd,Gy];omega))),_,_,rfl,rfl,(by rw[cL,cR,eR,aY,aY];exact GE (aw (by simp only[Ga,Gd,Gy];omega))),le2,λp1 hp1=>?_⟩;have s1:=af hp1 (.tup [.str "plain",.str (lM (σ.fs+1))]);have k1:upd H1 p1 (.tup [.str "plain",.str (lM (σ.fs+1))]) p1=some (.tup [.str "plain",.str (lM (σ.fs+1))]):=ac;have S2:=S1.same s1;refine⟨le1,λp2 hp2=>?_⟩;change upd H1 p1 (.tup [.str "plain",.str (lM (σ.fs+1))]) p2=none at hp2;have s2:=af hp2 (.lst [.ref p1]);have k2:upd (upd H1 p1 (.tup [.str "plain",.str (lM (σ.fs+1))])) p2 (.lst [.ref p1]) p2=some (.lst [.ref p1]):=ac;have k1':=s2 _ _ k1;have S3:=S2.same s2;have hfr3:=λ(p:Addr) hp=>hfr p ((s1.trans s2).free hp);obtain⟨fv,g1,g2⟩:=hl.mono S3.old;have lf:=g2.len;have ff:=(so.fw (tx n,f) (r9 hv)).1;have hg:gZ (upd (upd H1 p1 (.tup [.str "plain",.str (lM (σ.fs+1))])) p2 (.lst [.ref p1])) A.fa (kV (.inr (tx n))) (some (.ref l)):=by rw[<-e];exact gZ.k (S3.old _ _ f2)
  refine⟨_,rfl,_,_,_,_,_,rfl,S3.ins,T.aC.cl,T.fS,uI,_,rfl,_,_,rfl,hg,_,_,_,_,rfl,rfl,k2,g1,(by show 1+fv.length<=_;rw[lf];exact GE (aw (by dsimp only at ff;omega))),λp3 hp3=>?_⟩;have s3:=af hp3 (.lst ([.ref p1]++fv));exact q { σ with fs:=σ.fs+1 } ((.plain,.str (lM (σ.fs+1)))::f) _ p3 (by unfold g9;rw[hv]) (S3.same s3) (hfr3 p3 hp3) ⟨_,ac,show cb _ (.ref p1::fv) ((.plain,.str (lM (σ.fs+1)))::f)from⟨⟨p1,rfl,s3 _ _ k1'⟩,cb.mono s3 g2⟩⟩
def qT(cls:Xc->Addr)(C:Addr):Sp:=λvs H Q E=>∃(A:Sad) (G:Hp) (c:Sc) (σ:Ss) (lead:Int) (w:Addr) (wk:Wk),vs=[.ref A.x,.int lead,.ref w]/\StA C G H A c σ/\kG c/\WkA H (.ref w) wk/\GWk wk/\σ.ws.length<=400/\σ.fs<=σ.ws.length/\(∀e,ci c σ lead wk=.error e->∀H',am G H'->E (.ref (cls e)) none H')/\∀σ' H',ci c σ lead wk=.ok σ'->StA C G H' A c σ'->Q .non H'
theorem dO:aL ["self","lead","word","foot"] ["self","lead","word"] (av iM):=by walk_at "c"
theorem qU(T:Txt P w K mg a):a_ P w K mg base (CXe P w) 3 a.i5 a.iD ["self","lead","word"] (qT (oK a.dF a.cY a.bZ a.cZ) a.aF):=by
 have bH:=T.bH;obtain⟨t_MOST_WORDS_books,bH⟩:=bH;refine T.iW.fn.okE dO (λvs H Q E h=>?_) (λcdv A outer s H vs Q E hr h=>?_)
 .obtain⟨A,G,c,σ,lead,w,wk,rfl,_⟩:=h;rfl
 obtain⟨A,G,c,σ,lead,w,wk,rfl,S,so,hw,gw,wl,fl,qe,q⟩:=h;refine⟨_,(ag (aA (i:=3) dO.nd rfl (Gr rfl) (aQ ae))
   (ag (aI (au bn (aJ bC (pv 2) ah (λ_ _=>rfl)) aq (nomark _)) (ag (aA (i:=3) dO.nd rfl (Gr rfl) (dy fI T.aC T.ij (pU T) (hr.mono (by decide)) (pv 0) (aa (aJ bC (pv 2) ah (λ_ _=>rfl)) ae)))
   (ai (aA (i:=2) dO.nd rfl (Gr rfl) (aJ bN (pv 3) ah (λ_ _=>rfl))))) aK)
   (ag (aI (au bn (aH bw rfl T.bO PySem.boot_len (aa (br (pv 0) rfl) ae)) (c6 (v:=.int 400) rfl bH ⟨_,rfl⟩) (nomark _)) (ai (lK rfl nZ T.rQ rfl (aa (n9 (eK kj (eK (Ef (c6 (v:=.int 400) rfl bH ⟨_,rfl⟩)) (eK kj qt)))) ae))) aK)
   (ag (aI (au ja (br (pv 0) rfl) ah (nomark _)) (ag (aA (i:=1) dO.nd rfl (Gr rfl) (br (pv 0) rfl))
   (ai (c7 (pv 0) ah rfl))) aK)
   (ai (bj (cG PySem.F.plainAttrs_list PySem.F.slot_list_append PySem.F.type_list_append cB (br (pv 0) rfl) (aa (bp (aa (pv 1) (aa (j6 (br (pv 0) rfl) (jw (dA Cv (pv 1) ah (nomark _)))) (aa (pv 2) (aa (pv 3) ae))))) ae)))))))),?_⟩
 refine⟨aN (by simp),λp1 hp1=>?_⟩;have n1:p1≠A.wa:=λz=>by obtain⟨_,w2,_⟩:=S.words;rw[z,w2]at hp1;cases hp1
 have n2:p1≠A.ha:=λz=>by obtain⟨_,w2,_⟩:=S.heads;rw[z,w2]at hp1;cases hp1
 have s1:=af hp1 (.lst []);have k1:upd H p1 (.lst []) p1=some (.lst []):=ac;have S1:=S.same s1;generalize upd H p1 (.lst [])=H1 at s1 k1 S1⊢;have hw1:=hw.mono s1;dsimp only[bD];refine cH (λσ' H'=>∃(w' p:Addr) (wk':Wk) (f:List Wk) (σ1:Ss),σ'=[some (.ref A.x),some (.int lead),some (.ref w'),some (.ref p)]/\StA a.aF G H' A c σ1/\WkA H' (.ref w') wk'/\cQ H' p f/\p≠A.wa/\p≠A.ha/\ci c σ lead wk=fC σ1 lead wk' f/\σ1.ws=σ.ws) ?_ (λkey=>?_)
 .rintro σ' H2 ⟨w',p,wk',f,σ1,rfl,S2,hw2,hp2,m1,m2,e,ew⟩;obtain⟨wvs,w2,w3⟩:=S2.words;have lw:=w3.len;rw[ew]at lw;refine⟨_,rfl,_,_,_,_,_,rfl,S2.ins,T.aC.cl,T.cw,jj,_,_,rfl,.inl (SqL.of w2),rfl,_,rfl,?_⟩;refine eY (λc1=>?_) (λc1=>?_)
  .have c2:wvs.length=400:=by have:=of_decide_eq_true c1;injection this with this;omega
   exact⟨⟨trivial,trivial,trivial,trivial⟩,λz=>⟨le1,qe .toolong (by rw[e];unfold fC;rw[ew,if_pos (by omega)]) H2 S2.old⟩⟩
  have c2:¬ (wvs.length=400):=λz=>c1 (decide_eq_true (by rw[z];rfl));dsimp only[fV];refine cH (λσ' H'=>σ'=[some (.ref A.x),some (.int (if 0<σ1.lp then σ1.lp else lead)),some (.ref w'),some (.ref p)]/\StA a.aF G H' A c { σ1 with lp:=if 0<σ1.lp then 0 else σ1.lp }/\WkA H' (.ref w') wk'/\cQ H' p f/\H' A.wa=some (.lst wvs)) ?_ (λkey=>?_)
  .rintro σ' H3 ⟨rfl,S3,hw3,hp3,w23⟩;generalize hld:(if 0<σ1.lp then σ1.lp else lead)=ld;have go:∀(b:Bool),b=(σ1.bh&&decide (ld<=2))->∀p2,H3 p2=none->StA a.aF G (upd (upd H3 p2 (.tup [.int ld,.bl b,.ref w',.ref p])) A.wa (.lst (wvs++[.ref p2]))) A c { σ1 with lp:=if 0<σ1.lp then 0 else σ1.lp,ws:=σ1.ws++[⟨ld,σ1.bh&&decide (ld<=2),wk',f⟩] }:=λb hb p2 hp2=>by
    have s3:=af hp2 (.tup [.int ld,.bl b,.ref w',.ref p]);exact(S3.same s3).word (t:=⟨ld,σ1.bh&&decide (ld<=2),wk',f⟩) (s3 _ _ w23) rfl (by rw[<-hb];exact ac) (hw3.mono s3) (hp3.mono s3) m1 m2
   have fin:ci c σ lead wk=.ok { σ1 with lp:=if 0<σ1.lp then 0 else σ1.lp,ws:=σ1.ws++[⟨ld,σ1.bh&&decide (ld<=2),wk',f⟩] }:=by
    rw[e];unfold fC;rw[if_neg (by rw[ew];omega),hld]
   refine⟨_,rfl,_,_,_,_,_,rfl,S3.ins,T.aC.cl,T.cw,jj,.inl ⟨rfl,_,SqL.of w23⟩,_,rfl,_,rfl,_,_,_,_,_,rfl,S3.ins,T.aC.cl,T.dh,oe,_,rfl,?_⟩;have wf:wvs.length<Gv:=aw (by omega);cases hb:σ1.bh with
   |true =>
    refine aM ?_;refine⟨_,rfl,_,_,rfl,rfl,_,rfl,_,rfl,le4,λp2 hp2=>?_⟩;have s3:=af hp2 (.tup [.int ld,.bl (decide (ld<=2)),.ref w',.ref p]);refine⟨_,_,_,rfl,rfl,s3 _ _ w23,wf,?_⟩;exact q _ _ fin (go _ (by rw[hb];rfl) p2 hp2)
   |false =>
    refine ay ?_;refine⟨_,rfl,_,rfl,le4,λp2 hp2=>?_⟩;have s3:=af hp2 (.tup [.int ld,.bl false,.ref w',.ref p]);refine⟨_,_,_,rfl,rfl,s3 _ _ w23,wf,?_⟩;exact q _ _ fin (go _ (by rw[hb];rfl) p2 hp2)
  .refine⟨_,rfl,_,_,_,_,_,rfl,S2.ins,T.aC.cl,T.cJ,rZ,_,_,rfl,rfl,_,rfl,?_⟩;by_cases hl:0<σ1.lp
   .rw[decide_eq_true (show σ1.lp>0 from hl)];refine aM ?_;refine⟨_,rfl,_,_,_,_,_,rfl,S2.ins,T.aC.cl,T.cJ,rZ,?_⟩;refine⟨_,rfl,_,_,_,_,rfl,S2.ins,T.aC.cl,T.cJ,og,?_⟩;rw[qz];have S3:=S2.flds σ1.fs 0 σ1.bh;obtain⟨e1,e2,e3,e4,e5⟩:=S2.nes;have tup:∀{b us},H2 b=some (.tup us)->upd H2 A.x (.ins a.aF A.dx (fsS A (σ1.fs:Int) 0 σ1.bh)) b=some (.tup us):=λ{b us} h=>by rw[aj (λz=>S2.nt b (by rw[z];exact B3) us h)];exact h
    have lsx:∀{b us},H2 b=some (.lst us)->upd H2 A.x (.ins a.aF A.dx (fsS A (σ1.fs:Int) 0 σ1.bh)) b=some (.lst us):=λ{b us} h=>by rw[aj (λz=>by rw[z,S2.ins]at h;cases h)];exact h
    refine key _ _ ⟨by rw[if_pos hl];rfl,by rw[if_pos hl];exact S3,?_,?_,lsx w2⟩
    .obtain⟨b,z1,z2⟩:=hw2;exact⟨b,z1,tup z2⟩
    .obtain⟨us,z1,z2⟩:=hp2;exact⟨us,lsx z1,z2.imp λv w ⟨b,y1,y2⟩=>⟨b,y1,tup y2⟩⟩
   .rw[decide_eq_false (show ¬ (σ1.lp>0)from hl)];refine ay ?_;refine key _ _ ⟨by rw[if_neg hl],by rw[if_neg hl];exact S2,hw2,hp2,w2⟩
 .obtain⟨wb,e1,hb⟩:=hw1;injection e1 with e1;subst e1;refine⟨_,rfl,_,_,_,_,rfl,rfl,SqT.of hb,rfl,rfl,_,rfl,?_⟩;by_cases hk:wk.1=.foot
  .rw[decide_eq_true (by rw[hk];rfl)];refine aM ?_;obtain⟨_,n,nl,nc,hn⟩|⟨z,_⟩:=gw
   .rw[hn]at hb;refine⟨_,rfl,_,_,_,rfl,S1.ins,jl (by decide +kernel),_,rfl,_,_,_,_,rfl,rfl,SqT.of hb,rfl,?_⟩;have hr_:rest wk.2=tx n:=by rw[hn];rfl
    have ew:ci c σ lead wk=(match g9 c σ (tx n)with|.error x=>.error x|.ok (s',f)=>fC s' lead (f.headD wk) f):=by
     unfold ci;rw[if_pos hk,hr_]
     first|done|(cases g9 c σ (tx n)<;>rfl)
    refine⟨A,G,c,σ,n,rfl,S1,so,nl,nc,by omega,λe he H' s'=>qe e (by rw[ew,he]) H' s',λσ' f H2 p he S2 hp hf=>?_⟩;rw[he]at ew;dsimp only[bD];have hws:σ'.ws=σ.ws/\∃x r,f=x::r:=by
     unfold g9 at he;cases hv:lkS (tx n) c.feet with
     |none=>rw[hv]at he;cases he
     |some g=>rw[hv]at he;cases he;exact⟨rfl,_,_,rfl⟩
    obtain⟨hws,x,r,rfl⟩:=hws;obtain⟨us,u1,u2⟩:=hf
    match us,u2 with
    |u::us,⟨⟨b,z1,z2⟩,u3⟩ =>
    subst z1;refine⟨_,rfl,_,_,_,_,rfl,rfl,SqL.of u1,fH _ _,?_⟩;refine key _ _ ⟨b,p,x,x::r,σ',rfl,S2,⟨b,rfl,z2⟩,⟨_,u1,⟨b,rfl,z2⟩,u3⟩,?_,?_,ew,hws⟩
    .exact λz=>by obtain⟨_,w2,_⟩:=S1.words;rw[z,w2]at hp;cases hp
    .exact λz=>by obtain⟨_,w2,_⟩:=S1.heads;rw[z,w2]at hp;cases hp
   .rw[hk]at z;cases z
  .have nk:¬ (V.str wk.1.s=V.str "foot"):=λz=>hk (Kw.inj (b:=.foot) (V.str.inj z));rw[decide_eq_false nk];refine ay ?_;refine key _ _ ⟨w,p1,wk,[],σ,rfl,S1,⟨w,rfl,hb⟩,⟨[],k1,trivial⟩,n1,n2,?_,rfl⟩;unfold ci;rw[if_neg hk]
def sr(cls:Xc->Addr)(C:Addr):Sp:=λvs H Q E=>∃(A:Sad) (G:Hp) (c:Sc) (σ:Ss) (lead:Int) (la:Addr) (byh:Bool) (ws:List Wk),vs=[.ref A.x,.int lead,.ref la,.bl byh]/\StA C G H A c σ/\kG c/\cQ G la ws/\(∀w∈ws,GWk w)/\ws.length<=600/\Bd σ ws.length/\(∀e,bX c σ lead byh ws=.error e->∀H',am G H'->E (.ref (cls e)) none H')/\∀σ' H',bX c σ lead byh ws=.ok σ'->StA C G H' A c σ'->Q .non H'
theorem iR:aL ["self","lead","words","by_head","word"] ["self","lead","words","by_head"] (av jm):=by walk_at "c"
theorem fD(T:Txt P w K mg a):a_ P w K mg base (CXe P w) 4 a.jn a.i6 ["self","lead","words","by_head"] (sr (oK a.dF a.cY a.bZ a.cZ) a.aF):=by
 refine T.dG.fn.okE iR (λvs H Q E h=>?_) (λcdv A outer s H vs Q E hr h=>?_)
 .obtain⟨A,G,c,σ,lead,la,byh,ws,rfl,_⟩:=h;rfl
 obtain⟨A,G,c,σ,lead,la,byh,ws,rfl,S,so,hl,gw,wl,bd,qe,q⟩:=h;refine⟨_,(ai (cA Ic rfl (bq (pv 2)) (aS (i:=4) iR.nd rfl (Gr rfl)) (ai (aI (au bn (aJ bC (pv 4) ah (λ_ _=>rfl)) aq (nomark _)) (ai (bj (dy fI T.aC T.iV (qS T) (hr.mono (by decide)) (pv 0) (aa (aJ bC (pv 4) ah (λ_ _=>rfl)) ae)))) (ag (bj (dy fI T.aC T.iW (qU T) (hr.mono (by decide)) (pv 0) (aa (pv 1) (aa (pv 4) ae))))
   (ag (c7 (pv 0) (pv 3) rfl)
   (ai (aA (i:=1) iR.nd rfl (Gr rfl) ah)))))))),?_⟩
 obtain⟨us,l1,l2⟩:=hl;have lu:=l2.len;refine⟨_,rfl,la,rfl,⟨_,SqL.of (S.old _ _ l1)⟩,cK (K:=K) (a:=la) (xs:=us) (λi σ' H2=>∃(vw:Option V) (ld:Int) (σ1:Ss),σ'=[some (.ref A.x),some (.int ld),some (.ref la),some (.bl byh),vw]/\StA a.aF G H2 A c σ1/\bX c σ lead byh ws=bX c σ1 ld byh (ws.drop i)/\Bd σ1 (ws.length-i)) ⟨none,lead,σ,rfl,S,rfl,bd⟩ (λi σ' H2 _ g=>by obtain⟨_,_,_,_,S1,_⟩:=g;exact SqL.of (S1.old _ _ l1)) ?_ ?_⟩
 .rintro i y σ' H2 hy ⟨vw,ld,σ1,rfl,S1,er,b1⟩;obtain⟨w,hw,wb,rfl,hb⟩:=l2.getL hy;have hi:=(List.getElem?_eq_some_iff.mp hw).1;have gww:=gw w (Gj hw);have ed:ws.drop i=w::ws.drop (i+1):=by
   obtain⟨hi,e⟩:=List.getElem?_eq_some_iff.mp hw;rw[Hg hi,e]
  have hb2:=S1.old _ _ hb;rw[ed]at er;refine⟨_,rfl,_,_,_,_,rfl,rfl,SqT.of hb2,rfl,rfl,_,rfl,?_⟩;by_cases hk:w.1=.mark
  .rw[decide_eq_true (by rw[hk];rfl)];refine aM ?_;have er2:bX c σ1 ld byh (w::ws.drop (i+1))=(match dN σ1 (rest w.2)with|.error x=>.error x|.ok s'=>bX c s' ld byh (ws.drop (i+1))):=by
    show(if w.1=.mark then _ else _)=_;rw[if_pos hk]
    first|done|(cases dN σ1 (rest w.2)<;>rfl)
   obtain⟨_,n,nl,nc,hn⟩|⟨z,_⟩:=gww
   .rw[hn]at hb2;have hr_:rest w.2=tx n:=by rw[hn];rfl
    rw[hr_]at er2;refine⟨_,rfl,_,_,_,rfl,S1.ins,jl (by decide +kernel),_,rfl,_,_,_,_,rfl,rfl,SqT.of hb2,rfl,?_⟩;refine⟨A,G,c,σ1,n,rfl,S1,nl,nc,(by have:=b1.ms;omega),λe he H' s'=>?_,λσ2 H3 he S2=>?_⟩
    .refine qe e ?_ H' s';rw[er,er2,he]
    .rw[he]at er2;have hs2:σ2.ws=σ1.ws/\σ2.fs=σ1.fs/\σ2.ms.length=σ1.ms.length+1:=by
      unfold dN at he;by_cases z:(lkS (tx n) σ1.ms).isSome=true
      .rw[if_pos z]at he;cases he
      .rw[if_neg z]at he;cases he;exact⟨rfl,rfl,by simp⟩
     exact⟨_,ld,σ2,rfl,S2,er.trans er2,⟨by rw[hs2.1];exact b1.ws,by rw[hs2.1,hs2.2.1];exact b1.fs,by rw[hs2.2.2];have:=b1.ms;omega⟩⟩
   .rw[hk]at z;cases z
  .have nk:¬ (V.str w.1.s=V.str "mark"):=λz=>hk (Kw.inj (b:=.mark) (V.str.inj z));rw[decide_eq_false nk];refine ay ?_;have er2:bX c σ1 ld byh (w::ws.drop (i+1))=(match ci c σ1 ld w with|.error x=>.error x|.ok s'=>bX c { s' with bh:=byh } 0 byh (ws.drop (i+1))):=by
    show(if w.1=.mark then _ else _)=_;rw[if_neg hk]
    first|done|(cases ci c σ1 ld w<;>rfl)
   refine⟨_,rfl,_,_,_,rfl,S1.ins,jl (by decide +kernel),_,rfl,_,rfl,?_⟩;refine⟨A,G,c,σ1,ld,wb,w,rfl,S1,so,⟨wb,rfl,hb2⟩,gww,b1.ws,b1.fs,λe he H' s'=>qe e (by rw[er,er2,he]) H' s',λσ2 H3 he S2=>?_⟩;rw[he]at er2;have b2:=vh he;refine⟨_,rfl,_,rfl,_,_,_,_,rfl,S2.ins,T.aC.cl,T.dh,og,?_⟩;rw[sT];exact⟨_,0,_,rfl,S2.flds σ2.fs σ2.lp byh,er.trans er2,⟨by show σ2.ws.length<=400;have:=b1.ws;omega,by show σ2.fs<=σ2.ws.length;have:=b1.fs;omega,by show σ2.ms.length+_<=_;rw[b2.2.2.2];have:=b1.ms;omega⟩⟩
 rintro σ' H2 ⟨vw,ld,σ1,rfl,S1,er,b1⟩;rw[lu,Ip]at er;exact q _ _ er S1
def qV(cls:Xc->Addr)(C:Addr):Sp:=λvs H Q E=>∃(A:Sad) (G:Hp) (c:Sc) (σ:Ss) (k:Nat),vs=[.ref A.x,.int (k:Int)]/\StA C G H A c σ/\kG c/\k<c.nums.length/\σ.hs.length<=1000/\Bd σ 200/\(∀e,qw c σ k=.error e->∀H',am G H'->E (.ref (cls e)) none H')/\∀σ' H',qw c σ k=.ok σ'->StA C G H' A c σ'->Q .non H'
theorem kz:aL ["self","k","number"] ["self","k"] (av iN):=by walk_at "c"
theorem qW(T:Txt P w K mg a):a_ P w K mg base (CXe P w) 5 a.iY a.iA ["self","k"] (qV (oK a.dF a.cY a.bZ a.cZ) a.aF):=by
 refine T.iT.fn.okE kz (λvs H Q E h=>?_) (λcdv A outer s H vs Q E hr h=>?_)
 .obtain⟨A,G,c,σ,k,rfl,_⟩:=h;rfl
 obtain⟨A,G,c,σ,k,rfl,S,so,hk,hl,bd,qe,q⟩:=h;refine⟨_,(ag (aA (i:=2) kz.nd rfl (Gr rfl) (aJ bN (br (pv 0) rfl) (pv 1) (λ_ _=>rfl)))
   (ag (bj (cG PySem.F.plainAttrs_list PySem.F.slot_list_append PySem.F.type_list_append cB (br (pv 0) rfl) (aa (bp (aa (pv 2) (aa (aH bw rfl T.bO PySem.boot_len (aa (br (pv 0) rfl) ae)) ae))) ae)))
   (ai (bj (dy fI T.aC T.dG (fD T) (hr.mono (by decide)) (pv 0) (aa ah (aa (aG gg (aQ (aa (bp (aa aq (aa (pv 2) ae))) ae)) (aJ bN (br (pv 0) rfl) (pv 1) (λ_ _=>rfl))) (aa cN ae)))))))),?_⟩
 obtain⟨nm,hnm⟩:∃nm,c.nums[k]?=some nm:=⟨c.nums[k],Ge hk⟩;obtain⟨tt,htt⟩:∃tt,c.titles[k]?=some tt:=⟨c.titles[k]'(by rw[so.tl];exact hk),Ge _⟩;have e1:c.nums.getD k Hy=nm:=by rw[GL,hnm];rfl
 have e2:c.titles.getD k []=tt:=by rw[GL,htt];rfl
 obtain⟨nl,hnl,nll⟩:=so.nl nm (Gj hnm);obtain⟨ttl,ttw⟩:=so.tw tt (Gj htt);refine⟨_,rfl,_,_,_,_,_,rfl,S.ins,T.aC.cl,T.fE,ui,_,rfl,_,_,_,_,rfl,rfl,SqL.of (S.old _ _ S.cl.nums),cF (j:=k) (by rw[GD,hnm];rfl),?_⟩;obtain⟨wvs,w2,w3⟩:=S.words;obtain⟨hvs,h2,h3⟩:=S.heads;have lw:=w3.len;have lh:=h3.len;refine⟨_,rfl,_,_,_,_,_,rfl,S.ins,T.aC.cl,T.dt,lO,.inl ⟨rfl,_,SqL.of h2⟩,_,rfl,_,rfl,_,_,_,_,_,rfl,S.ins,T.aC.cl,T.cw,jj,_,_,rfl,.inl (SqL.of w2),le2,λp1 hp1=>?_⟩;rw[lw];have s1:=af hp1 (.tup [.str nm,.int (σ.ws.length:Int)]);have S1:=S.same s1;have k1:upd H p1 (.tup [.str nm,.int (σ.ws.length:Int)]) p1=some (.tup [.str nm,.int (σ.ws.length:Int)]):=ac;have h2':=s1 _ _ h2;generalize upd H p1 (.tup [.str nm,.int (σ.ws.length:Int)])=H1 at s1 S1 k1 h2'⊢;refine⟨_,_,_,rfl,rfl,h2',aw (by omega),?_⟩;have S2:=S1.headp h2' k1;generalize upd H1 A.ha (.lst (hvs++[.ref p1]))=H2 at S2⊢;refine⟨_,rfl,_,_,_,rfl,S2.ins,jl (by decide +kernel),_,rfl,le2,λp2 hp2=>?_⟩;have s3:=af hp2 (.tup [.str "plain",.str nm]);have k3:upd H2 p2 (.tup [.str "plain",.str nm]) p2=some (.tup [.str "plain",.str nm]):=ac;have S3:=S2.same s3;change _ at k3;generalize upd H2 p2 (.tup [.str "plain",.str nm])=H3 at s3 k3 S3⊢;refine⟨le1,λp3 hp3=>?_⟩;have s4:=af hp3 (.lst [.ref p2]);have k4:upd H3 p3 (.lst [.ref p2]) p3=some (.lst [.ref p2]):=ac;have k4':=s4 _ _ k3;have S4:=S3.same s4;generalize upd H3 p3 (.lst [.ref p2])=H4 at s4 k4 k4' S4⊢;obtain⟨tvs,t1,t2⟩:=S4.cl.titles;obtain⟨v,hv,l,rfl,tl⟩:=t2.getR htt;obtain⟨us,u1,u2⟩:=tl.mono S4.old;have lu:=u2.len;refine⟨_,rfl,_,_,_,_,_,rfl,S4.ins,T.aC.cl,T.gf,vg,_,rfl,_,_,_,_,rfl,rfl,SqL.of (S4.old _ _ t1),cF hv,_,_,_,_,rfl,rfl,k4,u1,(by show 1+us.length<=_;rw[lu];exact GE (aw (by omega))),λp4 hp4=>?_⟩;have s5:=af hp4 (.lst ([.ref p2]++us));have k5:upd H4 p4 (.lst ([.ref p2]++us)) p4=some (.lst (.ref p2::us)):=ac;have k5':=s5 _ _ k4';have u2':=cb.mono s5 u2;have S5:=S4.same s5;have fr:=S4.fresh hp4;generalize upd H4 p4 (.lst ([.ref p2]++us))=H5 at s5 k5 k5' u2' S5⊢;have run:qw c σ k=bX c { σ with hs:=σ.hs++[(nm,σ.ws.length)] } 2 true ((.plain,.str nm)::tt):=by
  unfold qw;rw[e1,e2]
 refine⟨A,hid A.os H5,c,_,2,p4,true,(.plain,.str nm)::tt,rfl,S5.re,so,uJ S5.nt fr ⟨_,k5,⟨p2,rfl,k5'⟩,u2'⟩,?_,?_,⟨bd.ws,bd.fs,?_⟩,λe he H' s'=>qe e (by rw[run];exact he) H' (S5.out.trans s'),λσ' H' he S'=>q σ' H' (by rw[run];exact he) (S'.base S5.out S.cl)⟩
 .intro w hw;rcases List.mem_cons.mp hw with rfl|hw
  .exact .inl ⟨(show Kw.plain≠Kw.entry by decide),nl,by omega,so.nc nl (by rw[<-hnl];exact Gj hnm),by rw[hnl]⟩
  .exact ttw w hw
 .simp only[Gd];omega
 .simp only[Gd];have:=bd.ms;show σ.ms.length+_<=_;omega
def qX(cls:Xc->Addr)(C:Addr):Sp:=λvs H Q E=>∃(A:Sad) (G:Hp) (c:Sc) (σ:Ss) ,vs=[.ref A.x]/\StA C G H A c σ/\kG c/\Bd σ 200/\(∀e,fe c σ 2 0 c.nums=.error e->∀H',am G H'->E (.ref (cls e)) none H')/\∀σ' H',fe c σ 2 0 c.nums=.ok σ'->StA C G H' A c σ'->Q .non H'
theorem db:aL ["self","lead","k","number","title"] ["self"] (av iO):=by walk_at "c"
theorem qY(T:Txt P w K mg a):a_ P w K mg base (CXe P w) 5 a.iZ a.iB ["self"] (qX (oK a.dF a.cY a.bZ a.cZ) a.aF):=by
 refine T.iU.fn.okE db (λvs H Q E h=>?_) (λcdv A outer s H vs Q E hr h=>?_)
 .obtain⟨A,G,c,σ,rfl,_⟩:=h;rfl
 obtain⟨A,G,c,σ,rfl,S,so,bd,qe,q⟩:=h;refine⟨_,(ag (aA (i:=1) db.nd rfl (Gr rfl) ah)
   (ai (cA Ic rfl (yI rfl T.fB (br (pv 0) rfl)) (fc rfl (bf (aS (i:=2) db.nd rfl (Gr rfl)) (bf (aS (i:=3) db.nd rfl (Gr rfl)) dW))) (ag (vZ (k:=4) rfl (eB (caps:=[]) (js:=[]) (cap:=trivial)) (bq (aJ bN (br (pv 0) rfl) (pv 2) (λ_ _=>rfl))) (λ_ _ _ _=>(jq (au iF (aJ (r:=lH K) bC (pv 0) ah (λ_ _=>rfl)) aq (nomark _)))) (λ_ _ _ _=>(pv 0)) db.nd rfl rfl)
   (ag (bj (dy fI T.aC T.dG (fD T) (hr.mono (by decide)) (pv 0) (aa (pv 1) (aa (aG gg (aG gg (aQ (aa (bp (aa aq (aa (pv 3) ae))) ae)) (pv 4)) (aQ (aa (bp (aa aq (aa (pv 2) ae))) ae))) (aa cN ae)))))
   (ai (aA (i:=1) db.nd rfl (Gr rfl) ah))))))),?_⟩
 refine⟨_,rfl,_,_,_,_,_,rfl,S.ins,T.aC.cl,T.fE,ui,A.na,rfl,⟨_,SqL.of (S.old _ _ S.cl.nums)⟩,xi (K:=K) (a:=A.na) (xs:=c.nums.map V.str) (λi σ' H2=>∃(ld:Int) (v2 v3 v4:Option V) (σ1:Ss),σ'=[some (.ref A.x),some (.int ld),v2,v3,v4]/\StA a.aF G H2 A c σ1/\fe c σ 2 0 c.nums=fe c σ1 ld i (c.nums.drop i)/\Bd σ1 200) ?_ ?_ ?_ ?_⟩
 .exact⟨2,none,none,none,σ,rfl,S,rfl,bd⟩
 .rintro i σ' H2 _ ⟨ld,v2,v3,v4,σ1,rfl,S1,_⟩;exact SqL.of (S1.old _ _ S1.cl.nums)
 .rintro k y σ' H1 p0 hy ⟨ld,v2,v3,v4,σ1,rfl,S1,er,bd1⟩ hp0;rw[GD]at hy;obtain⟨nm,hnm,rfl⟩:=Option.map_eq_some_iff.mp hy;obtain⟨hk,ek⟩:=List.getElem?_eq_some_iff.mp hnm;have ed:c.nums.drop k=nm::c.nums.drop (k+1):=by rw[Hg hk,ek]
  obtain⟨tt,htt⟩:∃tt,c.titles[k]?=some tt:=⟨c.titles[k]'(by rw[so.tl];exact hk),Ge _⟩;have e2:c.titles.getD k []=tt:=by rw[GL,htt];rfl
  obtain⟨nl,hnl,nll⟩:=so.nl nm (Gj hnm);obtain⟨ttl,ttw⟩:=so.tw tt (Gj htt);rw[ed]at er;have s0:=af hp0 (.tup [.int (k:Int),.str nm]);have k0:upd H1 p0 (.tup [.int (k:Int),.str nm]) p0=some (.tup [.int (k:Int),.str nm]):=ac;have S2:=S1.same s0;generalize upd H1 p0 (.tup [.int (k:Int),.str nm])=H2 at s0 k0 S2⊢;refine⟨p0,_,rfl,SqT.of k0,rfl,_,_,rfl,_,_,rfl,rfl,?_⟩;obtain⟨tvs,t1,t2⟩:=S2.cl.titles;obtain⟨v,hv,l,rfl,tl⟩:=t2.getR htt;obtain⟨us,u1,u2⟩:=tl.mono S2.old;have lu:=u2.len;refine⟨_,rfl,_,_,_,_,_,rfl,S2.ins,T.aC.cl,T.gf,vg,_,rfl,_,_,_,_,rfl,rfl,SqL.of (S2.old _ _ t1),cF hv,l,rfl,⟨_,SqL.of u1⟩,dC (K:=K) (a:=l) (xs:=us) (λi ys G'=>H2=G'/\ys.length<=i/\cb H2 ys (cM (tt.take i))) ⟨rfl,Gi _,trivial⟩ (λi ys G' _ z=>by rw[<-z.1];exact SqL.of u1) ?_ ?_ ?_⟩
  .rintro i ys G' hi ⟨_,z,_⟩;exact aw (by omega)
  .rintro i y ys G' hy ⟨rfl,zl,al⟩;obtain⟨w,hw,b,rfl,hb⟩:=u2.getL hy;have en:cM (tt.take (i+1))=cM (tt.take i)++cM [w]:=by
    rw[a7 hw];unfold cM;rw[Hj]
   refine⟨_,rfl,_,_,_,_,rfl,rfl,SqT.of hb,rfl,rfl,_,rfl,?_⟩;by_cases hm:w.1=.mark
   .rw[decide_eq_true (show V.str w.1.s=V.str "mark" by rw[hm];rfl)];refine ay ?_;refine⟨rfl,by omega,?_⟩;rw[en,show cM [w]=[]from by unfold cM;simp[hm],GF];exact al
   .rw[decide_eq_false (show ¬ (V.str w.1.s=V.str "mark")from λz=>hm (Kw.inj (b:=.mark) (V.str.inj z)))];refine aM ?_;refine⟨_,rfl,rfl,by rw[Ga];simp only[Gd,Gy];omega,?_⟩;rw[en,show cM [w]=[w]from by unfold cM;simp[hm]];exact al.snoc ⟨b,rfl,hb⟩
  rintro ys G' ⟨rfl,zl,al⟩ p1 hp1;rw[lu,Gz]at al;have ly:=al.len;have fk:(cM tt).length<=tt.length:=Hq _ _;have s1:=af hp1 (.lst ys);have k1:upd H2 p1 (.lst ys) p1=some (.lst ys):=ac;have S3:=S2.same s1;have al1:=cb.mono s1 al;generalize upd H2 p1 (.lst ys)=H3 at s1 k1 S3 al1⊢;refine⟨_,rfl,_,_,_,rfl,S3.ins,jl (by decide +kernel),_,rfl,_,rfl,le2,λp2 hp2=>?_⟩;have s2:=af hp2 (.tup [.str "plain",.str nm]);have k2:upd H3 p2 (.tup [.str "plain",.str nm]) p2=some (.tup [.str "plain",.str nm]):=ac;have S4:=S3.same s2;have k1':=s2 _ _ k1;have al2:=cb.mono s2 al1;generalize upd H3 p2 (.tup [.str "plain",.str nm])=H4 at s2 k2 S4 k1' al2⊢;refine⟨le1,λp3 hp3=>?_⟩;have s3:=af hp3 (.lst [.ref p2]);have k3:upd H4 p3 (.lst [.ref p2]) p3=some (.lst [.ref p2]):=ac;have k2':=s3 _ _ k2;have k1':=s3 _ _ k1';have S5:=S4.same s3;have al3:=cb.mono s3 al2;generalize upd H4 p3 (.lst [.ref p2])=H5 at s3 k3 k2' k1' S5 al3⊢;refine⟨_,rfl,_,_,_,_,rfl,rfl,k3,k1',(by show 1+ys.length<=_;exact GE (aw (by omega))),λp4 hp4=>?_⟩;have s4:=af hp4 (.lst ([.ref p2]++ys));have k4:upd H5 p4 (.lst ([.ref p2]++ys)) p4=some (.lst ([.ref p2]++ys)):=ac;have k2':=s4 _ _ k2';have S6:=S5.same s4;have al4:=cb.mono s4 al3;generalize upd H5 p4 (.lst ([.ref p2]++ys))=H6 at s4 k4 k2' S6 al4⊢;refine⟨_,rfl,le2,λp5 hp5=>?_⟩;have s5:=af hp5 (.tup [.str "entry",.int (k:Int)]);have k5:upd H6 p5 (.tup [.str "entry",.int (k:Int)]) p5=some (.tup [.str "entry",.int (k:Int)]):=ac;have k2':=s5 _ _ k2';have k4':=s5 _ _ k4;have S7:=S6.same s5;have al5:=cb.mono s5 al4;generalize upd H6 p5 (.tup [.str "entry",.int (k:Int)])=H7 at s5 k5 k2' k4' S7 al5⊢;refine⟨le1,λp6 hp6=>?_⟩;have s6:=af hp6 (.lst [.ref p5]);have k6:upd H7 p6 (.lst [.ref p5]) p6=some (.lst [.ref p5]):=ac;have k2':=s6 _ _ k2';have k4':=s6 _ _ k4';have k5':=s6 _ _ k5;have S8:=S7.same s6;have al6:=cb.mono s6 al5;generalize upd H7 p6 (.lst [.ref p5])=H8 at s6 k6 k2' k4' k5' S8 al6⊢;refine⟨_,_,_,_,rfl,rfl,k4',k6,(by rw[Ga];show(1+ys.length)+1<=_;exact GE (aw (by omega))),λp7 hp7=>?_⟩;have s7:=af hp7 (.lst ([.ref p2]++ys++[.ref p5]));have k7:upd H8 p7 (.lst ([.ref p2]++ys++[.ref p5])) p7=some (.lst (.ref p2::(ys++[.ref p5]))):=ac;have k2':=s7 _ _ k2';have k5':=s7 _ _ k5';have fr:=S8.fresh hp7;have S9:=S8.same s7;have al7:=cb.mono s7 al6;generalize upd H8 p7 (.lst ([.ref p2]++ys++[.ref p5]))=H9 at s7 k7 k2' k5' S9 al7⊢;have hws:cg c k nm=(.plain,.str nm)::(cM tt++[(.entry,.int (k:Int))]):=by unfold cg;rw[e2]
  have er2:fe c σ1 ld k (nm::c.nums.drop (k+1))=(match bX c σ1 ld false (cg c k nm)with|.error x=>.error x|.ok s'=>fe c s' 1 (k+1) (c.nums.drop (k+1))):=by
   show(match bX c σ1 ld false (cg c k nm)with|.error x=>_|.ok s'=>_)=_
   cases bX c σ1 ld false (cg c k nm)with
   |error x=>rfl
   |ok p=>rfl
  refine⟨A,hid A.os H9,c,σ1,ld,p7,false,cg c k nm,rfl,S9.re,so,?_,?_,?_,⟨bd1.ws,bd1.fs,?_⟩,λe he H' s'=>qe e (by rw[er,er2,he]) H' (S9.out.trans s'),λσ2 H' he S'=>?_⟩
  .rw[hws];exact uJ S9.nt fr ⟨_,k7,⟨p2,rfl,k2'⟩,al7.snoc ⟨p5,rfl,k5'⟩⟩
  .rw[hws];intro w hw;rcases List.mem_cons.mp hw with rfl|hw
   .exact .inl ⟨(show Kw.plain≠Kw.entry by decide),nl,by omega,so.nc nl (by rw[<-hnl];exact Gj hnm),by rw[hnl]⟩
   .rcases List.mem_append.mp hw with hw|hw
    .exact ttw w (List.mem_filter.mp hw).1
    .rw[List.mem_singleton.mp hw];exact .inr ⟨rfl,k,rfl⟩
  .rw[hws];simp only[Gd,Ga,Gy];omega
  .rw[hws];simp only[Gd,Ga,Gy];have:=bd1.ms;omega
  .rw[he]at er2;refine⟨1,_,_,_,σ2,rfl,S'.base S9.out S.cl,er.trans er2,?_⟩;have h1:=sU (hm:=?_) he
   .exact⟨h1.1 bd1.ws,h1.2.1 bd1.fs,by rw[h1.2.2];exact bd1.ms⟩
   .rw[hws];intro w hw;rcases List.mem_cons.mp hw with rfl|hw
    .show Kw.plain≠Kw.mark;decide
    .rcases List.mem_append.mp hw with hw|hw
     .simpa using(List.mem_filter.mp hw).2
     .rw[List.mem_singleton.mp hw];show Kw.entry≠Kw.mark;decide
 rintro σ' H2 ⟨ld,v2,v3,v4,σ1,rfl,S1,er,_⟩;rw[F9,Ip]at er;exact q _ _ er S1

def FZ(c:Sc)(σ:Ss):Tg->Prop
 |.head _ _=>σ.hs.length<c.nums.length
 |.par ws=>(∀w∈ws,GWk w)/\ws.length<=600
 |_=>True
def pV(cls:Xc->Addr)(C:Addr):Sp:=λvs H Q E=>∃(A:Sad) (G:Hp) (c:Sc) (σ:Ss) (v:V) (t:Tg),vs=[.ref A.x,v]/\StA C G H A c σ/\kG c/\TgA G v t/\FZ c σ t/\σ.hs.length<=1000/\Bd σ 600/\(∀e,gp c σ t=.error e->∀H',am G H'->E (.ref (cls e)) none H')/\∀σ' H',gp c σ t=.ok σ'->StA C G H' A c σ'->Q .non H'
theorem jH:aL ["self","thing","kind"] ["self","thing"] (av hV):=by walk_at "c"
theorem pW(T:Txt P w K mg a):a_ P w K mg base (CXe P w) 6 a.iy a.gQ ["self","thing"] (pV (oK a.dF a.cY a.bZ a.cZ) a.aF):=by
 have fQ:=T.fQ;obtain⟨fQ,k_LEAPS⟩:=fQ;refine T.il.fn.okE jH (λvs H Q E h=>?_) (λcdv A outer s H vs Q E hr h=>?_)
 .obtain⟨A,G,c,σ,v,t,rfl,_⟩:=h;rfl
 obtain⟨A,G,c,σ,v,t,rfl,S,so,tg,ok,hl,bd,qe,q⟩:=h;refine⟨_,(ag (aA (i:=2) jH.nd rfl (Gr rfl) (aJ bC (pv 1) ah (λ_ _=>rfl)))
   (ai (aI (au ve (pv 2) (c6 (v:=.ref a.df) rfl fQ rfl) (by with_unfolding_all rfl)) (ai (c7 (pv 0) (aH (mE rfl) rfl T.lB IC (aa (br (pv 0) rfl) (aa (xh (c6 (v:=.ref a.df) rfl fQ rfl) (pv 2) (λ_ _=>rfl)) ae))) rfl)) (ai (aI (au bn (pv 2) aq (nomark _)) (ai (bj (dy fI T.aC T.iT (qW T) (hr.mono (by decide)) (pv 0) (aa (aH bw rfl T.bO PySem.boot_len (aa (br (pv 0) rfl) ae)) ae)))) (ai (aI (au bn (pv 2) aq (nomark _)) (ai (bj (xm fI T.aC T.iU (qY T) (hr.mono (by decide)) (pv 0) ))) (ai (aI (dL (br (pv 0) rfl) (λ_=>rfl)) (ai (bj (dy fI T.aC T.dG (fD T) (hr.mono (by decide)) (pv 0) (aa ah (aa (aJ bC (pv 1) ah (λ_ _=>rfl)) (aa cN ae)))))) (ai (bj (dy fI T.aC T.dG (fD T) (hr.mono (by decide)) (pv 0) (aa ah (aa (aJ bC (pv 1) ah (λ_ _=>rfl)) (aa cN ae))))))))))))))),?_⟩
 have bd2:Bd σ 200:=⟨bd.ws,bd.fs,by have:=bd.ms;omega⟩;have L1:cX gT (.inr "page")=some (.int 3):=rfl;have L2:cX gT (.inr "odd")=some (.int 4):=by
  unfold gT;rw[dY (λz=>by injection z with z;exact absurd z (by decide +kernel)),lI rfl]
 have L0:∀s:Str,¬ (s = "page")->¬ (s = "odd")->cX gT (.inr s)=none:=λs h1 h2=>by
  unfold gT;rw[dY (λz=>h1 (by injection z with z;exact z.symm)),dY (λz=>h2 (by injection z with z;exact z.symm))];rfl
 have put:∀n:Int,StA a.aF G (upd H A.x (.ins a.aF A.dx (fsS A (σ.fs:Int) (if n>σ.lp then n else σ.lp) σ.bh))) A c { σ with lp:=if σ.lp<n then n else σ.lp }:=λn=>S.flds σ.fs (if n>σ.lp then n else σ.lp) σ.bh;cases t with
 |page =>
  obtain⟨b,rfl,hb⟩:=tg;refine⟨_,rfl,_,_,_,_,rfl,rfl,SqT.of (S.old _ _ hb),rfl,?_⟩;refine⟨_,rfl,a.df,gT,.inr "page",rfl,k_LEAPS,rfl,_,rfl,?_⟩;rw[L1];refine aM ?_;refine⟨_,rfl,_,_,_,_,_,rfl,S.ins,T.aC.cl,T.cJ,rZ,_,rfl,a.df,gT,.inr "page",_,rfl,k_LEAPS,rfl,L1,_,_,rfl,_,rfl,_,_,_,_,rfl,S.ins,T.aC.cl,T.cJ,og,?_⟩;rw[qz];exact q _ _ rfl (put 3)
 |odd =>
  obtain⟨b,rfl,hb⟩:=tg;refine⟨_,rfl,_,_,_,_,rfl,rfl,SqT.of (S.old _ _ hb),rfl,?_⟩;refine⟨_,rfl,a.df,gT,.inr "odd",rfl,k_LEAPS,rfl,_,rfl,?_⟩;rw[L2];refine aM ?_;refine⟨_,rfl,_,_,_,_,_,rfl,S.ins,T.aC.cl,T.cJ,rZ,_,rfl,a.df,gT,.inr "odd",_,rfl,k_LEAPS,rfl,L2,_,_,rfl,_,rfl,_,_,_,_,rfl,S.ins,T.aC.cl,T.cJ,og,?_⟩;rw[qz];exact q _ _ rfl (put 4)
 |lst =>
  obtain⟨b,rfl,hb⟩:=tg;refine⟨_,rfl,_,_,_,_,rfl,rfl,SqT.of (S.old _ _ hb),rfl,?_⟩;refine⟨_,rfl,a.df,gT,.inr "list",rfl,k_LEAPS,rfl,_,rfl,?_⟩;rw[L0 _ (by decide +kernel) (by decide +kernel)];refine ay ?_;refine⟨_,rfl,rfl,_,rfl,?_⟩;rw[decide_eq_false (λz=>absurd (V.str.inj z) (by decide +kernel))];refine ay ?_;refine⟨_,rfl,rfl,_,rfl,?_⟩;rw[decide_eq_true rfl];refine aM ?_;exact⟨_,rfl,_,_,_,rfl,S.ins,jl (by decide +kernel),A,G,c,σ,rfl,S,so,bd2,qe,λσ' H' e S'=>q σ' H' e S'⟩
 |head n ws =>
  obtain⟨b,l,rfl,hb,hl2⟩:=tg;obtain⟨hvs,h2,h3⟩:=S.heads;have lh:=h3.len;refine⟨_,rfl,_,_,_,_,rfl,rfl,SqT.of (S.old _ _ hb),rfl,?_⟩;refine⟨_,rfl,a.df,gT,.inr "head",rfl,k_LEAPS,rfl,_,rfl,?_⟩;rw[L0 _ (by decide +kernel) (by decide +kernel)];refine ay ?_;refine⟨_,rfl,rfl,_,rfl,?_⟩;rw[decide_eq_true rfl];refine aM ?_;refine⟨_,rfl,_,_,_,rfl,S.ins,jl (by decide +kernel),_,rfl,_,_,_,_,_,rfl,S.ins,T.aC.cl,T.dt,lO,_,_,rfl,.inl (SqL.of h2),?_⟩;rw[lh];exact⟨A,G,c,σ,σ.hs.length,rfl,S,so,ok,hl,bd2,qe,λσ' H' e S'=>q σ' H' e S'⟩
 |par ws =>
  obtain⟨b,l,rfl,hb,hl2⟩:=tg;refine⟨_,rfl,_,_,_,_,rfl,rfl,SqT.of (S.old _ _ hb),rfl,?_⟩;refine⟨_,rfl,a.df,gT,.inr "paragraph",rfl,k_LEAPS,rfl,_,rfl,?_⟩;rw[L0 _ (by decide +kernel) (by decide +kernel)];refine ay ?_;refine⟨_,rfl,rfl,_,rfl,?_⟩;rw[decide_eq_false (λz=>absurd (V.str.inj z) (by decide +kernel))];refine ay ?_;refine⟨_,rfl,rfl,_,rfl,?_⟩;rw[decide_eq_false (λz=>absurd (V.str.inj z) (by decide +kernel))];refine ay ?_;refine⟨_,rfl,_,_,_,_,_,rfl,S.ins,T.aC.cl,T.dh,oe,_,rfl,?_⟩;have bd3:Bd σ ws.length:=⟨bd.ws,bd.fs,by have:=bd.ms;have:=ok.2;omega⟩;cases hb2:σ.bh with
  |true =>
   refine aM ?_;have e0:gp c σ (.par ws)=bX c σ 1 false ws:=by show bX c σ (if σ.bh then 1 else 2) false ws=_;rw[hb2];rfl
   exact⟨_,rfl,_,_,_,rfl,S.ins,jl (by decide +kernel),_,rfl,_,_,_,_,rfl,rfl,SqT.of (S.old _ _ hb),rfl,A,G,c,σ,1,l,false,ws,rfl,S,so,hl2,ok.1,ok.2,bd3,λe he H' s'=>qe e (by rw[e0];exact he) H' s',λσ' H' he S'=>q σ' H' (by rw[e0];exact he) S'⟩
  |false =>
   refine ay ?_;have e0:gp c σ (.par ws)=bX c σ 2 false ws:=by show bX c σ (if σ.bh then 1 else 2) false ws=_;rw[hb2];rfl
   exact⟨_,rfl,_,_,_,rfl,S.ins,jl (by decide +kernel),_,rfl,_,_,_,_,rfl,rfl,SqT.of (S.old _ _ hb),rfl,A,G,c,σ,2,l,false,ws,rfl,S,so,hl2,ok.1,ok.2,bd3,λe he H' s'=>qe e (by rw[e0];exact he) H' s',λσ' H' he S'=>q σ' H' (by rw[e0];exact he) S'⟩
def pX(C:Addr):Sp:=λvs H Q _=>∃(A:Sad) (G:Hp) (c:Sc) (σ:Ss) (k:Nat),vs=[.ref A.x,.int (k:Int)]/\StA C G H A c σ/\Q (.str (k_ k "0" σ.hs)) H
theorem dz:aL ["self","k","number","text","at"] ["self","k"] (av hX):=by walk_at "c"
theorem pY(T:Txt P w K mg a):a_ P w K mg base CX0 1 a.ir a.gO ["self","k"] (pX a.aF):=by
 refine T.ik.fn.ok dz (λvs H Q E h=>?_) (λcdv A outer s H vs Q E hr h=>?_)
 .obtain⟨A,G,c,σ,k,rfl,_⟩:=h;rfl
 obtain⟨A,G,c,σ,k,rfl,S,q⟩:=h;refine⟨_,(ag (aA (i:=2) dz.nd rfl (Gr rfl) aq)
   (ag (cA Hb rfl (bq (br (pv 0) rfl)) (fc rfl (bf (aS (i:=3) dz.nd rfl (Gr rfl)) (bf (aS (i:=4) dz.nd rfl (Gr rfl)) dW))) (ai (aI (au Cv (pv 4) (pv 1) (nomark _)) (ai (aA (i:=2) dz.nd rfl (Gr rfl) (pv 3))) aK)))
   (ai (aP (pv 2))))),?_⟩
 obtain⟨hvs,h2,h3⟩:=S.heads;have lh:=h3.len;refine⟨_,rfl,_,_,_,_,_,rfl,S.ins,T.aC.cl,T.dt,lO,A.ha,rfl,⟨_,SqL.of h2⟩,cK (K:=K) (a:=A.ha) (xs:=hvs) (λi σ' H2=>H2=H/\∃(n:Str) (v1 v2:Option V),σ'=[some (.ref A.x),some (.int (k:Int)),some (.str n),v1,v2]/\k_ k "0" σ.hs=k_ k n (σ.hs.drop i)) ⟨rfl,_,none,none,rfl,rfl⟩ (λi σ' H2 _ g=>by rw[g.1];exact SqL.of h2) ?_ ?_⟩
 .rintro i y σ' H2 hy ⟨rfl,n,v1,v2,rfl,en⟩;obtain⟨⟨t,at_⟩,hw,b,rfl,hb⟩:=h3.getL hy;have ed:σ.hs.drop i=(t,at_)::σ.hs.drop (i+1):=by
   obtain⟨hi,e⟩:=List.getElem?_eq_some_iff.mp hw;rw[Hg hi,e]
  rw[ed]at en;have hb2:=bT _ _ hb;refine⟨b,_,rfl,SqT.of hb2,rfl,_,_,rfl,_,_,rfl,rfl,?_⟩;refine⟨_,rfl,_,rfl,_,_,rfl,rfl,_,rfl,?_⟩;by_cases c1:at_<=k
  .rw[decide_eq_true (show((at_:Nat):Int)<=(k:Int) by omega)];refine aM ?_;refine⟨_,rfl,rfl,_,_,_,rfl,?_⟩;rw[en];show k_ k (if at_<=k then t else n) _=_;rw[if_pos c1]
  .rw[decide_eq_false (show ¬ (((at_:Nat):Int)<=(k:Int)) by omega)];refine ay ?_;refine⟨rfl,_,_,_,rfl,?_⟩;rw[en];show k_ k (if at_<=k then t else n) _=_;rw[if_neg c1]
 rintro σ' H2 ⟨rfl,n,v1,v2,rfl,en⟩;rw[lh,Ip]at en;exact⟨_,rfl,by rw[show n=k_ k "0" σ.hs from en.symm];exact q⟩
def pZ(K:PySem.W.Frag)(C:Addr):Sp:=λvs H Q _=>∃(A:Sad) (G:Hp) (c:Sc) (σ:Ss) (w:Addr) (wk:Wk),vs=[.ref A.x,.ref w]/\StA C G H A c σ/\WkA H (.ref w) wk/\we σ wk/\∀p H' x y,H p=none->H'=upd H p (.tup [x,y])->zv σ wk=(x,y)->Q (.ref p) H'
theorem gy:aL ["self","word","kind","rest"] ["self","word"] (av hZ):=by walk_at "c"
theorem jI(T:Txt P w K mg a):a_ P w K mg base CX0 2 a.iu a.gP ["self","word"] (pZ K a.aF):=by
 refine T.fh.fn.ok gy (λvs H Q E h=>?_) (λcdv A outer s H vs Q E hr h=>?_)
 .obtain⟨A,G,c,σ,w,wk,rfl,_⟩:=h;rfl
 obtain⟨A,G,c,σ,w,wk,rfl,S,hw,ok,q⟩:=h;refine⟨_,(ag (aA (i:=2) gy.nd rfl (Gr rfl) (aJ bC (pv 1) ah (λ_ _=>rfl)))
   (ag (aA (i:=3) gy.nd rfl (Gr rfl) (aJ bC (pv 1) ah (λ_ _=>rfl)))
   (ag (aI (au bn (pv 2) aq (nomark _)) (ai (aP (bp (aa aq (aa (pv 3) ae))))) aK)
   (ag (aI (au bn (pv 2) aq (nomark _)) (ai (aP (bp (aa aq (aa (aJ bC (aJ bN (br (pv 0) rfl) (pv 3) (λ_ _=>rfl)) ah (λ_ _=>rfl)) ae))))) aK)
   (ag (aI (au bn (pv 2) aq (nomark _)) (ai (aP (bp (aa aq (aa (dy eU T.aC T.ik (pY T) (hr.mono (by decide)) (pv 0) (aa (uA (gS hr) (br (pv 0) rfl) (pv 3) (λ_ _=>rfl)) ae)) ae))))) aK)
   (ai (aP (bp (aa (pv 2) (aa (uA (gS hr) (br (pv 0) rfl) (pv 3) (λ_ _=>rfl)) ae)))))))))),?_⟩
 obtain⟨wb,e1,hb⟩:=hw;injection e1 with e1;subst e1;obtain⟨kd,v⟩:=wk;refine⟨_,rfl,_,_,_,_,rfl,rfl,SqT.of hb,rfl,?_⟩;refine⟨_,rfl,_,_,_,_,rfl,rfl,SqT.of hb,rfl,?_⟩;refine⟨_,rfl,rfl,_,rfl,?_⟩;rcases ok with⟨hk,n,hn⟩|⟨hk,k,hn,kl⟩|⟨hk,n,k,hn,km⟩<;>dsimp only at hk hn<;>subst hn
 .rw[decide_eq_true (by rw[hk];rfl)];refine aM ?_;exact⟨_,rfl,le2,λp1 hp1=>q p1 _ _ _ hp1 rfl (by rw[hk];rfl)⟩
 .rw[decide_eq_false (show ¬ (V.str kd.s=V.str "plain") by rw[hk];exact λz=>absurd (Kw.inj (b:=.plain) (V.str.inj z)) (by decide))];refine ay ?_;refine⟨_,rfl,rfl,_,rfl,?_⟩;rw[decide_eq_true (by rw[hk];rfl)];refine aM ?_;obtain⟨hvs,h2,h3⟩:=S.heads;obtain⟨⟨t,at_⟩,hw⟩:∃h,σ.hs[k]?=some h:=⟨σ.hs[k],Ge kl⟩;obtain⟨v,hv,b,rfl,hb2⟩:=h3.getR hw;refine⟨_,rfl,_,_,_,_,_,rfl,S.ins,T.aC.cl,T.dt,lO,_,rfl,_,_,_,_,rfl,rfl,SqL.of h2,cF hv,_,_,_,_,rfl,rfl,SqT.of (bT _ _ hb2),rfl,le2,λp2 hp2=>q p2 _ _ _ hp2 rfl ?_⟩
  .skip
   rw[hk];show(V.str "page",V.int (((σ.hs.getD (H_ (k:Int)) (Hy,0)).2:Nat):Int))=_;rw[Hx,GL,hw];rfl
 .have n1:¬ (V.str kd.s=V.str "plain"):=λz=>by rw[Kw.inj (b:=.plain) (V.str.inj z)]at hk;cases hk
  have n2:¬ (V.str kd.s=V.str "entry"):=λz=>by rw[Kw.inj (b:=.entry) (V.str.inj z)]at hk;cases hk
  rw[decide_eq_false n1];refine ay ?_;refine⟨_,rfl,rfl,_,rfl,?_⟩;rw[decide_eq_false n2];refine ay ?_;refine⟨_,rfl,rfl,_,rfl,?_⟩;have hg:gZ H A.ma (kV (.inr (tx n))) (some (.int (k:Int))):=by
   have:=gZ.k (k:=.inr (tx n)) S.marks;rw[oh,km]at this;exact this
  have em:sS σ (rest (.str (tx n)))=k:=by unfold sS;show(lkS (tx n) σ.ms).getD 0=k;rw[km];rfl
  by_cases h3:kd=.number
  .rw[decide_eq_true (by rw[h3];rfl)];refine aM ?_;refine⟨_,rfl,_,_,_,rfl,S.ins,jl (by decide +kernel),_,rfl,_,_,_,_,_,rfl,S.ins,T.aC.cl,T.cu,jk,_,rfl,_,_,rfl,hg,A,G,c,σ,k,rfl,S,le2,λp3 hp3=>q p3 _ _ _ hp3 rfl ?_⟩
   .skip
    rw[h3];show(V.str "text",V.str (k_ (sS σ (rest (.str (tx n)))) "0" σ.hs))=_;rw[em]
  .rw[decide_eq_false (show ¬ (V.str kd.s=V.str "number")from λz=>h3 (Kw.inj (b:=.number) (V.str.inj z)))];refine ay ?_;refine⟨_,rfl,_,rfl,_,_,_,_,_,rfl,S.ins,T.aC.cl,T.cu,jk,_,rfl,_,_,rfl,hg,le2,λp4 hp4=>q p4 _ _ _ hp4 rfl ?_⟩
   .skip
    cases hk1:kd with
    |page=>show(V.str "page",V.int ((sS σ (rest (.str (tx n))):Nat):Int))=_;rw[em];rfl
    |row=>show(V.str "row",V.int ((sS σ (rest (.str (tx n))):Nat):Int))=_;rw[em];rfl
    |number=>exact absurd hk1 h3
    |plain=>rw[hk1]at hk;cases hk
    |mark=>rw[hk1]at hk;cases hk
    |foot=>rw[hk1]at hk;cases hk
    |entry=>rw[hk1]at hk;cases hk
def oX(C:Addr):Sp:=λvs H Q _=>∃(A:Sad) (G:Hp) (c:Sc) (σ:Ss),vs=[.ref A.x]/\StA C G H A c σ/\CC σ/\σ.ws.length<=400/\∀p H' us fs,am H H'->le H H' σ p us fs->Q (.ref p) H'
theorem cI:aL ["self","told","lead","kept","word","foot"] ["self"] (av gt):=by walk_at "c"
theorem oY(T:Txt P w K mg a):a_ P w K mg base CX0 3 a.gJ a.ge ["self"] (oX a.aF):=by
 refine T.gG.fn.ok cI (λvs H Q E h=>?_) (λcdv A outer s H vs Q E hr h=>?_)
 .obtain⟨A,G,c,σ,rfl,_⟩:=h;rfl
 obtain⟨A,G,c,σ,rfl,S,ok,wl,q⟩:=h;refine⟨_,(ag (aA (i:=1) cI.nd rfl (Gr rfl) (aQ ae))
   (ag (cA Hb rfl (bq (br (pv 0) rfl)) (fc rfl (bf (aS (i:=2) cI.nd rfl (Gr rfl)) (bf (aS (i:=3) cI.nd rfl (Gr rfl)) (bf (aS (i:=4) cI.nd rfl (Gr rfl)) (bf (aS (i:=5) cI.nd rfl (Gr rfl)) dW))))) (ai (bj (cG PySem.F.plainAttrs_list PySem.F.slot_list_append PySem.F.type_list_append cB (pv 1) (aa (bp (aa (pv 2) (aa (pv 3) (aa (dy eU T.aC T.fh (jI T) (hr.mono (by decide)) (pv 0) (aa (pv 4) ae)) (aa (fY rfl (eB (caps:=["self"]) (js:=[0]) (cap:=⟨⟨rfl,.inl rfl,rfl,.inl rfl⟩,trivial⟩)) (bq (pv 5)) (λ_ _ _ _=>du) (λ_ _ _ _=>(dy eU T.aC T.fh (jI T) (hr.mono (by decide)) (pv 1) (aa (pv 0) ae)))) ae))))) ae)))))
   (ai (aP (pv 1))))),?_⟩
 obtain⟨wvs,w2,w3⟩:=S.words;have lw:=w3.len;refine⟨aN (by simp),λp1 hp1=>?_⟩;have s1:=af hp1 (.lst []);have k1:upd H p1 (.lst []) p1=some (.lst []):=ac;generalize upd H p1 (.lst [])=H1 at s1 k1⊢;have S1:=S.same s1;refine⟨_,rfl,_,_,_,_,_,rfl,S1.ins,T.aC.cl,T.cw,jj,A.wa,rfl,⟨_,SqL.of (s1 _ _ w2)⟩,cK (K:=K) (a:=A.wa) (xs:=wvs) (λi σ' G'=>∃(v2 v3 v4 v5:Option V) (us:List V) (fs:List Addr),σ'=[some (.ref A.x),some (.ref p1),v2,v3,v4,v5]/\am H G'/\G' p1=some (.lst us)/\fs.length=i/\fs.Nodup/\(∀f∈fs,H f=none/\f≠p1/\G' f≠none)/\aW (TwA σ (hid [p1] G')) us ((σ.ws.take i).zip fs)) ⟨none,none,none,none,[],[],rfl,s1,k1,rfl,List.nodup_nil,(by simp),trivial⟩ (λi σ' G' _ g=>by obtain⟨_,_,_,_,_,_,_,m,_⟩:=g;exact SqL.of (m _ _ w2)) ?_ ?_⟩
 .rintro i y σ' G1 hy ⟨v2,v3,v4,v5,us,fs,rfl,m,g1,fl,nd,fr,al⟩;obtain⟨t,ht,ta,wa',fa',rfl,h1,h2,h3⟩:=w3.getL hy;have hi:=(List.getElem?_eq_some_iff.mp ht).1;have h1:=m _ _ (bT _ _ h1);have h2:=(h2.mono bT).mono m;obtain⟨fu,h3,h4⟩:=(h3.mono bT).mono m;obtain⟨ok1,ok2,ok3⟩:=ok t (Gj ht);have lu:=al.len;rw[List.length_zip,GC]at lu;have lf:=h4.len;refine⟨ta,_,rfl,SqT.of h1,rfl,_,_,rfl,_,_,rfl,_,_,rfl,_,_,rfl,rfl,?_⟩;have Sg:=S.same m;refine⟨_,rfl,.inl ⟨rfl,_,SqL.of g1⟩,_,rfl,_,rfl,_,rfl,_,_,_,rfl,Sg.ins,jl (by decide +kernel),_,rfl,A,G,c,σ,wa',t.w,rfl,Sg,h2,ok1,λps G2 x y hps e es=>?_⟩;have s2:am G1 G2:=by rw[e];exact af hps _
  have ks:G2 ps=some (.tup [x,y]):=by rw[e];exact ac
  clear e;have m2:=m.trans s2;have Sg2:=S.same m2;refine⟨_,rfl,fa',rfl,⟨_,SqL.of (s2 _ _ h3)⟩,dC (K:=K) (a:=fa') (xs:=fu) (λj ys G3=>am G2 G3/\ys.length=j/\aW (SyA (hid [p1] G3)) ys ((t.foot.take j).map (zv σ))) ⟨am.refl _,rfl,trivial⟩ (λj ys G3 _ z=>SqL.of ((s2.trans z.1) _ _ h3)) ?_ ?_ ?_⟩
  .rintro j ys G3 hj ⟨_,z,_⟩;exact aw (by omega)
  .rintro j y' ys G3 hy' ⟨m3,z,al3⟩;obtain⟨w,hw,wb,rfl,hwb⟩:=h4.getL hy';refine dM ?_;have Sg3:=Sg2.same m3;refine⟨_,rfl,_,_,_,rfl,Sg3.ins,jl (by decide +kernel),_,rfl,A,G,c,σ,wb,w,rfl,Sg3,⟨wb,rfl,(s2.trans m3) _ _ hwb⟩,ok3 w (Gj hw),λpq G4 x' y'' hpq e' es'=>?_⟩;have s4:am G3 G4:=by rw[e'];exact af hpq _
   have kq:G4 pq=some (.tup [x',y'']):=by rw[e'];exact ac
   have np:pq≠p1:=λzz=>by rw[zz,(s2.trans m3) _ _ g1]at hpq;cases hpq
   refine⟨m3.trans s4,by rw[Ga,z];rfl,?_⟩;rw[a7 hw,Gm];refine(al3.imp λ_ _=>SyA.mono (a9 s4)).snoc ⟨pq,rfl,?_⟩;rw[es'];exact bo (by simpa using np) kq
  rintro ys G3 ⟨m3,z,al3⟩ pl hpl;rw[lf,Gz]at al3;have s4:=af hpl (.lst ys);have k4:upd G3 pl (.lst ys) pl=some (.lst ys):=ac;have npl:pl≠p1:=λzz=>by rw[zz,(s2.trans m3) _ _ g1]at hpl;cases hpl
  have nps:ps≠p1:=λzz=>by rw[zz,g1]at hps;cases hps
  have hHpl:H pl=none:=(m2.trans m3).free hpl;have nfs:pl∉fs:=λzz=>by
   have:=(fr pl zz).2.2;exact this (by cases e:G1 pl with|none=>rfl|some u=>rw[(s2.trans m3) _ _ e]at hpl;cases hpl)
  generalize upd G3 pl (.lst ys)=G4 at s4 k4⊢;have m4:=(m2.trans m3).trans s4;have g14:=(s2.trans m3).trans s4;refine⟨le4,λpt hpt=>?_⟩;have s5:=af hpt (.tup [.int t.lead,.bl t.kept,.ref ps,.ref pl]);have k5:upd G4 pt (.tup [.int t.lead,.bl t.kept,.ref ps,.ref pl]) pt=some (.tup [.int t.lead,.bl t.kept,.ref ps,.ref pl]):=ac;have npt:pt≠p1:=λzz=>by rw[zz,g14 _ _ g1]at hpt;cases hpt
  generalize upd G4 pt (.tup [.int t.lead,.bl t.kept,.ref ps,.ref pl])=G5 at s5 k5⊢;have m5:=m4.trans s5;have g15:=g14.trans s5;refine⟨_,_,_,rfl,rfl,g15 _ _ g1,aw (by omega),?_⟩;refine⟨_,_,_,_,us++[.ref pt],fs++[pl],rfl,aX m5 hp1,ac,by rw[Ga,fl];rfl,?_,?_,?_⟩
  .rw[Ie];refine⟨nd,by simp,λx hx y hy=>?_⟩;rw[List.mem_singleton.mp hy];exact λzz=>nfs (by rw[<-zz];exact hx)
  .intro f hf;rcases List.mem_append.mp hf with hf|hf
   .obtain⟨r1,r2,r3⟩:=fr f hf;refine⟨r1,r2,λzz=>r3 ?_⟩;rw[aj r2]at zz;exact g15.free zz
   .rw[List.mem_singleton.mp hf];refine⟨hHpl,npl,λzz=>?_⟩;rw[aj npl,s5 _ _ k4]at zz;cases zz
  .rw[bG (by simp),a7 ht,List.zip_append (by rw[GC,fl];omega)];have g5:=a9 (os:=[p1]) g15;refine(al.imp λ_ _=>TwA.mono g5).snoc ⟨pt,ps,ys,rfl,bo (by simpa using npt) k5,⟨ps,rfl,?_⟩,bo (by simpa using npl) (s5 _ _ k4),al3.imp λ_ _=>SyA.mono (a9 (s4.trans s5))⟩;dsimp only;rw[es];exact bo (by simpa using nps) ((m3.trans (s4.trans s5)) _ _ ks)
 rintro σ' G1 ⟨v2,v3,v4,v5,us,fs,rfl,m,g1,fl,nd,fr,al⟩;rw[lw,Gz]at al;exact⟨_,rfl,q p1 _ us fs m ⟨g1,hp1,fl.trans lw,nd,λf hf=>⟨(fr f hf).1,(fr f hf).2.1⟩,al⟩⟩

theorem Dy(p0 p1 p2:Addr):bS "going_on" (V.bl false) (bS "things" (V.ref p2) (bS "feet" (V.ref p1) (bS "shorts" (V.ref p0) [])))=([("shorts",V.ref p0),("feet",V.ref p1),("things",V.ref p2),("going_on",V.bl false)]:List (Str×V)):=by
 rw[show bS "shorts" (V.ref p0) []=([("shorts",V.ref p0)]:List (Str×V))from rfl];rw[oP (l:=([("shorts",V.ref p0)]:List (Str×V))) (by show([("shorts" : Str)]:List Str).all (λm=>m != "feet")=true;decide +kernel)];rw[oP (l:=([("shorts",V.ref p0)]:List (Str×V))++([("feet",V.ref p1)]:List (Str×V))) (by show([("shorts" : Str),("feet" : Str)]:List Str).all (λm=>m != "things")=true;decide +kernel)];rw[oP (l:=([("shorts",V.ref p0)]:List (Str×V))++([("feet",V.ref p1)]:List (Str×V))++([("things",V.ref p2)]:List (Str×V))) (by show([("shorts" : Str),("feet" : Str),("things" : Str)]:List Str).all (λm=>m != "going_on")=true;decide +kernel)];rfl

def uR(C:Addr):Sp:=λvs H Q _=>∃(x dx:Addr),vs=[.ref x]/\H x=some (.ins C dx [])/\∀H',(∀H0,am H0 H->H0 x=none->RdA C H0 H' x rs0)->FrX H H' x->Q .non H'
theorem uS:aL ["self"] ["self"] (av kJ):=by walk_at "c"
theorem uT(T:Txt P w K mg a):a_ P w K mg base CX0 1 a.kO a.jW ["self"] (uR a.bK):=by
 refine T.kM.fn.ok uS (λvs H Q E h=>?_) (λcdv A outer s H vs Q E hr h=>?_)
 .obtain⟨x,dx,rfl,_⟩:=h;rfl
 obtain⟨x,dx,rfl,hx,q⟩:=h;refine⟨_,(ag (c7 (pv 0) (aQ ae) rfl)
   (ag (c7 (pv 0) wY rfl)
   (ag (c7 (pv 0) (aQ ae) rfl)
   (ai (c7 (pv 0) cN rfl))))),?_⟩
 have k:=hx;have f:FrX H H x:=FrX.refl;have l:([]:List (Str×V)).length<=0:=Gi _;refine⟨aN (by simp),λp0 hp0=>?_⟩;obtain⟨H1,eH,b0,w0⟩:=ou (.lst []) hp0;rw[eH];have e0:=f.free k hp0;have f:=f.same w0;have k:=w0 _ _ k;have a0:=b0;have d0:p0≠x:=λz=>by rw[z,k]at a0;cases a0
 refine⟨_,rfl,_,_,_,_,rfl,k,T.bE.cl,T.jo,GA l (by decide),?_⟩;obtain⟨H2,L0,eH,g0,l,k,r⟩:=fL "shorts" (V.ref p0) k l;rw[eH];have f:=jV f r;have a0:=r _ _ d0 a0;intro p1 hp1;obtain⟨H3,eH,b1,w1⟩:=ou (.dK []) hp1;rw[eH];have e1:=f.free k hp1;have d0_1:p0≠p1:=eP a0 hp1;have f:=f.same w1;have k:=w1 _ _ k;have a0:=w1 _ _ a0;have a1:=b1;have d1:p1≠x:=λz=>by rw[z,k]at a1;cases a1
 refine⟨_,rfl,_,_,_,_,rfl,k,T.bE.cl,T.fR,GA l (by decide),?_⟩;obtain⟨H4,L1,eH,g1,l,k,r⟩:=fL "feet" (V.ref p1) k l;rw[eH];have f:=jV f r;have a0:=r _ _ d0 a0;have a1:=r _ _ d1 a1;refine⟨aN (by simp),λp2 hp2=>?_⟩;obtain⟨H5,eH,b2,w2⟩:=ou (.lst []) hp2;rw[eH];have e2:=f.free k hp2;have d0_2:p0≠p2:=eP a0 hp2;have d1_2:p1≠p2:=eP a1 hp2;have f:=f.same w2;have k:=w2 _ _ k;have a0:=w2 _ _ a0;have a1:=w2 _ _ a1;have a2:=b2;have d2:p2≠x:=λz=>by rw[z,k]at a2;cases a2
 refine⟨_,rfl,_,_,_,_,rfl,k,T.bE.cl,T.eS,GA l (by decide),?_⟩;obtain⟨H6,L2,eH,g2,l,k,r⟩:=fL "things" (V.ref p2) k l;rw[eH];have f:=jV f r;have a0:=r _ _ d0 a0;have a1:=r _ _ d1 a1;have a2:=r _ _ d2 a2;refine⟨_,rfl,_,_,_,_,rfl,k,T.bE.cl,T.dg,GA l (by decide),?_⟩;obtain⟨H7,L3,eH,g3,l,k,r⟩:=fL "going_on" (V.bl false) k l;rw[eH];have f:=jV f r;have a0:=r _ _ d0 a0;have a1:=r _ _ d1 a1;have a2:=r _ _ d2 a2;have eL:L3=([("shorts",V.ref p0),("feet",V.ref p1),("things",V.ref p2),("going_on",V.bl false)]:List (Str×V)):=by rw[<-g3,<-g2,<-g1,<-g0];exact Dy p0 p1 p2
 rw[eL]at k;exact q _ (λH0 m hx0=>⟨f.old m hx0,dx,p0,p1,p2,p2,[],[],k,bo (by simp;exact⟨d0,d0_1,d0_2⟩) a0,a1,a2,⟨hx0,m.free e1,m.free e2,m.free e2⟩,trivial,.inl ⟨rfl,rfl,trivial⟩⟩) f
def p_(C:Addr):Sp:=λvs H Q _=>∃(r:Addr) (v:V) (H0 H1:Hp) (s:Rs) (t:Tg),vs=[.ref r,v]/\RdA C H0 H1 r s/\am H1 H/\TgN H1 H v t/\s.things.length<=200/\∀H',RdA C H0 H' r { s with things:=s.things++[t],g:=false }->(∀dx sa fa ta vs g,H1 r=some (.ins C dx (fsR sa fa ta g))->H1 ta=some (.lst vs)->H'=upd (upd H ta (.lst (vs++[v]))) r (.ins C dx (fsR sa fa ta false)))->Q .non H'
theorem qb:aL ["self","thing"] ["self","thing"] (av h_):=by walk_at "c"
theorem gz(T:Txt P w K mg a):a_ P w K mg base CX0 1 a.im a.gK ["self","thing"] (p_ a.bK):=by
 refine T.dP.fn.ok qb (λvs H Q E h=>?_) (λcdv A outer s H vs Q E hr h=>?_)
 .obtain⟨r,v,H0,H1,s,t,rfl,_⟩:=h;rfl
 obtain⟨r,v,H0,H1,s,t,rfl,R,m,tn,sl,q⟩:=h;refine⟨_,(ag (bj (cG PySem.F.plainAttrs_list PySem.F.slot_list_append PySem.F.type_list_append cB (br (pv 0) rfl) (aa (pv 1) ae)))
   (ai (c7 (pv 0) cN rfl))),?_⟩
 obtain⟨dx,sa,fa,ta,kvs,vs,h1,h2,h3,h4,lv,lf,fn,put,_⟩:=R.use;have ne:r≠ta:=λz=>by rw[z,h4]at h1;cases h1
 refine⟨_,rfl,_,_,_,_,_,rfl,m _ _ h1,T.bE.cl,T.eS,qx,.inl ⟨rfl,_,SqL.of (m _ _ h4)⟩,_,rfl,_,_,_,rfl,rfl,m _ _ h4,aw (by omega),?_⟩;refine⟨_,rfl,_,_,_,_,rfl,(by rw[aj ne];exact m _ _ h1),T.bE.cl,T.dg,uG,?_⟩;rw[qy];refine q _ (put H v t m tn) λdx' sa' fa' ta' vs' g' e1 e2=>?_;rw[h1]at e1;injection e1 with e1;injection e1 with _ f1 f2;obtain⟨rfl,rfl,rfl,rfl⟩:=Di f2;subst f1;rw[h4]at e2;injection e2 with e2;injection e2 with e2;rw[e2]
def oZ(K:PySem.W.Frag)(C:Addr):Sp:=λvs H Q _=>∃(r la:Addr) (H0:Hp) (s:Rs) (w:List Nat) (rw:Rw),vs=[.ref r,.ref la]/\RdA C H0 H r s/\SqL K H la [.str (tx w)]/\CD w rw/\s.things.length<=200/\∀H',RdA C H0 H' r (bF s rw)->Q .non H'
theorem jB:aL ["self","words","first"] ["self","words"] (av gu):=by walk_at "c"
theorem o4(T:Txt P w K mg a):a_ P w K mg base CX0 2 a.gH a.gb ["self","words"] (oZ K a.bK):=by
 refine T.gE.fn.ok jB (λvs H Q E h=>?_) (λcdv A outer s H vs Q E hr h=>?_)
 .obtain⟨r,la,H0,s,w,rw,rfl,_⟩:=h;rfl
 obtain⟨r,la,H0,s,w,rw,rfl,R,hl,al,sl,q⟩:=h;refine⟨_,(ag (aA (i:=2) jB.nd rfl (Gr rfl) (aJ bN (pv 1) ah (λ_ _=>rfl)))
   (ag (aI (au ja (aH bw rfl T.bO PySem.boot_len (aa (pv 1) ae)) ah (nomark _)) (ai fW) aK)
   (ai (bj (dy eU T.bE T.dP (gz T) (hr.mono (by decide)) (pv 0) (aa (bp (aa (dm ki (pv 2) (dB ah) eJ) ae)) ae)))))),?_⟩
 refine⟨_,rfl,_,_,_,_,rfl,rfl,hl,rfl,?_⟩;refine⟨_,rfl,_,_,rfl,.inl hl,_,_,rfl,rfl,_,rfl,?_⟩;refine ay ?_;dsimp only[fV];obtain⟨dx,sa,fa,ta,kvs,vs,h1,_⟩:=R.use;refine⟨_,rfl,_,_,_,rfl,h1,mU (by decide +kernel),_,rfl,_,rfl,_,rfl,(by rcases al with⟨rfl,_⟩|⟨rfl,_⟩|⟨rfl,_⟩<;>exact aN (by decide)),le1,λp1 hp1=>?_⟩
 rcases al with⟨rfl,rfl⟩|⟨rfl,rfl⟩|⟨rfl,rfl⟩
 .exact⟨r,.ref p1,H0,H,s,.page,rfl,R,af hp1 _,⟨p1,rfl,by rw[fj];exact ac⟩,sl,λH' R' _=>q H' R'⟩
 .exact⟨r,.ref p1,H0,H,s,.odd,rfl,R,af hp1 _,⟨p1,rfl,by rw[fj];exact ac⟩,sl,λH' R' _=>q H' R'⟩
 .exact⟨r,.ref p1,H0,H,s,.lst,rfl,R,af hp1 _,⟨p1,rfl,by rw[fj];exact ac⟩,sl,λH' R' _=>q H' R'⟩
def zO:Sp:=λvs H Q _=>∃l:List Nat,vs=[.str (tx l)]/\l.length<=1000/\∀H',am H H'->Q (.bl (bQ l)) H'
theorem zP:aL ["word"] ["word"] (av qF):=by walk_at "c"
theorem o5(T:Txt P w K mg a):a_ P w K mg base CX0 1 a.rC a.pI ["word"] zO:=by
 have eI:=T.eI;have dR:=T.dR;have cp:=T.cp;obtain⟨t_FIGURES,eI⟩:=eI;obtain⟨t_LETTERS,dR⟩:=dR;obtain⟨t_LONGEST_NAME,cp⟩:=cp;refine T.kD.fn.ok zP (λvs H Q E h=>?_) (λcdv A outer s H vs Q E hr h=>?_)
 .obtain⟨l,rfl,_⟩:=h;rfl
 obtain⟨l,rfl,hl,q⟩:=h;refine⟨_,(ag (aI (PW.pt (iE (au bn (pv 0) aq (nomark _)) (i7 (au ja (aH dq rfl T.bO PySem.boot_len (aa (pv 0) ae)) (c6 (v:=.int 12) rfl cp ⟨_,rfl⟩) (nomark _))))) (ai (aP cN)) aK)
   (ai (aP (j6 (dA j9 (aJ ef (pv 0) ah (λ_ _=>rfl)) (c6 (v:=.str (PySem.Str.ofString "abcdefghijklmnopqrstuvwxyz")) rfl dR ⟨_,rfl⟩) (by with_unfolding_all rfl)) (jw (aH (BN rfl) rfl T.si PyProof.Rows.boot_all (aa (fY rfl (eB (caps:=[]) (js:=[]) (cap:=trivial)) (Ay (pv 0)) (λ_ _ _ _=>du) (λ_ _ _ _=>(Ct (dA j9 (pv 0) (c6 (v:=.str (PySem.Str.ofString "abcdefghijklmnopqrstuvwxyz")) rfl dR ⟨_,rfl⟩) (by with_unfolding_all rfl)) (jw (dA j9 (pv 0) (c6 (v:=.str (PySem.Str.ofString "0123456789")) rfl eI ⟨_,rfl⟩) (by with_unfolding_all rfl)))))) ae))))))),?_⟩
 refine⟨_,rfl,rfl,_,rfl,?_⟩;cases l with
 |nil =>
  rw[xv];refine aM ?_;refine aM ?_;exact q H (am.refl _)
 |cons c r =>
  rw[xu];refine ay ?_;refine⟨_,rfl,_,rfl,aN (by rw[aY];exact hl),_,_,rfl,rfl,_,rfl,?_⟩;rw[aY];refine eY (λh=>?_) (λh=>?_)
  .have h2:¬ (c::r).length<=12:=by have:=of_decide_eq_true h;omega
   have:=q H (am.refl _);rw[vk h2]at this;exact this
  .have h2:(c::r).length<=12:=by
    refine II λz=>h (decide_eq_true ?_);omega
   rw[oM h2]at q;refine⟨_,rfl,_,_,c,rfl,rfl,aN (by rw[aY];exact hl),fH c r,_,_,rfl,rfl,_,rfl,?_⟩;rw[AV];cases hc:isL c with
   |false =>
    rw[hc]at q;refine ay ?_;exact q H (am.refl _)
   |true =>
    rw[hc]at q;refine aM ?_;refine⟨_,rfl,_,rfl,Ea (x:=tx (c::r)) (λi ys H2=>H2=H/\ys=(((c::r).take i).map λd=>isL d||isF d).map V.bl) ⟨rfl,rfl⟩ ?_ ?_ ?_⟩
    .rintro i ys H2 hi ⟨rfl,rfl⟩;rw[F9,F9,GC];exact GA (show _<=12 by omega) (aw (by omega))
    .rintro i d ys H2 hd ⟨rfl,rfl⟩;rw[AB]at hd;refine dM ?_;refine⟨_,rfl,_,_,rfl,rfl,_,rfl,?_⟩;rw[AV,HF,hd];cases h3:isL d with
     |true =>
      refine aM ?_;refine⟨rfl,?_⟩;simp[h3]
     |false =>
      refine ay ?_;refine⟨_,rfl,_,_,rfl,rfl,?_⟩;rw[AW];refine⟨rfl,?_⟩;simp[h3]
    .rintro ys H2 ⟨rfl,rfl⟩ p hp;rw[yG,Ho (Gi _)];refine⟨_,_,rfl,SqL.of ac,?_⟩;rw[Es];have:=q _ (af hp (.lst ((((c::r)).map λd=>isL d||isF d).map V.bl)));rw[Jm]at this;exact this
def zQ:Sp:=λvs H Q _=>∃(c:Nat) (r:List Nat),vs=[.str (tx (c::r))]/\r.length<=900/\∀p H',H p=none->am H H'->H' p=some (.tup [.str (PySem.Str.ofString (lm (c::r)).1),.str (tx (lm (c::r)).2)])->Q (.ref p) H'
theorem o6:aL ["word","first","rest"] ["word"] (av qG):=by walk_at "c"
theorem zR(T:Txt P w K mg a):a_ P w K mg base CX0 2 a.rD a.pJ ["word"] zQ:=by
 have fP:=T.fP;obtain⟨fP,k_KINDS⟩:=fP;refine T.rh.fn.ok o6 (λvs H Q E h=>?_) (λcdv A outer s H vs Q E hr h=>?_)
 .obtain⟨c,r,rfl,_⟩:=h;rfl
 obtain⟨c,r,rfl,hl,q⟩:=h;refine⟨_,(ag (aA (i:=1) o6.nd rfl (Gr rfl) (dm ki (pv 0) eJ (dB ah)))
   (ag (aA (i:=2) o6.nd rfl (Gr rfl) (dm ki (pv 0) (dB ah) eJ))
   (ag (aI (PW.pt (fF (au ve (pv 1) (c6 (v:=.ref a.fb) rfl fP rfl) (by with_unfolding_all rfl)) (dU (dL (aD T.kD (o5 T) (hr.mono (by decide)) rfl (aa (pv 2) ae)) (λ_=>rfl))))) (ai (aP (bp (aa (xh (c6 (v:=.ref a.fb) rfl fP rfl) (pv 1) (λ_ _=>rfl)) (aa (pv 2) ae))))) aK)
   (ag (aI (PW.pt (fF (au bn (pv 1) aq (nomark _)) (dU (au iF (pv 2) aq (nomark _))))) (ai (aP (bp (aa aq (aa (pv 2) ae))))) aK)
   (ai (aP (bp (aa aq (aa (pv 0) ae))))))))),?_⟩
 have sz:(tx (c::r)).length<=Gv:=by rw[aY];exact aN (by simp only[Gd];omega)
 refine⟨_,rfl,_,rfl,_,rfl,sz,?_⟩;rw[FR];refine⟨_,rfl,_,rfl,_,rfl,sz,?_⟩;rw[FS]
 try dsimp only[bD]
 with_reducible refine cH (λσ' H'=>σ'=[some (.str (tx (c::r))),some (.str (tx [c])),some (.str (tx r))]/\am H H'/\lm (c::r)=if c=33/\r≠[]then("plain",r)else("plain",c::r)) ?_ (λkey=>?_)
 .rintro σ' H' ⟨rfl,s1,ek⟩;rw[ek]at q;refine⟨_,rfl,rfl,_,rfl,?_⟩;rw[Ff];refine eY (λh=>?_) (λh=>?_)
  .have h33:=of_decide_eq_true h;refine⟨_,rfl,rfl,_,rfl,?_⟩;cases r with
   |nil =>
    rw[xv];refine ay ?_;rw[if_neg (λz=>z.2 rfl)]at q;exact⟨_,rfl,le2,λp hp=>q p _ (s1.free hp) (s1.trans (af hp _)) ac⟩
   |cons d r =>
    rw[xu];refine aM ?_;rw[if_pos ⟨h33,by simp⟩]at q;exact⟨_,rfl,le2,λp hp=>q p _ (s1.free hp) (s1.trans (af hp _)) ac⟩
  .refine ay ?_;rw[if_neg (λz=>h (decide_eq_true z.1))]at q;exact⟨_,rfl,le2,λp hp=>q p _ (s1.free hp) (s1.trans (af hp _)) ac⟩
 .refine⟨_,rfl,a.fb,li,.inr (tx [c]),rfl,k_KINDS,rfl,_,rfl,?_⟩;cases hm:mk c with
  |none =>
   have:=B9 c hm;rw[show cX li (.inr (tx [c]))=none from this];refine ay ?_;refine ay ?_;refine key _ _ ⟨rfl,am.refl _,?_⟩;show(match mk c,bQ r with
    |some s,true=>(s,r)
    |_,_=>if c=33/\r≠[]then("plain",r)else("plain",c::r))=_
   rw[hm]
  |some s =>
   have hv:=B_ c s hm;rw[show cX li (.inr (tx [c]))=some (.str (PySem.Str.ofString s))from hv];refine aM ?_;refine⟨_,rfl,r,rfl,by omega,λH2 s2=>?_⟩;refine⟨_,rfl,?_⟩;cases hn:bQ r with
   |true =>
    refine aM ?_;have ek:lm (c::r)=(s,r):=by
     show(match mk c,bQ r with
      |some s,true=>(s,r)
      |_,_=>if c=33/\r≠[]then("plain",r)else("plain",c::r))=_
     rw[hm,hn]
    rw[ek]at q;exact⟨_,rfl,a.fb,li,.inr (tx [c]),_,rfl,k_KINDS,rfl,hv,_,rfl,le2,λp hp=>q p _ (s2.free hp) (s2.trans (af hp _)) ac⟩
   |false =>
    refine ay ?_;refine key _ _ ⟨rfl,s2,?_⟩;show(match mk c,bQ r with
     |some s,true=>(s,r)
     |_,_=>if c=33/\r≠[]then("plain",r)else("plain",c::r))=_
    rw[hm,hn]
def zS:Sp:=λvs H Q _=>∃(sa:Addr),vs=[.ref sa]/\H sa=some (.lst [])/\∀p H',H p=none->am H H'->H' p=some (.dK [])->Q (.ref p) H'
theorem zT:aL ["shorts"] ["shorts"] (av qH):=by walk_at "c"
theorem zU(T:Txt P w K mg a):a_ P w K mg base CX0 1 a.rB a.pH ["shorts"] zS:=by
 refine T.rc.fn.ok zT (λvs H Q E h=>?_) (λcdv A outer s H vs Q E hr h=>?_)
 .obtain⟨sa,rfl,_⟩:=h;rfl
 obtain⟨sa,rfl,hs,q⟩:=h;refine⟨_,(ai (aP (gX (ug rfl) rfl T.oz PyProof.Rows.boot_dict (aa (fY rfl (eB (caps:=[]) (js:=[]) (cap:=trivial)) (bq (pv 0)) (λ_ _ _ _=>du) (λ_ _ _ _=>(bp (aa (aJ (r:=lH K) bC (pv 0) ah (λ_ _=>rfl)) (aa (pv 0) ae))))) ae)))),?_⟩;refine⟨_,rfl,sa,rfl,⟨_,SqL.of hs⟩,dC (K:=K) (a:=sa) (xs:=[]) (λi ys G=>G=H/\ys=[]) ⟨rfl,rfl⟩ (λi ys G _ g=>by rw[g.1];exact SqL.of hs) (λi ys G hi _=>absurd hi (Jw _)) (λi y ys G hy _=>by simp at hy) ?_⟩;rintro ys G ⟨rfl,rfl⟩ p1 hp1;have s1:=af hp1 (.lst []);have k1:upd G p1 (.lst []) p1=some (.lst []):=ac;generalize upd G p1 (.lst [])=H1 at s1 k1⊢;exact⟨p1,[],[],rfl,SqL.of k1,by simp,⟨rfl,λj p k v e=>by simp at e⟩,λp2 hp2=>q p2 _ (s1.free hp2) (s1.trans (af hp2 _)) ac⟩
def vK:Sp:=λvs H Q _=>∃(d nl:Addr) (ws:List V) (ts:List (List Nat)),vs=[.ref d,.ref nl,.int 0]/\H nl=some (.lst ws)/\aW (NdA H) ws ts/\ts.length<=130/\∀p r H',H p=none->am H H'->H' p=some (.tup [.ref r,.int 0])->H' r=some (.lst [.int (ts.length:Int)])->Q (.ref p) H'
theorem jf:aL ["named","nodes","count","row","calls","node","short","k","argument","size"] ["named","nodes","count"] (av lV):=by walk_at "c"
theorem vL(T:Txt P w K mg a):a_ P w K mg base CX0 1 a.mj a.kU ["named","nodes","count"] vK:=by
 refine T.l_.fn.ok jf (λvs H Q E h=>?_) (λcdv A outer s H vs Q E hr h=>?_)
 .obtain⟨d,nl,ws,ts,rfl,_⟩:=h;rfl
 obtain⟨d,nl,ws,ts,rfl,hn,al,tl,q⟩:=h;refine⟨_,(ag (aA (i:=3) jf.nd rfl (Gr rfl) (aG kg (aQ (aa ah ae)) (aG ca (pv 2) ah)))
   (ag (aA (i:=4) jf.nd rfl (Gr rfl) ah)
   (ag (cA Hb rfl (bq (pv 1)) (aS (i:=5) jf.nd rfl (Gr rfl)) (ai (aI (au bn (aJ bC (pv 5) ah (λ_ _=>rfl)) aq (nomark _)) (ai (nR (aG ca (aJ bN (pv 3) ah (λ_ _=>rfl)) ah) (nQ (pv 3) ah jL))) gW)))
   (ai (aP (bp (aa (pv 3) (aa (pv 4) ae)))))))),?_⟩
 refine⟨aN (by simp),λp1 hp1=>?_⟩;have s1:=af hp1 (.lst [.int 0]);have k1:upd H p1 (.lst [.int 0]) p1=some (.lst [.int 0]):=ac;generalize upd H p1 (.lst [.int 0])=H1 at s1 k1⊢;refine⟨_,rfl,_,_,rfl,rfl,_,_,_,rfl,rfl,k1,(by omega),(by omega),aN (by simp),λp2 hp2=>?_⟩;have hp2':=s1.free hp2;dsimp only[bD];have s2:=af hp2 (.lst [V.int 0]);have k2:upd H1 p2 (.lst (Gc (H_ (0+1)) [V.int 0]).flatten) p2=some (.lst [V.int ((0:Nat):Int)]):=ac;change am H1 (upd H1 p2 (.lst (Gc (H_ (0+1)) [V.int 0]).flatten))at s2;generalize upd H1 p2 (.lst (Gc (H_ (0+1)) [V.int 0]).flatten)=H2 at s2 k2⊢;have s12:=s1.trans s2;have lw:=al.len;refine⟨_,rfl,nl,rfl,⟨_,SqL.of (s12 _ _ hn)⟩,cK (K:=K) (a:=nl) (xs:=ws) (λk σ G=>∃(vw:Option V),σ=[some (.ref d),some (.ref nl),some (.int 0),some (.ref p2),some (.int 0),vw,none,none,none,none]/\am H G/\G p2=some (.lst [.int (k:Int)])) ⟨none,rfl,s12,k2⟩ (λk σ G _ g=>by obtain⟨_,_,m,_⟩:=g;exact SqL.of (m _ _ hn)) ?_ ?_⟩
 .rintro k y σ G hy ⟨vw,rfl,m,g⟩;obtain⟨t,ht,b,rfl,hb⟩:=al.getL hy;refine⟨_,rfl,_,_,_,_,rfl,rfl,SqT.of (m _ _ hb),rfl,rfl,_,rfl,?_⟩;rw[decide_eq_true rfl];refine aM ?_;refine⟨_,rfl,_,_,_,_,rfl,rfl,SqL.of g,rfl,_,_,rfl,rfl,_,rfl,_,_,_,_,rfl,rfl,g,rfl,?_⟩;exact⟨_,rfl,aX m hp2',by rw[ac];rfl⟩
 rintro σ G ⟨vw,rfl,m,g⟩;rw[lw]at g;refine⟨_,rfl,_,rfl,le2,λp3 hp3=>?_⟩;exact q p3 p2 _ (m.free hp3) (m.trans (af hp3 _)) ac (af hp3 _ _ _ g)
def xQ:Sp:=λvs H Q _=>∃(d nl al:Addr) (ws:List V) (ts:List (List Nat)),vs=[.ref d,.ref nl,.ref al]/\H nl=some (.lst ws)/\aW (NdA H) ws ts/\ts.length<=130/\∀p H',H p=none->am H H'->H' p=some (.lst ((ts.map tx).map V.str))->Q (.ref p) H'
theorem lY:aL ["named","nodes","arguments","words","node","given"] ["named","nodes","arguments"] (av ng):=by walk_at "c"
theorem xR(T:Txt P w K mg a):a_ P w K mg base CX0 1 a.nM a.my ["named","nodes","arguments"] xQ:=by
 refine T.nE.fn.ok lY (λvs H Q E h=>?_) (λcdv A outer s H vs Q E hr h=>?_)
 .obtain⟨d,nl,ar,ws,ts,rfl,_⟩:=h;rfl
 obtain⟨d,nl,ar,ws,ts,rfl,hn,al,tl,q⟩:=h;refine⟨_,(ag (aA (i:=3) lY.nd rfl (Gr rfl) (aQ ae))
   (ag (cA Hb rfl (bq (pv 1)) (aS (i:=4) lY.nd rfl (Gr rfl)) (ai (aI (au bn (aJ bC (pv 4) ah (λ_ _=>rfl)) aq (nomark _)) (ai (bj (cG PySem.F.plainAttrs_list PySem.F.slot_list_append PySem.F.type_list_append cB (pv 3) (aa (aJ bC (pv 4) ah (λ_ _=>rfl)) ae)))) gW)))
   (ai (aP (pv 3))))),?_⟩
 refine⟨aN (by simp),λp1 hp1=>?_⟩;have s1:=af hp1 (.lst []);have lw:=al.len;refine⟨_,rfl,nl,rfl,⟨_,SqL.of (s1 _ _ hn)⟩,cK (K:=K) (a:=nl) (xs:=ws) (λk σ G=>∃(vw:Option V),σ=[some (.ref d),some (.ref nl),some (.ref ar),some (.ref p1),vw,none]/\am H G/\G p1=some (.lst (((ts.take k).map tx).map V.str))) ⟨none,rfl,s1,ac⟩ (λk σ G _ g=>by obtain⟨_,_,m,_⟩:=g;exact SqL.of (m _ _ hn)) ?_ ?_⟩
 .rintro k y σ G hy ⟨vw,rfl,m,g⟩;obtain⟨t,ht,b,rfl,hb⟩:=al.getL hy;have hk:=(List.getElem?_eq_some_iff.mp hy).1;refine⟨_,rfl,_,_,_,_,rfl,rfl,SqT.of (m _ _ hb),rfl,rfl,_,rfl,?_⟩;rw[decide_eq_true rfl];refine aM ?_;refine⟨_,rfl,.inl ⟨rfl,_,SqL.of g⟩,_,rfl,_,_,_,_,rfl,rfl,SqT.of (m _ _ hb),rfl,_,_,_,rfl,rfl,g,aw (by rw[F9,F9,GC];omega),?_⟩;refine⟨_,rfl,aX m hp1,?_⟩;rw[ac,a7 ht,Gm,Gm];rfl
 rintro σ G ⟨vw,rfl,m,g⟩;rw[lw,Gz]at g;exact⟨_,rfl,q p1 _ hp1 m g⟩
def zV:Sp:=λvs H Q _=>∃(sa nl:Addr) (ws:List V) (ts:List (List Nat)),vs=[.ref sa,.ref nl]/\H sa=some (.lst [])/\H nl=some (.lst ws)/\aW (NdA H) ws ts/\ts.length<=130/\∀p H',H p=none->am H H'->H' p=some (.lst ((ts.map tx).map V.str))->Q (.ref p) H'
theorem o7:aL ["shorts","nodes","named","size"] ["shorts","nodes"] (av qI):=by walk_at "c"
theorem zW(T:Txt P w K mg a):a_ P w K mg base CX0 2 a.rH a.pN ["shorts","nodes"] zV:=by
 have cU:=T.cU;have bJ:=T.bJ;obtain⟨t_MOST_CALLS,cU⟩:=cU;obtain⟨t_MOST_WORDS_shorts,bJ⟩:=bJ;refine T.rz.fn.ok o7 (λvs H Q E h=>?_) (λcdv A outer s H vs Q E hr h=>?_)
 .obtain⟨sa,nl,ws,ts,rfl,_⟩:=h;rfl
 obtain⟨sa,nl,ws,ts,rfl,hs,hn,al,tl,q⟩:=h;refine⟨_,(ag (aA (i:=2) o7.nd rfl (Gr rfl) (aD T.rc (zU T) (hr.mono (by decide)) rfl (aa (pv 0) ae)))
   (ag (aA (i:=3) o7.nd rfl (Gr rfl) (aD T.l_ (vL T) (hr.mono (by decide)) rfl (aa (pv 2) (aa (pv 1) (aa ah ae)))))
   (ag (aI (PW.pt (iE (au ja (aJ bN (aJ bC (pv 3) ah (λ_ _=>rfl)) ah (λ_ _=>rfl)) (c6 (v:=.int 400) rfl bJ ⟨_,rfl⟩) (nomark _)) (i7 (au ja (aJ bC (pv 3) ah (λ_ _=>rfl)) (c6 (v:=.int 400) rfl cU ⟨_,rfl⟩) (nomark _))))) (ai fW) aK)
   (ai (aP (aD T.nE (xR T) (hr.mono (by decide)) rfl (aa (pv 2) (aa (pv 1) (aa (aQ ae) ae))))))))),?_⟩
 refine⟨_,rfl,sa,rfl,hs,λp1 H1 hp1 s1 k1=>?_⟩;dsimp only[bD];refine⟨_,rfl,_,rfl,p1,nl,ws,ts,rfl,s1 _ _ hn,NdsA.mono s1 al,tl,λp2 r H2 hp2 s2 k2 k3=>?_⟩;dsimp only[bD];refine⟨_,rfl,_,_,_,_,rfl,rfl,SqT.of k2,rfl,_,_,_,_,rfl,rfl,SqL.of k3,rfl,_,_,rfl,rfl,_,rfl,?_⟩;rw[decide_eq_false (by omega)];refine ay ?_;refine⟨_,rfl,_,_,_,_,rfl,rfl,SqT.of k2,rfl,_,_,rfl,rfl,_,rfl,?_⟩;refine ay ?_;dsimp only[fV];have s12:=s1.trans s2;refine⟨_,rfl,_,rfl,aN (by simp),λp3 hp3=>?_⟩;have s3:=af hp3 (.lst []);have s13:=s12.trans s3;exact⟨p1,nl,p3,ws,ts,rfl,s13 _ _ hn,NdsA.mono s13 al,tl,λp4 H4 hp4 s4 k4=>q p4 H4 (s13.free hp4) (s13.trans s4) k4⟩
def zX:Sp:=λvs H Q _=>∃(w:List Nat),vs=[.str (tx w),.non]/\∀p,H p=none->Q (.ref p) (upd H p (.tup [.str "word",.str (tx w)]))
theorem zY:aL ["word","count","k"] ["word","count"] (av qJ):=by walk_at "c"
theorem zZ(T:Txt P w K mg a):a_ P w K mg base CX0 1 a.rG a.pM ["word","count"] zX:=by
 refine T.rq.fn.ok zY (λvs H Q E h=>?_) (λcdv A outer s H vs Q E hr h=>?_)
 .obtain⟨w,rfl,_⟩:=h;rfl
 obtain⟨w,rfl,q⟩:=h;refine⟨_,(ag (aI (PW.pt (iE (au D2 (pv 1) Ai (nomark _)) (i7 BX))) (ai (aP (bp (aa aq (aa (pv 0) ae))))) aK)
   gW),?_⟩
 refine⟨_,rfl,rfl,_,rfl,?_⟩;refine aM ?_;refine aM ?_;exact⟨_,rfl,le2,λp hp=>q p hp⟩
def vM:Sp:=λvs H Q _=>∃w:List Nat,vs=[.str (tx w)]/\w.length<=100/\∀H',am H H'->Q (.bl (opn w)) H'
theorem vN:aL ["word"] ["word"] (av lW):=by walk_at "c"
theorem vO(T:Txt P w K mg a):a_ P w K mg base CX0 2 a.mi a.kT ["word"] vM:=by
 refine T.l9.fn.ok vN (λvs H Q E h=>?_) (λcdv A outer s H vs Q E hr h=>?_)
 .obtain⟨w,rfl,_⟩:=h;rfl
 obtain⟨w,rfl,hw,q⟩:=h;refine⟨_,(ai (aP (j6 (dA bn (dm ki (pv 0) eJ (dB ah)) aq (nomark _)) (jw (aD T.kD (o5 T) (hr.mono (by decide)) rfl (aa (dm ki (pv 0) (dB ah) eJ) ae)))))),?_⟩;refine⟨_,rfl,_,rfl,_,rfl,aN (by rw[aY];omega),rfl,_,rfl,?_⟩;rw[fj,show jh w none (some 1)=w.take 1 from Tl.cut_to w 1,bY c91];cases w with
 |nil =>
  refine ay ?_;exact q H (am.refl _)
 |cons c r =>
  by_cases e:c=91
  .rw[decide_eq_true (show(c::r).take 1=[91] by rw[e];rfl)];refine aM ?_;refine⟨_,rfl,_,rfl,_,rfl,aN (by rw[aY];omega),r,?_,by simp at hw;omega,λH2 s2=>?_⟩
   .rw[fj,show jh (c::r) (some 1) none=(c::r).drop 1 from Tl.cut_from (c::r) 1];rfl
   .have:=q H2 s2;change Q (.bl (decide (c=91)&&bQ r)) H2 at this;rw[decide_eq_true e,Jm]at this;exact this
  .rw[decide_eq_false (show ¬ (c::r).take 1=[91]from λz=>e (by simpa using z))];refine ay ?_;have:=q H (am.refl _);change Q (.bl (decide (c=91)&&bQ r)) H at this;rw[decide_eq_false e,JE]at this;exact this
def z4(K:PySem.W.Frag):Sp:=λvs H Q _=>∃(la:Addr) (ts:List (List Nat)),vs=[.ref la,.non]/\SqL K H la ((ts.map tx).map V.str)/\ts.length<=130/\(∀t∈ts,opn t=false/\t.length<=100)/\∀p H' ws,H p=none->am H H'->H' p=some (.lst ws)->aW (NdA H') ws ts->Q (.ref p) H'
theorem lx:aL ["words","count","nodes","pending","word"] ["words","count"] (av qK):=by walk_at "c"
theorem z5(T:Txt P w K mg a):a_ P w K mg base CX0 3 a.rJ a.pO ["words","count"] (z4 K):=by
 refine T.rA.fn.ok lx (λvs H Q E h=>?_) (λcdv A outer s H vs Q E hr h=>?_)
 .obtain⟨la,ts,rfl,_⟩:=h;rfl
 obtain⟨la,ts,rfl,hW,tl,ok,q⟩:=h;have hu:=ID (gS hr);refine⟨_,(ag (aA (i:=2) lx.nd rfl (Gr rfl) (aQ ae))
   (ag (aA (i:=3) lx.nd rfl (Gr rfl) (aQ ae))
   (ag (cA Hb rfl (bq (pv 0)) (aS (i:=4) lx.nd rfl (Gr rfl)) (ai (aI (dL (aD T.l9 (vO T) (hr.mono (by decide)) rfl (aa (pv 4) ae)) (λ_=>rfl)) gW (ai (aI (PW.pt (fF (au bn (pv 4) aq (nomark _)) (dU (au (lL hu) (pv 3) (aQ ae) (nomark _))))) gW (ai (aI (PW.pt (fF (au bn (pv 4) aq (nomark _)) (dU (au (lL hu) (pv 3) (aQ ae) (nomark _))))) gW (ai (bj (cG PySem.F.plainAttrs_list PySem.F.slot_list_append PySem.F.type_list_append cB (pv 2) (aa (aD T.rq (zZ T) (hr.mono (by decide)) rfl (aa (pv 4) (aa (pv 1) ae))) ae)))))))))))
   (ag (aI (au (lL hu) (pv 3) (aQ ae) (nomark _)) (ai fW) aK)
   (ai (aP (pv 2))))))),?_⟩
 refine⟨aN (by simp),λp1 hp1=>?_⟩;have s1:=af hp1 (.lst []);have k1:upd H p1 (.lst []) p1=some (.lst []):=ac;generalize upd H p1 (.lst [])=H1 at s1 k1⊢;refine⟨aN (by simp),λp2 hp2=>?_⟩;have n1:=s1.free hp2;have n12:p1≠p2:=cr k1 hp2;have s2:=af hp2 (.lst []);have k2:upd H1 p2 (.lst []) p2=some (.lst []):=ac;generalize upd H1 p2 (.lst [])=H2 at s2 k2⊢;have s12:=s1.trans s2;refine⟨_,rfl,la,rfl,⟨_,s12.seq hW⟩,cK (K:=K) (a:=la) (xs:=(ts.map tx).map V.str) (λk σ G=>∃(vw:Option V) (ws:List V),σ=[some (.ref la),some .non,some (.ref p1),some (.ref p2),vw]/\am H G/\G p1=some (.lst ws)/\G p2=some (.lst [])/\aW (NdA (hid [p1] G)) ws (ts.take k)) ⟨none,[],rfl,s12,s2 _ _ k1,k2,trivial⟩ (λk σ G _ g=>by obtain⟨_,_,_,m,_⟩:=g;exact m.seq hW) ?_ ?_⟩
 .rintro k y σ G hy ⟨vw,ws,rfl,m,g1,g2,al⟩;obtain⟨w,hw,rfl⟩:=lP hy;obtain⟨o1,o2⟩:=ok w (Gj hw);have lw:=al.len;rw[GC]at lw;refine⟨_,rfl,w,rfl,o2,λG1 m1=>⟨_,rfl,?_⟩⟩;rw[o1];refine ay ?_;refine⟨_,rfl,rfl,_,rfl,?_⟩;rw[bY FT];by_cases b1:w=Ej
  .rw[decide_eq_true b1];refine aM ?_;refine⟨_,rfl,aN (by simp),λp3 hp3=>?_⟩;have m2:=m1.trans (af hp3 (.lst []));refine⟨_,_,_,rfl,rfl,SqL.of (m2 _ _ g2),SqL.of ac,_,rfl,?_⟩;refine ay ?_;refine⟨_,rfl,rfl,_,rfl,?_⟩;rw[bY Et,decide_eq_false (λz=>by rw[b1]at z;exact absurd z (by decide))];refine ay ?_;refine ay ?_;refine⟨_,rfl,.inl ⟨rfl,_,SqL.of (m2 _ _ g1)⟩,_,rfl,_,rfl,w,rfl,λp4 hp4=>?_⟩;have m3:=m2.trans (af hp4 (.tup [.str "word",.str (tx w)]));refine⟨_,_,_,rfl,rfl,m3 _ _ g1,aw (by omega),?_⟩;refine⟨_,_,rfl,aX (m.trans m3) hp1,ac,?_,?_⟩
   .rw[aj (GX n12)];exact m3 _ _ g2
   .rw[bG (by simp),a7 hw];exact(NdsA.mono (a9 m3) al).snoc ⟨p4,rfl,bo (by simp;exact GX (cr (m2 _ _ g1) hp4)) ac⟩
  rw[decide_eq_false b1];refine ay ?_;refine ay ?_;refine⟨_,rfl,rfl,_,rfl,?_⟩;rw[bY Et];by_cases b2:w=Ek
  .rw[decide_eq_true b2];refine aM ?_;refine⟨_,rfl,aN (by simp),λp3 hp3=>?_⟩;have m2:=m1.trans (af hp3 (.lst []));refine⟨_,_,_,rfl,rfl,SqL.of (m2 _ _ g2),SqL.of ac,_,rfl,?_⟩;refine ay ?_;refine⟨_,rfl,.inl ⟨rfl,_,SqL.of (m2 _ _ g1)⟩,_,rfl,_,rfl,w,rfl,λp4 hp4=>?_⟩;have m3:=m2.trans (af hp4 (.tup [.str "word",.str (tx w)]));refine⟨_,_,_,rfl,rfl,m3 _ _ g1,aw (by omega),?_⟩;refine⟨_,_,rfl,aX (m.trans m3) hp1,ac,?_,?_⟩
   .rw[aj (GX n12)];exact m3 _ _ g2
   .rw[bG (by simp),a7 hw];exact(NdsA.mono (a9 m3) al).snoc ⟨p4,rfl,bo (by simp;exact GX (cr (m2 _ _ g1) hp4)) ac⟩
  rw[decide_eq_false b2];refine ay ?_;refine ay ?_;have m2:=m1;refine⟨_,rfl,.inl ⟨rfl,_,SqL.of (m2 _ _ g1)⟩,_,rfl,_,rfl,w,rfl,λp4 hp4=>?_⟩;have m3:=m2.trans (af hp4 (.tup [.str "word",.str (tx w)]));refine⟨_,_,_,rfl,rfl,m3 _ _ g1,aw (by omega),?_⟩;refine⟨_,_,rfl,aX (m.trans m3) hp1,ac,?_,?_⟩
  .rw[aj (GX n12)];exact m3 _ _ g2
  .rw[bG (by simp),a7 hw];exact(NdsA.mono (a9 m3) al).snoc ⟨p4,rfl,bo (by simp;exact GX (cr (m2 _ _ g1) hp4)) ac⟩
 rintro σ G ⟨vw,ws,rfl,m,g1,g2,al⟩;rw[F9,F9,Gz]at al;refine⟨_,rfl,aN (by simp),λp5 hp5=>?_⟩;have m2:=af hp5 (.lst []);refine⟨_,_,_,rfl,rfl,SqL.of (m2 _ _ g2),SqL.of ac,_,rfl,?_⟩;refine ay ?_;exact⟨_,rfl,q p1 _ ws hp1 (m.trans m2) (m2 _ _ g1) (NdsA.mono (bT.trans m2) al)⟩
def qc(K:PySem.W.Frag)(C:Addr):Sp:=λvs H Q _=>∃(r la bt dx sa fa ta:Addr) (g:Bool) (ts:List (List Nat)) (bs:List Kw),vs=[.ref r,.ref la,.ref bt]/\H r=some (.ins C dx (fsR sa fa ta g))/\H sa=some (.lst [])/\SqL K H la ((ts.map tx).map V.str)/\SqT K H bt (bs.map kwV)/\ts.length<=130/\(∀t∈ts,oN t/\(kwL t).1∉bs)/\∀p H' ws,H p=none->am H H'->H' p=some (.lst ws)->cb (hid [p] H') ws (ts.map wkL)->Q (.ref p) H'
theorem eW:aL ["self","words","barred","read","kind","rest"] ["self","words","barred"] (av ia):=by walk_at "c"
theorem gC(T:Txt P w K mg a):a_ P w K mg base CX0 4 a.ip a.gM ["self","words","barred"] (qc K a.bK):=by
 have cq:=T.cq;obtain⟨t_LONGEST_TEXT,cq⟩:=cq;refine T.dQ.fn.ok eW (λvs H Q E h=>?_) (λcdv A outer s H vs Q E hr h=>?_)
 .obtain⟨r,la,bt,dx,sa,fa,ta,g,ts,bs,rfl,_⟩:=h;rfl
 obtain⟨r,la,bt,dx,sa,fa,ta,g,ts,bs,rfl,hr_,hs,hl,hb,tl,ok,q⟩:=h;refine⟨_,(ag (vZ (k:=3) rfl (eB (caps:=[]) (js:=[]) (cap:=trivial)) (bq (aD T.rz (zW T) (hr.mono (by decide)) rfl (aa (br (pv 0) rfl) (aa (AH (dx:=.non) T.rA rfl (z5 T) (hr.mono (by decide)) rfl (aa (pv 1) ae)) ae)))) (λ_ _ _ _=>du) (λ_ _ _ _=>(aD T.rh (zR T) (hr.mono (by decide)) rfl (aa (pv 0) ae))) eW.nd rfl rfl)
   (ag (cA Hb rfl (bq (pv 3)) (fc rfl (bf (aS (i:=4) eW.nd rfl (Gr rfl)) (bf (aS (i:=5) eW.nd rfl (Gr rfl)) dW))) (ag (aI (au gY (pv 4) (pv 2) (by with_unfolding_all rfl)) (ai fW) aK)
   (ai (aI (PW.pt (fF (au bn (pv 4) aq (nomark _)) (dU (au ja (aH dq rfl T.bO PySem.boot_len (aa (pv 5) ae)) (c6 (v:=.int 60) rfl cq ⟨_,rfl⟩) (nomark _))))) (ai fW) aK))))
   (ai (aP (pv 3))))),?_⟩
 refine⟨_,rfl,_,_,_,_,_,rfl,hr_,T.bE.cl,T.jo,AO,_,rfl,la,ts,rfl,hl,tl,(λt ht=>⟨(ok t ht).1.opn,by have:=(ok t ht).1.len;omega⟩),λp1 H1 ws hp1 s1 k1 al=>?_⟩;refine⟨sa,p1,ws,ts,rfl,s1 _ _ hs,k1,al,tl,λp2 H2 hp2 s2 k2=>?_⟩;have s12:=s1.trans s2;refine⟨p2,rfl,⟨_,SqL.of k2⟩,dC (K:=K) (a:=p2) (xs:=(ts.map tx).map V.str) (λi ys G=>am H2 G/\ys.length=i/\cb G ys ((ts.take i).map wkL)) ⟨am.refl _,rfl,trivial⟩ (λi ys G _ g=>SqL.of (g.1 _ _ k2)) ?_ ?_ ?_⟩
 .rintro i ys G hi ⟨_,e,_⟩;rw[F9,F9]at hi;rw[e];exact aw (by omega)
 .rintro i y ys G hy ⟨m,e,al⟩;obtain⟨t,ht,rfl⟩:=lP hy;have gd:=(ok t (Gj ht)).1;refine dM ?_;cases t with
  |nil=>exact absurd rfl gd.ne
  |cons c u =>
  have gl:=gd.len;simp only[Gd]at gl;refine⟨_,rfl,c,u,rfl,by omega,λp H3 hp m3 k3=>⟨m.trans m3,by rw[Ga,e];rfl,?_⟩⟩;rw[a7 ht,Gm];refine(cb.mono m3 al).snoc ⟨p,rfl,?_⟩;obtain⟨e1,e2⟩:=Do (c::u);rw[k3,e1,e2];rfl
 rintro ys G ⟨m,e,al⟩ p3 hp3;rw[F9,F9]at e;rw[F9,F9,Gz]at al;have hfree:=(s12.trans m).free hp3;have s3:=af hp3 (.lst ys);have k3:upd G p3 (.lst ys) p3=some (.lst ys):=ac;have al3:=cb.mono (jR s3 (os:=[p3]) (λb hb=>by rw[List.mem_singleton.mp hb];exact hp3)) al;generalize upd G p3 (.lst ys)=G3 at s3 k3 al3⊢;have s13:=s12.trans (m.trans s3);refine⟨_,rfl,p3,rfl,⟨_,SqL.of k3⟩,cK (K:=K) (a:=p3) (xs:=ys) (λi σ G=>∃(v1 v2:Option V),σ=[some (.ref r),some (.ref la),some (.ref bt),some (.ref p3),v1,v2]/\am G3 G) ⟨none,none,rfl,am.refl _⟩ (λi σ G _ g=>by obtain⟨_,_,_,m⟩:=g;exact SqL.of (m _ _ k3)) ?_ ?_⟩
 .rintro i y σ G hy ⟨v1,v2,rfl,m⟩;obtain⟨w,hw,b,rfl,hb'⟩:=al3.getL hy;rw[GD]at hw;obtain⟨t,ht,rfl⟩:=Option.map_eq_some_iff.mp hw;obtain⟨gd,nb⟩:=ok t (Gj ht);have hG:=m _ _ (bT _ _ hb');refine⟨b,_,rfl,SqT.of hG,rfl,_,_,rfl,_,_,rfl,rfl,?_⟩;refine⟨_,rfl,_,rfl,_,_,rfl,.inr ((s13.trans m).tup hb),rfl,xx bs,_,rfl,?_⟩;change (if(if false=true then _ else inV (kwV (wkL t).1) (bs.map kwV))=true then _ else _);rw[sJ (k:=(wkL t).1) nb];refine ay ?_;dsimp only[fV];refine⟨_,rfl,rfl,_,rfl,?_⟩;by_cases pk:(kwL t).1=.plain
  .refine eY (λ_=>?_) (λ_=>?_)
   .have pl:=gd.pl pk;refine⟨_,rfl,_,rfl,aN (by rw[aY];omega),_,_,rfl,rfl,_,rfl,?_⟩;rw[aY,decide_eq_false (by omega)];refine ay ?_;exact⟨_,_,rfl,m⟩
   .refine ay ?_;exact⟨_,_,rfl,m⟩
  .have:¬ (V.str (wkL t).1.s=V.str "plain"):=λz=>pk (Kw.inj (b:=.plain) (V.str.inj z));rw[decide_eq_false this];refine ay ?_;refine ay ?_;exact⟨_,_,rfl,m⟩
 rintro σ G ⟨v1,v2,rfl,m⟩;exact⟨_,rfl,q p3 G ys (hfree) (s13.trans m) (m _ _ k3) (cb.mono (a9 m) al3)⟩
def qd(K:PySem.W.Frag)(C:Addr):Sp:=λvs H Q _=>∃(r la:Addr) (H0:Hp) (s:Rs) (n:List Nat) (ts:List (List Nat)),vs=[.ref r,.ref la]/\RdA C H0 H r s/\SqL K H la (((dI::n::ts).map tx).map V.str)/\bQ n=true/\n.length<=12/\ts.length<=39/\(∀t∈ts,oN t/\(kwL t).1∉[Kw.mark,Kw.foot])/\lkS (tx n) s.feet=none/\s.feet.length<=200/\∀H',RdA C H0 H' r (bF s (.foot (tx n) (ts.map wkL)))->Q .non H'
theorem gD:aL ["self","words","name","text"] ["self","words"] (av ib):=by walk_at "c"
theorem qf(T:Txt P w K mg a):a_ P w K mg base CX0 5 a.io a.gL ["self","words"] (qd K a.bK):=by
 have bW:=T.bW;obtain⟨t_MOST_FOOT_WORDS,bW⟩:=bW;refine T.ii.fn.ok gD (λvs H Q E h=>?_) (λcdv A outer s H vs Q E hr h=>?_)
 .obtain⟨r,la,H0,s,n,ts,rfl,_⟩:=h;rfl
 obtain⟨r,la,H0,s,n,ts,rfl,R,hl,nn,nl,tl,ok,nt,sl,q⟩:=h;refine⟨_,(ag (aI (PW.pt (iE (au vU (aH bw rfl T.bO PySem.boot_len (aa (pv 1) ae)) ah (nomark _)) (i7 (lE (dL (aD T.kD (o5 T) (hr.mono (by decide)) rfl (aa (aJ bN (pv 1) ah (λ_ _=>rfl)) ae)) (λ_=>rfl)))))) (ai fW) aK)
   (ag (aA (i:=2) gD.nd rfl (Gr rfl) (aJ bN (pv 1) ah (λ_ _=>rfl)))
   (ag (aI (au (uc (gS hr)) (pv 2) (br (pv 0) rfl) (by with_unfolding_all rfl)) (ai fW) aK)
   (ag (aA (i:=3) gD.nd rfl (Gr rfl) (dy eU T.bE T.dQ (gC T) (hr.mono (by decide)) (pv 0) (aa (dm nU (pv 1) (dB ah) eJ) (aa (bp (aa aq (aa aq ae))) ae))))
   (ag (aI (au ja (aH bw rfl T.bO PySem.boot_len (aa (pv 3) ae)) (c6 (v:=.int 39) rfl bW ⟨_,rfl⟩) (nomark _)) (ai fW) aK)
   (ai (yF (gS hr) (br (pv 0) rfl) (pv 2) (pv 3) rfl))))))),?_⟩
 refine⟨_,rfl,_,_,rfl,.inl hl,_,_,rfl,rfl,_,rfl,?_⟩;rw[decide_eq_false (show ¬ ((((((dI::n::ts).map tx).map V.str).length:Nat):Int)<2) by simp;omega)];refine ay ?_;refine⟨_,rfl,_,_,_,_,rfl,rfl,hl,cF (j:=1) rfl,n,rfl,(by omega),λH1 s1=>⟨_,rfl,?_⟩⟩;rw[nn];refine ay ?_;dsimp only[fV];refine⟨_,rfl,_,_,_,_,rfl,rfl,s1.seq hl,cF (j:=1) rfl,?_⟩;obtain⟨dx,sa,fa,ta,kvs,vs,h1,h2,h3,h4,lv,lf,fn,put,stop,foot,_⟩:=(R.same s1).use;refine⟨_,rfl,_,rfl,_,_,_,_,_,rfl,h1,T.bE.cl,T.fR,uF,_,_,rfl,gZ.k (k:=.inr (tx n)) h3,_,rfl,?_⟩;rw[fn _ nt];refine ay ?_;dsimp only[fV];refine⟨_,rfl,_,_,_,rfl,h1,mU (by decide +kernel),_,rfl,_,rfl,_,_,rfl,s1.seq hl,λp1 hp1=>?_⟩;have s2:=af hp1 (.lst (fX (((dI::n::ts).map tx).map V.str) (some 2) none));have k2:upd H1 p1 (.lst (fX (((dI::n::ts).map tx).map V.str) (some 2) none)) p1=some (.lst ((ts.map tx).map V.str)):=by
  rw[ac];have:=Tl.cut_from (((dI::n::ts).map tx).map V.str) 2;exact congrArg (λl=>some (HO.lst l)) this
 generalize upd H1 p1 (.lst (fX (((dI::n::ts).map tx).map V.str) (some 2) none))=H2 at s2 k2⊢;refine⟨le2,λp2 hp2=>?_⟩;have s3:=af hp2 (.tup [kwV .mark,kwV .foot]);have k3:upd H2 p2 (.tup [kwV .mark,kwV .foot]) p2=some (.tup [kwV .mark,kwV .foot]):=ac;have s23:=s2.trans s3;refine⟨r,p1,p2,dx,sa,fa,ta,s.g,ts,[.mark,.foot],rfl,s23 _ _ h1,s23 _ _ h2,SqL.of (s3 _ _ k2),SqT.of k3,(by omega),ok,λp4 H4 ws hp4 s4 k4 al=>?_⟩;have s14:=s23.trans s4;have lw:=al.len;rw[F9]at lw;refine⟨_,rfl,_,_,rfl,.inl (SqL.of k4),_,_,rfl,rfl,_,rfl,?_⟩;rw[decide_eq_false (by omega)];refine ay ?_;dsimp only[fV];refine⟨_,rfl,_,rfl,_,_,_,_,_,rfl,s14 _ _ h1,T.bE.cl,T.fR,uF,_,rfl,_,_,rfl,uz.k (k:=.inr (tx n)) (s14 _ _ h3) (aw (by omega)),?_⟩;rw[wX _ (fn _ nt)];exact q _ (foot H4 _ p4 _ s14 (s23.free hp4) ⟨ws,k4,cb.mono bT al⟩)
def o8(K:PySem.W.Frag)(C:Addr):Sp:=λvs H Q _=>∃(r la:Addr) (H0:Hp) (s:Rs) (ts:List (List Nat)),vs=[.ref r,.ref la]/\RdA C H0 H r s/\SqL K H la ((ts.map tx).map V.str)/\ts.length<=130/\(∀t∈ts,oN t)/\s.things.length<=200/\tgS s.things<=500/\∀H',RdA C H0 H' r (bF s (.par (ts.map wkL)))->Q .non H'
theorem jC:aL ["self","words","read"] ["self","words"] (av gv):=by walk_at "c"
theorem o9(T:Txt P w K mg a):a_ P w K mg base CX0 5 a.gI a.gc ["self","words"] (o8 K a.bK):=by
 refine T.gF.fn.ok jC (λvs H Q E h=>?_) (λcdv A outer s H vs Q E hr h=>?_)
 .obtain⟨r,la,H0,s,ts,rfl,_⟩:=h;rfl
 obtain⟨r,la,H0,s,ts,rfl,R,hl,tl,ok,sl,sn,q⟩:=h;refine⟨_,(ag (aA (i:=2) jC.nd rfl (Gr rfl) (dy eU T.bE T.dQ (gC T) (hr.mono (by decide)) (pv 0) (aa (pv 1) (aa (bp ae) ae))))
   (ai (aI (dL (br (pv 0) rfl) (λ_=>rfl)) (ai (bj (cG PySem.F.plainAttrs_list PySem.F.slot_list_extend PySem.F.type_list_extend j_ (aJ bC (aJ bN (br (pv 0) rfl) (rS nT ah) (λ_ _=>rfl)) ah (λ_ _=>rfl)) (aa (pv 2) ae)))) (ag (bj (dy eU T.bE T.dP (gz T) (hr.mono (by decide)) (pv 0) (aa (bp (aa aq (aa (pv 2) ae))) ae)))
   (ai (c7 (pv 0) cN rfl)))))),?_⟩
 obtain⟨dx,sa,fa,ta,kvs,vs,h1,h2,h3,h4,lv,lf,fn,put,stop,foot,more,first,_⟩:=R.use
 refine⟨_,rfl,_,_,_,rfl,h1,mU (by decide +kernel),_,rfl,aN (by simp),λp1 hp1=>?_⟩;have s1:=af hp1 (.tup []);refine⟨r,la,p1,dx,sa,fa,ta,s.g,ts,[],rfl,s1 _ _ h1,s1 _ _ h2,s1.seq hl,SqT.of ac,tl,(λt ht=>⟨ok t ht,by simp⟩),λp2 H2 ws hp2 s2 k2 al=>?_⟩;dsimp only[bD];have s12:=s1.trans s2;refine⟨_,rfl,_,_,_,_,_,rfl,s12 _ _ h1,T.bE.cl,T.dg,yk,_,rfl,?_⟩;by_cases g:s.g=true
 .rw[g];refine aM ?_;obtain⟨vi,a,lo,wvs,ini,ws0,e1,e2,e3,e4,e5,key⟩:=more g;have hw:=Dk (ini:=ini) (ws:=ws0);rw[<-e4]at hw;have lw:=al.len;rw[F9]at lw;refine⟨_,rfl,_,_,_,_,_,rfl,s12 _ _ h1,T.bE.cl,T.eS,qx,_,rfl,_,_,_,_,rfl,rfl,SqL.of (s12 _ _ h4),(by rw[e1];exact jP _ _),_,_,_,_,rfl,rfl,SqT.of (s12 _ _ e2),rfl,.inl ⟨rfl,_,SqL.of (s12 _ _ e3)⟩,_,rfl,_,_,_,_,rfl,rfl,s12 _ _ e3,k2,GE (aw (by omega)),?_⟩;have:=key H2 ws (ts.map wkL) s12 (cb.mono bT al);refine q _ ?_;rw[show bF s (.par (ts.map wkL))={ s with things:=aZ (ts.map wkL) s.things }from by unfold bF;exact if_pos g];exact this
 .rw[Hw]at g;rw[g];refine ay ?_;refine⟨_,rfl,_,_,_,rfl,s12 _ _ h1,mU (by decide +kernel),_,rfl,le2,λp3 hp3=>?_⟩;have s3:=af hp3 (.tup [.str "paragraph",.ref p2]);have k3:upd H2 p3 (.tup [.str "paragraph",.ref p2]) p3=some (.tup [.str "paragraph",.ref p2]):=ac;have s13:=s12.trans s3;have hp2':=s1.free hp2;generalize upd H2 p3 (.tup [.str "paragraph",.ref p2])=H3 at s3 k3 s13⊢;have la2:cQ H3 p2 (ts.map wkL):=⟨ws,s3 _ _ k2,cb.mono (bT.trans s3) al⟩;refine⟨r,.ref p3,H0,H,s,.par (ts.map wkL),rfl,R,s13,⟨p3,p2,rfl,k3,hp2',la2⟩,sl,λH4 R4 e4=>?_⟩;have e4:=e4 _ _ _ _ _ _ h1 h4;have h4':H4 r=some (.ins a.bK dx (fsR sa fa ta false)):=by rw[e4];exact ac
  refine⟨_,rfl,_,_,_,_,rfl,h4',T.bE.cl,T.dg,uG,?_⟩;rw[qy,e4];refine q _ ?_;rw[show bF s (.par (ts.map wkL))={ s with things:=s.things++[.par (ts.map wkL)],g:=true }from by unfold bF;exact if_neg (by rw[g];decide)];exact first H3 p3 p2 _ s13 k3 hp2' la2
def qZ(K:PySem.W.Frag)(C:Addr):Sp:=λvs H Q _=>∃(r la:Addr) (H0:Hp) (s:Rs) (ts:List (List Nat)) (rw:Rw),vs=[.ref r,.ref la]/\RdA C H0 H r s/\SqL K H la ((ts.map tx).map V.str)/\jA ts rw/\Ca s rw/\s.things.length<=200/\tgS s.things<=500/\s.feet.length<=200/\∀H',RdA C H0 H' r (bF s rw)->Q .non H'
theorem kA:aL ["self","words","first"] ["self","words"] (av iP):=by walk_at "c"
theorem q_(T:Txt P w K mg a):a_ P w K mg base CX0 6 a.iX a.iz ["self","words"] (qZ K a.bK):=by
 have gq:=T.gq;have gr:=T.gr;obtain⟨gq,k_ALONE⟩:=gq;obtain⟨gr,k_HEADS⟩:=gr;refine T.iS.fn.ok kA (λvs H Q E h=>?_) (λcdv A outer s H vs Q E hr h=>?_)
 .obtain⟨r,la,H0,s,ts,rw,rfl,_⟩:=h;rfl
 obtain⟨r,la,H0,s,ts,rw,rfl,R,hl,ri,tw,sl,sn,fl,q⟩:=h;have hu:=ID (gS hr);refine⟨_,(ag (aI (au (sQ hu) (pv 1) (aQ ae) (nomark _)) (ag (c7 (pv 0) cN rfl)
   (ai CS)) aK)
   (ag (aA (i:=2) kA.nd rfl (Gr rfl) (aJ bN (pv 1) ah (λ_ _=>rfl)))
   (ai (aI (au bn (pv 2) aq (nomark _)) gW (ai (aI (au bn (pv 2) aq (nomark _)) (ai (bj (dy eU T.bE T.ii (qf T) (hr.mono (by decide)) (pv 0) (aa (pv 1) ae)))) (ai (aI (au gY (pv 2) (c6 (v:=.ref a.jt) rfl gq rfl) (by with_unfolding_all rfl)) (ai (bj (dy eU T.bE T.gE (o4 T) (hr.mono (by decide)) (pv 0) (aa (pv 1) ae)))) (ai (aI (au gY (pv 2) (c6 (v:=.ref a.ju) rfl gr rfl) (by with_unfolding_all rfl)) (ai (bj (dy eU T.bE T.dP (gz T) (hr.mono (by decide)) (pv 0) (aa (bp (aa aq (aa (aH dq rfl T.bO PySem.boot_len (aa (pv 2) ae)) (aa (dy eU T.bE T.dQ (gC T) (hr.mono (by decide)) (pv 0) (aa (dm nU (pv 1) (dB ah) eJ) (aa (bp (aa aq ae)) ae))) ae)))) ae)))) (ai (aI (au bn (aJ ef (pv 2) ah (λ_ _=>rfl)) aq (nomark _)) (ai fW) (ai (bj (dy eU T.bE T.gF (o9 T) (hr.mono (by decide)) (pv 0) (aa (pv 1) ae)))))))))))))))),?_⟩
 refine⟨_,rfl,aN (by simp),λp1 hp1=>?_⟩;have s1:=af hp1 (.lst []);have k1:upd H p1 (.lst []) p1=some (.lst []):=ac;generalize upd H p1 (.lst [])=H1 at s1 k1⊢;have R1:=R.same s1;have hl1:=s1.seq hl;refine⟨_,_,_,rfl,rfl,hl1,SqL.of k1,_,rfl,?_⟩;obtain⟨dx,sa,fa,ta,kvs,vs,h1,h2,h3,h4,lv,lf,fn,put,stop,_⟩:=R1.use;have eA:∀w:List Nat,inV (.str (tx w)) [.str (PySem.Str.ofString ".page"),.str (PySem.Str.ofString ".odd"),.str (PySem.Str.ofString ".list")]=decide (w∈[oO,sX,je]):=λw=>by
  rw[zx,zy,wj];exact on [oO,sX,je]
 have eH:∀w:List Nat,inV (.str (tx w)) [.str (PySem.Str.ofString "="),.str (PySem.Str.ofString "=="),.str (PySem.Str.ofString "===")]=decide (w∈[[61],[61,61],[61,61,61]]):=λw=>by
  rw[cH1,cH2,cH3];exact on [[61],[61,61],[61,61,61]]
 cases ri with
 |empty =>
  refine aM ?_;refine⟨_,rfl,_,_,_,_,rfl,h1,T.bE.cl,T.dg,uG,?_⟩;rw[qy];exact q _ (stop H1 (am.refl _))
 |@foot n ts nn nl tl ok =>
  refine ay ?_;refine⟨_,rfl,_,_,_,_,rfl,rfl,hl1,cF (j:=0) rfl,?_⟩;refine⟨_,rfl,rfl,_,rfl,?_⟩;rw[bY zw,decide_eq_false (by decide)];refine ay ?_;refine⟨_,rfl,rfl,_,rfl,?_⟩;rw[bY jZ,decide_eq_true rfl];refine aM ?_;exact⟨_,rfl,_,_,_,rfl,h1,mU (by decide +kernel),_,rfl,r,la,H0,s,n,ts,rfl,R1,hl1,nn,nl,tl,ok,tw,fl,λH' R'=>q H' R'⟩
 |@alone w rw al =>
  refine ay ?_;refine⟨_,rfl,_,_,_,_,rfl,rfl,hl1,cF (j:=0) rfl,?_⟩;refine⟨_,rfl,rfl,_,rfl,?_⟩;rw[bY zw,decide_eq_false (by rcases al with⟨rfl,_⟩|⟨rfl,_⟩|⟨rfl,_⟩<;>decide)]
  refine ay ?_;refine⟨_,rfl,rfl,_,rfl,?_⟩;rw[bY jZ,decide_eq_false (by rcases al with⟨rfl,_⟩|⟨rfl,_⟩|⟨rfl,_⟩<;>decide)]
  refine ay ?_;refine⟨_,rfl,_,_,rfl,.inr (k_ALONE _),rfl,rfl,_,rfl,?_⟩;rw[eA,decide_eq_true (by rcases al with⟨rfl,_⟩|⟨rfl,_⟩|⟨rfl,_⟩<;>decide)]
  refine aM ?_;exact⟨_,rfl,_,_,_,rfl,h1,mU (by decide +kernel),_,rfl,r,la,H0,s,w,rw,rfl,R1,hl1,al,sl,λH' R'=>q H' R'⟩
 |@head k ts k3 tl ok =>
  refine ay ?_;refine⟨_,rfl,_,_,_,_,rfl,rfl,hl1,cF (j:=0) rfl,?_⟩;have kk:Gc (k+1) 61∈[[61],[61,61],[61,61,61]]:=by
   rcases(show k=0\/k=1\/k=2 by omega)with rfl|rfl|rfl<;>decide
  refine⟨_,rfl,rfl,_,rfl,?_⟩;rw[bY zw,decide_eq_false (λz=>by rw[z]at kk;exact absurd kk (by decide))];refine ay ?_;refine⟨_,rfl,rfl,_,rfl,?_⟩;rw[bY jZ,decide_eq_false (λz=>by rw[z]at kk;exact absurd kk (by decide))];refine ay ?_;refine⟨_,rfl,_,_,rfl,.inr (k_ALONE _),rfl,rfl,_,rfl,?_⟩;rw[eA,decide_eq_false (λz=>by rcases(show k=0\/k=1\/k=2 by omega)with rfl|rfl|rfl<;>exact absurd z (by decide))]
  refine ay ?_;refine⟨_,rfl,_,_,rfl,.inr (k_HEADS _),rfl,rfl,_,rfl,?_⟩;rw[eH,decide_eq_true kk];refine aM ?_;refine⟨_,rfl,_,_,_,rfl,h1,mU (by decide +kernel),_,rfl,_,rfl,aw (by rw[Hc];omega),_,rfl,_,_,_,rfl,h1,mU (by decide +kernel),_,rfl,_,rfl,_,_,rfl,hl1,λp2 hp2=>?_⟩;have s2:=af hp2 (.lst (fX (((Gc (k+1) 61::ts).map tx).map V.str) (some 1) none));have k2:upd H1 p2 (.lst (fX (((Gc (k+1) 61::ts).map tx).map V.str) (some 1) none)) p2=some (.lst ((ts.map tx).map V.str)):=by
   rw[ac];have:=Tl.cut_from (((Gc (k+1) 61::ts).map tx).map V.str) 1;exact congrArg (λl=>some (HO.lst l)) this
  generalize upd H1 p2 (.lst (fX (((Gc (k+1) 61::ts).map tx).map V.str) (some 1) none))=H2 at s2 k2⊢;refine⟨le1,λp3 hp3=>?_⟩;have s3:=af hp3 (.tup [kwV .foot]);have k3':upd H2 p3 (.tup [kwV .foot]) p3=some (.tup [kwV .foot]):=ac;change _ at s3;have s23:=s2.trans s3;refine⟨r,p2,p3,dx,sa,fa,ta,s.g,ts,[.foot],rfl,s23 _ _ h1,s23 _ _ h2,SqL.of (s3 _ _ k2),SqT.of k3',(by omega),ok,λp4 H4 ws hp4 s4 k4 al=>?_⟩;have s14:=s23.trans s4;refine⟨le3,λp5 hp5=>?_⟩;have s5:=af hp5 (.tup [.str "head",.int (((Gc (k+1) 61).length:Nat):Int),.ref p4]);refine⟨r,.ref p5,H0,H1,s,.head (k+1) (ts.map wkL),rfl,R1,s14.trans s5,⟨p5,p4,rfl,?_,s23.free hp4,ws,s5 _ _ k4,cb.mono (bT.trans s5) al⟩,sl,λH' R' _=>q H' R'⟩;exact ac.trans (by rw[aY,Hc])
 |@par c u ts c46 nh tl ok =>
  refine ay ?_;refine⟨_,rfl,_,_,_,_,rfl,rfl,hl1,cF (j:=0) rfl,?_⟩;refine⟨_,rfl,rfl,_,rfl,?_⟩;rw[bY zw,decide_eq_false (λz=>c46 (by injection z))];refine ay ?_;refine⟨_,rfl,rfl,_,rfl,?_⟩;rw[bY jZ,decide_eq_false (λz=>c46 (by injection z))];refine ay ?_;refine⟨_,rfl,_,_,rfl,.inr (k_ALONE _),rfl,rfl,_,rfl,?_⟩;rw[eA,decide_eq_false (λz=>by
   simp only[Hk,G_,or_false]at z;rcases z with z|z|z<;>exact c46 (by injection z))]
  refine ay ?_;refine⟨_,rfl,_,_,rfl,.inr (k_HEADS _),rfl,rfl,_,rfl,?_⟩;rw[eH,decide_eq_false nh];refine ay ?_;refine⟨_,rfl,_,_,_,rfl,rfl,aw (by have:=(ok _ Gk).len;simp only[Gd]at this;omega),fH _ _,rfl,_,rfl,?_⟩;rw[bY FV,decide_eq_false (λz=>c46 (by injection z))];refine ay ?_;exact⟨_,rfl,_,_,_,rfl,h1,mU (by decide +kernel),_,rfl,r,la,H0,s,_,rfl,R1,hl1,(by simp only[Gd];omega),ok,sl,sn,λH' R'=>q H' R'⟩
def yq:Sp:=λvs H Q _=>∃l:List Nat,vs=[.str (tx l)]/\l.length<=200000/\∀p H',H p=none->am H H'->H' p=some (.lst (((c_ l).map tx).map V.str))->Q (.ref p) H'
theorem yr:aL ["row"] ["row"] (av oV):=by walk_at "c"
theorem yt(T:Txt P w K mg a):a_ P w K mg base CX0 1 a.pG a.nP ["row"] yq:=by
 refine T.pC.fn.ok yr (λvs H Q E h=>?_) (λcdv A outer s H vs Q E hr h=>?_)
 .obtain⟨l,rfl,_⟩:=h;rfl
 obtain⟨l,rfl,hl,q⟩:=h;refine⟨_,(ai (aP (fY rfl (eB (caps:=[]) (js:=[]) (cap:=trivial)) (bq (cG PySem.F.plainAttrs_str PySem.F.slot_str_split PySem.F.type_str_split AA (pv 0) (aa aq ae))) (λ_ _ _ _=>(jq (au iF (pv 0) aq (nomark _)))) (λ_ _ _ _=>(pv 0))))),?_⟩;have hs:=uj 32 l;refine⟨_,rfl,rfl,_,32,rfl,congrArg (λz=>[V.str z]) c32,?_,λp1 hp1=>?_⟩
 .rw[aY];exact AF (by omega)
 rw[BL];refine⟨p1,rfl,⟨_,SqL.of ac⟩,dC (xs:=((bu 32 l).map tx).map V.str) (λi ys H2=>H2=upd H p1 (.lst (((bu 32 l).map tx).map V.str))/\ys=((neW ((bu 32 l).take i)).map tx).map V.str) ⟨rfl,rfl⟩ ?_ ?_ ?_ ?_⟩
 .rintro i ys H2 _ ⟨rfl,_⟩;exact SqL.of ac
 .rintro i ys H2 hi ⟨rfl,rfl⟩;rw[F9,F9];have h1:(neW ((bu 32 l).take i)).length<=((bu 32 l).take i).length:=Hq _ _;rw[GC]at h1;exact GG (show _<1000000 by omega) (AF (Gi _))
 .rintro i x ys H2 hx ⟨rfl,rfl⟩;obtain⟨w,hw,rfl⟩:=lP hx;refine⟨_,rfl,rfl,_,rfl,?_⟩;rw[HF,hw];show if(!decide (V.str (tx w)=V.str (PySem.Str.ofString "")))=true then _ else _;rw[show(some w).toList=[w]from rfl,B8];refine eY (λc=>?_) (λc=>?_)
  .refine⟨_,rfl,rfl,?_⟩;have hne:w≠[]:=by
    intro e;rw[e,ce]at c;rw[decide_eq_true rfl]at c;cases c
   rw[if_neg hne];simp
  .have hne:w=[]:=by
    by_cases e:V.str (tx w)=V.str (PySem.Str.ofString "")
    .rw[ce]at e;exact jx (V.str.inj e)
    .rw[decide_eq_false e]at c;exact absurd rfl c
   rw[if_pos hne];exact⟨rfl,rfl⟩
 .rintro ys H2 ⟨rfl,rfl⟩ p hp;have el:(((bu 32 l).map tx).map V.str).length=(bu 32 l).length:=by rw[F9,F9]
  rw[el,Ho (Gi _)];have g1:=af hp1 (.lst (((bu 32 l).map tx).map V.str));exact q p _ (g1.free hp) (g1.trans (af hp _)) ac
def xS(K:PySem.W.Frag):Sp:=λvs H Q _=>∃(ra:Addr) (rs:List (List Nat)) (rws:List Rw),vs=[.ref ra]/\SqL K H ra ((rs.map tx).map V.str)/\mV rs rws/\rs.length<=200/\mL rs0 rws/\(rws.map rwN).sum<=500/\∀p H' ta fa vs kvs,H p=none->am H H'->H' p=some (.tup [.ref ta,.ref fa])->H ta=none->H fa=none->H' ta=some (.lst vs)->H' fa=some (.dK kvs)->fJ H' vs (aR rs0 rws).things->FtA H' kvs (aR rs0 rws).feet->Q (.ref p) H'
theorem lZ:aL ["rows","reader","row"] ["rows"] (av ni):=by walk_at "c"
theorem xT(T:Txt P w K mg a):a_ P w K mg base CX0 7 a.nJ a.mw ["rows"] (xS K):=by
 refine T.nC.fn.ok lZ (λvs H Q E h=>?_) (λcdv A outer s H vs Q E hr h=>?_)
 .obtain⟨ra,rs,rws,rfl,_⟩:=h;rfl
 obtain⟨ra,rs,rws,rfl,hr_,ar,rl,tw,sm,q⟩:=h;refine⟨_,(ag (aA (i:=1) lZ.nd rfl (Gr rfl) (Da eU T.bE T.kM (uT T) (hr.mono (by decide)) rfl ))
   (ag (cA Hb rfl (bq (pv 0)) (aS (i:=2) lZ.nd rfl (Gr rfl)) (ai (bj (dy eU T.bE T.iS (q_ T) (hr.mono (by decide)) (pv 1) (aa (aD T.pC (yt T) (hr.mono (by decide)) rfl (aa (pv 2) ae)) ae)))))
   (ai (aP (bp (aa (br (pv 1) rfl) (aa (br (pv 1) rfl) ae))))))),?_⟩
 intro x dx hx hdx ndx;have sd:=af hdx (.own x);have hx1:upd H dx (.own x) x=none:=by rw[aj (GX ndx)];exact hx
 have s1:=sd.trans (af hx1 (.ins a.bK dx []));have k1:upd (upd H dx (.own x)) x (.ins a.bK dx []) x=some (.ins a.bK dx []):=ac;refine⟨x,dx,rfl,k1,λH1 r1 f1=>?_⟩;have R0:=r1 H s1 hx;have al:=ar.len;refine⟨rfl,?_⟩;refine⟨_,rfl,ra,rfl,⟨_,R0.old.seq hr_⟩,cK (K:=K) (a:=ra) (xs:=(rs.map tx).map V.str) (λi σ G=>∃(v1:Option V),σ=[some (.ref ra),some (.ref x),v1]/\RdA a.bK H G x (aR rs0 (rws.take i))) ⟨none,rfl,R0⟩ (λi σ G _ g=>by obtain⟨_,_,R⟩:=g;exact R.old.seq hr_) ?_ ?_⟩
 .rintro i y σ G hy ⟨v1,rfl,R⟩;obtain⟨l,hl,rfl⟩:=lP hy;have hi:=(List.getElem?_eq_some_iff.mp hl).1;obtain⟨rw,hw,l2,ri⟩:=ar.get hl;obtain⟨dx',sa,fa,ta,kvs,vs,h1,h2,h3,h4,_⟩:=R.use;have n1:=uH (rws.take i) rs0;have n2:=sF rwN rws i;have n3:=List.length_take_le i rws;simp only[rs0,tgS,Jb,List.sum_nil,Gy,Iu]at n1;refine⟨_,rfl,_,_,_,rfl,h1,mU (by decide +kernel),_,rfl,l,rfl,(by omega),λp H2 hp s2 k2=>?_⟩;refine⟨x,p,H,_,c_ l,rw,rfl,R.same s2,SqL.of k2,ri,tw.at hw,(by simp only[rs0];omega),(by simp only[rs0,tgS];omega),(by simp only[rs0];omega),λH3 R3=>?_⟩;refine⟨_,rfl,?_⟩;rw[a7 hw,AN];exact R3
 rintro σ G ⟨v1,rfl,R⟩;rw[F9,F9,al,Gz]at R;obtain⟨dx',sa,fa,ta,kvs,vs,h1,h2,h3,h4,_,_,_,_,_,_,_,_,ft,tg,n1,n2⟩:=R.use;refine⟨_,rfl,_,_,_,_,_,rfl,h1,T.bE.cl,T.eS,qx,_,rfl,_,_,_,_,_,rfl,h1,T.bE.cl,T.fR,uF,le2,λp1 hp1=>?_⟩;have s5:=af hp1 (.tup [.ref ta,.ref fa]);exact q p1 _ ta fa vs kvs (R.old.free hp1) (R.old.trans s5) ac n2 n1 (s5 _ _ h4) (s5 _ _ h3) (fJ.mono s5 tg) (ft.mono s5)

theorem EI{ls:List Int}{i:Nat}(hl:ls.length<=63):(ctr (ls.take i)).1<=63/\(ctr (ls.take i)).2.1<=63/\(ctr (ls.take i)).2.2<=63:=by
 obtain⟨a,b,c⟩:=A5 (ls.take i);have:=List.length_take_le i ls;have h2:=List.length_take_le' i ls;omega
theorem Dz{c:Nat×Nat×Nat}{l:Int}(h1:c.1<=63)(h2:c.2.1<=63)(h3:c.2.2<=63):(eD c l).length<=20/\∀d∈eD c l,d<127:=by
 have f1:=wq h1;have f2:=wq h2;have f3:=wq h3;have fi:∀n d,d∈aT n->d<127:=λn d hd=>by have:=C9 n d hd;omega
 unfold eD;by_cases e1:l=1
 .rw[if_pos e1];exact⟨by omega,λd hd=>fi _ d hd⟩
 rw[if_neg e1];by_cases e2:l=2
 .rw[if_pos e2];refine⟨by simp only[Ga,Gd,Gy];omega,λd hd=>?_⟩;rcases List.mem_append.mp hd with hd|hd
  .rcases List.mem_append.mp hd with hd|hd
   .exact fi _ d hd
   .rw[List.mem_singleton.mp hd];decide
  .exact fi _ d hd
 rw[if_neg e2];refine⟨by simp only[Ga,Gd,Gy];omega,λd hd=>?_⟩;rcases List.mem_append.mp hd with hd|hd
 .rcases List.mem_append.mp hd with hd|hd
  .exact fi _ d hd
  .rw[List.mem_singleton.mp hd];decide
 .rcases List.mem_append.mp hd with hd|hd
  .rcases List.mem_append.mp hd with hd|hd
   .exact fi _ d hd
   .rw[List.mem_singleton.mp hd];decide
  .exact fi _ d hd
theorem fU{n:Nat}{ws:List Wk}:∀{ts:List Tg},(n,ws)∈aE ts->Tg.head n ws∈ts
 |[],h=>by cases h
 |t::r,h=>by
  cases t with
  |head m us =>
   rcases List.mem_cons.mp h with e|h
   .cases e;exact Gk
   .exact Gh _ (fU h)
  |page=>exact Gh _ (fU (ts:=r) h)
  |odd=>exact Gh _ (fU (ts:=r) h)
  |lst=>exact Gh _ (fU (ts:=r) h)
  |par us=>exact Gh _ (fU (ts:=r) h)
theorem de:∀(a b:List Tg),aE (a++b)=aE a++aE b
 |[],b=>rfl
 |t::r,b=>by cases t<;>simp[aE,de r b]
theorem mQ(t:Tg):(aE [t]).length=bP t:=by cases t<;>rfl
structure TxG(things:List Tg)(feet:List (Str×List Wk)):Prop where
 tg:∀t∈things,TgG t
 ft:FtG feet
 hs:(aE things).length<=63
 len:things.length<=200
section
variable {things:List Tg}{feet:List (Str×List Wk)}
theorem TxG.sc(h:TxG things feet):kG (gx (aE things) feet):=by
 have ll:(d_ (aE things)).length<=63:=by unfold d_;rw[F9];exact h.hs
 have nn:∀l∈fK (d_ (aE things)) (d_ (aE things)).length,l.length<=20/\∀d∈l,d<127:=λl hl=>by
  unfold fK at hl;obtain⟨k,_,rfl⟩:=List.mem_map.mp hl;obtain⟨a,b,c⟩:=EI (i:=k+1) ll;exact Dz a b c
 refine⟨?_,?_,?_,h.ft.1,?_,?_,?_⟩
 .show(K1 tx _).length<=200;rw[F9,oS];omega
 .show(K1 _ _).length=(K1 tx _).length;rw[F9,F9,oS];unfold d_;rw[F9]
 .intro t ht;obtain⟨⟨n,ws⟩,hm,rfl⟩:=List.mem_map.mp ht;obtain⟨_,_,h3,h4⟩:=h.tg _ (fU hm);exact⟨h3,λw hw=>(h4 w hw).1⟩
 .intro p hp;obtain⟨h1,h2⟩:=h.ft.2 p hp;exact⟨h1,λw hw=>⟨(h2 w hw).1.1,(h2 w hw).2⟩⟩
 .intro n hn;obtain⟨l,hl,rfl⟩:=List.mem_map.mp hn;exact⟨l,rfl,by have:=(nn l hl).1;omega⟩
 .intro l hl;obtain⟨l',hl',e⟩:=List.mem_map.mp hl;rw[<-jx e];exact(nn l' hl').2
theorem TxG.fo(h:TxG things feet):uL (gx (aE things) feet):=⟨λp hp=>by
 obtain⟨h1,h2⟩:=h.ft.2 p hp;exact⟨h1,λw hw=>(h2 w hw).1.run.ws (h2 w hw).2.1 (h2 w hw).2.2⟩⟩
theorem TxG.st(h:TxG things feet):∀t∈(gx (aE things) feet).titles,∀w∈t,RdW w:=λt ht=>by
 obtain⟨⟨n,ws⟩,hm,rfl⟩:=List.mem_map.mp ht;exact(h.tg _ (fU hm)).2.2.2
theorem TxG.nl(h:TxG things feet):(gx (aE things) feet).nums.length=(aE things).length:=by
 show(K1 tx _).length=_;rw[F9,oS];unfold d_;rw[F9]
theorem TxG.lv(h:TxG things feet):Cf (d_ (aE things)):=λl hl=>by
 unfold d_ at hl;obtain⟨⟨n,ws⟩,hm,rfl⟩:=List.mem_map.mp hl;obtain⟨h1,h2,_⟩:=h.tg _ (fU hm);dsimp only;omega
end
theorem z6{c:Sc}{σ:Ss}{t:Tg}{r:List Tg}:iH c σ (t::r)=(match gp c σ t with|.error x=>.error x|.ok s'=>iH c s' r):=rfl

def xU(K:PySem.W.Frag)(cls:Xc->Addr):Sp:=λvs H Q E=>∃(ra:Addr) (fv:V) (rs:List (List Nat)) (rws:List Rw),vs=[.ref ra,fv]/\SqL K H ra ((rs.map tx).map V.str)/\mV rs rws/\rs.length<=200/\mL rs0 rws/\(rws.map rwN).sum<=500/\TxG (aR rs0 rws).things (aR rs0 rws).feet/\(∀e,g_ (gx (aE (aR rs0 rws).things) (aR rs0 rws).feet) (aR rs0 rws).things=.error e->∀H',am H H'->E (.ref (cls e)) none H')/\∀σ p H' q tp ma ha us fs hvs,g_ (gx (aE (aR rs0 rws).things) (aR rs0 rws).feet) (aR rs0 rws).things=.ok σ->am H H'->H p=none->H' p=some (.tup [.ref q,.ref ma,.ref ha])->H' q=some (.tup [fv,.ref tp])->le H H' σ tp us fs->H' ma=some (.dK (mkV σ.ms))->H ma=none->H' ha=some (.lst hvs)->aW (HdA H') hvs σ.hs->H ha=none->tp≠ha->ha∉fs->σ.ws.length<=400->Q (.ref p) H'
theorem ie:aL ["rows","form","read","things","setter","thing"] ["rows","form"] (av nj):=by walk_at "c"
theorem xV(T:Txt P w K mg a):a_ P w K mg base (CXe P w) 8 a.nK a.mx ["rows","form"] (xU K (oK a.dF a.cY a.bZ a.cZ)):=by
 refine T.nD.fn.okE ie (λvs H Q E h=>?_) (λcdv A outer s H vs Q E hr h=>?_)
 .obtain⟨ra,fv,rs,rws,rfl,_⟩:=h;rfl
 obtain⟨ra,fv,rs,rws,rfl,hr_,ar,rl,tw,sm,tx_,qe,q⟩:=h;refine⟨_,(ag (aA (i:=2) ie.nd rfl (Gr rfl) (aD T.nC (xT T) (hr.mono (by decide)) rfl (aa (pv 0) ae)))
   (ag (aA (i:=3) ie.nd rfl (Gr rfl) (aJ bC (pv 2) ah (λ_ _=>rfl)))
   (ag (aA (i:=4) ie.nd rfl (Gr rfl) (El eU T.aC T.kN (uQ T) (hr.mono (by decide)) rfl (aa (fY rfl (eB (caps:=[]) (js:=[]) (cap:=trivial)) (bq (pv 3)) (λ_ _ _ _=>(jq (au bn (aJ (r:=lH K) bC (pv 0) ah (λ_ _=>rfl)) aq (nomark _)))) (λ_ _ _ _=>(pv 0))) (aa (aJ bC (pv 2) ah (λ_ _=>rfl)) ae))))
   (ag (cA Ic rfl (bq (pv 3)) (aS (i:=5) ie.nd rfl (Gr rfl)) (ai (bj (dy fI T.aC T.il (pW T) (hr.mono (by decide)) (pv 4) (aa (pv 5) ae)))))
   (ag (bj (xm fI T.aC T.f_ (oy T) (hr.mono (by decide)) (pv 4) ))
   (ai (aP (bp (aa (bp (aa (pv 1) (aa (xm eU T.aC T.gG (oY T) (hr.mono (by decide)) (pv 4) ) ae))) (aa (br (pv 4) rfl) (aa (br (pv 4) rfl) ae))))))))))),?_⟩
 refine⟨_,rfl,ra,rs,rws,rfl,hr_,ar,rl,tw,sm,λp1 H1 ta fa tv kvs hp1 s1 k1 nta nfa kta kfa tgs ft=>?_⟩;dsimp only[bD];generalize (aR rs0 rws).things=things at *;generalize (aR rs0 rws).feet=feet at *;have lt:=tgs.len;refine⟨_,rfl,_,_,_,_,rfl,rfl,SqT.of k1,rfl,?_⟩;refine⟨_,rfl,ta,rfl,⟨_,SqL.of kta⟩,dC (K:=K) (a:=ta) (xs:=tv) (λi ys G'=>H1=G'/\ys.length<=i/\aW (HtA H1) ys (aE (things.take i))) ⟨rfl,Gi _,trivial⟩ (λi ys G' _ z=>by rw[<-z.1];exact SqL.of kta) ?_ ?_ ?_⟩
 .rintro i ys G' hi ⟨_,z,_⟩;exact aw (by have:=tx_.len;omega)
 .rintro i y ys G' hy ⟨rfl,z,al⟩;obtain⟨t,ht,htg⟩:=tgs.getL hy;have en:aE (things.take (i+1))=aE (things.take i)++aE [t]:=by rw[a7 ht,de]
  cases t with
  |head n ws =>
   obtain⟨b,l,rfl,hb,hl⟩:=htg;refine⟨_,rfl,_,_,_,_,rfl,rfl,SqT.of hb,rfl,rfl,_,rfl,?_⟩;rw[decide_eq_true rfl];refine aM ?_;refine⟨_,rfl,rfl,by rw[Ga];simp only[Gd,Gy];omega,?_⟩;rw[en];exact al.snoc ⟨b,l,rfl,hb,hl⟩
  |page =>
   obtain⟨b,rfl,hb⟩:=htg;refine⟨_,rfl,_,_,_,_,rfl,rfl,SqT.of hb,rfl,rfl,_,rfl,?_⟩;rw[decide_eq_false (λz=>absurd (V.str.inj z) (by decide +kernel))];refine ay ?_;refine⟨rfl,by omega,?_⟩;rw[en];simpa[aE]using al
  |odd =>
   obtain⟨b,rfl,hb⟩:=htg;refine⟨_,rfl,_,_,_,_,rfl,rfl,SqT.of hb,rfl,rfl,_,rfl,?_⟩;rw[decide_eq_false (λz=>absurd (V.str.inj z) (by decide +kernel))];refine ay ?_;refine⟨rfl,by omega,?_⟩;rw[en];simpa[aE]using al
  |lst =>
   obtain⟨b,rfl,hb⟩:=htg;refine⟨_,rfl,_,_,_,_,rfl,rfl,SqT.of hb,rfl,rfl,_,rfl,?_⟩;rw[decide_eq_false (λz=>absurd (V.str.inj z) (by decide +kernel))];refine ay ?_;refine⟨rfl,by omega,?_⟩;rw[en];simpa[aE]using al
  |par ws =>
   obtain⟨b,l,rfl,hb,hl⟩:=htg;refine⟨_,rfl,_,_,_,_,rfl,rfl,SqT.of hb,rfl,rfl,_,rfl,?_⟩;rw[decide_eq_false (λz=>absurd (V.str.inj z) (by decide +kernel))];refine ay ?_;refine⟨rfl,by omega,?_⟩;rw[en];simpa[aE]using al
 rintro hv G' ⟨rfl,z,al⟩ hl hhl;rw[lt,Gz]at al;have s2:=af hhl (.lst hv);have k2:upd H1 hl (.lst hv) hl=some (.lst hv):=ac;have al2:aW (HtA (upd H1 hl (.lst hv))) hv (aE things):=al.imp λv h ⟨b,l,z1,z2,z3⟩=>⟨b,l,z1,s2 _ _ z2,z3.mono s2⟩;have k1':=s2 _ _ k1;have kfa':=s2 _ _ kfa;have kta':=s2 _ _ kta;have tgs2:=fJ.mono s2 tgs;have ft2:=ft.mono s2;have s12:=s1.trans s2;generalize upd H1 hl (.lst hv)=H2 at s2 k2 al2 k1' kfa' kta' tgs2 ft2 s12⊢;refine⟨_,rfl,_,_,_,_,rfl,rfl,SqT.of k1',rfl,λx dx hx hdx ndx=>?_⟩;have sd:=af hdx (.own x);have hx1:upd H2 dx (.own x) x=none:=by rw[aj (GX ndx)];exact hx
 have s3:=sd.trans (af hx1 (.ins a.aF dx []));have k3:upd (upd H2 dx (.own x)) x (.ins a.aF dx []) x=some (.ins a.aF dx []):=ac;have nx:H x=none:=s12.free hx;generalize upd (upd H2 dx (.own x)) x (.ins a.aF dx [])=H3 at s3 k3⊢;have al3:aW (HtA H3) hv (aE things):=al2.imp λv h ⟨b,l,z1,z2,z3⟩=>⟨b,l,z1,s3 _ _ z2,z3.mono s3⟩;refine⟨x,dx,hl,fa,hv,aE things,kvs,feet,rfl,k3,s3 _ _ k2,al3,s3 _ _ kfa',ft2.mono s3,tx_.lv,tx_.hs,λH4 A ax f4 S4 fr4=>?_⟩;refine⟨rfl,?_⟩;subst ax;dsimp only[bD];have sG:am H2 (hid A.os H4):=λb u h=>by
  have h3:=s3 _ _ h;refine bo (λz=>?_) (f4 b u (λz=>by rw[z,hx]at h;cases h) h3);simp only[Sad.os,Hk,G_,or_false]at z;rcases z with z|z|z|z
  .rw[z,hx]at h;cases h
  .rw[z,fr4.1]at h3;cases h3
  .rw[z,fr4.2.1]at h3;cases h3
  .rw[z,fr4.2.2]at h3;cases h3
 generalize hid A.os H4=G at sG S4;have sHG:=s12.trans sG;have so:=tx_.sc;have fo:=tx_.fo;have st:=tx_.st;have nl:=tx_.nl;have lt3:=tx_.len;have hs3:=tx_.hs;have ktG:=sG _ _ kta';have tgG:=fJ.mono sG tgs2;generalize gx (aE things) feet=c at S4 so fo st nl qe q;have setE:∀e,iH c ss0 things=.error e->g_ c things=.error e:=λe h=>by unfold g_;rw[h]
 refine⟨_,rfl,ta,rfl,⟨_,SqL.of (S4.old _ _ ktG)⟩,cK (K:=K) (a:=ta) (xs:=tv) (λi σ' Hi=>∃(v5:Option V) (σ1:Ss),σ'=[some (.ref ra),some fv,some (.ref p1),some (.ref ta),some (.ref A.x),v5]/\StA a.aF G Hi A c σ1/\iH c ss0 things=iH c σ1 (things.drop i)/\sV c σ1/\σ1.ws.length<=400/\σ1.fs<=σ1.ws.length/\σ1.ms.length<=600*i/\σ1.hs.length=(aE (things.take i)).length) ⟨none,ss0,rfl,S4,rfl,⟨(by intro t ht;cases ht),(by intro t ht;cases ht)⟩,by decide,Gi _,Gi _,rfl⟩ (λi σ' Hi _ g=>by obtain⟨_,_,_,S,_⟩:=g;exact SqL.of (S.old _ _ ktG)) ?_ ?_⟩
 .rintro i y σ' Hi hy ⟨v5,σ1,rfl,S5,er,ss,wl,fl,ml,hl5⟩;obtain⟨t,ht,htg⟩:=tgG.getL hy;have hi:=(List.getElem?_eq_some_iff.mp ht).1;have ed:things.drop i=t::things.drop (i+1):=by
   obtain⟨hi,e⟩:=List.getElem?_eq_some_iff.mp ht;rw[Hg hi,e]
  have tg0:=tx_.tg t (Gj ht);have en:aE (things.take (i+1))=aE (things.take i)++aE [t]:=by rw[a7 ht,de]
  have eall:(aE things).length=(aE (things.take i)).length+bP t+(aE (things.drop (i+1))).length:=by
   have:=congrArg (λl=>(aE l).length) (List.take_append_drop (i+1) things)
   try dsimp only at this
   rw[de,Ga,en,Ga,mQ]at this;omega
  have hh:bP t=1->σ1.hs.length<c.nums.length:=λz=>by rw[nl,hl5];omega
  rw[ed,z6]at er;refine⟨_,rfl,_,_,_,rfl,S5.ins,jl (by decide +kernel),_,rfl,A,G,c,σ1,_,t,rfl,S5,so,htg,?_,(by rw[hl5];omega),⟨wl,fl,by omega⟩,λe he H' s'=>qe e (setE e (by rw[er,he])) H' (sHG.trans s'),λσ2 H5 he S6=>?_⟩
  .cases t with
   |head n ws=>exact hh rfl
   |par ws=>exact⟨λw hw=>(tg0.2 w hw).1,tg0.1⟩
   |page=>trivial
   |odd=>trivial
   |lst=>trivial
  .obtain⟨b,bh⟩:=AS so fo st he tg0 hh;rw[he]at er;refine⟨_,σ2,rfl,S6,er,b.ok ss,b.ws wl,b.fs fl,by have:=b.ms;omega,?_⟩;rw[bh,en,Ga,mQ,hl5]
 rintro σ' H5 ⟨v5,σ1,rfl,S5,er,ss,wl,fl,ml,hl5⟩;rw[lt]at er hl5;rw[Ip]at er;rw[Gz]at hl5;have er:iH c ss0 things=.ok σ1:=er;refine⟨_,rfl,_,_,_,rfl,S5.ins,jl (by decide +kernel),A,G,c,σ1,rfl,S5,so,ss,wl,λe he H' s'=>qe e (by unfold g_;rw[er];show(match eO c σ1 with|some e=>_|none=>_)=_;rw[he]) H' (sHG.trans s'),λck H6 s6 S6=>?_⟩
 have fin:g_ c things=.ok σ1:=by unfold g_;rw[er];show(match eO c σ1 with|some e=>_|none=>_)=_;rw[ck]
 have tel:=Eo ss fo (by rw[hl5,nl]) ck;refine⟨_,rfl,_,rfl,_,_,_,rfl,S6.ins,jl (by decide +kernel),A,G,c,σ1,rfl,S6,tel,wl,λtp H7 us fs s7 T7=>?_⟩;have S7:=S6.same s7;refine⟨le2,λq1 hq1=>?_⟩;have s8:=af hq1 (.tup [fv,.ref tp]);have k8:upd H7 q1 (.tup [fv,.ref tp]) q1=some (.tup [fv,.ref tp]):=ac;have S8:=S7.same s8;have T8:=T7.same s8;generalize upd H7 q1 (.tup [fv,.ref tp])=H8 at s8 k8 S8 T8⊢;refine⟨_,rfl,_,_,_,_,_,rfl,S8.ins,T.aC.cl,T.cu,jk,_,rfl,_,_,_,_,_,rfl,S8.ins,T.aC.cl,T.dt,lO,le3,λp9 hp9=>?_⟩;have s9:=af hp9 (.tup [.ref q1,.ref A.ma,.ref A.ha]);have k9:upd H8 p9 (.tup [.ref q1,.ref A.ma,.ref A.ha]) p9=some (.tup [.ref q1,.ref A.ma,.ref A.ha]):=ac;have S9:=S8.same s9;have T9:=(T8.same s9).base (sHG.trans S6.old);have k8':=s9 _ _ k8;have hp9':H p9=none:=(sHG.trans S8.old).free hp9;generalize upd H8 p9 (.tup [.ref q1,.ref A.ma,.ref A.ha])=H9 at s9 k9 S9 T9 k8'⊢;obtain⟨hvs,h91,h92⟩:=S9.heads;obtain⟨hv6,h61,_⟩:=S6.heads;exact q σ1 p9 H9 q1 tp A.ma A.ha us fs hvs fin (sHG.trans S9.old) hp9' k9 k8' T9 S9.marks (sHG.free (S9.fr _ wd)) h91 (h92.imp λ_ _=>HdA.mono bT) (sHG.free (S9.fr _ zu)) (λz=>by have:=T7.new;rw[z,h61]at this;cases this) (λz=>by have:=(T7.fr _ z).1;rw[h61]at this;cases this) wl

def nms(nm:Nat->List Nat)(at_ n:Nat):List (List Nat):=(HQ n).map λi=>nm (at_+i)
theorem uU(nm:Nat->List Nat)(a m n:Nat):nms nm a (m+n)=nms nm a m++nms nm (a+m) n:=by
 unfold nms;rw[List.range_add,Gm,HU];congr 1;refine Jx λi _=>?_;show nm (a+(m+i))=nm (a+m+i);rw[Kp]
def kL(ws:List NWd):List (List Nat):=(ws.filter λw=>decide (w.1=.mark)).map (·.2)
theorem tF(a b:List NWd):kL (a++b)=kL a++kL b:=by unfold kL;rw[Hj,Gm]
theorem WdG.mark{nm:Nat->List Nat}{k:Kw}{at_ M F:Nat}{w:NWd}(h:WdG nm k at_ M F w):kL [w]=nms nm at_ (b1 (decide (k=.mark))):=by
 rcases h with⟨rfl,rfl⟩|⟨h1,h2,_⟩|⟨h1,_,h2,_⟩
 .simp[kL,nms,b1]
 .rw[decide_eq_false h1];simp[kL,nms,b1,h2]
 .rw[decide_eq_false h1];simp[kL,nms,b1,h2,h1]
theorem WsR.marks{nm:Nat->List Nat}{M F:Nat}:∀{ws:List (Kw×Int)} {ds:List NWd} {at_:Nat},WsR nm M F at_ ws ds->kL ds=nms nm at_ (mkN ws)
 |[],[],_,_=>rfl
 |k::ws,d::ds,at_,h=>by
  have e:mkN (k::ws)=b1 (decide (k.1=.mark))+mkN ws:=by
   unfold mkN;cases e:decide (k.1=.mark)<;>simp[Jp,e,b1]<;>omega
  rw[e,uU,<-WsR.marks h.2,<-h.1.mark,<-tF];rfl
theorem WsR.mem{nm:Nat->List Nat}{M F:Nat}:∀{ws:List (Kw×Int)} {ds:List NWd} {at_:Nat},WsR nm M F at_ ws ds->∀d∈ds,∃k∈ws,∃a,WdG nm k.1 a M F d
 |[],[],_,_,d,hd=>by cases hd
 |k::ws,x::ds,at_,h,d,hd=>by
  rcases List.mem_cons.mp hd with rfl|hd
  .exact⟨k,Gk,at_,h.1⟩
  .obtain⟨k',hk,a,g⟩:=WsR.mem h.2 d hd;exact⟨k',Gh _ hk,a,g⟩
theorem WsR.len{nm:Nat->List Nat}{M F:Nat}:∀{ws:List (Kw×Int)} {ds:List NWd} {at_:Nat},WsR nm M F at_ ws ds->ds.length=ws.length
 |[],[],_,_=>rfl
 |_::_,_::_,_,h=>congrArg (·+1) h.2.len
def nW(ns:List bM):List NWd:=ns.flatMap (·.2.2)
theorem eC.marks{nm:Nat->List Nat}{M F:Nat}:∀{rs:List cS} {ns:List bM} {at_ hung:Nat},eC nm M F at_ hung rs ns->kL (nW ns)=nms nm at_ (cj rs)
 |[],[],_,_,_=>rfl
 |r::rs,n::ns,at_,hung,h=>by
  have e:cj (r::rs)=mkN r.2+cj rs:=by unfold cj;simp
  have e2:nW (n::ns)=n.2.2++nW ns:=by unfold nW;simp
  rw[e,uU,<-eC.marks h.2,e2,tF,h.1.2.2.marks]
theorem eC.mem{nm:Nat->List Nat}{M F:Nat}:∀{rs:List cS} {ns:List bM} {at_ hung:Nat},eC nm M F at_ hung rs ns->∀n∈ns,∃r∈rs,∃a h,xD nm M F a h r n
 |[],[],_,_,_,d,hd=>by cases hd
 |r::rs,x::ns,at_,hung,h,d,hd=>by
  rcases List.mem_cons.mp hd with rfl|hd
  .exact⟨r,Gk,at_,hung,h.1⟩
  .obtain⟨r',hr,a,g⟩:=eC.mem h.2 d hd;exact⟨r',Gh _ hr,a,g⟩
theorem eC.len{nm:Nat->List Nat}{M F:Nat}:∀{rs:List cS} {ns:List bM} {at_ hung:Nat},eC nm M F at_ hung rs ns->ns.length=rs.length/\(ns.map (·.2.2.length)).sum=(rs.map (·.2.length)).sum
 |[],[],_,_,_=>⟨rfl,rfl⟩
 |r::rs,n::ns,_,_,h=>by
  obtain⟨h1,h2⟩:=h.2.len;refine⟨by simp[h1],?_⟩;rw[Gp,Hv,Gp,Hv,h2,h.1.2.2.len]
theorem xD.ok{nm:Nat->List Nat}(hn:NmF nm){kds:List Kw}(ke:∀k∈kds,k≠.entry){M F a h:Nat}{r:cS}{n:bM}(g:xD nm M F a h r n)(ok:zB kds r):kH n:=by
 obtain⟨g1,g2,g3⟩:=g;have gl:=g3.len;have kin:∀k∈r.2,k.1≠.entry:=λk hk=>by
  rcases ok.kds k hk with z|z
  .exact ke _ z
  .rw[z];decide
 have wk:∀w∈n.2.2,∃k∈r.2,w.1=k.1\/w.1=.plain:=λw hw=>by
  obtain⟨k,hk,a,z⟩:=g3.mem w hw;refine⟨k,hk,?_⟩;rcases z with⟨z1,z2⟩|⟨_,z,_⟩|⟨_,_,z,_⟩
  .exact .inl (by rw[z2,z1])
  .exact .inr z
  .exact .inl z
 by_cases e:r.1=.words/\r.2=[]
 .rw[if_pos e]at g1;have n0:n.2.2=[]:=by rw[e.2]at gl;exact List.length_eq_zero_iff.mp gl
  exact⟨λ_=>n0,(by rw[n0];simp),(λz=>by rw[g1]at z;cases z),(λz=>by rw[n0];simp),(λz=>by rw[g1]at z;cases z),(by rw[n0];simp)⟩
 .rw[if_neg e]at g1;refine⟨λz=>?_,by rw[gl];have:=ok.len;omega,λz=>?_,λz w hw=>?_,λz=>?_,λw hw=>?_⟩
  .rw[g1]at z;have:=ok.bare z;rw[this]at gl;exact List.length_eq_zero_iff.mp gl
  .rw[g1]at z;intro z2;rw[z2]at gl;exact e ⟨z,List.length_eq_zero_iff.mp gl.symm⟩
  .rw[g1]at z;obtain⟨k,hk,y|y⟩:=wk w hw
   .rw[y];exact ok.head z k hk
   .rw[y];decide
  .rw[g1]at z;rw[if_pos z]at g2;rw[g2];refine⟨hn.name _,hn.len _,hn.sg _,by rw[gl];have:=ok.len;omega,λw hw=>?_⟩;obtain⟨k,hk,y|y⟩:=wk w hw
   .rw[y];exact ok.foot z k hk
   .rw[y];exact⟨by decide,by decide⟩
  .obtain⟨k,hk,a,z⟩:=g3.mem w hw;exact z.ok hn (kin k hk)
theorem DA:∀r∈bg,kH r:=λr hr=>by
 have:r=(.empty,[],[])\/r=(.words,[],[(.plain,[101,110,100])]):=by simpa[bg]using hr
 rcases this with rfl|rfl
 .exact⟨λ_=>rfl,by simp,(λz=>by cases z),(λz=>by cases z),(λz=>by cases z),by simp⟩
 .refine⟨(λz=>by cases z),by simp,λ_=>by simp,(λz=>by cases z),(λz=>by cases z),λw hw=>?_⟩;have:w=(.plain,[101,110,100]):=by simpa using hw
  subst this;exact⟨by show Kw.plain≠Kw.entry;decide,by decide,.inl ⟨rfl,by simp,by simp⟩⟩
theorem ig(a b:List Wk):aU (a++b)=aU a+aU b:=by unfold aU;rw[Hj,Ga]
theorem Ch(ws:List Wk):(cM ws).length=aU ws:=rfl
theorem Ci(a b:List Wk):cM (a++b)=cM a++cM b:=by unfold cM;rw[Hj]
theorem o_{β:Type}{n:Str}:∀{l:List (Str×β)},n∉l.map (·.1)->lkS n l=none
 |[],_=>rfl
 |(m,j)::r,h=>by
  have h1:m≠n:=λz=>h (by rw[z];exact Gk);show(if m=n then some j else lkS n r)=none;rw[if_neg h1];exact o_ λz=>h (Gh _ z)
structure Cj(σ σ':Ss)(ws:List Wk):Prop where
 ms:σ'.ms=σ.ms++bI ws σ.ws.length
 ws:σ'.ws.map (·.w)=σ.ws.map (·.w)++cM ws
 ft:(∀t∈σ.ws,t.foot=[])->∀t∈σ'.ws,t.foot=[]
 hs:σ'.hs=σ.hs
theorem rb{c:Sc}{byh:Bool}:∀{ws:List Wk} {σ:Ss} {ld:Int},(∀w∈ws,w.1≠.foot)->((σ.ms++bI ws σ.ws.length).map (·.1)).Nodup->σ.ws.length+aU ws<=400->∃σ',bX c σ ld byh ws=.ok σ'/\Cj σ σ' ws
 |[],σ,_,_,_,_=>⟨σ,rfl,by simp[bI],by simp[cM],id,rfl⟩
 |w::r,σ,ld,hf,nd,hl=>by
  have hr:∀x∈r,x.1≠.foot:=λx hx=>hf x (Gh _ hx);rw[lg];by_cases k:w.1=.mark
  .rw[if_pos k];have em:bI (w::r) σ.ws.length=(rest w.2,σ.ws.length)::bI r σ.ws.length:=by show(if w.1=.mark then _ else _)=_;rw[if_pos k]
   have ec:aU (w::r)=aU r:=by unfold aU;simp[k]
   rw[em]at nd;have nn:lkS (rest w.2) σ.ms=none:=o_ λz=>by
    rw[Gm,Ie]at nd;exact nd.2.2 _ z _ (by rw[Gp];exact Gk) rfl
   have es:dN σ (rest w.2)=.ok { σ with ms:=σ.ms++[(rest w.2,σ.ws.length)] }:=by unfold dN;rw[nn];rfl
   rw[es];obtain⟨σ',e,h1,h2,h3,h4⟩:=rb (σ:={ σ with ms:=σ.ms++[(rest w.2,σ.ws.length)] }) (ld:=ld) hr (by rw[Gs];exact nd) (by rw[ec]at hl;exact hl);refine⟨σ',e,?_,?_,h3,h4⟩
   .rw[h1,em,Gs];rfl
   .rw[h2,show cM (w::r)=cM r from by unfold cM;simp[k]]
  .rw[if_neg k];have em:bI (w::r) σ.ws.length=bI r (σ.ws.length+1):=by show(if w.1=.mark then _ else _)=_;rw[if_neg k]
   have ec:aU (w::r)=aU r+1:=by unfold aU;simp[k]
   have ep:ci c σ ld w=fC σ ld w []:=by unfold ci;rw[if_neg (hf w Gk)]
   rw[ec]at hl;rw[em]at nd;rw[ep];unfold fC;rw[if_neg (by omega)];have step:=λ(t:Wt) (z1:t.w=w) (z2:t.foot=[]) (lp:Int)=>rb (c:=c) (byh:=byh) (ws:=r) (σ:={ σ with lp:=lp,ws:=σ.ws++[t],bh:=byh }) (ld:=0) hr (by show((σ.ms++bI r (σ.ws++[t]).length).map (·.1)).Nodup;rw[Ga];exact nd) (by show(σ.ws++[t]).length+_<=_;rw[Ga];simp only[Gd,Gy];omega);obtain⟨σ',e,h1,h2,h3,h4⟩:=step ⟨if 0<σ.lp then σ.lp else ld,σ.bh&&decide ((if 0<σ.lp then σ.lp else ld)<=2),w,[]⟩ rfl rfl (if 0<σ.lp then 0 else σ.lp);refine⟨σ',e,?_,?_,λz=>h3 λt ht=>?_,h4⟩
   .rw[h1,em];show σ.ms++bI r (σ.ws++[_]).length=_;rw[Ga];rfl
   .rw[h2,show cM (w::r)=w::cM r from by unfold cM;simp[k]];show(σ.ws++[_]).map _++_=_;rw[Gm,Gs];rfl
   .rcases List.mem_append.mp ht with ht|ht
    .exact z t ht
    .rw[List.mem_singleton.mp ht]
theorem uV:∀(ws:List Wk) (n:Nat),∀m∈bI ws n,m.2<=n+aU ws
 |[],_,m,h=>by cases h
 |w::r,n,m,h=>by
  by_cases k:w.1=.mark
  .have ec:aU (w::r)=aU r:=by unfold aU;simp[k]
   have em:bI (w::r) n=(rest w.2,n)::bI r n:=by show(if w.1=.mark then _ else _)=_;rw[if_pos k]
   rw[em]at h;rw[ec];rcases List.mem_cons.mp h with rfl|h
   .exact Hs _ _
   .exact uV r n m h
  .have ec:aU (w::r)=aU r+1:=by unfold aU;simp[k]
   have em:bI (w::r) n=bI r (n+1):=by show(if w.1=.mark then _ else _)=_;rw[if_neg k]
   rw[em]at h;have:=uV r (n+1) m h;omega
theorem sZ.rd{d:NWd}(h:sZ d):RdW (zC d):=by
 obtain⟨h1,h2,h3⟩:=h;refine⟨.inl ⟨h1,d.2,?_,λc hc=>(h2 c hc).2,rfl⟩,h1⟩;rcases h3 with⟨_,_,l⟩|⟨_,_,l⟩<;>omega
theorem vt{α β:Type}{f:α->β}:∀{l:List α},(∀a∈l,∀b∈l,f a=f b->a=b)->l.Nodup->(l.map f).Nodup
 |[],_,_=>by simp
 |a::l,h,nd=>by
  rw[List.nodup_cons]at nd;rw[Gp,List.nodup_cons];refine⟨λz=>?_,vt (λx hx y hy=>h x (Gh _ hx) y (Gh _ hy)) nd.2⟩;obtain⟨b,hb,e⟩:=List.mem_map.mp z;have:=h b (Gh _ hb) a Gk e;rw[this]at hb;exact nd.1 hb

def jD(c:Sc):Nat->List Str->List Wk
 |_,[]=>[]
 |k,n::r=>cg c k n++jD c (k+1) r
def thW(c:Sc)(h:Nat):Tg->List Wk
 |.head _ _=>(.plain,.str (c.nums.getD h Hy))::c.titles.getD h []
 |.lst=>jD c 0 c.nums
 |.par ws=>ws
 |_=>[]
def thH(c:Sc)(h n:Nat)(t:Tg):List (Str×Nat):=if bP t=1 then[(c.nums.getD h Hy,n)]else[]
def cT(c:Sc):Nat->List Tg->List Wk
 |_,[]=>[]
 |h,t::r=>thW c h t++cT c (h+bP t) r
def uW(c:Sc):Nat->Nat->List Tg->List (Str×Nat)
 |_,_,[]=>[]
 |h,n,t::r=>thH c h n t++uW c (h+bP t) (n+aU (thW c h t)) r
structure nu(σ σ':Ss)(rs:List Wk)(hp:List (Str×Nat)):Prop where
 ms:σ'.ms=σ.ms++bI rs σ.ws.length
 ws:σ'.ws.map (·.w)=σ.ws.map (·.w)++cM rs
 ft:(∀t∈σ.ws,t.foot=[])->∀t∈σ'.ws,t.foot=[]
 hs:σ'.hs=σ.hs++hp
theorem Cj.t{σ σ':Ss}{rs:List Wk}(h:Cj σ σ' rs):nu σ σ' rs []:=⟨h.ms,h.ws,h.ft,by rw[h.hs,GF]⟩
theorem nu.len{σ σ':Ss}{rs:List Wk}{hp:List (Str×Nat)}(h:nu σ σ' rs hp):σ'.ws.length=σ.ws.length+aU rs:=by
 have:=congrArg Ke h.ws;simpa[Ch]using this
theorem nu.trans{σ σ1 σ2:Ss}{a b:List Wk}{p q:List (Str×Nat)}(h:nu σ σ1 a p)(h2:nu σ1 σ2 b q):nu σ σ2 (a++b) (p++q):=
 ⟨by rw[h2.ms,h.ms,h.len,jT,Gs],by rw[h2.ws,h.ws,Ci,Gs],λz=>h2.ft (h.ft z),by rw[h2.hs,h.hs,Gs]⟩
def Two(x:Except Xc Ss)(σ:Ss)(rs:List Wk)(hp:List (Str×Nat)):Prop:=(σ.ws.length+aU rs<=400/\∃σ',x=.ok σ'/\nu σ σ' rs hp)\/(400<σ.ws.length+aU rs/\x=.error .toolong)
theorem kC(w:Wk)(r:List Wk):aU (w::r)=(if w.1=.mark then 0 else 1)+aU r:=by
 unfold aU;by_cases h:w.1=.mark<;>simp[h];omega
theorem tG{c:Sc}{byh:Bool}:∀{ws:List Wk} {σ:Ss} {ld:Int},(∀w∈ws,w.1≠.foot)->((σ.ms++bI ws σ.ws.length).map (·.1)).Nodup->σ.ws.length<=400->400<σ.ws.length+aU ws->bX c σ ld byh ws=.error .toolong
 |[],σ,_,_,_,h1,h2=>by
  have:aU []=0:=rfl;omega
 |w::r,σ,ld,hf,nd,h1,hl=>by
  have hr:∀x∈r,x.1≠.foot:=λx hx=>hf x (Gh _ hx);rw[lg];rw[kC]at hl;by_cases k:w.1=.mark
  .rw[if_pos k]at hl⊢;have em:bI (w::r) σ.ws.length=(rest w.2,σ.ws.length)::bI r σ.ws.length:=by show(if w.1=.mark then _ else _)=_;rw[if_pos k]
   rw[em]at nd;have nn:lkS (rest w.2) σ.ms=none:=o_ λz=>by
    rw[Gm,Ie]at nd;exact nd.2.2 _ z _ (by rw[Gp];exact Gk) rfl
   have es:dN σ (rest w.2)=.ok { σ with ms:=σ.ms++[(rest w.2,σ.ws.length)] }:=by unfold dN;rw[nn];rfl
   rw[es];exact tG (σ:={ σ with ms:=σ.ms++[(rest w.2,σ.ws.length)] }) (ld:=ld) hr (by rw[Gs];exact nd) h1 (by show 400<σ.ws.length+_;omega)
  .rw[if_neg k]at hl⊢;have em:bI (w::r) σ.ws.length=bI r (σ.ws.length+1):=by show(if w.1=.mark then _ else _)=_;rw[if_neg k]
   have ep:ci c σ ld w=fC σ ld w []:=by unfold ci;rw[if_neg (hf w Gk)]
   rw[em]at nd;rw[ep];unfold fC;by_cases e:σ.ws.length=400
   .rw[if_pos e]
   .rw[if_neg e];have step:=λ(t:Wt) (lp:Int)=>tG (c:=c) (byh:=byh) (ws:=r) (σ:={ σ with lp:=lp,ws:=σ.ws++[t],bh:=byh }) (ld:=0) hr (by show((σ.ms++bI r (σ.ws++[t]).length).map (·.1)).Nodup;rw[Ga];exact nd) (by show(σ.ws++[t]).length<=_;rw[Ga];simp only[Gd,Gy];omega) (by show _<(σ.ws++[t]).length+_;rw[Ga];simp only[Gd,Gy];omega);exact step _ _
theorem uX{c:Sc}{byh:Bool}{ws:List Wk}{σ:Ss}{ld:Int}(hf:∀w∈ws,w.1≠.foot)(nd:((σ.ms++bI ws σ.ws.length).map (·.1)).Nodup)(hl:σ.ws.length<=400):Two (bX c σ ld byh ws) σ ws []:=by
 by_cases h:σ.ws.length+aU ws<=400
 .obtain⟨σ',e,r⟩:=rb hf nd h;exact .inl ⟨h,σ',e,r.t⟩
 .exact .inr ⟨by omega,tG hf nd hl (by omega)⟩
theorem Two.then{x:Except Xc Ss}{f:Ss->Except Xc Ss}{σ:Ss}{a b:List Wk}{p q:List (Str×Nat)}(h:Two x σ a p)(k:∀σ1,nu σ σ1 a p->σ1.ws.length<=400->Two (f σ1) σ1 b q):Two (match(generalizing:=false) x with|.error e=>.error e|.ok s=>f s) σ (a++b) (p++q):=by
 rcases h with⟨h1,σ1,rfl,r1⟩|⟨h1,rfl⟩
 .have l1:=r1.len;rcases k σ1 r1 (by omega)with⟨h2,σ2,e2,r2⟩|⟨h2,e2⟩
  .exact .inl ⟨by rw[ig];omega,σ2,e2,r1.trans r2⟩
  .exact .inr ⟨by rw[ig];omega,e2⟩
 .exact .inr ⟨by rw[ig];omega,rfl⟩
theorem yU{σ:Ss}{a b:List Wk}(nd:((σ.ms++bI (a++b) σ.ws.length).map (·.1)).Nodup):((σ.ms++bI a σ.ws.length).map (·.1)).Nodup:=by
 rw[jT,<-Gs,Gm,Ie]at nd;exact nd.1
theorem xW{σ σ1:Ss}{a b:List Wk}{p:List (Str×Nat)}(r:nu σ σ1 a p)(nd:((σ.ms++bI (a++b) σ.ws.length).map (·.1)).Nodup):((σ1.ms++bI b σ1.ws.length).map (·.1)).Nodup:=by
 rw[jT,<-Gs]at nd;rw[r.ms,r.len];exact nd
theorem xX{c:Sc}:∀{ns:List Str} {k:Nat} {σ:Ss} {ld:Int},(∀w∈jD c k ns,w.1≠.foot)->((σ.ms++bI (jD c k ns) σ.ws.length).map (·.1)).Nodup->σ.ws.length<=400->Two (fe c σ ld k ns) σ (jD c k ns) []
 |[],k,σ,ld,_,_,hl=>.inl ⟨hl,σ,rfl,by simp[jD,bI],by simp[jD,cM],id,by simp⟩
 |n::r,k,σ,ld,hf,nd,hl=>by
  have e:jD c k (n::r)=cg c k n++jD c (k+1) r:=rfl;rw[e]at hf nd⊢;exact Two.then (p:=[]) (q:=[]) (f:=λs=>fe c s 1 (k+1) r) (uX (c:=c) (byh:=false) (ld:=ld) (λw hw=>hf w (HG _ hw)) (yU nd) hl) λσ1 r1 l1=>xX (λw hw=>hf w (GS _ hw)) (xW r1 nd) l1
theorem Bh{c:Sc}{σ:Ss}{t:Tg}(hf:∀w∈thW c σ.hs.length t,w.1≠.foot)(nd:((σ.ms++bI (thW c σ.hs.length t) σ.ws.length).map (·.1)).Nodup)(hl:σ.ws.length<=400):Two (gp c σ t) σ (thW c σ.hs.length t) (thH c σ.hs.length σ.ws.length t):=by
 cases t with
 |page=>exact .inl ⟨hl,_,rfl,by simp[thW,bI],by simp[thW,cM],id,by simp[thH,bP]⟩
 |odd=>exact .inl ⟨hl,_,rfl,by simp[thW,bI],by simp[thW,cM],id,by simp[thH,bP]⟩
 |lst=>exact xX hf nd hl
 |par ws=>exact uX hf nd hl
 |head n ws =>
  rcases uX (c:=c) (byh:=true) (ld:=2) (σ:={ σ with hs:=σ.hs++[(c.nums.getD σ.hs.length Hy,σ.ws.length)] }) hf nd hl with⟨h1,σ',e,r⟩|h
  .refine .inl ⟨h1,σ',e,r.ms,r.ws,r.ft,?_⟩;rw[r.hs,GF];rfl
  .exact .inr h
theorem DB(c:Sc)(h n:Nat)(t:Tg):(thH c h n t).length=bP t:=by cases t<;>rfl
theorem yV{c:Sc}:∀{ts:List Tg} {σ:Ss},(∀w∈cT c σ.hs.length ts,w.1≠.foot)->((σ.ms++bI (cT c σ.hs.length ts) σ.ws.length).map (·.1)).Nodup->σ.ws.length<=400->Two (iH c σ ts) σ (cT c σ.hs.length ts) (uW c σ.hs.length σ.ws.length ts)
 |[],σ,_,_,hl=>.inl ⟨hl,σ,rfl,by simp[cT,bI],by simp[cT,cM],id,by simp[uW]⟩
 |t::r,σ,hf,nd,hl=>by
  have e:cT c σ.hs.length (t::r)=thW c σ.hs.length t++cT c (σ.hs.length+bP t) r:=rfl;have e2:uW c σ.hs.length σ.ws.length (t::r)=thH c σ.hs.length σ.ws.length t++uW c (σ.hs.length+bP t) (σ.ws.length+aU (thW c σ.hs.length t)) r:=rfl;rw[e]at hf nd⊢;rw[e2];refine Two.then (f:=λs=>iH c s r) (Bh (λw hw=>hf w (HG _ hw)) (yU nd) hl) λσ1 r1 l1=>?_;have el:σ.hs.length+bP t=σ1.hs.length:=by rw[r1.hs,Ga,DB]
  have ew:=r1.len;rw[<-ew,el];rw[el]at hf nd;exact yV (λw hw=>hf w (GS _ hw)) (xW r1 nd) l1
def hdN(l:List Tg):Nat:=(aE l).length
theorem xY(t:Tg)(r:List Tg):hdN (t::r)=bP t+hdN r:=by
 unfold hdN;rw[show t::r=[t]++r from rfl,de,Ga,mQ]
theorem xZ(c:Sc):∀(a b:List Tg) (h:Nat),cT c h (a++b)=cT c h a++cT c (h+hdN a) b
 |[],b,h=>rfl
 |t::a,b,h=>by
  show thW c h t++cT c (h+bP t) (a++b)=(thW c h t++cT c (h+bP t) a)++_;rw[xZ c a b,xY,Gs,Kp]
theorem pe(c:Sc)(ws:List Wk):∀(l:List Tg) (h:Nat),cT c h (aZ ws l)=cT c h l++ws/\aE (aZ ws l)=aE l
 |[],h=>⟨by simp[aZ,cT,thW],rfl⟩
 |[t],h=>by cases t<;>simp[aZ,cT,thW,aE]
 |t::u::r,h=>by
  have e:aZ ws (t::u::r)=t::aZ ws (u::r):=by cases t<;>rfl
  obtain⟨h1,h2⟩:=pe c ws (u::r) (h+bP t);rw[e];refine⟨?_,?_⟩
  .show thW c h t++cT c (h+bP t) (aZ ws (u::r))=(thW c h t++cT c (h+bP t) (u::r))++ws;rw[h1,Gs]
  .rw[show t::aZ ws (u::r)=[t]++aZ ws (u::r)from rfl,de,h2,<-de];rfl
def rwT(c:Sc)(h:Nat):Rw->List Wk
 |.par ws=>ws
 |.head n ws=>thW c h (.head n ws)
 |.lst=>thW c h .lst
 |_=>[]
def rwH:Rw->List (Nat×List Wk)
 |.head n ws=>[(n,ws)]
 |_=>[]
theorem DC(c:Sc)(s:Rs)(w:Rw):cT c 0 (bF s w).things=cT c 0 s.things++rwT c (hdN s.things) w/\aE (bF s w).things=aE s.things++rwH w:=by
 have snoc:∀t:Tg,cT c 0 (s.things++[t])=cT c 0 s.things++thW c (hdN s.things) t:=λt=>by
  rw[xZ,Iu];show _++(thW c _ t++[])=_;rw[GF]
 cases w with
 |empty=>exact⟨by simp[bF,rwT],by simp[bF,rwH]⟩
 |foot n ws=>exact⟨by simp[bF,rwT],by simp[bF,rwH]⟩
 |page=>exact⟨snoc .page,by show aE (s.things++[.page])=_;rw[de];rfl⟩
 |odd=>exact⟨snoc .odd,by show aE (s.things++[.odd])=_;rw[de];rfl⟩
 |lst=>exact⟨snoc .lst,by show aE (s.things++[.lst])=_;rw[de];rfl⟩
 |head n ws=>exact⟨snoc (.head n ws),by show aE (s.things++[.head n ws])=_;rw[de];rfl⟩
 |par ws =>
  unfold bF;by_cases g:s.g=true
  .simp only[g,if_true];exact⟨(pe c ws _ _).1,by rw[(pe c ws _ 0).2];exact(GF _).symm⟩
  .rw[Hw]at g;simp only[g,JM,if_false];exact⟨snoc (.par ws),by rw[de];rfl⟩
def f8(c:Sc):Nat->List Rw->List Wk
 |_,[]=>[]
 |h,w::l=>rwT c h w++f8 c (h+(rwH w).length) l
theorem yW(c:Sc):∀(l:List Rw) (s:Rs),cT c 0 (aR s l).things=cT c 0 s.things++f8 c (hdN s.things) l/\aE (aR s l).things=aE s.things++l.flatMap rwH
 |[],s=>⟨by simp[aR,f8],by simp[aR]⟩
 |w::l,s=>by
  obtain⟨a1,a2⟩:=DC c s w;obtain⟨b1,b2⟩:=yW c l (bF s w);refine⟨?_,?_⟩
  .show cT c 0 (aR (bF s w) l).things=_;have e:hdN (bF s w).things=hdN s.things+(rwH w).length:=by unfold hdN;rw[a2,Ga]
   rw[b1,a1,e,Gs];rfl
  .show aE (aR (bF s w) l).things=_;rw[b2,a2,IE,Gs]
structure ScT(c:Sc)(tt:List Ttl):Prop where
 nums:c.nums=tt.map λt=>tx t.1
 titles:c.titles=tt.map λt=>wkS t.2
theorem ScT.at_{c:Sc}{tt:List Ttl}(h:ScT c tt){k:Nat}{t:Ttl}{r:List Ttl}(e:tt.drop k=t::r):tt.getD k ([],[])=t/\c.nums.getD k Hy=tx t.1/\c.titles.getD k []=wkS t.2/\tt.drop (k+1)=r:=by
 have hk:k<tt.length:=by
  by_cases z:k<tt.length
  .exact z
  .rw[Jc (by omega)]at e;cases e
 rw[Hg hk]at e;injection e with e1 e2;have g:tt[k]?=some t:=by rw[Ge hk,e1]
 refine⟨by rw[GL,g];rfl,by rw[h.nums,GL,GD,g];rfl,by rw[h.titles,GL,GD,g];rfl,e2⟩
theorem x5{w:Wy}(h:w.hd=true):∃n,1<=n/\n<=3/\fA w=n/\∀(m:List Nat) (ws:List NWd),aV (w,m,ws)=.head n (wkS ws):=by
 cases w<;>first|exact absurd h (by decide)|exact⟨1,by decide,by decide,rfl,λ_ _=>rfl⟩|exact⟨2,by decide,by decide,rfl,λ_ _=>rfl⟩|exact⟨3,by decide,by decide,rfl,λ_ _=>rfl⟩
theorem CI{r:bM}(h:r.1.hd=false):rwH (aV r)=[]:=by
 obtain⟨w,m,ws⟩:=r;cases w<;>first|rfl|exact absurd h (show ¬ (true=false) by decide)
def ur:Nat×Nat×Nat->List Int->List (List Nat)
 |_,[]=>[]
 |c,l::r=>eD (bA c l) l::ur (bA c l) r
theorem Bi:∀(ls:List Int) (c:Nat×Nat×Nat),((HQ ls.length).map λk=>eD ((ls.take (k+1)).foldl bA c) (ls.getD k 0))=ur c ls
 |[],_=>rfl
 |l::r,c=>by
  rw[Gd,List.range_succ_eq_map,Gp,HU];show _::_=eD (bA c l) l::ur (bA c l) r;rw[<-Bi r (bA c l)];rfl
theorem ph:∀(rows:List bM) (q:Nat×Nat×Nat),(b7 q rows).map (·.1)=ur q (d_ ((rows.map aV).flatMap rwH))/\(b7 q rows).map (λt=>wkS t.2)=((rows.map aV).flatMap rwH).map (·.2)
 |[],_=>⟨rfl,rfl⟩
 |r::rows,q=>by
  rw[Gp,IE];cases hh:r.1.hd with
  |true =>
   obtain⟨n,_,_,e1,e2⟩:=x5 hh;have e:b7 q (r::rows)=(eD (bA q (fA r.1:Int)) (fA r.1:Int),r.2.2)::b7 (bA q (fA r.1:Int)) rows:=by show(if r.1.hd=true then _ else _)=_;rw[if_pos hh]
   have er:aV r=.head n (wkS r.2.2):=e2 r.2.1 r.2.2;obtain⟨i1,i2⟩:=ph rows (bA q (fA r.1:Int));rw[e,er,Gp,Gp,i1,i2,e1];exact⟨rfl,rfl⟩
  |false =>
   have e:b7 q (r::rows)=b7 q rows:=by show(if r.1.hd=true then _ else _)=_;rw[if_neg (by rw[hh];decide)]
   rw[e,CI hh];exact ph rows q
theorem F0{rows:List bM}{feet:List (Str×List Wk)}:ScT (gx ((rows.map aV).flatMap rwH) feet) (b7 (0,0,0) rows):=by
 obtain⟨h1,h2⟩:=ph rows (0,0,0);refine⟨?_,h2.symm⟩;show(fK (d_ _) (d_ _).length).map tx=_;have:fK (d_ ((rows.map aV).flatMap rwH)) (d_ ((rows.map aV).flatMap rwH)).length=ur (0,0,0) (d_ ((rows.map aV).flatMap rwH)):=Bi _ _;rw[this,<-h1,HU];rfl
theorem sh:∀{rows:List bM} {q:Nat×Nat×Nat} {t:Ttl},t∈b7 q rows->∃r∈rows,r.1.hd=true/\t.2=r.2.2
 |[],_,_,h=>by cases h
 |r::rows,q,t,h=>by
  by_cases hh:r.1.hd=true
  .have e:b7 q (r::rows)=(eD (bA q (fA r.1:Int)) (fA r.1:Int),r.2.2)::b7 (bA q (fA r.1:Int)) rows:=by show(if r.1.hd=true then _ else _)=_;rw[if_pos hh]
   rw[e]at h;rcases List.mem_cons.mp h with rfl|h
   .exact⟨r,Gk,hh,rfl⟩
   .obtain⟨r',a,b⟩:=sh h;exact⟨r',Gh _ a,b⟩
  .have e:b7 q (r::rows)=b7 q rows:=by show(if r.1.hd=true then _ else _)=_;rw[if_neg hh]
   rw[e]at h;obtain⟨r',a,b⟩:=sh h;exact⟨r',Gh _ a,b⟩
def TgR:Tg->Prop
 |.head n ws=>1<=n/\n<=3/\ws.length<=130/\∀w∈ws,RdW w
 |.par ws=>∀w∈ws,RdW w
 |_=>True
def RwG:Rw->Prop
 |.head n ws=>1<=n/\n<=3/\ws.length<=130/\∀w∈ws,RdW w
 |.par ws=>∀w∈ws,RdW w
 |_=>True
theorem ut{ws:List Wk}(hw:∀w∈ws,RdW w):∀{l:List Tg},(∀t∈l,TgR t)->∀t∈aZ ws l,TgR t
 |[],_,t,ht=>by
  rw[show aZ ws []=[.par ws]from rfl,JL]at ht;subst ht;exact hw
 |[u],h,t,ht=>by
  have hu:=h u Gk;cases u<;>simp[aZ]at ht<;>first|(subst ht;exact λw hw'=>(List.mem_append.mp hw').elim (hu w) (hw w))|(rcases ht with rfl|rfl<;>first|exact hu|exact hw)
 |t::u::r,h,x,hx=>by
  have e:aZ ws (t::u::r)=t::aZ ws (u::r):=by cases t<;>rfl
  rw[e]at hx;rcases List.mem_cons.mp hx with rfl|hx
  .exact h _ Gk
  .exact ut hw (λy hy=>h y (Gh _ hy)) x hx
theorem yX:∀{l:List Rw} {s:Rs},(∀w∈l,RwG w)->(∀t∈s.things,TgR t)->∀t∈(aR s l).things,TgR t
 |[],_,_,h=>h
 |w::l,s,hl,h=>by
  refine yX (l:=l) (s:=bF s w) (λx hx=>hl x (Gh _ hx)) ?_;have g:=hl w Gk;have snoc:∀u:Tg,TgR u->∀t∈s.things++[u],TgR t:=λu hu t ht=>by
   rcases List.mem_append.mp ht with ht|ht
   .exact h t ht
   .rw[List.mem_singleton.mp ht];exact hu
  cases w with
  |empty=>exact h
  |foot n ws=>exact h
  |page=>exact snoc _ trivial
  |odd=>exact snoc _ trivial
  |lst=>exact snoc _ trivial
  |head n ws=>exact snoc (.head n ws) g
  |par ws =>
   unfold bF;by_cases e:s.g=true
   .simp only[e,if_true];exact ut g h
   .rw[Hw]at e;simp only[e,JM,if_false];exact snoc (.par ws) g
theorem Bj{t:Tg}:∀{l:List Tg},t∈l->tgN t<=tgS l
 |[],h=>by cases h
 |u::l,h=>by
  have e:tgS (u::l)=tgN u+tgS l:=by unfold tgS;simp
  rcases List.mem_cons.mp h with rfl|h
  .omega
  .have:=Bj h;omega
theorem uY:∀(ws:List Wk) (n:Nat),(bI ws n).map (·.1)=(ws.filter λw=>decide (w.1=.mark)).map λ(w:Wk)=>(Tl.rest w.2)
 |[],_=>rfl
 |w::r,n=>by
  by_cases h:w.1=.mark
  .have e1:bI (w::r) n=(rest w.2,n)::bI r n:=by show(if w.1=.mark then _ else _)=_;rw[if_pos h]
   rw[e1,Gp,uY r n];simp[h]
  .have e1:bI (w::r) n=bI r (n+1):=by show(if w.1=.mark then _ else _)=_;rw[if_neg h]
   rw[e1,uY r (n+1)];simp[h]

theorem Ck(w:Int)(h:Bool):∀l:List Lk,(cm w h l).length=l.length
 |[]=>rfl
 |_::_=>rfl
theorem x6(n:Nat)(byh:Bool):cm 0 byh (cC n 0 byh)=Gc n (0,byh):=by
 cases n with
 |zero=>rfl
 |succ n=>rw[cO];simp[cm,GY]
theorem DE:∀l:List Lk,cm 0 false l=l
 |[]=>rfl
 |_::_=>by simp[cm]
theorem x8{w:Int}{h:Bool}:∀{a b:List Lk},a≠[]->cm w h (a++b)=cm w h a++b
 |[],_,n=>absurd rfl n
 |_::_,_,_=>rfl
abbrev Ps:=Int×Bool
def nxP(s:Ps)(n:Nat)(byh:Bool):Ps:=if n=0 then s else(0,byh)
def OkP(s:Ps):Prop:=s.1=0\/3<=s.1
structure EJ(σ σ':Ss)(b:List Lk)(s:Ps):Prop where
 ws:σ'.ws.map lk=σ.ws.map lk++cm σ.lp σ.bh b
 st:(σ'.lp,σ'.bh)=s
 hs:σ'.hs=σ.hs
theorem CJ{σ σ':Ss}{ld:Int}{w:Wk}{f:List Wk}(hd:ld<=2)(ok:OkP (σ.lp,σ.bh))(h:fC σ ld w f=.ok σ'):σ'.ws.map lk=σ.ws.map lk++cm σ.lp σ.bh [(ld,false)]/\σ'.lp=0/\σ'.hs=σ.hs:=by
 unfold fC at h;by_cases e:σ.ws.length=400
 .rw[if_pos e]at h;cases h
 rw[if_neg e]at h;cases h;rcases ok with z|z
 .have z:σ.lp=0:=z;refine⟨?_,?_,rfl⟩
  .rw[Gm];simp[lk,cm,z,hd]
  .simp[z]
 .have z:3<=σ.lp:=z;have p:0<σ.lp:=by omega
  refine⟨?_,?_,rfl⟩
  .rw[Gm];simp[lk,cm,p];intro _;omega
  .simp[p]
theorem EK{c:Sc}{σ σ':Ss}{ld:Int}{w:Wk}(hd:ld<=2)(ok:OkP (σ.lp,σ.bh))(h:ci c σ ld w=.ok σ'):σ'.ws.map lk=σ.ws.map lk++cm σ.lp σ.bh [(ld,false)]/\σ'.lp=0/\σ'.hs=σ.hs:=by
 unfold ci at h;by_cases e:w.1=.foot
 .rw[if_pos e]at h;unfold g9 at h;cases hf:lkS (rest w.2) c.feet with
  |none=>rw[hf]at h;cases h
  |some f =>
   rw[hf]at h;exact CJ (σ:={ σ with fs:=σ.fs+1 }) hd ok h
 .rw[if_neg e]at h;exact CJ hd ok h
theorem uu{c:Sc}{byh:Bool}:∀{ws:List Wk} {σ σ':Ss} {ld:Int},ld<=2->OkP (σ.lp,σ.bh)->bX c σ ld byh ws=.ok σ'->EJ σ σ' (cC (aU ws) ld byh) (nxP (σ.lp,σ.bh) (aU ws) byh)
 |[],σ,σ',ld,_,_,h=>by
  cases h;exact⟨(GF _).symm,rfl,rfl⟩
 |w::r,σ,σ',ld,hd,ok,h=>by
  rw[lg]at h;rw[kC];by_cases k:w.1=.mark
  .rw[if_pos k]at h⊢;rw[Iu];unfold dN at h;by_cases n:(lkS (rest w.2) σ.ms).isSome=true
   .rw[if_pos n]at h;cases h
   .rw[if_neg n]at h;obtain⟨a,b,d⟩:=uu (σ:={ σ with ms:=σ.ms++[(rest w.2,σ.ws.length)] }) hd ok h;exact⟨a,b,d⟩
  .rw[if_neg k]at h⊢;cases e:ci c σ ld w with
   |error x=>rw[e]at h;cases h
   |ok σ1 =>
    rw[e]at h;obtain⟨a1,a2,a3⟩:=EK hd ok e;obtain⟨b1,b2,b3⟩:=uu (σ:={ σ1 with bh:=byh }) (ld:=0) (by decide) (.inl a2) h;rw[KC,cO];refine⟨?_,?_,b3.trans a3⟩
    .rw[b1,show({ σ1 with bh:=byh }:Ss).lp=0 from a2];show σ1.ws.map lk++cm 0 byh (cC (aU r) 0 byh)=_;rw[a1,x6,Gs];rfl
    .rw[b2,show({ σ1 with bh:=byh }:Ss).lp=0 from a2];unfold nxP;rw[if_neg (show ¬ (aU r+1=0) by omega)];by_cases z:aU r=0
     .rw[if_pos z]
     .rw[if_neg z]
theorem OkP.nx{s:Ps}(h:OkP s)(n:Nat)(byh:Bool):OkP (nxP s n byh):=by
 unfold nxP;by_cases e:n=0
 .rw[if_pos e];exact h
 .rw[if_neg e];exact .inl rfl
def lsB(c:Sc)(ld:Int):Nat->List Str->List Lk
 |_,[]=>[]
 |k,n::r=>cC (aU (cg c k n)) ld false++lsB c 1 (k+1) r
theorem vx(c:Sc)(k:Nat)(n:Str):aU (cg c k n)=aU (c.titles.getD k [])+2:=by
 unfold cg;rw[kC,ig,if_neg (show ¬ (Kw.plain=Kw.mark) by decide)];have e:∀l:List Wk,aU (cM l)=aU l:=λl=>by unfold aU cM;rw[List.filter_filter];simp
 rw[e];show 1+(_+1)=_;omega
theorem Bk{c:Sc}:∀{ns:List Str} {k:Nat} {σ σ':Ss} {ld:Int},ld<=2->OkP (σ.lp,σ.bh)->fe c σ ld k ns=.ok σ'->EJ σ σ' (lsB c ld k ns) (nxP (σ.lp,σ.bh) ns.length false)
 |[],k,σ,σ',ld,_,_,h=>by
  cases h;exact⟨(GF _).symm,rfl,rfl⟩
 |n::r,k,σ,σ',ld,hd,ok,h=>by
  unfold fe at h;cases e:bX c σ ld false (cg c k n)with
  |error x=>rw[e]at h;cases h
  |ok σ1 =>
   rw[e]at h;obtain⟨a1,a2,a3⟩:=uu hd ok e;have en:=vx c k n;unfold nxP at a2;rw[if_neg (by omega)]at a2;injection a2 with a4 a5;obtain⟨b1,b2,b3⟩:=Bk (k:=k+1) (ld:=1) (by decide) (.inl a4) h;refine⟨?_,?_,b3.trans a3⟩
   .rw[b1,a1,a4,a5,DE,Gs];exact congrArg _ (x8 (b:=lsB c 1 (k+1) r) (by rw[en,cO];simp)).symm
   .rw[b2,a4,a5];unfold nxP;rw[if_neg (show ¬ ((n::r).length=0) by simp)];by_cases z:r.length=0
    .rw[if_pos z]
    .rw[if_neg z]
def thB(c:Sc)(h:Nat)(bh:Bool):Tg->List Lk
 |.head _ _=>cC (1+aU (c.titles.getD h [])) 2 true
 |.lst=>lsB c 2 0 c.nums
 |.par ws=>cC (aU ws) (if bh then 1 else 2) false
 |_=>[]
def thN(c:Sc)(s:Ps):Tg->Ps
 |.page=>(if s.1<3 then 3 else s.1,s.2)
 |.odd=>(if s.1<4 then 4 else s.1,s.2)
 |.head _ _=>(0,true)
 |.lst=>nxP s c.nums.length false
 |.par ws=>nxP s (aU ws) false
theorem OkP.th{c:Sc}{s:Ps}(h:OkP s)(t:Tg):OkP (thN c s t):=by
 cases t with
 |page=>rcases h with z|z<;>(refine .inr ?_;show 3<=(if s.1<3 then 3 else s.1);split<;>omega)
 |odd=>rcases h with z|z<;>(refine .inr ?_;show 3<=(if s.1<4 then 4 else s.1);split<;>omega)
 |head n ws=>exact .inl rfl
 |lst=>exact h.nx _ _
 |par ws=>exact h.nx _ _
theorem DF{c:Sc}{σ σ':Ss}{t:Tg}(ok:OkP (σ.lp,σ.bh))(h:gp c σ t=.ok σ'):σ'.ws.map lk=σ.ws.map lk++cm σ.lp σ.bh (thB c σ.hs.length σ.bh t)/\(σ'.lp,σ'.bh)=thN c (σ.lp,σ.bh) t/\σ'.hs.length=σ.hs.length+bP t:=by
 cases t with
 |page=>cases h;exact⟨(GF _).symm,rfl,rfl⟩
 |odd=>cases h;exact⟨(GF _).symm,rfl,rfl⟩
 |lst =>
  obtain⟨a,b,d⟩:=Bk (by decide) ok h;exact⟨a,b,by rw[d];rfl⟩
 |par ws =>
  obtain⟨a,b,d⟩:=uu (by split<;>decide) ok h
  exact⟨a,b,by rw[d];rfl⟩
 |head n ws =>
  obtain⟨a,b,d⟩:=uu (σ:={ σ with hs:=σ.hs++[(c.nums.getD σ.hs.length Hy,σ.ws.length)] }) (by decide) ok h;rw[kC,if_neg (show ¬ (Kw.plain=Kw.mark) by decide)]at a b;refine⟨a,?_,by rw[d];simp[bP]⟩;rw[b];unfold nxP;rw[if_neg (by omega)];rfl
def dr(c:Sc):Nat->Ps->List Tg->List Lk
 |_,_,[]=>[]
 |h,s,t::r=>cm s.1 s.2 (thB c h s.2 t)++dr c (h+bP t) (thN c s t) r
def e9(c:Sc):Ps->List Tg->Ps
 |s,[]=>s
 |s,t::r=>e9 c (thN c s t) r
theorem CK{c:Sc}:∀{ts:List Tg} {σ σ':Ss},OkP (σ.lp,σ.bh)->iH c σ ts=.ok σ'->σ'.ws.map lk=σ.ws.map lk++dr c σ.hs.length (σ.lp,σ.bh) ts
 |[],σ,σ',_,h=>by cases h;exact(GF _).symm
 |t::r,σ,σ',ok,h=>by
  unfold iH at h;cases e:gp c σ t with
  |error x=>rw[e]at h;cases h
  |ok σ1 =>
   rw[e]at h;obtain⟨a,b,d⟩:=DF ok e;rw[CK (by rw[b];exact ok.th t) h,a,b,d,Gs];rfl
theorem yY(c:Sc):∀(ns:List Str) (k:Nat) (ld:Int),(lsB c ld k ns).length=aU (jD c k ns)
 |[],_,_=>rfl
 |n::r,k,ld=>by
  show(cC _ ld false++lsB c 1 (k+1) r).length=aU (cg c k n++jD c (k+1) r);rw[Ga,jU,yY c r,ig]
theorem x9(c:Sc):∀(ts:List Tg) (h:Nat) (s:Ps),(dr c h s ts).length=aU (cT c h ts)
 |[],_,_=>rfl
 |t::r,h,s=>by
  show(cm s.1 s.2 (thB c h s.2 t)++dr c (h+bP t) (thN c s t) r).length=aU (thW c h t++cT c (h+bP t) r);rw[Ga,Ck,x9 c r,ig];congr 1;cases t with
  |page=>rfl
  |odd=>rfl
  |lst=>exact yY c _ _ _
  |par ws=>exact jU _ _ _
  |head n ws=>show(cC _ _ _).length=aU (_::_);rw[jU,kC,if_neg (show ¬ (Kw.plain=Kw.mark) by decide)]
theorem x_(c:Sc):∀(a b:List Tg) (h:Nat) (s:Ps),dr c h s (a++b)=dr c h s a++dr c (h+hdN a) (e9 c s a) b/\e9 c s (a++b)=e9 c (e9 c s a) b
 |[],b,h,s=>⟨rfl,rfl⟩
 |t::a,b,h,s=>by
  obtain⟨i1,i2⟩:=x_ c a b (h+bP t) (thN c s t);refine⟨?_,i2⟩;show cm s.1 s.2 (thB c h s.2 t)++dr c (h+bP t) (thN c s t) (a++b)=(cm s.1 s.2 (thB c h s.2 t)++dr c (h+bP t) (thN c s t) a)++_;rw[i1,xY,Gs,Kp];rfl
def dD:List Tg->Bool
 |[]=>false
 |[.par vs]=>decide (0<aU vs)
 |[_]=>false
 |_::r=>dD r
theorem vz(t:Tg):∀l:List Tg,dD (l++[t])=dD [t]
 |[]=>rfl
 |[u]=>by cases u<;>rfl
 |u::v::r=>by
  have:=vz t (v::r);cases u<;>exact this
theorem Cl(a b:Nat)(ld:Int):cC (a+1+b) ld false=cC (a+1) ld false++Gc b (0,false):=by
 rw[show a+1+b=a+b+1 by omega,cO,cO,JY,List.replicate_append_replicate]
theorem ya(c:Sc)(ws:List Wk):∀(l:List Tg) (h:Nat) (s:Ps),dr c h s (aZ ws l)=dr c h s l++cm (e9 c s l).1 (e9 c s l).2 (cC (aU ws) (if dD l then 0 else if(e9 c s l).2 then 1 else 2) false)/\e9 c s (aZ ws l)=nxP (e9 c s l) (aU ws) false/\dD (aZ ws l)=(dD l||decide (0<aU ws))
 |[],h,s=>by refine⟨?_,rfl,by simp[aZ,dD]⟩;simp[aZ,dr,thB,e9,dD];rfl
 |[t],h,s=>by
  cases t with
  |par vs =>
   have e:aU (vs++ws)=aU vs+aU ws:=ig _ _;cases hv:aU vs with
   |zero =>
    refine⟨?_,?_,?_⟩
    .simp[aZ,dr,thB,e9,dD,e,hv,thN,nxP,cC,cm]
    .simp[aZ,e9,thN,e,hv,nxP]
    .simp[aZ,dD,e,hv]
   |succ a =>
    refine⟨?_,?_,?_⟩
    .have n1:e9 c s [.par vs]=(0,false):=by simp[e9,thN,hv,nxP]
     have g1:dD [.par vs]=true:=by simp[dD,hv]
     rw[n1,g1];show cm s.1 s.2 (cC (aU (vs++ws)) (if s.2 then 1 else 2) false)++[]=(cm s.1 s.2 (cC (aU vs) (if s.2 then 1 else 2) false)++[])++cm 0 false (cC (aU ws) 0 false);rw[e,hv,Cl,x6,x8 (by rw[cO];simp),GF,GF]
    .simp[aZ,e9,thN,e,hv,nxP]
    .simp[aZ,dD,e,hv];omega
  |page=>exact⟨by simp[aZ,dr,thB,e9,dD,thN];rfl,rfl,by simp[aZ,dD]⟩
  |odd=>exact⟨by simp[aZ,dr,thB,e9,dD,thN];rfl,rfl,by simp[aZ,dD]⟩
  |lst=>exact⟨by simp[aZ,dr,thB,e9,dD,thN];rfl,rfl,by simp[aZ,dD]⟩
  |head n us=>exact⟨by simp[aZ,dr,thB,e9,dD,thN],rfl,by simp[aZ,dD]⟩
 |t::u::r,h,s=>by
  have e:aZ ws (t::u::r)=t::aZ ws (u::r):=by cases t<;>rfl
  have eg:∀v w:Tg,∀l:List Tg,dD (v::w::l)=dD (w::l):=λv w l=>by cases v<;>rfl
  obtain⟨i1,i2,i3⟩:=ya c ws (u::r) (h+bP t) (thN c s t);rw[e,eg];refine⟨?_,i2,?_⟩
  .show cm s.1 s.2 (thB c h s.2 t)++dr c (h+bP t) (thN c s t) (aZ ws (u::r))=_;rw[i1,<-Gs];rfl
  .rw[<-i3];cases hh:aZ ws (u::r)with
   |nil=>exfalso;revert hh;cases u<;>cases r<;>simp[aZ]
   |cons v l=>exact eg _ _ _

theorem Bl{c:Sc}{tt:List Ttl}(h:ScT c tt):∀{l:List Ttl} {k:Nat} {ld:Int},tt.drop k=l->lsB c ld k (l.map λt=>tx t.1)=lsT ld l
 |[],k,ld,_=>rfl
 |t::l,k,ld,e=>by
  obtain⟨a1,a2,a3,a4⟩:=h.at_ e;show cC (aU (cg c k (tx t.1))) ld false++lsB c 1 (k+1) (l.map λt=>tx t.1)=_;rw[vx,a3,Bl h a4];rfl
structure InL(c:Sc)(s:Rs)(L:Lds):Prop where
 st:e9 c (0,false) s.things=(L.wait,L.hd)
 go:L.go=(s.g&&dD s.things)
 ok:OkP (L.wait,L.hd)
theorem Bm{c:Sc}{tt:List Ttl}(hc:ScT c tt):∀{rows:List bM} {s:Rs} {L:Lds} {q:Nat×Nat×Nat},InL c s L->tt.drop (hdN s.things)=b7 q rows->dr c 0 (0,false) (aR s (rows.map aV)).things=dr c 0 (0,false) s.things++eV tt L rows
 |[],s,L,q,_,_=>(GF _).symm
 |r::rows,s,L,q,I,e=>by
  have fin:∀(b:List Lk) (L':Lds) (s':Rs),s'=bF s (aV r)->dr c 0 (0,false) s'.things=dr c 0 (0,false) s.things++b->InL c s' L'->(∃q',tt.drop (hdN s'.things)=b7 q' rows)->dr c 0 (0,false) (aR s ((r::rows).map aV)).things=dr c 0 (0,false) s.things++(b++eV tt L' rows):=λb L' s' es eb I' ⟨q',eq⟩=>by
   rw[Gp];show dr c 0 (0,false) (aR (bF s (aV r)) (rows.map aV)).things=_;rw[<-es,Bm hc I' eq,eb,Gs]
  have snoc:∀t:Tg,dr c 0 (0,false) (s.things++[t])=dr c 0 (0,false) s.things++cm L.wait L.hd (thB c (hdN s.things) L.hd t)/\e9 c (0,false) (s.things++[t])=thN c (L.wait,L.hd) t/\hdN (s.things++[t])=hdN s.things+bP t:=λt=>by
   obtain⟨h1,h2⟩:=x_ c s.things [t] 0 (0,false);rw[h1,h2,I.st,Iu];refine⟨?_,rfl,?_⟩
   .show _++(cm L.wait L.hd (thB c (hdN s.things) L.hd t)++[])=_;rw[GF]
   .unfold hdN;rw[de,Ga,mQ]
  have noh:r.1.hd=false->tt.drop (hdN s.things)=b7 q rows:=λhh=>by rw[e];show(if r.1.hd=true then _ else _)=_;rw[if_neg (by rw[hh];decide)]
  obtain⟨w,m,ws⟩:=r;have eqL:∀L':Lds,ldN tt L (w,m,ws)=L'->cm (ldW L.wait (w,m,ws)) L.hd (ldB tt L (w,m,ws))++eV tt L' rows=eV tt L ((w,m,ws)::rows):=λL' z=>by rw[<-z];rfl
  have hdr:w.hd=true->ldB tt L (w,m,ws)=cC (1+sz ws) 2 true/\ldW L.wait (w,m,ws)=L.wait/\w≠.foot/\w≠.words:=λhh=>by cases w<;>first|exact⟨rfl,rfl,by decide,by decide⟩|exact absurd hh (by decide)
  cases hw:w.hd with
  |true =>
   obtain⟨n,_,_,e1,e2⟩:=x5 hw;obtain⟨d1,d2,d3,d4⟩:=hdr hw;have er:aV (w,m,ws)=.head n (wkS ws):=e2 m ws;have e':tt.drop (hdN s.things)=(eD (bA q (fA w:Int)) (fA w:Int),ws)::b7 (bA q (fA w:Int)) rows:=by rw[e];show(if w.hd=true then _ else _)=_;rw[if_pos hw]
   obtain⟨a1,a2,a3,a4⟩:=hc.at_ e';obtain⟨b1,b2,b3⟩:=snoc (.head n (wkS ws));have nL:ldN tt L (w,m,ws)=⟨0,true,false⟩:=by
    unfold ldN;rw[d1,oW,decide_eq_false (by omega)];simp[hw,d3,d4]
   rw[<-eqL _ nL];refine fin _ _ { s with things:=s.things++[.head n (wkS ws)],g:=false } (by rw[er];rfl) ?_ ⟨b2,rfl,.inl rfl⟩ ⟨_,by rw[b3];exact a4⟩;rw[b1,d1,d2];show _++cm _ _ (cC (1+aU (c.titles.getD (hdN s.things) [])) 2 true)=_;rw[a3];rfl
  |false =>
   have e0:=noh hw;cases w with
   |h1=>cases hw
   |h2=>cases hw
   |h3=>cases hw
   |empty=>exact fin [] (ldN tt L (.empty,m,ws)) { s with g:=false } rfl (GF _).symm ⟨I.st,rfl,I.ok⟩ ⟨_,e0⟩
   |foot=>exact fin [] (ldN tt L (.foot,m,ws)) { s with feet:=s.feet++[(tx m,wkS ws)] } rfl (GF _).symm ⟨I.st,I.go,I.ok⟩ ⟨_,e0⟩
   |page =>
    obtain⟨b1,b2,b3⟩:=snoc .page;exact fin [] (ldN tt L (.page,m,ws)) { s with things:=s.things++[.page],g:=false } rfl b1 ⟨b2,rfl,by have:=I.ok.th (c:=c) .page;exact this⟩ ⟨q,by rw[b3];exact e0⟩
   |odd =>
    obtain⟨b1,b2,b3⟩:=snoc .odd;exact fin [] (ldN tt L (.odd,m,ws)) { s with things:=s.things++[.odd],g:=false } rfl b1 ⟨b2,rfl,by have:=I.ok.th (c:=c) .odd;exact this⟩ ⟨q,by rw[b3];exact e0⟩
   |lst =>
    obtain⟨b1,b2,b3⟩:=snoc .lst;have el:thB c (hdN s.things) L.hd .lst=lsT 2 tt:=by
     show lsB c 2 0 c.nums=_;rw[hc.nums];exact Bl hc rfl
    have em:(lsT 2 tt).isEmpty=decide (c.nums.length=0):=by
     rw[hc.nums,F9];cases tt with
     |nil=>rfl
     |cons t r=>show(cC (sz t.2+2) 2 false++lsT 1 r).isEmpty=_;rw[cO];rfl
    have ed:ldB tt L (.lst,m,ws)=lsT 2 tt:=rfl;refine fin _ (ldN tt L (.lst,m,ws)) { s with things:=s.things++[.lst],g:=false } rfl (by rw[b1,el];rfl) ⟨?_,rfl,?_⟩ ⟨q,by rw[b3];exact e0⟩
    .rw[b2];unfold ldN;rw[ed,em];unfold thN nxP;by_cases z:c.nums.length=0
     .simp[z];rfl
     .simp[z];rfl
    .unfold ldN;rw[ed];cases (lsT 2 tt).isEmpty with
     |true=>exact I.ok
     |false=>exact .inl rfl
   |words =>
    have ec:aU (wkS ws)=sz ws:=rfl;have ed:ldB tt L (.words,m,ws)=cC (sz ws) (if L.go then 0 else if L.hd then 1 else 2) false:=rfl;have okN:OkP ((ldN tt L (.words,m,ws)).wait,(ldN tt L (.words,m,ws)).hd):=by
     unfold ldN;cases (ldB tt L (.words,m,ws)).isEmpty with
     |true=>exact I.ok
     |false=>exact .inl rfl
    have stN:nxP (L.wait,L.hd) (sz ws) false=((ldN tt L (.words,m,ws)).wait,(ldN tt L (.words,m,ws)).hd):=by
     unfold ldN nxP;rw[ed,oW];by_cases z:sz ws=0
     .simp[z];rfl
     .simp[z];rfl
    have goN:(ldN tt L (.words,m,ws)).go=(L.go||decide (0<sz ws)):=by
     unfold ldN;rw[ed,oW];by_cases z:sz ws=0<;>simp[z]
     omega
    by_cases g:s.g=true
    .have gl:L.go=dD s.things:=by rw[I.go,g];rfl
     obtain⟨b1,b2,b3⟩:=ya c (wkS ws) s.things 0 (0,false);have eh:=(pe c (wkS ws) s.things 0).2;rw[I.st]at b1 b2;refine fin _ (ldN tt L (.words,m,ws)) { s with things:=aZ (wkS ws) s.things } ?_ ?_ ⟨?_,?_,okN⟩ ⟨q,?_⟩
     .show _=bF s (.par (wkS ws));unfold bF;simp only[g,if_true]
     .rw[b1,ed,gl];rfl
     .rw[b2,ec,stN]
     .show _=(s.g&&dD (aZ (wkS ws) s.things));rw[b3,g,goN,gl,ec];rfl
     .show tt.drop (hdN (aZ (wkS ws) s.things))=_;unfold hdN;rw[eh];exact e0
    .rw[Hw]at g;have gl:L.go=false:=by rw[I.go,g];rfl
     obtain⟨b1,b2,b3⟩:=snoc (.par (wkS ws));refine fin _ (ldN tt L (.words,m,ws)) { s with things:=s.things++[.par (wkS ws)],g:=true } ?_ ?_ ⟨?_,?_,okN⟩ ⟨q,by rw[b3];exact e0⟩
     .show _=bF s (.par (wkS ws));unfold bF;simp only[g,JM,if_false]
     .rw[b1,ed,gl];rfl
     .rw[b2];show nxP (L.wait,L.hd) (aU (wkS ws)) false=_;rw[ec,stN]
     .show _=(true&&dD (s.things++[.par (wkS ws)]));rw[goN,vz,gl];rfl
theorem Fp(c:Sc):InL c rs0 ld0:=⟨rfl,rfl,.inl rfl⟩

def rwF:Rw->List (Str×List Wk)
 |.foot n ws=>[(n,ws)]
 |_=>[]
theorem yZ(s:Rs)(w:Rw):(bF s w).feet=s.feet++rwF w:=by
 cases w with
 |foot n ws=>rfl
 |par ws=>unfold bF;cases s.g<;>exact(GF _).symm
 |_=>exact(GF _).symm
theorem y0:∀(l:List Rw) (s:Rs),(aR s l).feet=s.feet++l.flatMap rwF
 |[],s=>(GF _).symm
 |w::l,s=>by
  show(aR (bF s w) l).feet=_;rw[y0 l,yZ,IE,Gs]
theorem Bn:∀(l:List Rw) (s:Rs),((s.feet++l.flatMap rwF).map (·.1)).Nodup->mL s l
 |[],_,_=>trivial
 |w::l,s,nd=>by
  rw[IE,<-Gs]at nd;refine⟨?_,Bn l _ (by rw[yZ];exact nd)⟩;cases w with
  |foot n ws =>
   refine o_ λz=>?_;rw[Gm,Ie]at nd;have:=nd.1;rw[Gm,Ie]at this;exact this.2.2 _ z _ (by simp[rwF]) rfl
  |_=>trivial
def f9(ns:List bM):List (Str×List Wk):=ns.flatMap λr=>if r.1=.foot then[(tx r.2.1,wkS r.2.2)]else[]
theorem Cm(a b:List bM):f9 (a++b)=f9 a++f9 b:=by unfold f9;rw[Jy]
theorem Cn{l:List bM}{p:Str×List Wk}(h:p∈f9 l):∃r∈l,r.1=.foot/\p=(tx r.2.1,wkS r.2.2):=by
 obtain⟨r,hr,hd⟩:=List.mem_flatMap.mp h;by_cases c:r.1=.foot
 .rw[if_pos c,JL]at hd;exact⟨r,hr,c,hd⟩
 .rw[if_neg c]at hd;cases hd
theorem uZ:∀l:List bM,(l.map aV).flatMap rwF=f9 l
 |[]=>rfl
 |(w,m,ws)::l=>by
  rw[Gp,IE,uZ l];have e:f9 ((w,m,ws)::l)=(if w=.foot then[(tx m,wkS ws)]else[])++f9 l:=by unfold f9;simp
  rw[e];cases w<;>rfl
theorem eC.feet{nm:Nat->List Nat}{M F:Nat}:∀{rs:List cS} {ns:List bM} {at_ hung:Nat},eC nm M F at_ hung rs ns->(f9 ns).map (·.1)=(nms nm hung (ftN rs)).map tx
 |[],[],_,_,_=>rfl
 |r::rs,n::ns,at_,hung,h=>by
  have e1:ftN (r::rs)=b1 (decide (r.1=.foot))+ftN rs:=by
   unfold ftN;cases e:decide (r.1=.foot)<;>simp[Jp,e,b1]<;>omega
  have e2:f9 (n::ns)=(if n.1=.foot then[(tx n.2.1,wkS n.2.2)]else[])++f9 ns:=by unfold f9;simp
  rw[e1,uU,e2,Gm,Gm,eC.feet h.2];congr 1;obtain⟨g1,g2,_⟩:=h.1;by_cases c:r.1=.foot
  .have c2:n.1=.foot:=by rw[g1,if_neg (λz=>by rw[c]at z;cases z.1)];exact c
   rw[if_pos c]at g2;rw[if_pos c2,decide_eq_true c,g2];rfl
  .have c2:n.1≠.foot:=by
    rw[g1]
    split
    .decide
    .exact c
   rw[if_neg c2,decide_eq_false c];rfl
theorem yb:∀l:List bM,((l.map aV).map rwN).sum<=(l.map (·.2.2.length)).sum
 |[]=>Gi _
 |r::l=>by
  have h2:=yb l;have h1:rwN (aV r)<=r.2.2.length:=by
   obtain⟨wy,n,ws⟩:=r;have e:(wkS ws).length=ws.length:=F9 _;cases wy<;>first|exact GZ _|(show(wkS ws).length<=ws.length;omega)
  simp only[Gp,Hv];omega
theorem DG(l:List cS):cj l<=(l.map (·.2.length)).sum:=by
 induction l with
 |nil=>exact Gi _
 |cons r l ih =>
  have:mkN r.2<=r.2.length:=Hq _ _;have e:cj (r::l)=mkN r.2+cj l:=by unfold cj;simp
  rw[e,Gp,Hv];omega

def pi:List Kw:=[.plain,.plain,.mark]
def PM(k:Kw):Prop:=k=.plain\/k=.mark
theorem yc{c:Sc}(ht:∀t∈c.titles,∀w∈t,PM w.1)(k:Nat):∀w∈c.titles.getD k [],PM w.1:=λw hw=>by
 rw[GL]at hw;cases e:c.titles[k]? with
 |none=>rw[e]at hw;cases hw
 |some t=>rw[e]at hw;exact ht t (Gj e) w hw
theorem yd{c:Sc}(ht:∀t∈c.titles,∀w∈t,PM w.1):∀(ns:List Str) (k:Nat),∀w∈jD c k ns,w.1=.plain\/w.1=.entry
 |[],_,w,hw=>by cases hw
 |n::r,k,w,hw=>by
  have hw:w∈cg c k n++jD c (k+1) r:=hw;rcases List.mem_append.mp hw with hw|hw
  .unfold cg at hw;rcases List.mem_cons.mp hw with rfl|hw
   .exact .inl rfl
   .rcases List.mem_append.mp hw with hw|hw
    .obtain⟨h1,h2⟩:=List.mem_filter.mp hw;rcases yc ht k w h1 with z|z
     .exact .inl z
     .rw[z]at h2;cases h2
    .rw[List.mem_singleton.mp hw];exact .inr rfl
  .exact yd ht r (k+1) w hw
theorem Bo{c:Sc}(ht:∀t∈c.titles,∀w∈t,PM w.1){r:bM}(hr:∀d∈r.2.2,PM d.1)(h:Nat):∀w∈rwT c h (aV r),w.1=.plain\/w.1=.mark\/w.1=.entry:=λw hw=>by
 have tl:w∈((.plain,.str (c.nums.getD h Hy))::c.titles.getD h []:List Wk)->w.1=.plain\/w.1=.mark\/w.1=.entry:=λhw=>by
  rcases List.mem_cons.mp hw with rfl|hw
  .exact .inl rfl
  .rcases yc ht h w hw with z|z
   .exact .inl z
   .exact .inr (.inl z)
 obtain⟨wy,n,ws⟩:=r;cases wy with
 |words =>
  obtain⟨d,hd,rfl⟩:=List.mem_map.mp (show w∈wkS ws from hw);rcases hr d hd with z|z
  .exact .inl z
  .exact .inr (.inl z)
 |lst =>
  rcases yd ht _ _ w hw with z|z
  .exact .inl z
  .exact .inr (.inr z)
 |h1=>exact tl hw
 |h2=>exact tl hw
 |h3=>exact tl hw
 |empty=>cases hw
 |page=>cases hw
 |odd=>cases hw
 |foot=>cases hw
theorem uv{c:Sc}(ht:∀t∈c.titles,∀w∈t,PM w.1):∀{rows:List bM} {h:Nat},(∀r∈rows,∀d∈r.2.2,PM d.1)->∀w∈f8 c h (rows.map aV),w.1=.plain\/w.1=.mark\/w.1=.entry
 |[],_,_,w,hw=>by cases hw
 |r::rows,h,hr,w,hw=>by
  have hw:w∈rwT c h (aV r)++f8 c (h+(rwH (aV r)).length) (rows.map aV):=hw;rcases List.mem_append.mp hw with hw|hw
  .exact Bo ht (hr r Gk) h w hw
  .exact uv ht (λx hx=>hr x (Gh _ hx)) w hw
def mkF(ws:List Wk):List Wk:=ws.filter λw=>decide (w.1=.mark)
theorem y4(a b:List Wk):mkF (a++b)=mkF a++mkF b:=Hj _ _
theorem Co{c:Sc}(ht:∀t∈c.titles,∀w∈t,PM w.1)(ns:List Str)(k:Nat):mkF (jD c k ns)=[]:=by
 unfold mkF;rw[List.filter_eq_nil_iff];intro w hw;rcases yd ht ns k w hw with z|z<;>(rw[z];decide)
theorem pz{c:Sc}{tt:List Ttl}(hc:ScT c tt)(ht:∀t∈c.titles,∀w∈t,PM w.1):∀{rows:List bM} {q:Nat×Nat×Nat} {h:Nat},tt.drop h=b7 q rows->(∀r∈rows,r.1≠.words->r.1.hd=false->∀d∈r.2.2,d.1≠.mark)->mkF (f8 c h (rows.map aV))=mkF (wkS (nW rows))
 |[],_,_,_,_=>rfl
 |r::rows,q,h,e,hr=>by
  have e2:wkS (nW (r::rows))=wkS r.2.2++wkS (nW rows):=by unfold nW wkS;simp
  have hr2:=λx hx=>hr x (Gh _ hx);have no:r.1≠.words->r.1.hd=false->mkF (wkS r.2.2)=[]:=λh1 h2=>by
   unfold mkF;rw[List.filter_eq_nil_iff];intro w hw;obtain⟨d,hd,rfl⟩:=List.mem_map.mp hw;have:=hr r Gk h1 h2 d hd;show ¬ (decide (d.1=.mark)=true);simpa using this
  show mkF (rwT c h (aV r)++f8 c (h+(rwH (aV r)).length) (rows.map aV))=_;rw[e2,y4,y4];cases hh:r.1.hd with
  |true =>
   obtain⟨n,_,_,e1,e3⟩:=x5 hh;have e:tt.drop h=(eD (bA q (fA r.1:Int)) (fA r.1:Int),r.2.2)::b7 (bA q (fA r.1:Int)) rows:=by rw[e];show(if r.1.hd=true then _ else _)=_;rw[if_pos hh]
   obtain⟨a1,a2,a3,a4⟩:=hc.at_ e;have er:aV r=.head n (wkS r.2.2):=e3 r.2.1 r.2.2;rw[er,show(rwH (.head n (wkS r.2.2))).length=1 from rfl,pz hc ht a4 hr2];congr 1;show mkF ((.plain,.str (c.nums.getD h Hy))::c.titles.getD h [])=_;rw[a3];rfl
  |false =>
   have e:tt.drop h=b7 q rows:=by rw[e];show(if r.1.hd=true then _ else _)=_;rw[if_neg (by rw[hh];decide)]
   rw[CI hh,show h+([]:List (Nat×List Wk)).length=h from rfl,pz hc ht e hr2];congr 1;obtain⟨wy,m,ws⟩:=r;cases wy with
   |words=>rfl
   |lst=>rw[no (show Wy.lst≠Wy.words by decide) rfl];exact Co ht _ _
   |h1=>cases hh
   |h2=>cases hh
   |h3=>cases hh
   |empty=>rw[no (show Wy.empty≠Wy.words by decide) rfl];rfl
   |page=>rw[no (show Wy.page≠Wy.words by decide) rfl];rfl
   |odd=>rw[no (show Wy.odd≠Wy.words by decide) rfl];rfl
   |foot=>rw[no (show Wy.foot≠Wy.words by decide) rfl];rfl
theorem ye(c:Sc):∀(a b:List Rw) (h:Nat),∃h',f8 c h (a++b)=f8 c h a++f8 c h' b
 |[],b,h=>⟨h,rfl⟩
 |r::a,b,h=>by
  obtain⟨h',e⟩:=ye c a b (h+(rwH r).length);exact⟨h',by show rwT c h r++f8 c _ (a++b)=(rwT c h r++f8 c _ a)++_;rw[e,Gs]⟩
structure Fq(all:List bM):Prop where
 nr:∀r∈all,kH r
 len:all.length<=64
 tw:mL rs0 (all.map aV)
 sum:((all.map aV).map rwN).sum<=500
 txg:TxG (aR rs0 (all.map aV)).things (aR rs0 (all.map aV)).feet
 tl:(b7 (0,0,0) all).length<=63
 set:((eV (b7 (0,0,0) all) ld0 all).length<=400/\∃σ,g_ (gx (aE (aR rs0 (all.map aV)).things) (aR rs0 (all.map aV)).feet) (aR rs0 (all.map aV)).things=.ok σ/\σ.ws.map lk=eV (b7 (0,0,0) all) ld0 all)\/(400<(eV (b7 (0,0,0) all) ld0 all).length/\g_ (gx (aE (aR rs0 (all.map aV)).things) (aR rs0 (all.map aV)).feet) (aR rs0 (all.map aV)).things=.error .toolong)
theorem Fs{nm:Nat->List Nat}(hn:NmF nm){wys:List WyD}{rows:List cS}{ns:List bM}(ok:lR wys pi 62 rows)(rr:eC nm (cj rows) (ftN rows) 0 0 rows ns):Fq (ns++bg):=by
 have ke:∀k∈pi,k≠.entry:=by decide
 obtain⟨l1,l2⟩:=rr.len;have osum:=ok.sum;have olen:=ok.len;have endM:∀r∈bg,r=(.empty,[],[])\/r=(.words,[],[(.plain,[101,110,100])]):=λr hr=>by simpa[bg]using hr
 have nr:∀r∈ns++bg,kH r:=λr hr=>by
  rcases List.mem_append.mp hr with hr|hr
  .obtain⟨x,hx,a,h,g⟩:=rr.mem r hr;exact g.ok hn ke (ok.ok x hx).1
  .exact DA r hr
 have dk:∀r∈ns++bg,∀d∈r.2.2,PM d.1:=λr hr d hd=>by
  rcases List.mem_append.mp hr with hr|hr
  .obtain⟨x,hx,a,h,_,_,g⟩:=rr.mem r hr;obtain⟨k,hk,a',z⟩:=g.mem d hd;have kk:PM k.1:=by
    rcases(ok.ok x hx).1.kds k hk with y|y
    .have:k.1=.plain\/k.1=.mark:=by simpa[pi]using y
     exact this
    .exact .inl y
   rcases z with⟨_,rfl⟩|⟨_,z,_⟩|⟨z1,z2,_⟩
   .exact .inr rfl
   .exact .inl z
   .rcases kk with y|y
    .first|exact absurd y z1|exact absurd y z2
    .first|exact absurd y z1|exact absurd y z2
  .rcases endM r hr with rfl|rfl
   .cases hd
   .have:d=(.plain,[101,110,100]):=by simpa using hd
    rw[this];exact .inl rfl
 have tot:((ns++bg).map (·.2.2.length)).sum<=63:=by
  rw[Gm,IS,l2];have e:(bg.map (·.2.2.length)).sum=1:=rfl;omega
 have sum:(((ns++bg).map aV).map rwN).sum<=500:=GM (yb _) (by omega);have len:(ns++bg).length<=64:=by
  rw[Ga,l1];show _+2<=64;omega
 have rg:∀w∈(ns++bg).map aV,RwG w:=λw hw=>by
  obtain⟨r,hr,rfl⟩:=List.mem_map.mp hw;have o:=nr r hr;have rd:∀w∈wkS r.2.2,RdW w:=λw hw=>by
   obtain⟨d,hd,rfl⟩:=List.mem_map.mp hw;exact(o.ok d hd).rd
  have ll:(wkS r.2.2).length<=130:=by unfold wkS;rw[F9];have:=o.len;omega
  obtain⟨wy,n,ws⟩:=r;cases wy<;>first|trivial|exact rd|exact⟨by decide,by decide,ll,rd⟩
 obtain⟨t1,t2⟩:=yW (gx (aE (aR rs0 ((ns++bg).map aV)).things) (aR rs0 ((ns++bg).map aV)).feet) ((ns++bg).map aV) rs0;have t3:(aR rs0 ((ns++bg).map aV)).feet=f9 (ns++bg):=(y0 _ _).trans (uZ _);have t2:aE (aR rs0 ((ns++bg).map aV)).things=((ns++bg).map aV).flatMap rwH:=t2;have hc:ScT (gx (aE (aR rs0 ((ns++bg).map aV)).things) (aR rs0 ((ns++bg).map aV)).feet) (b7 (0,0,0) (ns++bg)):=by rw[t2];exact F0
 have tn:=uH ((ns++bg).map aV) rs0;rw[F9]at tn;have r0:tgS rs0.things=0/\rs0.things.length=0/\rs0.feet.length=0:=⟨rfl,rfl,rfl⟩;have hN:hdN (aR rs0 ((ns++bg).map aV)).things=(b7 (0,0,0) (ns++bg)).length:=by
  unfold hdN;have:=congrArg Ke (ph (ns++bg) (0,0,0)).2;rw[F9,F9]at this;rw[t2,<-this]
 have hl63:(b7 (0,0,0) (ns++bg)).length<=63:=by
  have:∀(l:List bM) (q:Nat×Nat×Nat),(b7 q l).length<=(l.filter λr=>r.1.hd).length:=λl=>by
   induction l with
   |nil=>intro _;exact Gi _
   |cons r l ih =>
    intro q;by_cases hh:r.1.hd=true
    .have e:b7 q (r::l)=(eD (bA q (fA r.1:Int)) (fA r.1:Int),r.2.2)::b7 (bA q (fA r.1:Int)) l:=by show(if r.1.hd=true then _ else _)=_;rw[if_pos hh]
     have:=ih (bA q (fA r.1:Int));rw[e,Gd,Im,if_pos hh,Gd];omega
    .have e:b7 q (r::l)=b7 q l:=by show(if r.1.hd=true then _ else _)=_;rw[if_neg hh]
     rw[e,Im,if_neg hh];exact ih q
  have h1:=this (ns++bg) (0,0,0);rw[Hj,Ga]at h1;have h2:(ns.filter λr=>r.1.hd).length<=ns.length:=Hq _ _;have h3:(bg.filter λr=>r.1.hd).length=0:=rfl;omega
 have ftk:∀p∈f9 (ns++bg),p.2.length<=39/\∀w∈p.2,RdW w/\w.1=.plain:=λp hp=>by
  obtain⟨r,hr,hf,rfl⟩:=Cn hp;obtain⟨_,_,_,g4,g5⟩:=(nr r hr).foot hf;refine⟨by show(wkS r.2.2).length<=39;unfold wkS;rw[F9];exact g4,λw hw=>?_⟩;obtain⟨d,hd,rfl⟩:=List.mem_map.mp hw;refine⟨((nr r hr).ok d hd).rd,?_⟩;rcases dk r hr d hd with z|z
  .exact z
  .exact absurd z (g5 d hd).1
 have txg:TxG (aR rs0 ((ns++bg).map aV)).things (aR rs0 ((ns++bg).map aV)).feet:=by
  refine⟨λt ht=>?_,?_,by show hdN _<=63;rw[hN];exact hl63,by omega⟩
  .have g:=yX rg (λt ht=>by cases ht) t ht;have ln:=Bj ht;cases t with
   |par ws=>exact⟨by show ws.length<=600;have:tgN (.par ws)=ws.length:=rfl;omega,g⟩
   |head n ws=>exact g
   |page=>trivial
   |odd=>trivial
   |lst=>trivial
  .refine⟨by omega,λp hp=>?_⟩;rw[t3]at hp;obtain⟨g1,g2⟩:=ftk p hp;exact⟨g1,λw hw=>⟨(g2 w hw).1,by rw[(g2 w hw).2];decide,by rw[(g2 w hw).2];decide⟩⟩
 have mle:cj rows<=62:=GM (DG rows) (by omega);have fle:ftN rows<=62:=GM (Hq _ _) (by omega);have inj:∀n,n<=1296->((nms nm 0 n).map tx).Nodup:=λn hle=>by
  unfold nms;rw[HU];refine vt (λa ha b hb e=>?_) List.nodup_range;rw[List.mem_range]at ha hb;have:=hn.inj (0+a) (0+b) (by omega) (by omega) (jx e);omega
 have fnd:((rs0.feet++((ns++bg).map aV).flatMap rwF).map (·.1)).Nodup:=by
  have:f9 (ns++bg)=f9 ns:=by rw[Cm];exact GF _
  rw[uZ,this];show((f9 ns).map (·.1)).Nodup;rw[rr.feet];exact inj _ (by omega)
 have nm':kL (nW (ns++bg))=nms nm 0 (cj rows):=by
  have:nW (ns++bg)=nW ns++nW bg:=by unfold nW;rw[Jy]
  rw[this,tF,rr.marks];exact GF _
 have tk:∀t∈(gx (aE (aR rs0 ((ns++bg).map aV)).things) (aR rs0 ((ns++bg).map aV)).feet).titles,∀w∈t,PM w.1:=λt ht w hw=>by
  rw[hc.titles]at ht;obtain⟨u,hu,rfl⟩:=List.mem_map.mp ht;obtain⟨r,hr,_,e⟩:=sh hu;obtain⟨d,hd,rfl⟩:=List.mem_map.mp hw;rw[e]at hd;exact dk r hr d hd
 have fo:=λp hp=>(ftk p hp).2;have nomk:∀r∈ns++bg,r.1≠.words->r.1.hd=false->∀d∈r.2.2,d.1≠.mark:=λr hr h1 h2 d hd=>by
  have o:=nr r hr;by_cases f:r.1=.foot
  .exact((o.foot f).2.2.2.2 d hd).1
  .rw[o.bare (by obtain⟨wy,n,ws⟩:=r;cases wy<;>first|rfl|exact absurd rfl h1|exact absurd rfl f|exact absurd h2 (show ¬ (true=false) by decide))]at hd
   cases hd
 refine⟨nr,len,Bn _ _ fnd,sum,txg,hl63,?_⟩;have rk:=Bm hc (rows:=ns++bg) (s:=rs0) (L:=ld0) (q:=(0,0,0)) (Fp _) rfl;have rk:dr (gx (aE (aR rs0 ((ns++bg).map aV)).things) (aR rs0 ((ns++bg).map aV)).feet) 0 (0,false) (aR rs0 ((ns++bg).map aV)).things=eV (b7 (0,0,0) (ns++bg)) ld0 (ns++bg):=rk;have cf:(gx (aE (aR rs0 ((ns++bg).map aV)).things) (aR rs0 ((ns++bg).map aV)).feet).feet=f9 (ns++bg):=t3;generalize gx (aE (aR rs0 ((ns++bg).map aV)).things) (aR rs0 ((ns++bg).map aV)).feet=c at *;have w1:cT c 0 (aR rs0 ((ns++bg).map aV)).things=f8 c 0 ((ns++bg).map aV):=t1;have kin:=uv tk (h:=0) dk;have names:(bI (f8 c 0 ((ns++bg).map aV)) 0).map (·.1)=(nms nm 0 (cj rows)).map tx:=by
  have e:=pz hc tk (q:=(0,0,0)) (h:=0) (rows:=ns++bg) rfl nomk;rw[uY];show(mkF _).map _=_;rw[e,<-nm'];unfold mkF kL wkS;rw[List.filter_map,HU,HU];rfl
 have fin:=yV (c:=c) (ts:=(aR rs0 ((ns++bg).map aV)).things) (σ:=ss0) ?_ ?_ (by decide)
 rotate_left
 .show ∀w∈cT c 0 _,w.1≠.foot;rw[w1];intro w hw;rcases kin w hw with z|z|z<;>(rw[z];decide)
 .show((([]:List (Str×Nat))++bI (cT c 0 _) 0).map (·.1)).Nodup;rw[w1,Ka,names];exact inj _ (by omega)
 have fin:Two (iH c ss0 (aR rs0 ((ns++bg).map aV)).things) ss0 (cT c 0 (aR rs0 ((ns++bg).map aV)).things) (uW c 0 0 (aR rs0 ((ns++bg).map aV)).things):=fin;have ll:=x9 c (aR rs0 ((ns++bg).map aV)).things 0 (0,false);rw[rk,w1]at ll;rw[w1]at fin;have z0:ss0.ws.length=0:=rfl;rcases fin with⟨h1,σ,e,R⟩|⟨h1,e⟩
 .have ak:=CK (c:=c) (σ:=ss0) (.inl rfl) e;have ak:σ.ws.map lk=dr c 0 (0,false) (aR rs0 ((ns++bg).map aV)).things:=ak;rw[rk]at ak;have rms:σ.ms=bI (f8 c 0 ((ns++bg).map aV)) 0:=R.ms;have rws:σ.ws.map (·.w)=cM (f8 c 0 ((ns++bg).map aV)):=R.ws;have rlen:=R.len;rw[z0,Iu]at rlen;refine .inl ⟨by omega,σ,?_,ak⟩;unfold g_;rw[e];show(match eO c σ with|some e=>_|none=>_)=_
  have ck:eO c σ=none:=by
   unfold eO;rw[if_neg,if_neg]
   .rw[cf,Hw,Ia];intro w hw;have np:jz w.1=false:=by
     rcases List.mem_append.mp hw with hw|hw
     .rw[rws]at hw;obtain⟨h1,h2⟩:=List.mem_filter.mp hw;rcases kin w h1 with z|z|z<;>(rw[z];decide)
     .obtain⟨p,hp,hw⟩:=List.mem_flatMap.mp hw;rw[(fo p hp w hw).2];decide
    unfold kZ;rw[np];simp
   .rw[Hw,Ia];intro m hm;obtain⟨h',sp⟩:=ye c (ns.map aV) (bg.map aV) 0;have e3:f8 c h' (bg.map aV)=[(.plain,.str (tx [101,110,100]))]:=rfl;rw[Gm,sp,e3]at rms rlen;rw[rms,jT]at hm;have hm:m∈bI (f8 c 0 (ns.map aV)) 0:=by
     rcases List.mem_append.mp hm with hm|hm
     .exact hm
     .have:bI [(.plain,.str (tx [101,110,100]))] (0+aU (f8 c 0 (ns.map aV)))=[]:=rfl;rw[this]at hm;cases hm
    have h2:=uV _ _ m hm;have h3:aU ([(.plain,.str (tx [101,110,100]))]:List Wk)=1:=rfl;rw[ig,h3]at rlen;simp only[decide_eq_true_eq];omega
  rw[ck]
 .refine .inr ⟨by omega,?_⟩;unfold g_;rw[e]

def jE:List WyD:=[.way .words,.way .empty,.eq,.way .page,.way .odd,.way .lst,.way .foot,.word,.word,.word,.word,.word,.eq]
def Cp:List WyD:=jE.filter λw=>!decide (w.t=je)
theorem cW9:[V.str (PySem.Str.ofString "words"),V.str (PySem.Str.ofString ""),V.str (PySem.Str.ofString "="),V.str (PySem.Str.ofString ".page"),V.str (PySem.Str.ofString ".odd"),V.str (PySem.Str.ofString ".list"),V.str (PySem.Str.ofString ".foot"),V.str (PySem.Str.ofString "word"),V.str (PySem.Str.ofString "word"),V.str (PySem.Str.ofString "word"),V.str (PySem.Str.ofString "word"),V.str (PySem.Str.ofString "word"),V.str (PySem.Str.ofString "=")]=(jE.map λw=>tx w.t).map V.str:=by decide +kernel
theorem cK9:[V.str (PySem.Str.ofString "plain"),V.str (PySem.Str.ofString "plain"),V.str (PySem.Str.ofString "mark")]=pi.map λk=>V.str k.s:=by decide +kernel
theorem EL{wys:List WyD}(h:wys=jE\/wys=Cp):0<wys.length/\wys.length<=900/\(∀w,.way w∈wys->w.hd=false):=by
 have a:∀w,.way w∈jE->w.hd=false:=λw hw=>by
  have:w=.words\/w=.empty\/w=.page\/w=.odd\/w=.lst\/w=.foot:=by simpa[jE]using hw
  rcases this with rfl|rfl|rfl|rfl|rfl|rfl<;>rfl
 rcases h with rfl|rfl
 .exact⟨by decide,by decide,a⟩
 .exact⟨by decide,by decide,λw hw=>a w (List.mem_filter.mp hw).1⟩
theorem y6{K:PySem.W.Frag}{F:Hp}:∀{ls:List Lk} {vs:List V},aW (LkA F) vs ls->d9 K F (ls.map λl=>DD.tup [.int l.1,.bl l.2]) vs
 |[],[],_=>by rw[Jb];unfold d9;rfl
 |h::hs,v::vs,hh=>by
  obtain⟨⟨a,rfl,ha⟩,h2⟩:=hh;rw[Gp];unfold d9;refine⟨_,vs,rfl,?_,y6 h2⟩;unfold Rep;refine⟨a,_,rfl,SqT.of ha,by show 2<=1000;decide,?_⟩;unfold d9;refine⟨_,_,rfl,by unfold Rep;rfl,?_⟩;unfold d9;refine⟨_,_,rfl,by unfold Rep;rfl,?_⟩;unfold d9;rfl
theorem Bp{K:PySem.W.Frag}{F:Hp}{p:Addr}{ls:List Lk}{vs:List V}(hp:F p=some (.lst vs))(h:aW (LkA F) vs ls)(hl:ls.length<=1000):Rep K F (.lst (ls.map λl=>DD.tup [.int l.1,.bl l.2])) (.ref p):=by
 unfold Rep;exact⟨p,vs,rfl,SqL.of hp,by rw[F9];exact hl,y6 h⟩
theorem DI(ls:List Lk):(DD.lst (ls.map λl=>DD.tup [.int l.1,.bl l.2])).deep<=2:=by
 have:∀l:List DD,(∀d∈l,d.deep<=1)->jY l<=1:=λl=>by
  induction l with
  |nil=>intro _;unfold jY;exact GZ _
  |cons d l ih =>
   intro h;unfold jY;exact Nat.max_le.mpr ⟨h d Gk,ih λx hx=>h x (Gh _ hx)⟩
 unfold DD.deep;have:=this (ls.map λl=>DD.tup [.int l.1,.bl l.2]) λd hd=>by
  obtain⟨w,_,rfl⟩:=List.mem_map.mp hd;simp[DD.deep,jY]
 omega
theorem gj:aL ["script","first","form","ways","named","due","rows","found","refused"] ["script"] (av zF):=by walk_at "c"
theorem ok_law(T:Txt P w K mg a):a_ P w K mg base CX0 9 a.z7 a.uw ["script"] (AE K):=by
 refine T.wu.fn.ok gj (λvs H Q E h=>?_) (λcdv A outer s H vs Q E hr h=>?_)
 .obtain⟨a,ns,rfl,_⟩:=h;rfl
 obtain⟨sa,zs,rfl,hS,h63,q⟩:=h;refine⟨_,(@ag _ _ _ _ _ (aA (i:=1) gj.nd rfl (Gr rfl) (aD T.ny (xH T) (hr.mono (by decide)) rfl (aa (pv 0) (aa ah ae))))
   (@ag _ _ _ _ _ (aA (i:=2) gj.nd rfl (Gr rfl) (aD T.tH (A9 T) (hr.mono (by decide)) rfl (aa (pv 1) ae)))
   (@ag _ _ _ _ _ (@CA _ 3 _ _ _ _ _ _ gj.nd rfl (Gr rfl) (CL.str (CL.str (CL.str (CL.str (CL.str (CL.str (CL.str (CL.str (CL.str (CL.str (CL.str (CL.str (CL.str CL.nil))))))))))))) (by first|exact .inl rfl|exact .inr rfl))
   (@ag _ _ _ _ _ (aI (au bn (aD T.bV (bR T) (hr.mono (by decide)) rfl (aa (pv 1) (aa ah (aa ah ae)))) ah (nomark _)) (ai (vZ (k:=3) rfl (eB (caps:=[]) (js:=[]) (cap:=trivial)) (bq (pv 3)) (λ_ _ _ _=>(jq (au iF (pv 0) aq (nomark _)))) (λ_ _ _ _=>(pv 0)) gj.nd rfl rfl)) aK)
   (@ag _ _ _ _ _ (aA (i:=4) gj.nd rfl (Gr rfl) (aD T.rm (zN T) (hr.mono (by decide)) rfl (aa (aD T.tI (Be T) (hr.mono (by decide)) rfl (aa (pv 0) (aa (pv 3) (aa (aQ (aa aq (aa aq (aa aq ae)))) ae)))) (aa (pv 1) ae))))
   (@ag _ _ _ _ _ (aA (i:=5) gj.nd rfl (Gr rfl) (aD T.rj (zJ T) (hr.mono (by decide)) rfl (aa (pv 4) (aa (aD T.pB (yp T) (hr.mono (by decide)) rfl (aa (pv 4) ae)) ae))))
   (@ag _ _ _ _ _ (aA (i:=6) gj.nd rfl (Gr rfl) (aD T.pA (yn T) (hr.mono (by decide)) rfl (aa (Ep rfl (eB (caps:=[]) (js:=[]) (cap:=trivial)) (bq (pv 4)) (λ_ _ _ _=>du) (λ_ _ _ _=>(aD T.tJ (Bg T) (hr.mono (by decide)) rfl (aa (pv 0) (aa (pv 1) (aa (pv 2) ae)))))) (aa (pv 1) ae))))
   (@ag _ _ _ _ _ (aA (i:=7) gj.nd rfl (Gr rfl) Ai)
   (@ag _ _ _ _ _ (aA (i:=8) gj.nd rfl (Gr rfl) cN)
   (@ag _ _ _ _ _ (zm (i:=7) gj.nd rfl (Gr rfl) T.nD (xV T) (hr.mono (by decide)) rfl (λ_=>(aa (pv 6) (aa (pv 2) ae))) rfl T.rQ ⟨rfl,rfl⟩ (λ_=>(ai (aA (i:=8) gj.nd rfl (Gr rfl) cN))))
   (@ag _ _ _ _ _ (aI (au ja (aH bw rfl T.bO PySem.boot_len (aa (pv 5) ae)) ah (nomark _)) (ai (aP (pv 8))) aK)
   (@ag _ _ _ _ _ (aI (PW.pt (iE (dL (pv 8) (λ_=>rfl)) (iE (lE (dL (aH dZ rfl T.bx GR (aa (pv 7) (aa (e_ (v:=.ty "tuple") rfl T.fT Io rfl) ae))) (λ_=>rfl))) (iE (au iF (aH bw rfl T.bO PySem.boot_len (aa (pv 7) ae)) ah (nomark _)) (i7 (lE (dL (aH dZ rfl T.bx GR (aa (aJ bC (pv 7) ah (λ_ _=>rfl)) (aa (e_ (v:=.ty "tuple") rfl T.fT Io rfl) ae))) (λ_=>rfl)))))))) (ai (aP cN)) aK)
   (ai (aP (aD T.jv (zG T) (hr.mono (by decide)) rfl (aa (fY rfl (eB (caps:=[]) (js:=[]) (cap:=trivial)) (bq (aJ bC (aJ bC (pv 7) ah (λ_ _=>rfl)) ah (λ_ _=>rfl))) (λ_ _ _ _=>du) (λ_ _ _ _=>(dm (r:=D4 K) D5 (pv 0) eJ (dB ah)))) (aa (pv 5) ae))))))))))))))))),?_⟩
 refine⟨_,rfl,sa,zs,0,rfl,hS,?_⟩;generalize zs.getD 0 0=f;refine⟨_,rfl,f,rfl,λfo H1 x y z u hfo s1 kfo=>?_⟩;refine⟨aN (by simp),λp1 hp1=>?_⟩;have s2:=af hp1 (.lst [V.str (PySem.Str.ofString "words"),V.str (PySem.Str.ofString ""),V.str (PySem.Str.ofString "="),V.str (PySem.Str.ofString ".page"),V.str (PySem.Str.ofString ".odd"),V.str (PySem.Str.ofString ".list"),V.str (PySem.Str.ofString ".foot"),V.str (PySem.Str.ofString "word"),V.str (PySem.Str.ofString "word"),V.str (PySem.Str.ofString "word"),V.str (PySem.Str.ofString "word"),V.str (PySem.Str.ofString "word"),V.str (PySem.Str.ofString "=")]);have k2:upd H1 p1 (.lst [V.str (PySem.Str.ofString "words"),V.str (PySem.Str.ofString ""),V.str (PySem.Str.ofString "="),V.str (PySem.Str.ofString ".page"),V.str (PySem.Str.ofString ".odd"),V.str (PySem.Str.ofString ".list"),V.str (PySem.Str.ofString ".foot"),V.str (PySem.Str.ofString "word"),V.str (PySem.Str.ofString "word"),V.str (PySem.Str.ofString "word"),V.str (PySem.Str.ofString "word"),V.str (PySem.Str.ofString "word"),V.str (PySem.Str.ofString "=")]) p1=some (.lst ((jE.map λw=>tx w.t).map V.str)):=by rw[ac,cW9]
 generalize upd H1 p1 (.lst [V.str (PySem.Str.ofString "words"),V.str (PySem.Str.ofString ""),V.str (PySem.Str.ofString "="),V.str (PySem.Str.ofString ".page"),V.str (PySem.Str.ofString ".odd"),V.str (PySem.Str.ofString ".list"),V.str (PySem.Str.ofString ".foot"),V.str (PySem.Str.ofString "word"),V.str (PySem.Str.ofString "word"),V.str (PySem.Str.ofString "word"),V.str (PySem.Str.ofString "word"),V.str (PySem.Str.ofString "word"),V.str (PySem.Str.ofString "=")])=H2 at s2 k2⊢;have s12:=s1.trans s2;have kfo2:=s2 _ _ kfo;dsimp only[bD];refine cH (λσ' G=>∃(pw:Addr) (wys:List WyD),σ'=[some (.ref sa),some (.int f),some (.ref fo),some (.ref pw),none,none,none,none,none]/\am H2 G/\G pw=some (.lst ((wys.map λw=>tx w.t).map V.str))/\(wys=jE\/wys=Cp)) ?_ (λkey=>?_)
 .rintro σ' G0 ⟨pw,wys,rfl,m0,kw,hwy⟩;obtain⟨w1,w2,w3⟩:=EL hwy;refine⟨_,rfl,_,rfl,le3,λp2 hp2=>?_⟩;have s3:=af hp2 (.lst [V.str (PySem.Str.ofString "plain"),V.str (PySem.Str.ofString "plain"),V.str (PySem.Str.ofString "mark")]);have k3:upd G0 p2 (.lst [V.str (PySem.Str.ofString "plain"),V.str (PySem.Str.ofString "plain"),V.str (PySem.Str.ofString "mark")]) p2=some (.lst (pi.map λk=>V.str k.s)):=by rw[ac,cK9]
  generalize upd G0 p2 (.lst [V.str (PySem.Str.ofString "plain"),V.str (PySem.Str.ofString "plain"),V.str (PySem.Str.ofString "mark")])=H3 at s3 k3⊢;have s13:=s12.trans (m0.trans s3);refine⟨sa,pw,p2,zs,wys,pi,rfl,s13.seq hS,h63,SqL.of (s3 _ _ kw),SqL.of k3,w1,by decide,w2,by decide,w3,λpr H4 rows rv hpr s4 kr ral rok=>?_⟩;have rne:∀r∈rows,r.2.length<=6/\∀w∈r.2,w.1≠.entry:=λr hr=>⟨(rok.ok r hr).1.len,λw hw=>by
   rcases(rok.ok r hr).1.kds w hw with z|z
   .exact(show ∀k∈pi,k≠.entry by decide) _ z
   .rw[z];decide⟩
  refine⟨_,rfl,pr,f,rows,rv,rfl,kr,ral.imp λ_ _=>RrA.mono bT,rok.len,rne,λpn H5 ns nv hpn s5 kn nal rr=>?_⟩;have L:=Fs (Fk f) rok rr;have kfo5:=s5 _ _ (s4 _ _ ((m0.trans s3) _ _ kfo2));have lnv:=nal.len;generalize ns++bg=all at *;have nr:=L.nr;have nlen:=L.len;have rl:=λr hr=>(nr r hr).len;have tl63:=L.tl;have tw:∀t∈b7 (0,0,0) all,t.2.length<=129:=λt ht=>by
   obtain⟨r,hr,_,e⟩:=sh ht;rw[e];exact rl r hr
  dsimp only[bD];refine⟨_,rfl,_,rfl,pn,nv,all,rfl,kn,nal,by omega,λpt H6 tv hpt s6 kt tal=>⟨pn,pt,nv,tv,all,b7 (0,0,0) all,rfl,s6 _ _ kn,nal.imp λ_ _=>NnA.mono s6,kt,tal,by omega,tl63,rl,tw,λpd H8 dv hpd s8' kd dal=>?_⟩⟩;dsimp only[bD];have s58:=s6.trans s8';have knG:=s58 _ _ kn;have nalG:aW (NnA H8) nv all:=nal.imp λ_ _=>NnA.mono s58;refine⟨_,rfl,pn,rfl,⟨_,SqL.of knG⟩,B7 (K:=K) (a:=pn) (xs:=nv) (λi ys G'=>am H8 G'/\ys=(((all.take i).map λr=>cz [32] (eZ true r)).map tx).map V.str) ⟨am.refl _,rfl⟩ (λi ys G' _ z=>SqL.of (z.1 _ _ knG)) ?_ ?_ ?_⟩
  .rintro i ys G' hi ⟨_,rfl⟩;simp only[F9,GC];exact aw (by omega)
  .rintro i y' ys G' hy ⟨m',rfl⟩;obtain⟨n,hn,b,l,rfl,hb,hl⟩:=nalG.getL hy;refine⟨b,_,_,_,rfl,SqT.of (m' _ _ hb),dM ?_⟩;refine⟨_,rfl,_,rfl,_,rfl,n,l,rfl,hl.mono m',nr n (Gj hn),λG2' m2=>⟨m'.trans m2,?_⟩⟩;rw[a7 hn,Gm,Gm,Gm];rfl
  rintro ys G' ⟨m',rfl⟩ pj hpj;rw[lnv,Gz];have m8:=m'.trans (af hpj (.lst (((all.map λr=>cz [32] (eZ true r)).map tx).map V.str)));have k8:upd G' pj (.lst (((all.map λr=>cz [32] (eZ true r)).map tx).map V.str)) pj=some (.lst (((all.map λr=>cz [32] (eZ true r)).map tx).map V.str)):=ac;generalize upd G' pj (.lst (((all.map λr=>cz [32] (eZ true r)).map tx).map V.str))=G3 at m8 k8⊢;refine⟨_,rfl,pj,f,all.map λr=>cz [32] (eZ true r),rfl,SqL.of k8,by rw[F9];omega,?_,λpq B ss hpq m9 kq spd ssl=>?_⟩
  .intro r hr;obtain⟨n,hn,rfl⟩:=List.mem_map.mp hr;exact qB true (nr n hn)
  rw[F9]at ssl;dsimp only[bD];have mB:=m8.trans m9;have sp:=spd.all nr;have ar:=sp.rows nr;have kdB:=mB _ _ kd;have dalB:=dal.imp λ_ _=>LkA.mono mB;have Lset:=L.set;generalize eV (b7 (0,0,0) all) ld0 all=due at *;have ld:=dal.len;refine CF (CF ?_);refine cH (λσ' G=>∃(fv:V) (rf:Bool),σ'=[some (.ref sa),some (.int f),some (.ref fo),some (.ref pw),some (.ref pn),some (.ref pd),some (.ref pq),some fv,some (.bl rf)]/\am B G/\((rf=true/\400<due.length)\/(rf=false/\due.length<=400/\∃(σ0:Ss) (fd qa tp ma ha:Addr) (us5:List V) (fs:List Addr),fv=.ref fd/\σ0.ws.map lk=due/\G fd=some (.tup [.ref qa,.ref ma,.ref ha])/\G qa=some (.tup [.ref fo,.ref tp])/\le B G σ0 tp us5 fs))) ?_ (λkey=>?_)
  .rintro σ' G ⟨fv,rf,rfl,mG,hcase⟩;have kdG:=mG _ _ kdB;have dalG:=dalB.imp λ_ _=>LkA.mono mG;refine⟨_,rfl,_,_,rfl,.inl (SqL.of kdG),_,_,rfl,rfl,_,rfl,?_⟩;rcases hcase with⟨rfl,hg⟩|⟨rfl,hle,σ0,fd,qa,tp,ma,ha,us5,fs,rfl,O,e1,e2,T5⟩
   .refine eY (λ_=>?_) (λc=>absurd (decide_eq_true (by omega)) c);exact⟨_,rfl,q _⟩
   .refine eY (λc=>absurd (of_decide_eq_true c) (by omega)) (λ_=>?_);dsimp only[fV];have tal5:aW (TwA σ0 G) us5 (σ0.ws.zip fs):=T5.all.imp λ_ _=>TwA.mono bT;have lz:=tal5.len;rw[List.length_zip,T5.len,Nat.min_self]at lz;have lN:σ0.ws.length=due.length:=by rw[<-O,F9]
    have g3:=T5.at_;refine⟨_,rfl,_,rfl,?_⟩;refine ay ?_;refine⟨_,rfl,_,"tuple",true,rfl,(by decide),.inr ⟨⟨_,SqT.of e1⟩,rfl⟩,_,rfl,?_⟩;refine ay ?_;refine⟨_,rfl,_,_,rfl,.inr (SqT.of e1),rfl,_,rfl,?_⟩;refine ay ?_;refine⟨_,rfl,_,_,_,_,rfl,rfl,SqT.of e1,rfl,_,"tuple",true,rfl,(by decide),.inr ⟨⟨_,SqT.of e2⟩,rfl⟩,_,rfl,?_⟩;refine ay ?_;dsimp only[fV];refine⟨_,rfl,_,_,_,_,rfl,rfl,SqT.of e1,rfl,_,_,_,_,rfl,rfl,SqT.of e2,rfl,tp,rfl,⟨_,SqL.of g3⟩,dC (K:=K) (a:=tp) (xs:=us5) (λi zs G'=>am G G'/\zs.length=i/\aW (LkA G') zs (due.take i)) ⟨am.refl _,rfl,trivial⟩ (λi zs G' _ z=>SqL.of (z.1 _ _ g3)) ?_ ?_ ?_⟩
    .rintro i zs G' hi ⟨_,zl',_⟩;exact aw (by omega)
    .rintro i y' zs G' hy ⟨mz,zl',az⟩;obtain⟨⟨t,f'⟩,hw,b,s,vs,rfl,hb,hsy,hf,_⟩:=tal5.getL hy;have ht:σ0.ws[i]?=some t:=by
      rw[List.getElem?_zip_eq_some]at hw;exact hw.1
     have hd:due[i]?=some (lk t):=by rw[<-O,GD,ht];rfl
     refine dM ?_;refine⟨_,rfl,_,rfl,_,_,rfl,SqT.of (mz _ _ hb),(λz=>absurd z.2 (show ¬ (HT.sIx 4 4 (some 2)=4) by decide)),λp8 hp8=>?_⟩;have c8:=af hp8 (.tup [V.int t.lead,V.bl t.kept]);refine⟨mz.trans c8,by rw[Ga,zl'];rfl,?_⟩;rw[a7 hd];exact(az.imp λ_ _=>LkA.mono c8).snoc ⟨p8,rfl,ac⟩
    rintro zs' F ⟨mz,zl',az⟩ p11 hp11;rw[show us5.length=due.length by omega,Gz]at az;have c11:=af hp11 (.lst zs');have r1:Rep K (upd F p11 (.lst zs')) (.lst (due.map λl=>DD.tup [.int l.1,.bl l.2])) (.ref p11):=Bp ac (az.imp λ_ _=>LkA.mono c11) (by omega);have r2:Rep K (upd F p11 (.lst zs')) (.lst (due.map λl=>DD.tup [.int l.1,.bl l.2])) (.ref pd):=Bp ((mz.trans c11) _ _ kdG) (dalG.imp λ_ _=>LkA.mono (mz.trans c11)) (by omega);generalize upd F p11 (.lst zs')=F3 at c11 r1 r2⊢;exact⟨_,rfl,_,_,_,rfl,GA (DI _) (by decide),r1,r2,q _⟩
  .refine⟨_,rfl,_,rfl,pq,.ref fo,ss,all.map aV,rfl,SqL.of kq,ar,by omega,L.tw,L.sum,L.txg,λe he H' s'=>?_,λσ0 fd G5 qa tp ma ha us5 fs hvs q1 sm q2 e1 e2 T5 e6 n2 e7 q7 n3' n4' q9 e8=>?_⟩
   .rcases Lset with⟨_,σ1,es,_⟩|⟨hg,es⟩
    .rw[es]at he;cases he
    .rw[es]at he;cases he;refine⟨_,rfl,T.dw,?_⟩;exact key _ _ ⟨.non,true,rfl,s',.inl ⟨rfl,hg⟩⟩
   .rcases Lset with⟨hle,σ1,es,O⟩|⟨_,es⟩
    .rw[es]at q1;injection q1 with q1;subst q1;exact key _ _ ⟨_,false,rfl,sm,.inr ⟨rfl,hle,σ1,fd,qa,tp,ma,ha,us5,fs,rfl,O,e1,e2,T5⟩⟩
    .rw[es]at q1;cases q1
 .refine⟨_,rfl,_,47,3,rfl,⟨by decide,by decide⟩,by decide,rfl,_,rfl,?_⟩;refine eY (λ_=>?_) (λ_=>?_)
  .refine⟨_,rfl,p1,rfl,⟨_,SqL.of k2⟩,dC (K:=K) (a:=p1) (xs:=(jE.map λw=>tx w.t).map V.str) (λi ys G=>H2=G/\ys=(((jE.take i).filter λw=>!decide (w.t=je)).map λw=>tx w.t).map V.str) ⟨rfl,rfl⟩ (λi ys G _ z=>by rw[<-z.1];exact SqL.of k2) ?_ ?_ ?_⟩
   .rintro i ys G hi ⟨_,rfl⟩;simp only[F9];have h1:=Hq (λw:WyD=>!decide (w.t=je)) (jE.take i);have h2:(jE.take i).length<=13:=by rw[GC];exact Nat.min_le_right _ _
    exact aw (by omega)
   .rintro i y' ys G hy ⟨rfl,rfl⟩;obtain⟨w,hw,rfl⟩:∃w,jE[i]?=some w/\V.str (tx w.t)=y':=by
     rw[GD,GD]at hy;cases e:jE[i]? with
     |none=>rw[e]at hy;cases hy
     |some w=>rw[e]at hy;exact⟨w,rfl,GW hy⟩
    refine⟨_,rfl,rfl,_,rfl,?_⟩;rw[bY wj,a7 hw,Hj];by_cases hm:w.t=je
    .rw[decide_eq_true hm];refine ay ?_;exact⟨rfl,by simp[hm]⟩
    .rw[decide_eq_false hm];refine aM ?_;exact⟨_,rfl,rfl,by simp[hm]⟩
   rintro ys G ⟨rfl,rfl⟩ p3 hp3;refine key _ _ ⟨p3,Cp,rfl,af hp3 _,?_,.inr rfl⟩;rw[ac];rfl
  .exact key _ _ ⟨p1,jE,rfl,am.refl _,k2,.inl rfl⟩
end
abbrev Zn(K:PySem.W.Frag)(n:Str):Prop:=PySem.W.nsIn K GP n=some none
theorem txt_mk{P:GH}{w:GJ}{K:PySem.W.Frag}{h:Heap}{mg:Str->Option F_}(X:K.In h)(G:h.Ns GP mg)
  {ad:AdD}(D:TxD K mg ad)
  (si:Zn K "all")
  (i8:Zn K "bool")
  (oz:Zn K "dict")
  (fB:Zn K "enumerate")
  (iJ:Zn K "int")
  (bx:Zn K "isinstance")
  (bO:Zn K "len")
  (kE:Zn K "list")
  (lB:Zn K "max")
  (eQ:Zn K "range")
  (jG:Zn K "str")
  (sj:Zn K "sum")
  (fT:Zn K "tuple")
  (sk:Zn K "zip")
  {cY:Addr}(m_NoFoot:PySem.W.nsIn K GP "NoFoot" = some (some (.ref cY)))(e_NoFoot:PySem.W.excIn K cY qr "ValueError.__new__" = true)
  {cZ:Addr}(m_NoMark:PySem.W.nsIn K GP "NoMark" = some (some (.ref cZ)))(e_NoMark:PySem.W.excIn K cZ qr "ValueError.__new__" = true)
  {bZ:Addr}(m_TooLong:PySem.W.nsIn K GP "TooLong" = some (some (.ref bZ)))(e_TooLong:PySem.W.excIn K bZ qr "ValueError.__new__" = true)
  {dF:Addr}(m_Twice:PySem.W.nsIn K GP "Twice" = some (some (.ref dF)))(e_Twice:PySem.W.excIn K dF qr "ValueError.__new__" = true)
  (dw:ud K bZ bZ)
  {jt:Addr}(gq:PySem.W.nsIn K GP "ALONE" = some (some (.ref jt))){od_ALONE:Option Addr}{sl_ALONE:Array (Option F_)}{n_ALONE:Nat}{k_ALONE0:Tok}{k_ALONE1:Tok}{k_ALONE2:Tok}(l_ALONE:K.lookup jt=some ⟨.type "tuple",od_ALONE,.seq #[.str (PySem.Str.ofString ".page") k_ALONE0,.str (PySem.Str.ofString ".odd") k_ALONE1,.str (PySem.Str.ofString ".list") k_ALONE2] n_ALONE,sl_ALONE⟩)
  {t_FIGURES:Tok}(eI:PySem.W.nsIn K GP "FIGURES" = some (some (.str (PySem.Str.ofString "0123456789") t_FIGURES)))
  {ju:Addr}(gr:PySem.W.nsIn K GP "HEADS" = some (some (.ref ju))){od_HEADS:Option Addr}{sl_HEADS:Array (Option F_)}{n_HEADS:Nat}{k_HEADS0:Tok}{k_HEADS1:Tok}{k_HEADS2:Tok}(l_HEADS:K.lookup ju=some ⟨.type "tuple",od_HEADS,.seq #[.str (PySem.Str.ofString "=") k_HEADS0,.str (PySem.Str.ofString "==") k_HEADS1,.str (PySem.Str.ofString "===") k_HEADS2] n_HEADS,sl_HEADS⟩)
  {fb:Addr}(fP:PySem.W.nsIn K GP "KINDS" = some (some (.ref fb))){oc_KINDS:F_}{od_KINDS:Option Addr}{es_KINDS:Array Hd}{ep_KINDS:Nat}{sl_KINDS:Array (Option F_)}(l_KINDS:K.lookup fb=some ⟨oc_KINDS,od_KINDS,.dict es_KINDS ep_KINDS,sl_KINDS⟩)
  (b_KINDS:(fb==HI)=false)(c_KINDS:(⟨oc_KINDS,od_KINDS,.dict es_KINDS ep_KINDS,sl_KINDS⟩:Obj).ExactDict)(e_KINDS:xw w es_KINDS li)
  {df:Addr}(fQ:PySem.W.nsIn K GP "LEAPS" = some (some (.ref df))){oc_LEAPS:F_}{od_LEAPS:Option Addr}{es_LEAPS:Array Hd}{ep_LEAPS:Nat}{sl_LEAPS:Array (Option F_)}(l_LEAPS:K.lookup df=some ⟨oc_LEAPS,od_LEAPS,.dict es_LEAPS ep_LEAPS,sl_LEAPS⟩)
  (b_LEAPS:(df==HI)=false)(c_LEAPS:(⟨oc_LEAPS,od_LEAPS,.dict es_LEAPS ep_LEAPS,sl_LEAPS⟩:Obj).ExactDict)(e_LEAPS:xw w es_LEAPS gT)
  {t_LETTERS:Tok}(dR:PySem.W.nsIn K GP "LETTERS" = some (some (.str (PySem.Str.ofString "abcdefghijklmnopqrstuvwxyz") t_LETTERS)))
  {t_LONGEST_NAME:Tok}(cp:PySem.W.nsIn K GP "LONGEST_NAME" = some (some (.int 12 t_LONGEST_NAME)))
  {t_LONGEST_TEXT:Tok}(cq:PySem.W.nsIn K GP "LONGEST_TEXT" = some (some (.int 60 t_LONGEST_TEXT)))
  {t_MOST_CALLS:Tok}(cU:PySem.W.nsIn K GP "MOST_CALLS" = some (some (.int 400 t_MOST_CALLS)))
  {t_MOST_FOOT_WORDS:Tok}(bW:PySem.W.nsIn K GP "MOST_FOOT_WORDS" = some (some (.int 39 t_MOST_FOOT_WORDS)))
  {t_MOST_WORDS_books:Tok}(bH:PySem.W.nsIn K GP "MOST_WORDS_books" = some (some (.int 400 t_MOST_WORDS_books)))
  {t_MOST_WORDS_shorts:Tok}(bJ:PySem.W.nsIn K GP "MOST_WORDS_shorts" = some (some (.int 400 t_MOST_WORDS_shorts)))
  {fg:Addr}(dJ:PySem.W.nsIn K GP "POINTING" = some (some (.ref fg))){od_POINTING:Option Addr}{sl_POINTING:Array (Option F_)}{n_POINTING:Nat}{k_POINTING0:Tok}{k_POINTING1:Tok}{k_POINTING2:Tok}(l_POINTING:K.lookup fg=some ⟨.type "tuple",od_POINTING,.seq #[.str (PySem.Str.ofString "number") k_POINTING0,.str (PySem.Str.ofString "page") k_POINTING1,.str (PySem.Str.ofString "row") k_POINTING2] n_POINTING,sl_POINTING⟩) :
  ∃a:Adr,Txt P w K mg a:=by
 refine⟨{ toAdD:=ad,jt:=jt,ju:=ju,fb:=fb,df:=df,fg:=fg,cY:=cY,cZ:=cZ,bZ:=bZ,dF:=dF },{
  toTxD:=D,
  si:=PySem.W.mg_none_of X G si,
  i8:=PySem.W.mg_none_of X G i8,
  oz:=PySem.W.mg_none_of X G oz,
  fB:=PySem.W.mg_none_of X G fB,
  iJ:=PySem.W.mg_none_of X G iJ,
  bx:=PySem.W.mg_none_of X G bx,
  bO:=PySem.W.mg_none_of X G bO,
  kE:=PySem.W.mg_none_of X G kE,
  lB:=PySem.W.mg_none_of X G lB,
  eQ:=PySem.W.mg_none_of X G eQ,
  jG:=PySem.W.mg_none_of X G jG,
  sj:=PySem.W.mg_none_of X G sj,
  fT:=PySem.W.mg_none_of X G fT,
  sk:=PySem.W.mg_none_of X G sk,
  yf:=⟨PySem.W.mg_of X G m_NoFoot,e_NoFoot⟩,
  tR:=⟨PySem.W.mg_of X G m_NoMark,e_NoMark⟩,
  rQ:=⟨PySem.W.mg_of X G m_TooLong,e_TooLong⟩,
  y7:=⟨PySem.W.mg_of X G m_Twice,e_Twice⟩,
  dw:=dw,
  gq:=⟨PySem.W.mg_of X G gq,λH=>.inr ⟨_,_,_,l_ALONE,rfl,rfl,by show 3<=Gv;decide,.cons ⟨_,rfl⟩ (.cons ⟨_,rfl⟩ (.cons ⟨_,rfl⟩ (.nil)))⟩⟩,
  eI:=⟨t_FIGURES,PySem.W.mg_of X G eI⟩,
  gr:=⟨PySem.W.mg_of X G gr,λH=>.inr ⟨_,_,_,l_HEADS,rfl,rfl,by show 3<=Gv;decide,.cons ⟨_,rfl⟩ (.cons ⟨_,rfl⟩ (.cons ⟨_,rfl⟩ (.nil)))⟩⟩,
  fP:=⟨PySem.W.mg_of X G fP,yO b_KINDS l_KINDS c_KINDS e_KINDS⟩,
  fQ:=⟨PySem.W.mg_of X G fQ,yO b_LEAPS l_LEAPS c_LEAPS e_LEAPS⟩,
  dR:=⟨t_LETTERS,PySem.W.mg_of X G dR⟩,
  cp:=⟨t_LONGEST_NAME,PySem.W.mg_of X G cp⟩,
  cq:=⟨t_LONGEST_TEXT,PySem.W.mg_of X G cq⟩,
  cU:=⟨t_MOST_CALLS,PySem.W.mg_of X G cU⟩,
  bW:=⟨t_MOST_FOOT_WORDS,PySem.W.mg_of X G bW⟩,
  bH:=⟨t_MOST_WORDS_books,PySem.W.mg_of X G bH⟩,
  bJ:=⟨t_MOST_WORDS_shorts,PySem.W.mg_of X G bJ⟩,
  dJ:=⟨PySem.W.mg_of X G dJ,λH=>.inr ⟨_,_,_,l_POINTING,rfl,rfl,by show 3<=Gv;decide,.cons ⟨_,rfl⟩ (.cons ⟨_,rfl⟩ (.cons ⟨_,rfl⟩ (.nil)))⟩⟩ }⟩
theorem walk{l:PySem.W.OpenLaw}{q:GH}{loose:List Str}{XP:(Str->Option F_)->Heap->Prop}{YP:GJ->Heap->Prop}{d:DefRec}{K:GV->PySem.W.Frag}(hn:l.most=some 63)(hdf:d.params.defaults=[])(hnm:d.name = "law")
  (hY:∀(w:GJ) (h:Heap),YP w h->(K w.params).In h)
  (F:∀(w:GJ) (mg:Str->Option F_) (h:Heap),(K w.params).In h->h.Ns GP mg->∃a:Adr,Txt l.prog w (K w.params) mg a) :
  PySem.W.WalkO q loose XP YP l.row.toRowW d [] (λf vs=>PySem.call f vs):=
 L2.walk_of (n:=63) (k:=9) (x := "script") (CX:=λ_=>CX0) (sp:=λw=>AE (K w.params)) hn (by decide) hdf ⟨rfl,by decide,by decide⟩ hY (λw mg fa h KX G hmg=>by
  obtain⟨a,T⟩:=F w mg h KX G;have e0:=hmg.symm.trans (hnm▸T.wu.mg);cases e0;refine⟨a.uw,λs u=>.of_eq (T.wu.ba [u] rfl),λbase _ _=>ok_law T⟩) (λ_ _ a ns hl _ hS=>⟨a,ns,rfl,hS,hl,λ_=>rfl⟩) λ_ _ _ _ _ z=>z
end K59
namespace K59
open PySem PySem.W L2 Tl PyProof.Rows
theorem us1{us:List F_}(h:us.length=1):∃a0,us=[a0]:=by
 match us,h with
 |[a0],_=>exact⟨a0,rfl⟩
theorem us2{us:List F_}(h:us.length=2):∃a0 a1,us=[a0,a1]:=by
 match us,h with
 |[a0,a1],_=>exact⟨a0,a1,rfl⟩
theorem us3{us:List F_}(h:us.length=3):∃a0 a1 a2,us=[a0,a1,a2]:=by
 match us,h with
 |[a0,a1,a2],_=>exact⟨a0,a1,a2,rfl⟩
theorem us4{us:List F_}(h:us.length=4):∃a0 a1 a2 a3,us=[a0,a1,a2,a3]:=by
 match us,h with
 |[a0,a1,a2,a3],_=>exact⟨a0,a1,a2,a3,rfl⟩
theorem us6{us:List F_}(h:us.length=6):∃a0 a1 a2 a3 a4 a5,us=[a0,a1,a2,a3,a4,a5]:=by
 match us,h with
 |[a0,a1,a2,a3,a4,a5],_=>exact⟨a0,a1,a2,a3,a4,a5,rfl⟩
noncomputable abbrev fdO(n q:Str)(s:Stmt)(d:F_)(m:String)(k:Nat)(r:Addr):Gu:=fnOf n q (cy s) (b_ s) (av s) d .none .none (.str (JZ m) k) none (.ref r) .none
noncomputable abbrev fb0(n q:Str)(s:Stmt)(d:F_)(r:Addr):Gu:=fdO n q s d "law_trueleaf_k59_leads_and_keeps" 818 r
noncomputable abbrev fa0(n:Str)(s:Stmt)(r:Addr):Gu:=fb0 n n s .none r
noncomputable abbrev fb1(n q:Str)(s:Stmt)(d:F_)(r:Addr):Gu:=fdO n q s d "trueleaf.signs" 355 r
noncomputable abbrev fa1(n:Str)(s:Stmt)(r:Addr):Gu:=fb1 n n s .none r
noncomputable abbrev fb2(n q:Str)(s:Stmt)(d:F_)(r:Addr):Gu:=fdO n q s d "trueleaf.heads" 407 r
noncomputable abbrev fa2(n:Str)(s:Stmt)(r:Addr):Gu:=fb2 n n s .none r
noncomputable abbrev fb3(n q:Str)(s:Stmt)(d:F_)(r:Addr):Gu:=fdO n q s d "trueleaf.setting" 670 r
noncomputable abbrev fa3(n:Str)(s:Stmt)(r:Addr):Gu:=fb3 n n s .none r
noncomputable abbrev fb4(n q:Str)(s:Stmt)(d:F_)(r:Addr):Gu:=fdO n q s d "trueleaf.reading" 554 r
noncomputable abbrev fa4(n:Str)(s:Stmt)(r:Addr):Gu:=fb4 n n s .none r
noncomputable abbrev fb5(n q:Str)(s:Stmt)(d:F_)(r:Addr):Gu:=fdO n q s d "trueleaf.shorts" 469 r
noncomputable abbrev fa5(n:Str)(s:Stmt)(r:Addr):Gu:=fb5 n n s .none r
noncomputable abbrev fb6(n q:Str)(s:Stmt)(d:F_)(r:Addr):Gu:=fdO n q s d "trueleaf.trees" 415 r
noncomputable abbrev fa6(n:Str)(s:Stmt)(r:Addr):Gu:=fb6 n n s .none r
noncomputable def A0:AdD:={ mR:=457,lA:=fa0 "_law_alike" qC 456,nF:=443,mq:=fa0 "_law_cell_at" mX 442,tL:=450,rK:=fa0 "_law_draw" tf 449,tM:=478,rL:=fa0 "_law_form" tj 477,rE:=541,pK:=fa0 "_law_leads" qD 540,tN:=483,rM:=fa0 "_law_name" tq 482,nH:=464,mt:=fa0 "_law_sign_by" mY 463,mf:=488,kR:=fa0 "_law_plain_by" lS 487,tQ:=502,rP:=fa0 "_law_word" tu 501,rF:=514,pL:=fa0 "_law_named" qE 513,tO:=509,rN:=fa0 "_law_rows" tz 508,pE:=548,nN:=fa0 "_law_spaced" oT 547,nG:=471,mr:=fa0 "_law_is_name" mZ 470,nI:=495,mv:=fa0 "_law_written" m_ 494,tP:=519,rO:=fa0 "_law_text" tD 518,pF:=524,nO:=fa0 "_law_titles" oU 523,md:=153,kQ:=fa1 "figures_of" lT 152,mh:=165,kS:=fa2 "numbers_of" lU 164,kP:=358,jX:=fb3 "__init__" "Setter.__init__" kI .none 357,ga:=410,fN:=fb3 "check_marks" "Setter.check_marks" fZ .none 409,i4:=391,iC:=fb3 "set_mark" "Setter.set_mark" iL .none 390,iq:=405,gN:=fb3 "next_foot" "Setter.next_foot" hU .none 404,i5:=398,iD:=fb3 "set_word" "Setter.set_word" iM .none 397,jn:=384,i6:=fb3 "set_run" "Setter.set_run" jm .none 383,iY:=372,iA:=fb3 "set_head" "Setter.set_head" iN .none 371,iZ:=377,iB:=fb3 "set_list" "Setter.set_list" iO .none 376,iy:=365,gQ:=fb3 "set_thing" "Setter.set_thing" hV .none 364,ir:=429,gO:=fb3 "number_at" "Setter.number_at" hX .none 428,iu:=422,gP:=fb3 "saying_of" "Setter.saying_of" hZ .none 421,gJ:=415,ge:=fb3 "words_told" "Setter.words_told" gt .none 414,kO:=280,jW:=fb4 "__init__" "Reader.__init__" kJ .none 279,im:=320,gK:=fb4 "add_thing" "Reader.add_thing" h_ .none 319,gH:=306,gb:=fb4 "read_alone" "Reader.read_alone" gu .none 305,rC:=146,pI:=fa1 "is_name" qF 145,rD:=160,pJ:=fa1 "kind_of" qG 159,rB:=233,pH:=fa5 "by_name" qH 232,mj:=247,kU:=fa5 "size_among" lV 246,nM:=257,my:=fa5 "words_out" ng 256,rH:=228,pN:=fa5 "put_out" qI 227,rG:=199,pM:=fa6 "node_of" qJ 198,mi:=185,kT:=fa6 "opens_call" lW 184,rJ:=173,pO:=fb6 "tree_of" "tree_of" qK (.ref 166) 172,ip:=325,gM:=fb4 "words_out" "Reader.words_out" ia .none 324,io:=299,gL:=fb4 "read_foot" "Reader.read_foot" ib .none 298,gI:=313,gc:=fb4 "read_words" "Reader.read_words" gv .none 312,iX:=287,iz:=fb4 "read_row" "Reader.read_row" iP .none 286,pG:=141,nP:=fa1 "words_in" oV 140,nJ:=266,mw:=fa4 "read_rows" ni 265,nK:=346,mx:=fa3 "set_words" nj 345,z7:=553,uw:=fa0 "law" zF 552,bK:=328,aF:=432 }
local macro_rules | `(tactic| walk_at "b")=>`(tactic| (intro _ _ _ _ _ _ us hl; first | (obtain ⟨_,hx⟩:=us1 hl; subst hx; rfl) | (obtain ⟨_,⟨_,hx⟩⟩:=us2 hl; subst hx; rfl) | (obtain ⟨_,⟨_,⟨_,hx⟩⟩⟩:=us3 hl; subst hx; rfl) | (obtain ⟨_,⟨_,⟨_,⟨_,hx⟩⟩⟩⟩:=us4 hl; subst hx; rfl) | (obtain ⟨_,⟨_,⟨_,⟨_,⟨_,⟨_,hx⟩⟩⟩⟩⟩⟩:=us6 hl; subst hx; rfl)))
local macro_rules | `(tactic| walk_at "d")=>`(tactic| exact BM (oc:=.type "function") (od:=none) (sl:=#[]) (by assumption) (by assumption) (by kernel_rfl) (by kernel_rfl) (by kernel_rfl) (by kernel_rfl) (by walk_at "b"))
local macro_rules | `(tactic| walk_at "m")=>`(tactic| exact BV (oc:=.type "function") (od:=none) (sl:=#[]) (by kernel_rfl) (by kernel_rfl) (by kernel_rfl) (by kernel_rfl) (by kernel_rfl) (by walk_at "b"))
local macro_rules | `(tactic| walk_at "n")=>`(tactic| (show PySem.W.findIn _ _ _=some none; kernel_rfl))
set_option maxHeartbeats 0 in
theorem txd{w:GJ}{mg:Str->Option F_}{h:Heap}(X:(kk w.params).In h)(G:h.Ns GP mg):TxD (kk w.params) mg A0 where
 bE:=⟨mg_of X G (by kernel_rfl),⟨by kernel_rfl,by kernel_rfl,by kernel_rfl,by kernel_rfl⟩,by kernel_rfl,by kernel_rfl⟩
 jo:=by walk_at "n"
 fR:=by walk_at "n"
 eS:=by walk_at "n"
 dg:=by walk_at "n"
 aC:=⟨mg_of X G (by kernel_rfl),⟨by kernel_rfl,by kernel_rfl,by kernel_rfl,by kernel_rfl⟩,by kernel_rfl,by kernel_rfl⟩
 fE:=by walk_at "n"
 gf:=by walk_at "n"
 fS:=by walk_at "n"
 dS:=by walk_at "n"
 cw:=by walk_at "n"
 cu:=by walk_at "n"
 dt:=by walk_at "n"
 cJ:=by walk_at "n"
 dh:=by walk_at "n"
 jv:=by walk_at "d"
 ny:=by walk_at "d"
 bV:=by walk_at "d"
 tH:=by walk_at "d"
 rj:=by walk_at "d"
 l0:=by walk_at "d"
 j0:=by walk_at "d"
 l7:=by walk_at "d"
 tK:=by walk_at "d"
 rm:=by walk_at "d"
 tI:=by walk_at "d"
 pA:=by walk_at "d"
 nz:=by walk_at "d"
 nA:=by walk_at "d"
 tJ:=by walk_at "d"
 pB:=by walk_at "d"
 jF:=by walk_at "d"
 l8:=by walk_at "d"
 kN:=by walk_at "m"
 f_:=by walk_at "m"
 iV:=by walk_at "m"
 ij:=by walk_at "m"
 iW:=by walk_at "m"
 dG:=by walk_at "m"
 iT:=by walk_at "m"
 iU:=by walk_at "m"
 il:=by walk_at "m"
 ik:=by walk_at "m"
 fh:=by walk_at "m"
 gG:=by walk_at "m"
 kM:=by walk_at "m"
 dP:=by walk_at "m"
 gE:=by walk_at "m"
 kD:=by walk_at "d"
 rh:=by walk_at "d"
 rc:=by walk_at "d"
 l_:=by walk_at "d"
 nE:=by walk_at "d"
 rz:=by walk_at "d"
 rq:=by walk_at "d"
 l9:=by walk_at "d"
 rA:=AI (oc:=.type "function") (od:=none) (sl:=#[]) (oc2:=.type "tuple") (od2:=none) (sl2:=#[]) (n2:=0) X G (by kernel_rfl) (by kernel_rfl) (by kernel_rfl) (by kernel_rfl) (by kernel_rfl) (λ_ _ _ _ _ _ us hl=>by obtain⟨_,⟨_,rfl⟩⟩:=us2 hl;exact⟨_,rfl,rfl⟩) (λ_ _ _ _ _ _ us hl=>by obtain⟨_,rfl⟩:=us1 (Nat.succ.inj hl);exact⟨_,rfl,rfl⟩)
 dQ:=by walk_at "m"
 ii:=by walk_at "m"
 gF:=by walk_at "m"
 iS:=by walk_at "m"
 pC:=by walk_at "d"
 nC:=by walk_at "d"
 nD:=by walk_at "d"
 wu:=by walk_at "d"
end K59
local macro_rules | `(tactic| walk_at "z")=>`(tactic| (first | k_is | (delta K59.Zn; k_is)))
open PySem PySem.W PyProof.Rows
set_option maxRecDepth 100000 in
set_option maxHeartbeats 0 in
theorem PySem.Challenge.cw_trueleaf_k59_leads_and_keeps_holds : PySem.Challenge.rw_trueleaf_k59_leads_and_keeps.Holds := by
 w_on
 refine ⟨K59.wsL,?_⟩;have said:PySem.Challenge.rw_trueleaf_k59_leads_and_keeps.row.wellSaid=true:=K59.wsR;refine holds_open (q:=K59.vw) (loose:=K59.ls) (Xt:=K59.xt) (XP:=XL K59.vw []) (Yf:=Hook.obs K59.hk) (Ya:=Hook.val K59.hk) (YP:=InK K59.kk) K59.left
  (Hook.of K59.hk) (Hook.keeps K59.hk) (fun s e=>xl_of s (Bool.and_eq_true_iff.mp e).1) XL.keeps (by rfl) (by rfl) (by rfl)
  (fun s e=>recFacts_of (Bool.and_eq_true_iff.mp e).2) (by rfl) (by assumption) (by decide +kernel) ⟨rfl,rfl,rfl,rfl,rfl,by decide +kernel⟩ ?hw ?hc
 (case hw=>w_witness2)
 k_fill
 refine K59.walk (l:=PySem.Challenge.rw_trueleaf_k59_leads_and_keeps) rfl rfl rfl (fun w h Y=>Y) ?F
 case F =>
  intro w mg h KX G;refine' K59.txt_mk (D:=K59.txd KX G) KX G ?si ?i8 ?oz ?fB ?iJ ?bx ?bO ?kE ?lB ?eQ ?jG ?sj ?fT ?sk ?m_NoFoot ?e_NoFoot ?m_NoMark ?e_NoMark ?m_TooLong ?e_TooLong ?m_Twice ?e_Twice ?dw ?gq ?l_ALONE ?eI ?gr ?l_HEADS ?fP ?l_KINDS ?b_KINDS ?c_KINDS ?e_KINDS ?fQ ?l_LEAPS ?b_LEAPS ?c_LEAPS ?e_LEAPS ?dR ?cp ?cq ?cU ?bW ?bH ?bJ ?dJ ?l_POINTING
  (case si | i8 | oz | fB | iJ | bx | bO | kE | lB | eQ | jG | sj | fT | sk | m_NoFoot=>walk_at "z")
  (case e_NoFoot=>k_exc)
  (case m_NoMark=>walk_at "z")
  (case e_NoMark=>k_exc)
  (case m_TooLong=>walk_at "z")
  (case e_TooLong=>k_exc)
  (case m_Twice=>walk_at "z")
  (case e_Twice=>k_exc)
  (case dw=>((show PySem.W.exmOne _ _ _=some true); kts_exm))
  (case gq | l_ALONE | eI | gr | l_HEADS | fP | l_KINDS=>walk_at "z")
  (case b_KINDS=>rfl)
  (case c_KINDS=>exact ⟨rfl,rfl,rfl⟩)
  (case e_KINDS=>(refine ⟨?_,by decide +kernel⟩; exact .cons rfl rfl ⟨_,rfl⟩ (.cons rfl rfl ⟨_,rfl⟩ (.cons rfl rfl ⟨_,rfl⟩ (.cons rfl rfl ⟨_,rfl⟩ (.cons rfl rfl ⟨_,rfl⟩ .nil))))))
  (case fQ | l_LEAPS=>walk_at "z")
  (case b_LEAPS=>rfl)
  (case c_LEAPS=>exact ⟨rfl,rfl,rfl⟩)
  (case e_LEAPS=>(refine ⟨?_,by decide +kernel⟩; exact .cons rfl rfl ⟨_,rfl⟩ (.cons rfl rfl ⟨_,rfl⟩ .nil)))
  (case dR | cp | cq | cU | bW | bH | bJ | dJ | l_POINTING=>walk_at "z")
