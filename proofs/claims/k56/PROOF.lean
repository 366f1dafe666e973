import PyProof.Rows.All
import Wide.All
import OpenK.AllK
import Wide.FinOn
import Lean
import PyProof.EqAt
import PyProof.EqKinds
import PyProof.TupleCall
import PyProof.NeKinds
import KE.LcSums
import PyProof.ExcBaseAll.ValueError
import KE.KTryMore
import KE.RegKTryMore
import PyProof.StrLawsRepr
import PyProof.ReprStr
import PyProof.EnumMake
import PyProof.EnumFor
import KE.KEqDict
import PyProof.Rows.Range3
import PyProof.SumWalkG
import PyProof.ZipIter
import KE.KDictOf
import PyProof.IsiH_list
import PyProof.RaisesAny
import PyProof.SumWalkG
import KE.KIsAll
import PyProof.ExcArgsOwn
import PyProof.ExcAttrAll.ValueError
import PyProof.RulesAs
import PyProof.NsDelKeeps
import PyProof.Rows.TupAdd
import KE.KDictList
import PyProof.Rows.SortStr
import PyProof.Rows.SortWalk
import PyProof.DictIter
import PyProof.DictItemsLoops
import PyProof.DictValues
import PyProof.DictWalks
import PySem.Challenge.RW_trueleaf_k56_rows_refused
set_option Elab.async false
set_option linter.all false
set_option maxRecDepth 100000
set_option maxHeartbeats 0
local macro_rules | `(tactic| decide) => `(tactic| decide +kernel)
open PySem.Str renaming ofString→pq,empty→MS,join→P2
open Nat renaming le_refl→Kz,ne_of_lt→KZ,lt_of_lt_of_le→K6,lt_of_le_of_lt→Le,le_trans→Ln,zero_le→Ls,le_of_lt→Md,lt_irrefl→Me,le_succ→Mf,le_add_right→Mm,ne_of_gt→Mx,lt_of_succ_lt→MJ,lt_trans→MQ,lt_succ_self→MT,min_eq_left→Na,le_succ_of_le→Ng,le_of_ble_eq_true→NW,le_of_not_lt→N3,succ_le_succ→OP,toDigits→OW,mod_lt→OX,le_of_eq→Pp,sub_self→Pu
open List renaming length_map→KA,replicate→KB,length_cons→KH,length_append→KI,mem_of_getElem?→KL,getElem?_eq_getElem→KM,mem_cons_of_mem→KN,mem_cons_self→KO,map_append→KQ,getElem?_map→KS,map_cons→KW,forall_mem_cons→K0,size_toArray→K2,take_of_length_le→K9,length_take→La,take_add_one→Lb,length_singleton→Li,not_mem_nil→Lj,getD_eq_getElem?_getD→Lk,mem_cons→Ll,toArray→Lo,cons_append→Lu,lookup→Lw,length_replicate→Lx,nil_append→LA,append_nil→LF,take_length→LH,getElem?_append_left→LO,length_range→LQ,getElem?_append_right→LS,mem_append_right→LU,replicate_succ→LV,length_nil→L_,append_assoc→Ma,drop_eq_getElem_cons→Mc,map_congr_left→Mg,range→Mh,flatten_cons→Mi,forall_mem_singleton→Mo,map_map→Mt,getElem?_of_mem→Mv,find?_cons→Mz,mem_append→MA,getElem?_eq_none→MD,all_cons→MF,any_cons→MG,filterMap_cons→ML,flatten_append→MM,sum_cons→MR,map_nil→MZ,map→M1,eq_of_mem_replicate→M5,range_succ→Nb,length_drop→Nl,mem_of_find?_eq_some→No,getElem?_range→Nr,nodup_cons→Nz,getElem?_replicate→NF,getElem?_set_self→NI,any_eq_false→NK,drop_eq_nil_of_le→NO,foldl_append→NS,nodup_append→NT,take_append_drop→NU,filter_cons→N5,mem_append_left→N9,getElem?_set_ne→N_,take_zero→Ox,map_singleton→Oy,map_replicate→Oz,flatten_nil→OO,any_eq_true→OQ,of_mem_zip→O0,foldl_cons→O1,sum_append→O2,find?_some→O3,all_map→Pw,map_id→PF,foldl→PZ
open PySem.W renaming Frag→KC,mg_of→LW,nsIn→LZ,fnOf→L9,emptyDict→Mq,findIn→Ms,keepIn→My,instObj→MK,codeIn→M7,kitOne→Nj,hideAll_get→Np,hideAll→Nw,callWith_K→NB,exmOne→NP,plainGet→N1,Looks→N8,plainGet_of→Oi,lookIn→Oq,methodObj→OA,hasDictIn→OB,isFn→OR,takerIn→OY,makesIn→OZ,excIn→Pg
open Option renaming some→KD,map_some→Of,isSome_map→OD
open PySem renaming Value→KG,Shared→KJ,sizeLine→KP,FuncData→KY,wpAny_bind→K3,starEach→K7,Program→K8,World→K_,wpAny→Lc,model→Lh,boot_len→Lq,mainGlobals→Lr,Params→Lv,wpAny_pure→Lz,Around→LC,DictEntry→LD,wpAny_mono→LJ,Spec→LP,treeTable→LX,OsState→Mj,compareOp→Ml,sysModules→Mw,backTo→MB,wpAny_Call_Name_kw→ME,wpAny_pyIter_list→MH,foldedSetIterable→MI,bootBuiltins→MN,wpAny_loadPart'→MW,wpAny_truthy_bool→MY,codeAny_call_builtin→M0,mem_of_lookup→M6,wpAny_execs_nil→M_,wpAny_holding→Nc,attributeBase→Nf,keywordEach→Ni,codeAny_mono→Nk,binaryOp→Nt,wpAny_passesOwn→Nx,codeAny→Ny,call_meets→NC,tupleKind_room_in1→ND,sliceBounds→NG,wpAny_Call_method0_late→NH,relabel→NN,wpAny_pyIter_enum→NQ,Builtin→NR,wpAny_execs_cons→NZ,swapsWith→N0,checkBuiltinCall→N4,behindInMarks→N7,importedModules→Ob,letOwnedTupleGo→Oc,Result→Oe,codeAny_builtin→Oh,evalArgs_none→Oj,holding→Ol,assignEach→Op,backToKw→Ou,typeIs_str→Ov,cLine→OC,wpAny_newObj_type→OE,wpAny_standAt→OH,getMethod→OL,bindArgs→OM,typeLookup→OS,valueAt→OU,sliceRange→OV,callWith→O5,NameKind→O6,subscripted→O7,tupleKind→Pa,callerA→Pb,builtinsNs→Pi,assign→Pk,wpAny_call→Pl,GenState→Pm,Within→Pn,standAt→Po,getItem→Ps,seqIndex_neg→Pt,Model→Pz,sizeLine_eq→PB,seqIndex_of→PC,atKey→PD,Keyword→PH,wpAny_Name→PL,pyIter→PN,bindL→PQ,bindC→PR,typeIs_int→PX,typeOf→PY,stored→P0,call→P1,getAttr?→P3,entryFor→P4
open PySem.Heap renaming lt_size→KR,get?_push_of_some→KU,get?_push_size→Ld,SameBut→M8,size_push→Nh,get?_update_other→NL,FlyingW→Om
open Or renaming inl→K1,inr→Py
open PySem.F renaming plainAttrs_list→K4,slot_list_append→Lf,type_list_append→Lg,slot_list_extend→M3,type_list_extend→M4,plainAttrs_str→M9,args_str_split_2→Ow,entry_str_split→OG,slot_str_split→ON
open Bool renaming false_ne_true→K5,and_eq_true→Ly,not_eq_true→Nn,true_and→Nu,false_and→NJ,and_false→NM,eq_iff_iff→Od,or_false→Pe,false_or→Pf
open Option.some renaming inj→Lm
open Ne renaming symm→Lp
open PyProof.Rows renaming boot_isinstance→LB,envOfC→MC,callWith_type1→MO,boot_max→NV,kindOf→N2,AllBare→N6,subscriptTail→Pd,IntsAre→PK,isTrue_and→PM,Subscript_→PU
open PySem.Value renaming ref→LG,type→MU,str→MV,int→NX,none→NY,builtin→OJ,bool→Pj
open PySem.Pos renaming mk→LK
open PySem.ClassData renaming mk→LM
open PySem.StrLaws renaming dbl→LR
open Array renaming mk→LY,length_toList→Nq,append_assoc→Oo
open PySem.PassesOwn renaming leaving→Mb,never→MX
open False renaming elim→Mp
open PySem.Builtin.Str renaming occurrences→Mu
open PySem.Calls renaming callWith_builtin→MP,Constant_str→NA,evalArgs_plain→Oa,spliced_cons→Ot
open PySem.Builtin.List renaming listTooLong→M2
open Sum renaming inr→Nv,inl→O_
open PySem.Data renaming fields→NE
open ForInStep renaming yield→Og
open Int renaming zero_mul→On,le_refl→O8,mul_assoc→Ph,add_zero→Px
open True renaming intro→Os
open PyProof.Rows.LCg renaming lst→OF
open PySem.NameKind renaming free→OI
open PySem.Obj renaming mapSeq→OT
open Sum.inr renaming inj→O4
open Prod renaming fst→O9
open LawfulBEq renaming eq_of_beq→Pc
open PySem.Around renaming under→Pq
open PySem.Code renaming isFrame→Pr
open PySem.SeqAt renaming EqAt→PV
local macro_rules | `(tactic| omega)=>`(tactic| lia)
namespace L2
open PySem
def cJ(s:Stmt):Arguments:=match s with
 |.FunctionDef _ a _ _ _ _ _ _ _ _=>a
 |_=>{ posonlyargs:=[],args:=[],vararg:=none,kwonlyargs:=[],kw_defaults:=[],kwarg:=none,defaults:=[] }
def ci(s:Stmt):List Stmt:=match s with
 |.FunctionDef _ _ b _ _ _ _ _ _ _=>b
 |_=>[]
def av(s:Stmt):Scope:=match s with
 |.FunctionDef _ _ _ _ _ _ sc _ _ _=>sc
 |_=>{ kind:=.function,names:=[],isGenerator:=false,isCoroutine:=false }

end L2
namespace K56
open PySem PySem.W L2 PyProof.Rows
noncomputable def top(i:Nat):Stmt:=PySem.Challenge.pw_trueleaf_k56_rows_refused.main.body.getD i (.Pass ⟨0,0,0,0⟩)
noncomputable def aH(i j:Nat):Stmt:=match top i with|.ClassDef _ _ _ b ..=>b.getD j (.Pass ⟨0,0,0,0⟩)|_=>.Pass ⟨0,0,0,0⟩
theorem wsR:PySem.Challenge.rw_trueleaf_k56_rows_refused.row.wellSaid=true:=by kernel_rfl
theorem wsL:PySem.Challenge.rw_trueleaf_k56_rows_refused.wellSaid=true:=by
 unfold OpenLaw.wellSaid;rw[wsR]
 kernel_rfl
noncomputable abbrev os(s:String):Str:=pq s
noncomputable abbrev kh(P:Lv)(s:Str):Int:=PyData.keyHash P s
noncomputable abbrev fO(n:String)(i:Nat)(d:KG)(m:String)(k:Nat)(r:Addr):Obj:=⟨.type "function",none,.func (fnOf (os n) (os n) (cJ (top i)) (ci (top i)) (av (top i)) d .none .none (.str (os m) k) none (.ref r) .none),#[]⟩
noncomputable abbrev sv(s:String)(k:Nat):KG:=.str (os s) k
noncomputable abbrev dE(P:Lv)(s:String)(k:Nat)(v:KG):LD:=⟨kh P (os s),.str (os s) k,v⟩
noncomputable abbrev cV(n q:String)(a b c:Nat)(l1 l2 l5:Int)(r0:Addr)(m:Int)(r1:Addr)(v0 v1 v2 v3:KG)(x y:Int)(d:Nat):Obj:=⟨.type "code",none,.fields #[.str (os n) a,.str (os q) b,.str (os "/claim/cut.py") c,.int l1 0,.int l2 0,.int 0 0,.int 0 0,.int l5 0,.ref r0,.bool true,.int m 0,.ref r1,v0,v1,v2,v3,.int x 0,.int y 0,.str (os "/claim/cut.py") d],#[]⟩
noncomputable abbrev fM(n q:String)(s:Stmt)(d:KG)(m:String)(k:Nat)(r:Addr):Obj:=⟨.type "function",none,.func (fnOf (os n) (os q) (cJ s) (ci s) (av s) d .none .none (.str (os m) k) none (.ref r) .none),#[]⟩
noncomputable abbrev gA(n q:String)(s:Stmt):Obj:=⟨.none,none,.func (FuncData.mk (os n) (os q) (cJ s) (FuncBody.stmts (ci s)) (av s) 0 [] .none .none .none .none none .none .none 0),#[]⟩
noncomputable def kk:Lv->Frag:=λP=>(nat_lit 2,⟨(.none),none,.dict ([]).toArray 0,#[]⟩)::
 (nat_lit 3,⟨(.type "dict"),none,.dict (Lo (dE P "__name__" 165 (sv "law_trueleaf_k56_rows_refused" 818)::dE P "__doc__" 166 (.none)::dE P "__package__" 167 (.none)::dE P "__loader__" 168 (.builtin "__main__.__loader__#opaque")::dE P "__spec__" 169 (.none)::dE P "__annotations__" 170 (.ref 6)::dE P "__builtins__" 171 (.ref 4)::dE P "__file__" 173 (sv "/claim/cut.py" 172)::dE P "__cached__" 174 (.none)::dE P "TrueleafError" 206 (.ref 24)::dE P "BadRow" 222 (.ref 37)::dE P "TooLong" 238 (.ref 49)::dE P "BadCall" 254 (.ref 61)::dE P "Deep" 270 (.ref 73)::dE P "NoShort" 286 (.ref 85)::dE P "BadWord" 302 (.ref 97)::dE P "Twice" 318 (.ref 109)::dE P "NoFoot" 334 (.ref 121)::dE P "NoMark" 350 (.ref 133)::dE P "MOST_WORDS_books" 352 (.int 400 351)::dE P "LONGEST_TEXT" 354 (.int 60 353)::dE P "LETTERS" 358 (sv "abcdefghijklmnopqrstuvwxyz" 357)::dE P "FIGURES" 360 (sv "0123456789" 359)::dE P "LONGEST_NAME" 362 (.int 12 361)::dE P "KINDS" 378 (.ref 136)::dE P "words_in" 384 (.ref 141)::dE P "is_name" 390 (.ref 146)::dE P "figures_of" 397 (.ref 153)::dE P "kind_of" 406 (.ref 160)::dE P "numbers_of" 414 (.ref 165)::dE P "MOST_DEEP" 418 (.int 20 417)::dE P "tree_of" 429 (.ref 173)::dE P "copied" 435 (.ref 178)::dE P "opens_call" 442 (.ref 185)::dE P "with_closed" 452 (.ref 192)::dE P "node_of" 461 (.ref 199)::dE P "looks_like_place" 468 (.ref 206)::dE P "MOST_WORDS_shorts" 472 (.int 400 471)::dE P "MOST_CALLS" 474 (.int 400 473)::dE P "MOST_CALLS_OF_SHORT" 476 (.int 60 475)::dE P "size_of" 486 (.ref 214)::dE P "new_short" 499 (.ref 221)::dE P "put_out" 509 (.ref 228)::dE P "by_name" 515 (.ref 233)::dE P "short_called" 525 (.ref 240)::dE P "size_among" 541 (.ref 247)::dE P "sum_of_rows" 547 (.ref 252)::dE P "words_out" 553 (.ref 257)::dE P "ALONE" 559 (.ref 258)::dE P "HEADS" 563 (.ref 259)::dE P "MOST_FOOT_WORDS" 565 (.int 39 564)::dE P "read_rows" 574 (.ref 266)::dE P "Reader" 662 (.ref 328)::dE P "is_figure" 669 (.ref 339)::dE P "LEAPS" 678 (.ref 340)::dE P "POINTING" 682 (.ref 341)::dE P "set_words" 688 (.ref 346)::dE P "Setter" 817 (.ref 432)::dE P "_law_cell_at" 827 (.ref 443)::dE P "_law_draw" 837 (.ref 450)::dE P "_law_form" 845 (.ref 457)::dE P "_law_name" 851 (.ref 462)::dE P "_law_no_row" 862 (.ref 469)::dE P "_law_no_call" 872 (.ref 476)::dE P "_law_no_short" 882 (.ref 483)::dE P "_law_twice" 893 (.ref 490)::dE P "_law_no_word" 904 (.ref 497)::dE P "_law_too_long" 915 (.ref 504)::dE P "_law_bad" 926 (.ref 511)::dE P "_law_good" 935 (.ref 518)::dE P "_law_refusal" 945 (.ref 525)::dE P "_law_spaced" 958 (.ref 532)::dE P "law" 964 (.ref 537)::[])) 73,#[]⟩) ::
 (nat_lit 15,⟨(.type "tuple"),none,(.seq #[.type "ValueError"]),#[]⟩) ::
 (nat_lit 22,⟨(.type "tuple"),none,(.seq #[]),#[]⟩) ::
 (nat_lit 23,⟨(.type "dict"),none,.dict (Lo (dE P "__module__" 196 (sv "trueleaf.errors" 187)::dE P "__firstlineno__" 200 (.int 2 199)::dE P "__static_attributes__" 201 (.ref 22)::dE P "__weakref__" 203 (.ref 25)::dE P "__doc__" 204 (.none)::[])) 3,#[]⟩) ::
 (nat_lit 24,⟨(.type "type"),none,(.cls (LM (os "TrueleafError") [.type "ValueError"] [.ref 24,.type "ValueError",.type "Exception",.type "BaseException",.type "object"] 23 (os "TrueleafError") true [] [.ref 37,.ref 49,.ref 61,.ref 73,.ref 85,.ref 97,.ref 109,.ref 121,.ref 133] false none false)),#[KD (.ref 15),none,KD (sv "TrueleafError" 189),KD (sv "TrueleafError" 197),KD (.builtin "ValueError.__new__"),KD (.bool true)]⟩) ::
 (nat_lit 25,⟨(.type "getset_descriptor"),none,(.fields #[sv "__weakref__" 202,.ref 24,.builtin "ExceptionGroup.__weakref__",.none]),#[]⟩) ::
 (nat_lit 28,⟨(.type "tuple"),none,(.seq #[.ref 24]),#[]⟩) ::
 (nat_lit 35,⟨(.type "tuple"),none,(.seq #[]),#[]⟩) ::
 (nat_lit 36,⟨(.type "dict"),none,.dict (Lo (dE P "__module__" 214 (sv "trueleaf.errors" 187)::dE P "__firstlineno__" 218 (.int 4 217)::dE P "__static_attributes__" 219 (.ref 35)::dE P "__doc__" 220 (.none)::[])) 2,#[]⟩) ::
 (nat_lit 37,⟨(.type "type"),none,(.cls (LM (os "BadRow") [.ref 24] [.ref 37,.ref 24,.type "ValueError",.type "Exception",.type "BaseException",.type "object"] 36 (os "BadRow") true [] [] false none false)),#[KD (.ref 28),none,KD (sv "BadRow" 207),KD (sv "BadRow" 215),KD (.builtin "ValueError.__new__"),KD (.bool true)]⟩) ::
 (nat_lit 40,⟨(.type "tuple"),none,(.seq #[.ref 24]),#[]⟩) ::
 (nat_lit 47,⟨(.type "tuple"),none,(.seq #[]),#[]⟩) ::
 (nat_lit 48,⟨(.type "dict"),none,.dict (Lo (dE P "__module__" 230 (sv "trueleaf.errors" 187)::dE P "__firstlineno__" 234 (.int 6 233)::dE P "__static_attributes__" 235 (.ref 47)::dE P "__doc__" 236 (.none)::[])) 2,#[]⟩) ::
 (nat_lit 49,⟨(.type "type"),none,(.cls (LM (os "TooLong") [.ref 24] [.ref 49,.ref 24,.type "ValueError",.type "Exception",.type "BaseException",.type "object"] 48 (os "TooLong") true [] [] false none false)),#[KD (.ref 40),none,KD (sv "TooLong" 223),KD (sv "TooLong" 231),KD (.builtin "ValueError.__new__"),KD (.bool true)]⟩) ::
 (nat_lit 52,⟨(.type "tuple"),none,(.seq #[.ref 24]),#[]⟩) ::
 (nat_lit 59,⟨(.type "tuple"),none,(.seq #[]),#[]⟩) ::
 (nat_lit 60,⟨(.type "dict"),none,.dict (Lo (dE P "__module__" 246 (sv "trueleaf.errors" 187)::dE P "__firstlineno__" 250 (.int 8 249)::dE P "__static_attributes__" 251 (.ref 59)::dE P "__doc__" 252 (.none)::[])) 2,#[]⟩) ::
 (nat_lit 61,⟨(.type "type"),none,(.cls (LM (os "BadCall") [.ref 24] [.ref 61,.ref 24,.type "ValueError",.type "Exception",.type "BaseException",.type "object"] 60 (os "BadCall") true [] [] false none false)),#[KD (.ref 52),none,KD (sv "BadCall" 239),KD (sv "BadCall" 247),KD (.builtin "ValueError.__new__"),KD (.bool true)]⟩) ::
 (nat_lit 64,⟨(.type "tuple"),none,(.seq #[.ref 24]),#[]⟩) ::
 (nat_lit 71,⟨(.type "tuple"),none,(.seq #[]),#[]⟩) ::
 (nat_lit 72,⟨(.type "dict"),none,.dict (Lo (dE P "__module__" 262 (sv "trueleaf.errors" 187)::dE P "__firstlineno__" 266 (.int 10 265)::dE P "__static_attributes__" 267 (.ref 71)::dE P "__doc__" 268 (.none)::[])) 2,#[]⟩) ::
 (nat_lit 73,⟨(.type "type"),none,(.cls (LM (os "Deep") [.ref 24] [.ref 73,.ref 24,.type "ValueError",.type "Exception",.type "BaseException",.type "object"] 72 (os "Deep") true [] [] false none false)),#[KD (.ref 64),none,KD (sv "Deep" 255),KD (sv "Deep" 263),KD (.builtin "ValueError.__new__"),KD (.bool true)]⟩) ::
 (nat_lit 76,⟨(.type "tuple"),none,(.seq #[.ref 24]),#[]⟩) ::
 (nat_lit 83,⟨(.type "tuple"),none,(.seq #[]),#[]⟩) ::
 (nat_lit 84,⟨(.type "dict"),none,.dict (Lo (dE P "__module__" 278 (sv "trueleaf.errors" 187)::dE P "__firstlineno__" 282 (.int 12 281)::dE P "__static_attributes__" 283 (.ref 83)::dE P "__doc__" 284 (.none)::[])) 2,#[]⟩) ::
 (nat_lit 85,⟨(.type "type"),none,(.cls (LM (os "NoShort") [.ref 24] [.ref 85,.ref 24,.type "ValueError",.type "Exception",.type "BaseException",.type "object"] 84 (os "NoShort") true [] [] false none false)),#[KD (.ref 76),none,KD (sv "NoShort" 271),KD (sv "NoShort" 279),KD (.builtin "ValueError.__new__"),KD (.bool true)]⟩) ::
 (nat_lit 88,⟨(.type "tuple"),none,(.seq #[.ref 24]),#[]⟩) ::
 (nat_lit 95,⟨(.type "tuple"),none,(.seq #[]),#[]⟩) ::
 (nat_lit 96,⟨(.type "dict"),none,.dict (Lo (dE P "__module__" 294 (sv "trueleaf.errors" 187)::dE P "__firstlineno__" 298 (.int 14 297)::dE P "__static_attributes__" 299 (.ref 95)::dE P "__doc__" 300 (.none)::[])) 2,#[]⟩) ::
 (nat_lit 97,⟨(.type "type"),none,(.cls (LM (os "BadWord") [.ref 24] [.ref 97,.ref 24,.type "ValueError",.type "Exception",.type "BaseException",.type "object"] 96 (os "BadWord") true [] [] false none false)),#[KD (.ref 88),none,KD (sv "BadWord" 287),KD (sv "BadWord" 295),KD (.builtin "ValueError.__new__"),KD (.bool true)]⟩) ::
 (nat_lit 100,⟨(.type "tuple"),none,(.seq #[.ref 24]),#[]⟩) ::
 (nat_lit 107,⟨(.type "tuple"),none,(.seq #[]),#[]⟩) ::
 (nat_lit 108,⟨(.type "dict"),none,.dict (Lo (dE P "__module__" 310 (sv "trueleaf.errors" 187)::dE P "__firstlineno__" 314 (.int 16 313)::dE P "__static_attributes__" 315 (.ref 107)::dE P "__doc__" 316 (.none)::[])) 2,#[]⟩) ::
 (nat_lit 109,⟨(.type "type"),none,(.cls (LM (os "Twice") [.ref 24] [.ref 109,.ref 24,.type "ValueError",.type "Exception",.type "BaseException",.type "object"] 108 (os "Twice") true [] [] false none false)),#[KD (.ref 100),none,KD (sv "Twice" 303),KD (sv "Twice" 311),KD (.builtin "ValueError.__new__"),KD (.bool true)]⟩) ::
 (nat_lit 112,⟨(.type "tuple"),none,(.seq #[.ref 24]),#[]⟩) ::
 (nat_lit 119,⟨(.type "tuple"),none,(.seq #[]),#[]⟩) ::
 (nat_lit 120,⟨(.type "dict"),none,.dict (Lo (dE P "__module__" 326 (sv "trueleaf.errors" 187)::dE P "__firstlineno__" 330 (.int 18 329)::dE P "__static_attributes__" 331 (.ref 119)::dE P "__doc__" 332 (.none)::[])) 2,#[]⟩) ::
 (nat_lit 121,⟨(.type "type"),none,(.cls (LM (os "NoFoot") [.ref 24] [.ref 121,.ref 24,.type "ValueError",.type "Exception",.type "BaseException",.type "object"] 120 (os "NoFoot") true [] [] false none false)),#[KD (.ref 112),none,KD (sv "NoFoot" 319),KD (sv "NoFoot" 327),KD (.builtin "ValueError.__new__"),KD (.bool true)]⟩) ::
 (nat_lit 124,⟨(.type "tuple"),none,(.seq #[.ref 24]),#[]⟩) ::
 (nat_lit 131,⟨(.type "tuple"),none,(.seq #[]),#[]⟩) ::
 (nat_lit 132,⟨(.type "dict"),none,.dict (Lo (dE P "__module__" 342 (sv "trueleaf.errors" 187)::dE P "__firstlineno__" 346 (.int 20 345)::dE P "__static_attributes__" 347 (.ref 131)::dE P "__doc__" 348 (.none)::[])) 2,#[]⟩) ::
 (nat_lit 133,⟨(.type "type"),none,(.cls (LM (os "NoMark") [.ref 24] [.ref 133,.ref 24,.type "ValueError",.type "Exception",.type "BaseException",.type "object"] 132 (os "NoMark") true [] [] false none false)),#[KD (.ref 124),none,KD (sv "NoMark" 335),KD (sv "NoMark" 343),KD (.builtin "ValueError.__new__"),KD (.bool true)]⟩) ::
 (nat_lit 136,⟨(.type "dict"),none,.dict (Lo (dE P "#" 363 (sv "mark" 364)::dE P "@" 365 (sv "number" 366)::dE P "&" 367 (sv "page" 368)::dE P "^" 369 (sv "row" 370)::dE P "~" 371 (sv "foot" 372)::[])) 5,#[]⟩) ::
 (nat_lit 140,cV "words_in" "words_in" 379 380 381 29 1 3 137 181 138 .none .none .none (.ref 139) 382 29 383) ::
 (nat_lit 141,fO "words_in" 18 (.none) "trueleaf.signs" 355 140) ::
 (nat_lit 145,cV "is_name" "is_name" 385 386 387 31 1 3 142 181 143 .none .none .none (.ref 144) 388 31 389) ::
 (nat_lit 146,fO "is_name" 19 (.none) "trueleaf.signs" 355 145) ::
 (nat_lit 152,cV "figures_of" "figures_of" 391 392 393 35 1 3 147 181 148 .none (.ref 149) (.ref 150) (.ref 151) 395 35 396) ::
 (nat_lit 153,fO "figures_of" 20 (.none) "trueleaf.signs" 355 152) ::
 (nat_lit 159,cV "kind_of" "kind_of" 398 399 400 37 1 3 154 181 155 .none (.ref 156) (.ref 157) (.ref 158) 404 37 405) ::
 (nat_lit 160,fO "kind_of" 21 (.none) "trueleaf.signs" 355 159) ::
 (nat_lit 164,cV "numbers_of" "numbers_of" 409 410 411 46 1 3 161 181 162 .none .none .none (.ref 163) 412 46 413) ::
 (nat_lit 165,fO "numbers_of" 23 (.none) "trueleaf.heads" 407 164) ::
 (nat_lit 166,⟨(.type "tuple"),none,(.seq #[.none]),#[]⟩) ::
 (nat_lit 172,cV "tree_of" "tree_of" 419 420 421 55 2 3 167 181 168 .none (.ref 169) (.ref 170) (.ref 171) 427 55 428) ::
 (nat_lit 173,fO "tree_of" 26 (.ref 166) "trueleaf.trees" 415 172) ::
 (nat_lit 177,cV "copied" "copied" 430 431 432 74 1 3 174 181 175 .none .none .none (.ref 176) 433 74 434) ::
 (nat_lit 178,fO "copied" 27 (.none) "trueleaf.trees" 415 177) ::
 (nat_lit 184,cV "opens_call" "opens_call" 436 437 438 82 1 3 179 181 180 .none (.ref 181) (.ref 182) (.ref 183) 440 82 441) ::
 (nat_lit 185,fO "opens_call" 28 (.none) "trueleaf.trees" 415 184) ::
 (nat_lit 191,cV "with_closed" "with_closed" 443 444 445 84 2 3 186 181 187 .none (.ref 188) (.ref 189) (.ref 190) 450 84 451) ::
 (nat_lit 192,fO "with_closed" 29 (.none) "trueleaf.trees" 415 191) ::
 (nat_lit 198,cV "node_of" "node_of" 453 454 455 91 2 3 193 181 194 .none (.ref 195) (.ref 196) (.ref 197) 459 91 460) ::
 (nat_lit 199,fO "node_of" 30 (.none) "trueleaf.trees" 415 198) ::
 (nat_lit 205,cV "looks_like_place" "looks_like_place" 462 463 464 98 1 3 200 181 201 .none (.ref 202) (.ref 203) (.ref 204) 466 98 467) ::
 (nat_lit 206,fO "looks_like_place" 31 (.none) "trueleaf.trees" 415 205) ::
 (nat_lit 207,⟨(.type "tuple"),none,(.seq #[.int 0 477]),#[]⟩) ::
 (nat_lit 213,cV "size_of" "size_of" 478 479 480 104 3 3 208 181 209 .none (.ref 210) (.ref 211) (.ref 212) 484 104 485) ::
 (nat_lit 214,fO "size_of" 36 (.ref 207) "trueleaf.shorts" 469 213) ::
 (nat_lit 220,cV "new_short" "new_short" 487 488 489 106 4 3 215 181 216 .none (.ref 217) (.ref 218) (.ref 219) 497 106 498) ::
 (nat_lit 221,fO "new_short" 37 (.none) "trueleaf.shorts" 469 220) ::
 (nat_lit 227,cV "put_out" "put_out" 500 501 502 115 2 3 222 181 223 .none (.ref 224) (.ref 225) (.ref 226) 507 115 508) ::
 (nat_lit 228,fO "put_out" 38 (.none) "trueleaf.shorts" 469 227) ::
 (nat_lit 232,cV "by_name" "by_name" 510 511 512 121 1 3 229 181 230 .none .none .none (.ref 231) 513 121 514) ::
 (nat_lit 233,fO "by_name" 39 (.none) "trueleaf.shorts" 469 232) ::
 (nat_lit 239,cV "short_called" "short_called" 516 517 518 123 2 3 234 181 235 .none (.ref 236) (.ref 237) (.ref 238) 523 123 524) ::
 (nat_lit 240,fO "short_called" 40 (.none) "trueleaf.shorts" 469 239) ::
 (nat_lit 246,cV "size_among" "size_among" 526 527 528 131 3 3 241 181 242 .none (.ref 243) (.ref 244) (.ref 245) 539 131 540) ::
 (nat_lit 247,fO "size_among" 41 (.none) "trueleaf.shorts" 469 246) ::
 (nat_lit 251,cV "sum_of_rows" "sum_of_rows" 542 543 544 148 3 3 248 181 249 .none .none .none (.ref 250) 545 148 546) ::
 (nat_lit 252,fO "sum_of_rows" 42 (.none) "trueleaf.shorts" 469 251) ::
 (nat_lit 256,cV "words_out" "words_out" 548 549 550 150 3 3 253 181 254 .none .none .none (.ref 255) 551 150 552) ::
 (nat_lit 257,fO "words_out" 43 (.none) "trueleaf.shorts" 469 256) ::
 (nat_lit 258,⟨(.type "tuple"),none,(.seq #[sv ".page" 556,sv ".odd" 557,sv ".list" 558]),#[]⟩) ::
 (nat_lit 259,⟨(.type "tuple"),none,(.seq #[sv "=" 560,sv "==" 561,sv "===" 562]),#[]⟩) ::
 (nat_lit 265,cV "read_rows" "read_rows" 566 567 568 165 1 3 260 181 261 .none (.ref 262) (.ref 263) (.ref 264) 572 165 573) ::
 (nat_lit 266,fO "read_rows" 48 (.none) "trueleaf.reading" 554 265) ::
 (nat_lit 279,cV "__init__" "Reader.__init__" 587 588 589 172 1 3 274 181 275 .none (.ref 276) (.ref 277) (.ref 278) 591 172 592) ::
 (nat_lit 280,fM "__init__" "Reader.__init__" (aH 49 0) (.none) "trueleaf.reading" 554 279) ::
 (nat_lit 286,cV "read_row" "Reader.read_row" 594 595 596 178 2 3 281 181 282 .none (.ref 283) (.ref 284) (.ref 285) 600 178 601) ::
 (nat_lit 287,fM "read_row" "Reader.read_row" (aH 49 1) (.none) "trueleaf.reading" 554 286) ::
 (nat_lit 291,cV "read_let" "Reader.read_let" 603 604 605 196 2 3 288 181 289 .none .none .none (.ref 290) 606 196 607) ::
 (nat_lit 292,fM "read_let" "Reader.read_let" (aH 49 2) (.none) "trueleaf.reading" 554 291) ::
 (nat_lit 298,cV "read_foot" "Reader.read_foot" 609 610 611 205 2 3 293 181 294 .none (.ref 295) (.ref 296) (.ref 297) 616 205 617) ::
 (nat_lit 299,fM "read_foot" "Reader.read_foot" (aH 49 3) (.none) "trueleaf.reading" 554 298) ::
 (nat_lit 305,cV "read_alone" "Reader.read_alone" 619 620 621 216 2 3 300 181 301 .none (.ref 302) (.ref 303) (.ref 304) 625 216 626) ::
 (nat_lit 306,fM "read_alone" "Reader.read_alone" (aH 49 4) (.none) "trueleaf.reading" 554 305) ::
 (nat_lit 312,cV "read_words" "Reader.read_words" 628 629 630 222 2 3 307 181 308 .none (.ref 309) (.ref 310) (.ref 311) 634 222 635) ::
 (nat_lit 313,fM "read_words" "Reader.read_words" (aH 49 5) (.none) "trueleaf.reading" 554 312) ::
 (nat_lit 319,cV "add_thing" "Reader.add_thing" 637 638 639 230 2 3 314 181 315 .none (.ref 316) (.ref 317) (.ref 318) 642 230 643) ::
 (nat_lit 320,fM "add_thing" "Reader.add_thing" (aH 49 6) (.none) "trueleaf.reading" 554 319) ::
 (nat_lit 324,cV "words_out" "Reader.words_out" 645 646 647 234 3 3 321 181 322 .none .none .none (.ref 323) 648 234 649) ::
 (nat_lit 325,fM "words_out" "Reader.words_out" (aH 49 7) (.none) "trueleaf.reading" 554 324) ::
 (nat_lit 326,⟨(.type "tuple"),none,(.seq #[sv "feet" 651,sv "going_on" 652,sv "shorts" 653,sv "things" 654]),#[]⟩) ::
 (nat_lit 327,⟨(.type "dict"),none,.dict (Lo (dE P "__module__" 582 (sv "trueleaf.reading" 554)::dE P "__firstlineno__" 586 (.int 170 585)::dE P "__init__" 593 (.ref 280)::dE P "read_row" 602 (.ref 287)::dE P "read_let" 608 (.ref 292)::dE P "read_foot" 618 (.ref 299)::dE P "read_alone" 627 (.ref 306)::dE P "read_words" 636 (.ref 313)::dE P "add_thing" 644 (.ref 320)::dE P "words_out" 650 (.ref 325)::dE P "__static_attributes__" 655 (.ref 326)::dE P "__dict__" 657 (.ref 329)::dE P "__weakref__" 659 (.ref 330)::dE P "__doc__" 660 (.none)::[])) 4,#[]⟩) ::
 (nat_lit 328,⟨(.type "type"),none,(.cls (LM (os "Reader") [.type "object"] [.ref 328,.type "object"] 327 (os "Reader") true [] [] false none false)),#[none,none,KD (sv "Reader" 575),KD (sv "Reader" 583),KD (.builtin "object.__new__"),KD (.bool true)]⟩) ::
 (nat_lit 329,⟨(.type "getset_descriptor"),none,(.fields #[sv "__dict__" 656,.ref 328,.builtin "function.__dict__",.builtin "function.__dict__#set"]),#[]⟩) ::
 (nat_lit 330,⟨(.type "getset_descriptor"),none,(.fields #[sv "__weakref__" 658,.ref 328,.builtin "ExceptionGroup.__weakref__",.none]),#[]⟩) ::
 (nat_lit 338,cV "is_figure" "is_figure" 663 664 665 242 1 3 333 181 334 .none (.ref 335) (.ref 336) (.ref 337) 667 242 668) ::
 (nat_lit 339,fO "is_figure" 50 (.none) "trueleaf.reading" 554 338) ::
 (nat_lit 340,⟨(.type "dict"),none,.dict (Lo (dE P "page" 672 (.int 3 673)::dE P "odd" 674 (.int 4 675)::[])) 2,#[]⟩) ::
 (nat_lit 341,⟨(.type "tuple"),none,(.seq #[sv "number" 679,sv "page" 680,sv "row" 681]),#[]⟩) ::
 (nat_lit 345,cV "set_words" "set_words" 683 684 685 247 2 3 342 181 343 .none .none .none (.ref 344) 686 247 687) ::
 (nat_lit 346,fO "set_words" 54 (.none) "trueleaf.setting" 670 345) ::
 (nat_lit 357,cV "__init__" "Setter.__init__" 701 702 703 257 3 3 354 181 355 .none .none .none (.ref 356) 704 257 705) ::
 (nat_lit 358,fM "__init__" "Setter.__init__" (aH 55 0) (.none) "trueleaf.setting" 670 357) ::
 (nat_lit 364,cV "set_thing" "Setter.set_thing" 707 708 709 268 2 3 359 181 360 .none (.ref 361) (.ref 362) (.ref 363) 713 268 714) ::
 (nat_lit 365,fM "set_thing" "Setter.set_thing" (aH 55 1) (.none) "trueleaf.setting" 670 364) ::
 (nat_lit 371,cV "set_head" "Setter.set_head" 716 717 718 281 2 3 366 181 367 .none (.ref 368) (.ref 369) (.ref 370) 722 281 723) ::
 (nat_lit 372,fM "set_head" "Setter.set_head" (aH 55 2) (.none) "trueleaf.setting" 670 371) ::
 (nat_lit 376,cV "set_list" "Setter.set_list" 725 726 727 286 1 3 373 181 374 .none .none .none (.ref 375) 728 286 729) ::
 (nat_lit 377,fM "set_list" "Setter.set_list" (aH 55 3) (.none) "trueleaf.setting" 670 376) ::
 (nat_lit 383,cV "set_run" "Setter.set_run" 731 732 733 293 4 3 378 181 379 .none (.ref 380) (.ref 381) (.ref 382) 739 293 740) ::
 (nat_lit 384,fM "set_run" "Setter.set_run" (aH 55 4) (.none) "trueleaf.setting" 670 383) ::
 (nat_lit 390,cV "set_mark" "Setter.set_mark" 742 743 744 302 2 3 385 181 386 .none (.ref 387) (.ref 388) (.ref 389) 747 302 748) ::
 (nat_lit 391,fM "set_mark" "Setter.set_mark" (aH 55 5) (.none) "trueleaf.setting" 670 390) ::
 (nat_lit 397,cV "set_word" "Setter.set_word" 750 751 752 307 3 3 392 181 393 .none (.ref 394) (.ref 395) (.ref 396) 757 307 758) ::
 (nat_lit 398,fM "set_word" "Setter.set_word" (aH 55 6) (.none) "trueleaf.setting" 670 397) ::
 (nat_lit 404,cV "next_foot" "Setter.next_foot" 760 761 762 319 2 3 399 181 400 .none (.ref 401) (.ref 402) (.ref 403) 765 319 766) ::
 (nat_lit 405,fM "next_foot" "Setter.next_foot" (aH 55 7) (.none) "trueleaf.setting" 670 404) ::
 (nat_lit 409,cV "check_marks" "Setter.check_marks" 768 769 770 325 1 3 406 181 407 .none .none .none (.ref 408) 771 325 772) ::
 (nat_lit 410,fM "check_marks" "Setter.check_marks" (aH 55 8) (.none) "trueleaf.setting" 670 409) ::
 (nat_lit 414,cV "words_told" "Setter.words_told" 774 775 776 336 1 3 411 181 412 .none .none .none (.ref 413) 777 336 778) ::
 (nat_lit 415,fM "words_told" "Setter.words_told" (aH 55 9) (.none) "trueleaf.setting" 670 414) ::
 (nat_lit 421,cV "saying_of" "Setter.saying_of" 780 781 782 342 2 3 416 181 417 .none (.ref 418) (.ref 419) (.ref 420) 787 342 788) ::
 (nat_lit 422,fM "saying_of" "Setter.saying_of" (aH 55 10) (.none) "trueleaf.setting" 670 421) ::
 (nat_lit 428,cV "number_at" "Setter.number_at" 790 791 792 353 2 3 423 181 424 .none (.ref 425) (.ref 426) (.ref 427) 798 353 799) ::
 (nat_lit 429,fM "number_at" "Setter.number_at" (aH 55 11) (.none) "trueleaf.setting" 670 428) ::
 (nat_lit 430,⟨(.type "tuple"),none,(.seq #[sv "behind_head" 801,sv "feet" 802,sv "feet_set" 803,sv "heads" 804,sv "leap" 805,sv "marks" 806,sv "numbers" 807,sv "titles" 808,sv "words" 809]),#[]⟩) ::
 (nat_lit 431,⟨(.type "dict"),none,.dict (Lo (dE P "__module__" 696 (sv "trueleaf.setting" 670)::dE P "__firstlineno__" 700 (.int 255 699)::dE P "__init__" 706 (.ref 358)::dE P "set_thing" 715 (.ref 365)::dE P "set_head" 724 (.ref 372)::dE P "set_list" 730 (.ref 377)::dE P "set_run" 741 (.ref 384)::dE P "set_mark" 749 (.ref 391)::dE P "set_word" 759 (.ref 398)::dE P "next_foot" 767 (.ref 405)::dE P "check_marks" 773 (.ref 410)::dE P "words_told" 779 (.ref 415)::dE P "saying_of" 789 (.ref 422)::dE P "number_at" 800 (.ref 429)::dE P "__static_attributes__" 810 (.ref 430)::dE P "__dict__" 812 (.ref 433)::dE P "__weakref__" 814 (.ref 434)::dE P "__doc__" 815 (.none)::[])) 4,#[]⟩) ::
 (nat_lit 432,⟨(.type "type"),none,(.cls (LM (os "Setter") [.type "object"] [.ref 432,.type "object"] 431 (os "Setter") true [] [] false none false)),#[none,none,KD (sv "Setter" 689),KD (sv "Setter" 697),KD (.builtin "object.__new__"),KD (.bool true)]⟩) ::
 (nat_lit 433,⟨(.type "getset_descriptor"),none,(.fields #[sv "__dict__" 811,.ref 432,.builtin "function.__dict__",.builtin "function.__dict__#set"]),#[]⟩) ::
 (nat_lit 434,⟨(.type "getset_descriptor"),none,(.fields #[sv "__weakref__" 813,.ref 432,.builtin "ExceptionGroup.__weakref__",.none]),#[]⟩) ::
 (nat_lit 442,cV "_law_cell_at" "_law_cell_at" 820 821 822 360 2 3 437 181 438 .none (.ref 439) (.ref 440) (.ref 441) 825 360 826) ::
 (nat_lit 443,fO "_law_cell_at" 57 (.none) "law_trueleaf_k56_rows_refused" 818 442) ::
 (nat_lit 449,cV "_law_draw" "_law_draw" 828 829 830 364 3 3 444 181 445 .none (.ref 446) (.ref 447) (.ref 448) 835 364 836) ::
 (nat_lit 450,fO "_law_draw" 58 (.none) "law_trueleaf_k56_rows_refused" 818 449) ::
 (nat_lit 456,cV "_law_form" "_law_form" 838 839 840 367 1 3 451 181 452 .none (.ref 453) (.ref 454) (.ref 455) 843 367 844) ::
 (nat_lit 457,fO "_law_form" 59 (.none) "law_trueleaf_k56_rows_refused" 818 456) ::
 (nat_lit 461,cV "_law_name" "_law_name" 846 847 848 370 2 3 458 181 459 .none .none .none (.ref 460) 849 370 850) ::
 (nat_lit 462,fO "_law_name" 60 (.none) "law_trueleaf_k56_rows_refused" 818 461) ::
 (nat_lit 468,cV "_law_no_row" "_law_no_row" 852 853 854 376 4 3 463 181 464 .none (.ref 465) (.ref 466) (.ref 467) 860 376 861) ::
 (nat_lit 469,fO "_law_no_row" 61 (.none) "law_trueleaf_k56_rows_refused" 818 468) ::
 (nat_lit 475,cV "_law_no_call" "_law_no_call" 863 864 865 383 3 3 470 181 471 .none (.ref 472) (.ref 473) (.ref 474) 870 383 871) ::
 (nat_lit 476,fO "_law_no_call" 62 (.none) "law_trueleaf_k56_rows_refused" 818 475) ::
 (nat_lit 482,cV "_law_no_short" "_law_no_short" 873 874 875 388 3 3 477 181 478 .none (.ref 479) (.ref 480) (.ref 481) 880 388 881) ::
 (nat_lit 483,fO "_law_no_short" 63 (.none) "law_trueleaf_k56_rows_refused" 818 482) ::
 (nat_lit 489,cV "_law_twice" "_law_twice" 883 884 885 393 4 3 484 181 485 .none (.ref 486) (.ref 487) (.ref 488) 891 393 892) ::
 (nat_lit 490,fO "_law_twice" 64 (.none) "law_trueleaf_k56_rows_refused" 818 489) ::
 (nat_lit 496,cV "_law_no_word" "_law_no_word" 894 895 896 397 4 3 491 181 492 .none (.ref 493) (.ref 494) (.ref 495) 902 397 903) ::
 (nat_lit 497,fO "_law_no_word" 65 (.none) "law_trueleaf_k56_rows_refused" 818 496) ::
 (nat_lit 503,cV "_law_too_long" "_law_too_long" 905 906 907 403 3 3 498 181 499 .none (.ref 500) (.ref 501) (.ref 502) 913 403 914) ::
 (nat_lit 504,fO "_law_too_long" 66 (.none) "law_trueleaf_k56_rows_refused" 818 503) ::
 (nat_lit 510,cV "_law_bad" "_law_bad" 916 917 918 409 4 3 505 181 506 .none (.ref 507) (.ref 508) (.ref 509) 924 409 925) ::
 (nat_lit 511,fO "_law_bad" 67 (.none) "law_trueleaf_k56_rows_refused" 818 510) ::
 (nat_lit 517,cV "_law_good" "_law_good" 927 928 929 424 2 3 512 181 513 .none (.ref 514) (.ref 515) (.ref 516) 933 424 934) ::
 (nat_lit 518,fO "_law_good" 68 (.none) "law_trueleaf_k56_rows_refused" 818 517) ::
 (nat_lit 524,cV "_law_refusal" "_law_refusal" 936 937 938 428 2 3 519 181 520 .none (.ref 521) (.ref 522) (.ref 523) 943 428 944) ::
 (nat_lit 525,fO "_law_refusal" 69 (.none) "law_trueleaf_k56_rows_refused" 818 524) ::
 (nat_lit 531,cV "_law_spaced" "_law_spaced" 946 947 948 435 2 3 526 181 527 .none (.ref 528) (.ref 529) (.ref 530) 956 435 957) ::
 (nat_lit 532,fO "_law_spaced" 70 (.none) "law_trueleaf_k56_rows_refused" 818 531) ::
 (nat_lit 536,cV "law" "law" 959 960 961 444 1 3 533 181 534 .none .none .none (.ref 535) 962 444 963) ::
 (nat_lit 537,fO "law" 71 (.none) "law_trueleaf_k56_rows_refused" 818 536)::[]
noncomputable def vw:K8:={ PySem.Challenge.pw_trueleaf_k56_rows_refused with main:={ PySem.Challenge.pw_trueleaf_k56_rows_refused.main with body:=top 1::top 2::top 3::top 4::top 5::top 6::top 7::top 8::top 9::top 10::top 11::top 12::top 14::top 15::top 16::top 17::top 18::top 19::top 20::top 21::top 23::top 25::top 27::top 28::top 29::top 30::top 31::top 33::top 34::top 35::top 37::top 38::top 39::top 40::top 41::top 42::top 43::top 45::top 46::top 47::top 48::top 49::top 50::top 52::top 53::top 54::top 55::top 57::top 58::top 59::top 60::top 61::top 62::top 63::top 64::top 65::top 66::top 67::top 68::top 69::top 70::top 71::[] } }
noncomputable abbrev ls:List Str:=[os "KINDS",os "tree_of",os "size_of",os "LEAPS"]
noncomputable abbrev hk:Hook:=kHook kk (nat_lit 2::nat_lit 3::nat_lit 15::nat_lit 22::nat_lit 23::nat_lit 24::nat_lit 25::nat_lit 28::nat_lit 35::nat_lit 36::nat_lit 37::nat_lit 40::nat_lit 47::nat_lit 48::nat_lit 49::nat_lit 52::nat_lit 59::nat_lit 60::nat_lit 61::nat_lit 64::nat_lit 71::nat_lit 72::nat_lit 73::nat_lit 76::nat_lit 83::nat_lit 84::nat_lit 85::nat_lit 88::nat_lit 95::nat_lit 96::nat_lit 97::nat_lit 100::nat_lit 107::nat_lit 108::nat_lit 109::nat_lit 112::nat_lit 119::nat_lit 120::nat_lit 121::nat_lit 124::nat_lit 131::nat_lit 132::nat_lit 133::nat_lit 136::nat_lit 140::nat_lit 141::nat_lit 145::nat_lit 146::nat_lit 152::nat_lit 153::nat_lit 159::nat_lit 160::nat_lit 164::nat_lit 165::nat_lit 166::nat_lit 172::nat_lit 173::nat_lit 177::nat_lit 178::nat_lit 184::nat_lit 185::nat_lit 191::nat_lit 192::nat_lit 198::nat_lit 199::nat_lit 205::nat_lit 206::nat_lit 207::nat_lit 213::nat_lit 214::nat_lit 220::nat_lit 221::nat_lit 227::nat_lit 228::nat_lit 232::nat_lit 233::nat_lit 239::nat_lit 240::nat_lit 246::nat_lit 247::nat_lit 251::nat_lit 252::nat_lit 256::nat_lit 257::nat_lit 258::nat_lit 259::nat_lit 265::nat_lit 266::nat_lit 279::nat_lit 280::nat_lit 286::nat_lit 287::nat_lit 291::nat_lit 292::nat_lit 298::nat_lit 299::nat_lit 305::nat_lit 306::nat_lit 312::nat_lit 313::nat_lit 319::nat_lit 320::nat_lit 324::nat_lit 325::nat_lit 326::nat_lit 327::nat_lit 328::nat_lit 329::nat_lit 330::nat_lit 338::nat_lit 339::nat_lit 340::nat_lit 341::nat_lit 345::nat_lit 346::nat_lit 357::nat_lit 358::nat_lit 364::nat_lit 365::nat_lit 371::nat_lit 372::nat_lit 376::nat_lit 377::nat_lit 383::nat_lit 384::nat_lit 390::nat_lit 391::nat_lit 397::nat_lit 398::nat_lit 404::nat_lit 405::nat_lit 409::nat_lit 410::nat_lit 414::nat_lit 415::nat_lit 421::nat_lit 422::nat_lit 428::nat_lit 429::nat_lit 430::nat_lit 431::nat_lit 432::nat_lit 433::nat_lit 434::nat_lit 442::nat_lit 443::nat_lit 449::nat_lit 450::nat_lit 456::nat_lit 457::nat_lit 461::nat_lit 462::nat_lit 468::nat_lit 469::nat_lit 475::nat_lit 476::nat_lit 482::nat_lit 483::nat_lit 489::nat_lit 490::nat_lit 496::nat_lit 497::nat_lit 503::nat_lit 504::nat_lit 510::nat_lit 511::nat_lit 517::nat_lit 518::nat_lit 524::nat_lit 525::nat_lit 531::nat_lit 532::nat_lit 536::nat_lit 537::[]) (λ_=>by kernel_rfl)
noncomputable abbrev rr:RowW:=OpenRow.toRowW (OpenLaw.row PySem.Challenge.rw_trueleaf_k56_rows_refused)
noncomputable abbrev xt:KJ->Bool:=λs=>xlAt vw [] s&&recOk (RowW.records rr) s
noncomputable def Ge:List (Addr×Obj)->Nat->Obj
 |[],_=>⟨.none,none,.fields #[],#[]⟩
 |x::_,0=>x.2
 |_::t,n+1=>Ge t n
noncomputable abbrev au(P:Lv)(i:Nat):Obj:=Ge (kk P) i
noncomputable def HZ(P:Lv)(t:List LD):List LD:=dE P "__name__" 165 (sv "trueleaf.errors" 187)::dE P "__doc__" 166 (.none)::dE P "__package__" 167 (.none)::dE P "__loader__" 168 (.builtin "__main__.__loader__#opaque")::dE P "__spec__" 169 (.none)::dE P "__annotations__" 170 (.ref 6)::dE P "__builtins__" 171 (.ref 4)::dE P "__file__" 173 (sv "/claim/cut.py" 172)::t
noncomputable def H_(P:Lv)(t:List LD):List LD:=dE P "__cached__" 174 (.none)::dE P "TrueleafError" 206 (.ref 24)::dE P "BadRow" 222 (.ref 37)::dE P "TooLong" 238 (.ref 49)::dE P "BadCall" 254 (.ref 61)::dE P "Deep" 270 (.ref 73)::dE P "NoShort" 286 (.ref 85)::t
noncomputable def Gg(P:Lv):Obj:=⟨(.type "dict"),none,.dict (Lo (HZ P (H_ P []))) 15,#[]⟩
noncomputable def Ia(P:Lv)(t:List LD):List LD:=dE P "__name__" 165 (sv "trueleaf.trees" 415)::dE P "__doc__" 166 (.none)::dE P "__package__" 167 (.none)::dE P "__loader__" 168 (.builtin "__main__.__loader__#opaque")::dE P "__spec__" 169 (.none)::dE P "__annotations__" 170 (.ref 6)::dE P "__builtins__" 171 (.ref 4)::dE P "__file__" 173 (sv "/claim/cut.py" 172)::t
noncomputable def EW(P:Lv)(t:List LD):List LD:=dE P "__cached__" 174 (.none)::dE P "TrueleafError" 206 (.ref 24)::dE P "BadRow" 222 (.ref 37)::dE P "TooLong" 238 (.ref 49)::dE P "BadCall" 254 (.ref 61)::dE P "Deep" 270 (.ref 73)::dE P "NoShort" 286 (.ref 85)::dE P "BadWord" 302 (.ref 97)::t
noncomputable def EX(P:Lv)(t:List LD):List LD:=dE P "Twice" 318 (.ref 109)::dE P "NoFoot" 334 (.ref 121)::dE P "NoMark" 350 (.ref 133)::dE P "MOST_WORDS_books" 352 (.int 400 351)::dE P "LONGEST_TEXT" 354 (.int 60 353)::dE P "LETTERS" 358 (sv "abcdefghijklmnopqrstuvwxyz" 357)::dE P "FIGURES" 360 (sv "0123456789" 359)::dE P "LONGEST_NAME" 362 (.int 12 361)::t
noncomputable def Ib(P:Lv)(t:List LD):List LD:=dE P "KINDS" 378 (.ref 136)::dE P "words_in" 384 (.ref 141)::dE P "is_name" 390 (.ref 146)::dE P "figures_of" 397 (.ref 153)::dE P "kind_of" 406 (.ref 160)::dE P "numbers_of" 414 (.ref 165)::t
noncomputable def Gh(P:Lv):Obj:=⟨(.type "dict"),none,.dict (Lo (Ia P (EW P (EX P (Ib P []))))) 30,#[]⟩
noncomputable def Ic(P:Lv)(t:List LD):List LD:=dE P "__name__" 165 (sv "trueleaf.setting" 670)::dE P "__doc__" 166 (.none)::dE P "__package__" 167 (.none)::dE P "__loader__" 168 (.builtin "__main__.__loader__#opaque")::dE P "__spec__" 169 (.none)::dE P "__annotations__" 170 (.ref 6)::dE P "__builtins__" 171 (.ref 4)::dE P "__file__" 173 (sv "/claim/cut.py" 172)::t
noncomputable def Id(P:Lv)(t:List LD):List LD:=dE P "KINDS" 378 (.ref 136)::dE P "words_in" 384 (.ref 141)::dE P "is_name" 390 (.ref 146)::dE P "figures_of" 397 (.ref 153)::dE P "kind_of" 406 (.ref 160)::dE P "numbers_of" 414 (.ref 165)::dE P "MOST_DEEP" 418 (.int 20 417)::dE P "tree_of" 429 (.ref 173)::t
noncomputable def Ie(P:Lv)(t:List LD):List LD:=dE P "copied" 435 (.ref 178)::dE P "opens_call" 442 (.ref 185)::dE P "with_closed" 452 (.ref 192)::dE P "node_of" 461 (.ref 199)::dE P "looks_like_place" 468 (.ref 206)::dE P "MOST_WORDS_shorts" 472 (.int 400 471)::dE P "MOST_CALLS" 474 (.int 400 473)::dE P "MOST_CALLS_OF_SHORT" 476 (.int 60 475)::t
noncomputable def Ig(P:Lv)(t:List LD):List LD:=dE P "size_of" 486 (.ref 214)::dE P "new_short" 499 (.ref 221)::dE P "put_out" 509 (.ref 228)::dE P "by_name" 515 (.ref 233)::dE P "short_called" 525 (.ref 240)::dE P "size_among" 541 (.ref 247)::dE P "sum_of_rows" 547 (.ref 252)::dE P "words_out" 553 (.ref 257)::t
noncomputable def Gi(P:Lv)(t:List LD):List LD:=dE P "ALONE" 559 (.ref 258)::dE P "HEADS" 563 (.ref 259)::dE P "MOST_FOOT_WORDS" 565 (.int 39 564)::dE P "read_rows" 574 (.ref 266)::dE P "Reader" 662 (.ref 328)::dE P "is_figure" 669 (.ref 339)::dE P "LEAPS" 678 (.ref 340)::dE P "POINTING" 682 (.ref 341)::t
noncomputable def Gj(P:Lv)(t:List LD):List LD:=dE P "set_words" 688 (.ref 346)::dE P "Setter" 817 (.ref 432)::t
noncomputable def Gk(P:Lv):Obj:=⟨(.type "dict"),none,.dict (Lo (Ic P (EW P (EX P (Id P (Ie P (Ig P (Gi P (Gj P []))))))))) 58,#[]⟩
noncomputable def zO(P:Lv):Obj:=⟨(.none),none,(.fields #[]),#[]⟩
noncomputable def Fg(P:Lv):Obj:=⟨(.none),none,(.fields #[.int 2 0,.int 0 0,.ref 20,.int 4 0,.int 0 0,.ref 33,.int 6 0,.int 0 0,.ref 45,.int 8 0,.int 0 0,.ref 57,.int 10 0,.int 0 0,.ref 69,.int 12 0,.int 0 0,.ref 81]),#[]⟩
noncomputable def Fh(P:Lv):Obj:=⟨(.none),none,(.fields #[.int 2 0,.int 0 0,.ref 20,.int 4 0,.int 0 0,.ref 33,.int 6 0,.int 0 0,.ref 45,.int 8 0,.int 0 0,.ref 57,.int 10 0,.int 0 0,.ref 69,.int 12 0,.int 0 0,.ref 81,.int 14 0,.int 0 0,.ref 93,.int 16 0,.int 0 0,.ref 105,.int 18 0,.int 0 0,.ref 117,.int 20 0,.int 0 0,.ref 129,.int 29 0,.int 0 0,.ref 140,.int 31 0,.int 0 0,.ref 145,.int 35 0,.int 0 0,.ref 152,.int 37 0,.int 0 0,.ref 159,.int 46 0,.int 0 0,.ref 164]),#[]⟩
noncomputable def Fi(P:Lv):Obj:=⟨(.none),none,(.fields #[.int 2 0,.int 0 0,.ref 20,.int 4 0,.int 0 0,.ref 33,.int 6 0,.int 0 0,.ref 45,.int 8 0,.int 0 0,.ref 57,.int 10 0,.int 0 0,.ref 69,.int 12 0,.int 0 0,.ref 81,.int 14 0,.int 0 0,.ref 93,.int 16 0,.int 0 0,.ref 105,.int 18 0,.int 0 0,.ref 117,.int 20 0,.int 0 0,.ref 129,.int 29 0,.int 0 0,.ref 140,.int 31 0,.int 0 0,.ref 145,.int 35 0,.int 0 0,.ref 152,.int 37 0,.int 0 0,.ref 159,.int 46 0,.int 0 0,.ref 164,.int 55 0,.int 0 0,.ref 172,.int 74 0,.int 0 0,.ref 177,.int 82 0,.int 0 0,.ref 184,.int 84 0,.int 0 0,.ref 191,.int 91 0,.int 0 0,.ref 198,.int 98 0,.int 0 0,.ref 205,.int 104 0,.int 0 0,.ref 213,.int 106 0,.int 0 0,.ref 220,.int 115 0,.int 0 0,.ref 227,.int 121 0,.int 0 0,.ref 232,.int 123 0,.int 0 0,.ref 239,.int 131 0,.int 0 0,.ref 246,.int 148 0,.int 0 0,.ref 251,.int 150 0,.int 0 0,.ref 256,.int 165 0,.int 0 0,.ref 265,.int 170 0,.int 0 0,.ref 272,.int 242 0,.int 0 0,.ref 338,.int 247 0,.int 0 0,.ref 345,.int 255 0,.int 0 0,.ref 352]),#[]⟩
noncomputable def zP(P:Lv):Obj:=⟨(.none),none,(.fields #[.int 2 0,.int 0 0,.ref 20,.int 4 0,.int 0 0,.ref 33,.int 6 0,.int 0 0,.ref 45,.int 8 0,.int 0 0,.ref 57,.int 10 0,.int 0 0,.ref 69,.int 12 0,.int 0 0,.ref 81,.int 14 0,.int 0 0,.ref 93,.int 16 0,.int 0 0,.ref 105,.int 18 0,.int 0 0,.ref 117,.int 20 0,.int 0 0,.ref 129,.int 29 0,.int 0 0,.ref 140,.int 31 0,.int 0 0,.ref 145,.int 35 0,.int 0 0,.ref 152,.int 37 0,.int 0 0,.ref 159,.int 46 0,.int 0 0,.ref 164,.int 55 0,.int 0 0,.ref 172,.int 74 0,.int 0 0,.ref 177,.int 82 0,.int 0 0,.ref 184,.int 84 0,.int 0 0,.ref 191,.int 91 0,.int 0 0,.ref 198,.int 98 0,.int 0 0,.ref 205,.int 104 0,.int 0 0,.ref 213,.int 106 0,.int 0 0,.ref 220,.int 115 0,.int 0 0,.ref 227,.int 121 0,.int 0 0,.ref 232,.int 123 0,.int 0 0,.ref 239,.int 131 0,.int 0 0,.ref 246,.int 148 0,.int 0 0,.ref 251,.int 150 0,.int 0 0,.ref 256,.int 165 0,.int 0 0,.ref 265,.int 170 0,.int 0 0,.ref 272,.int 242 0,.int 0 0,.ref 338,.int 247 0,.int 0 0,.ref 345,.int 255 0,.int 0 0,.ref 352,.int 360 0,.int 0 0,.ref 442,.int 364 0,.int 0 0,.ref 449,.int 367 0,.int 0 0,.ref 456,.int 370 0,.int 0 0,.ref 461,.int 376 0,.int 0 0,.ref 468,.int 383 0,.int 0 0,.ref 475,.int 388 0,.int 0 0,.ref 482,.int 393 0,.int 0 0,.ref 489,.int 397 0,.int 0 0,.ref 496,.int 403 0,.int 0 0,.ref 503,.int 409 0,.int 0 0,.ref 510,.int 424 0,.int 0 0,.ref 517,.int 428 0,.int 0 0,.ref 524,.int 435 0,.int 0 0,.ref 531,.int 444 0,.int 0 0,.ref 536]),#[]⟩
noncomputable def Fj(P:Lv):Obj:=⟨(.type "type"),none,(.cls (LM (os "TrueleafError") [.type "ValueError"] [.ref 24,.type "ValueError",.type "Exception",.type "BaseException",.type "object"] 23 (os "TrueleafError") true [] [.ref 37,.ref 49,.ref 61,.ref 73,.ref 85] false none false)),#[KD (.ref 15),none,KD (sv "TrueleafError" 189),KD (sv "TrueleafError" 197),KD (.builtin "ValueError.__new__"),KD (.bool true)]⟩
noncomputable abbrev az:Obj:=⟨(.type "tuple"),none,(.seq #[]),#[]⟩
noncomputable abbrev i5:Obj:=⟨(.type "builtin_function_or_method"),none,(.fields #[.builtin "type.__prepare__",.type "type"]),#[]⟩
noncomputable abbrev aN:Obj:=⟨(.none),none,(.fields #[]),#[]⟩
noncomputable def oB(P:Lv)(x3:Obj)(x12:Obj)(t:List Obj):List Obj:=boot_o_0 P::boot_o_1 P::boot_o_2 P::x3::boot_o_4 P::boot_o_5 P::boot_o_6 P::boot_o_7 P::boot_o_8 P::boot_o_9 P::boot_o_10 P::az::x12::⟨(.type "code"),none,(.fields #[sv "<module>" 182,sv "<module>" 183,sv "/claim/cut.py" 184,.int 1 0,.int 0 0,.int 0 0,.int 0 0,.int 0 0,.ref 11,.bool false,.int 181 0,.ref 12,.none,.none,.none,.none,.int 185 0,.int 1 0,sv "/claim/cut.py" 186]),#[]⟩::⟨(.type "frame"),none,(.plain),#[KD (.ref 13),KD (.ref 3),KD (.ref 3),none,KD (sv "__main__" 164),none,KD (.ref 0)]⟩::t
noncomputable def t0(P:Lv)(x24:Obj)(t:List Obj):List Obj:=au P 2::i5::⟨(.type "dict"),none,.dict (Lo (dE P "__module__" 196 (sv "trueleaf.errors" 187)::dE P "__qualname__" 198 (sv "TrueleafError" 197)::dE P "__firstlineno__" 200 (.int 2 199)::dE P "__static_attributes__" 201 (.ref 22)::[])) 4,#[]⟩::az::aN::⟨(.type "code"),none,(.fields #[sv "TrueleafError" 191,sv "TrueleafError" 192,sv "/claim/cut.py" 193,.int 2 0,.int 0 0,.int 0 0,.int 0 0,.int 0 0,.ref 18,.bool false,.int 181 0,.ref 19,.none,.none,.none,.none,.int 194 0,.int 2 0,sv "/claim/cut.py" 195]),#[]⟩::⟨(.type "frame"),none,(.plain),#[KD (.ref 20),KD (.ref 3),KD (.ref 17),none,KD (sv "trueleaf.errors" 187),none,KD (.ref 0)]⟩::au P 3::au P 4::x24::au P 6::⟨(.type "super"),none,(.fields #[.ref 24,.ref 24,.ref 24]),#[]⟩::⟨(.type "builtin_function_or_method"),none,(.fields #[.builtin "object.__init_subclass__",.ref 24]),#[]⟩::au P 7::i5::⟨(.type "dict"),none,.dict (Lo (dE P "__module__" 214 (sv "trueleaf.errors" 187)::dE P "__qualname__" 216 (sv "BadRow" 215)::dE P "__firstlineno__" 218 (.int 4 217)::dE P "__static_attributes__" 219 (.ref 35)::[])) 4,#[]⟩::t
noncomputable def t4(P:Lv)(t:List Obj):List Obj:=az::aN::⟨(.type "code"),none,(.fields #[sv "BadRow" 209,sv "BadRow" 210,sv "/claim/cut.py" 211,.int 4 0,.int 0 0,.int 0 0,.int 0 0,.int 0 0,.ref 31,.bool false,.int 181 0,.ref 32,.none,.none,.none,.none,.int 212 0,.int 4 0,sv "/claim/cut.py" 213]),#[]⟩::⟨(.type "frame"),none,(.plain),#[KD (.ref 33),KD (.ref 3),KD (.ref 30),none,KD (sv "trueleaf.errors" 187),none,KD (.ref 0)]⟩::au P 8::au P 9::au P 10::⟨(.type "super"),none,(.fields #[.ref 37,.ref 37,.ref 37]),#[]⟩::⟨(.type "builtin_function_or_method"),none,(.fields #[.builtin "object.__init_subclass__",.ref 37]),#[]⟩::au P 11::i5::⟨(.type "dict"),none,.dict (Lo (dE P "__module__" 230 (sv "trueleaf.errors" 187)::dE P "__qualname__" 232 (sv "TooLong" 231)::dE P "__firstlineno__" 234 (.int 6 233)::dE P "__static_attributes__" 235 (.ref 47)::[])) 4,#[]⟩::az::aN::⟨(.type "code"),none,(.fields #[sv "TooLong" 225,sv "TooLong" 226,sv "/claim/cut.py" 227,.int 6 0,.int 0 0,.int 0 0,.int 0 0,.int 0 0,.ref 43,.bool false,.int 181 0,.ref 44,.none,.none,.none,.none,.int 228 0,.int 6 0,sv "/claim/cut.py" 229]),#[]⟩::⟨(.type "frame"),none,(.plain),#[KD (.ref 45),KD (.ref 3),KD (.ref 42),none,KD (sv "trueleaf.errors" 187),none,KD (.ref 0)]⟩::t
noncomputable def t6(P:Lv)(t:List Obj):List Obj:=au P 12::au P 13::au P 14::⟨(.type "super"),none,(.fields #[.ref 49,.ref 49,.ref 49]),#[]⟩::⟨(.type "builtin_function_or_method"),none,(.fields #[.builtin "object.__init_subclass__",.ref 49]),#[]⟩::au P 15::i5::⟨(.type "dict"),none,.dict (Lo (dE P "__module__" 246 (sv "trueleaf.errors" 187)::dE P "__qualname__" 248 (sv "BadCall" 247)::dE P "__firstlineno__" 250 (.int 8 249)::dE P "__static_attributes__" 251 (.ref 59)::[])) 4,#[]⟩::az::aN::⟨(.type "code"),none,(.fields #[sv "BadCall" 241,sv "BadCall" 242,sv "/claim/cut.py" 243,.int 8 0,.int 0 0,.int 0 0,.int 0 0,.int 0 0,.ref 55,.bool false,.int 181 0,.ref 56,.none,.none,.none,.none,.int 244 0,.int 8 0,sv "/claim/cut.py" 245]),#[]⟩::⟨(.type "frame"),none,(.plain),#[KD (.ref 57),KD (.ref 3),KD (.ref 54),none,KD (sv "trueleaf.errors" 187),none,KD (.ref 0)]⟩::au P 16::au P 17::au P 18::⟨(.type "super"),none,(.fields #[.ref 61,.ref 61,.ref 61]),#[]⟩::t
noncomputable def t8(P:Lv)(t:List Obj):List Obj:=⟨(.type "builtin_function_or_method"),none,(.fields #[.builtin "object.__init_subclass__",.ref 61]),#[]⟩::au P 19::i5::⟨(.type "dict"),none,.dict (Lo (dE P "__module__" 262 (sv "trueleaf.errors" 187)::dE P "__qualname__" 264 (sv "Deep" 263)::dE P "__firstlineno__" 266 (.int 10 265)::dE P "__static_attributes__" 267 (.ref 71)::[])) 4,#[]⟩::az::aN::⟨(.type "code"),none,(.fields #[sv "Deep" 257,sv "Deep" 258,sv "/claim/cut.py" 259,.int 10 0,.int 0 0,.int 0 0,.int 0 0,.int 0 0,.ref 67,.bool false,.int 181 0,.ref 68,.none,.none,.none,.none,.int 260 0,.int 10 0,sv "/claim/cut.py" 261]),#[]⟩::⟨(.type "frame"),none,(.plain),#[KD (.ref 69),KD (.ref 3),KD (.ref 66),none,KD (sv "trueleaf.errors" 187),none,KD (.ref 0)]⟩::au P 20::au P 21::au P 22::⟨(.type "super"),none,(.fields #[.ref 73,.ref 73,.ref 73]),#[]⟩::⟨(.type "builtin_function_or_method"),none,(.fields #[.builtin "object.__init_subclass__",.ref 73]),#[]⟩::au P 23::i5::⟨(.type "dict"),none,.dict (Lo (dE P "__module__" 278 (sv "trueleaf.errors" 187)::dE P "__qualname__" 280 (sv "NoShort" 279)::dE P "__firstlineno__" 282 (.int 12 281)::dE P "__static_attributes__" 283 (.ref 83)::[])) 4,#[]⟩::t
noncomputable def t9(P:Lv)(t:List Obj):List Obj:=az::aN::⟨(.type "code"),none,(.fields #[sv "NoShort" 273,sv "NoShort" 274,sv "/claim/cut.py" 275,.int 12 0,.int 0 0,.int 0 0,.int 0 0,.int 0 0,.ref 79,.bool false,.int 181 0,.ref 80,.none,.none,.none,.none,.int 276 0,.int 12 0,sv "/claim/cut.py" 277]),#[]⟩::⟨(.type "frame"),none,(.plain),#[KD (.ref 81),KD (.ref 3),KD (.ref 78),none,KD (sv "trueleaf.errors" 187),none,KD (.ref 0)]⟩::au P 24::au P 25::au P 26::⟨(.type "super"),none,(.fields #[.ref 85,.ref 85,.ref 85]),#[]⟩::⟨(.type "builtin_function_or_method"),none,(.fields #[.builtin "object.__init_subclass__",.ref 85]),#[]⟩::t
noncomputable def wY(P:Lv)(t:List Obj):List Obj:=au P 27::i5::⟨(.type "dict"),none,.dict (Lo (dE P "__module__" 294 (sv "trueleaf.errors" 187)::dE P "__qualname__" 296 (sv "BadWord" 295)::dE P "__firstlineno__" 298 (.int 14 297)::dE P "__static_attributes__" 299 (.ref 95)::[])) 4,#[]⟩::az::aN::⟨(.type "code"),none,(.fields #[sv "BadWord" 289,sv "BadWord" 290,sv "/claim/cut.py" 291,.int 14 0,.int 0 0,.int 0 0,.int 0 0,.int 0 0,.ref 91,.bool false,.int 181 0,.ref 92,.none,.none,.none,.none,.int 292 0,.int 14 0,sv "/claim/cut.py" 293]),#[]⟩::⟨(.type "frame"),none,(.plain),#[KD (.ref 93),KD (.ref 3),KD (.ref 90),none,KD (sv "trueleaf.errors" 187),none,KD (.ref 0)]⟩::au P 28::au P 29::au P 30::⟨(.type "super"),none,(.fields #[.ref 97,.ref 97,.ref 97]),#[]⟩::⟨(.type "builtin_function_or_method"),none,(.fields #[.builtin "object.__init_subclass__",.ref 97]),#[]⟩::au P 31::i5::⟨(.type "dict"),none,.dict (Lo (dE P "__module__" 310 (sv "trueleaf.errors" 187)::dE P "__qualname__" 312 (sv "Twice" 311)::dE P "__firstlineno__" 314 (.int 16 313)::dE P "__static_attributes__" 315 (.ref 107)::[])) 4,#[]⟩::az::t
noncomputable def wZ(P:Lv)(t:List Obj):List Obj:=aN::⟨(.type "code"),none,(.fields #[sv "Twice" 305,sv "Twice" 306,sv "/claim/cut.py" 307,.int 16 0,.int 0 0,.int 0 0,.int 0 0,.int 0 0,.ref 103,.bool false,.int 181 0,.ref 104,.none,.none,.none,.none,.int 308 0,.int 16 0,sv "/claim/cut.py" 309]),#[]⟩::⟨(.type "frame"),none,(.plain),#[KD (.ref 105),KD (.ref 3),KD (.ref 102),none,KD (sv "trueleaf.errors" 187),none,KD (.ref 0)]⟩::au P 32::au P 33::au P 34::⟨(.type "super"),none,(.fields #[.ref 109,.ref 109,.ref 109]),#[]⟩::⟨(.type "builtin_function_or_method"),none,(.fields #[.builtin "object.__init_subclass__",.ref 109]),#[]⟩::au P 35::i5::⟨(.type "dict"),none,.dict (Lo (dE P "__module__" 326 (sv "trueleaf.errors" 187)::dE P "__qualname__" 328 (sv "NoFoot" 327)::dE P "__firstlineno__" 330 (.int 18 329)::dE P "__static_attributes__" 331 (.ref 119)::[])) 4,#[]⟩::az::aN::⟨(.type "code"),none,(.fields #[sv "NoFoot" 321,sv "NoFoot" 322,sv "/claim/cut.py" 323,.int 18 0,.int 0 0,.int 0 0,.int 0 0,.int 0 0,.ref 115,.bool false,.int 181 0,.ref 116,.none,.none,.none,.none,.int 324 0,.int 18 0,sv "/claim/cut.py" 325]),#[]⟩::⟨(.type "frame"),none,(.plain),#[KD (.ref 117),KD (.ref 3),KD (.ref 114),none,KD (sv "trueleaf.errors" 187),none,KD (.ref 0)]⟩::au P 36::t
noncomputable def w9(P:Lv)(t:List Obj):List Obj:=au P 37::au P 38::⟨(.type "super"),none,(.fields #[.ref 121,.ref 121,.ref 121]),#[]⟩::⟨(.type "builtin_function_or_method"),none,(.fields #[.builtin "object.__init_subclass__",.ref 121]),#[]⟩::au P 39::i5::⟨(.type "dict"),none,.dict (Lo (dE P "__module__" 342 (sv "trueleaf.errors" 187)::dE P "__qualname__" 344 (sv "NoMark" 343)::dE P "__firstlineno__" 346 (.int 20 345)::dE P "__static_attributes__" 347 (.ref 131)::[])) 4,#[]⟩::az::aN::⟨(.type "code"),none,(.fields #[sv "NoMark" 337,sv "NoMark" 338,sv "/claim/cut.py" 339,.int 20 0,.int 0 0,.int 0 0,.int 0 0,.int 0 0,.ref 127,.bool false,.int 181 0,.ref 128,.none,.none,.none,.none,.int 340 0,.int 20 0,sv "/claim/cut.py" 341]),#[]⟩::⟨(.type "frame"),none,(.plain),#[KD (.ref 129),KD (.ref 3),KD (.ref 126),none,KD (sv "trueleaf.errors" 187),none,KD (.ref 0)]⟩::au P 40::au P 41::au P 42::⟨(.type "super"),none,(.fields #[.ref 133,.ref 133,.ref 133]),#[]⟩::⟨(.type "builtin_function_or_method"),none,(.fields #[.builtin "object.__init_subclass__",.ref 133]),#[]⟩::t
noncomputable def w_(P:Lv)(t:List Obj):List Obj:=au P 43::az::aN::gA "words_in" "words_in" (top 18)::au P 44::au P 45::az::aN::gA "is_name" "is_name" (top 19)::au P 46::au P 47::az::aN::⟨(.type "tuple"),none,(.seq #[sv "number" 394]),#[]⟩::az::gA "figures_of" "figures_of" (top 20)::t
noncomputable def t_(P:Lv)(t:List Obj):List Obj:=au P 48::au P 49::az::aN::⟨(.type "tuple"),none,(.seq #[sv "word" 401,sv "first" 402,sv "rest" 403]),#[]⟩::az::gA "kind_of" "kind_of" (top 21)::au P 50::au P 51::az::aN::gA "numbers_of" "numbers_of" (top 23)::au P 52::au P 53::t
noncomputable def xx(P:Lv)(t:List Obj):List Obj:=au P 54::az::aN::⟨(.type "tuple"),none,(.seq #[sv "words" 422,sv "count" 423,sv "nodes" 424,sv "pending" 425,sv "word" 426]),#[]⟩::az::gA "tree_of" "tree_of" (top 26)::au P 55::au P 56::az::aN::gA "copied" "copied" (top 27)::au P 57::au P 58::az::aN::⟨(.type "tuple"),none,(.seq #[sv "word" 439]),#[]⟩::t
noncomputable def xy(P:Lv)(t:List Obj):List Obj:=az::gA "opens_call" "opens_call" (top 28)::au P 59::au P 60::az::aN::⟨(.type "tuple"),none,(.seq #[sv "call" 446,sv "last" 447,sv "arguments" 448,sv "nodes" 449]),#[]⟩::az::gA "with_closed" "with_closed" (top 29)::au P 61::au P 62::az::aN::⟨(.type "tuple"),none,(.seq #[sv "word" 456,sv "count" 457,sv "k" 458]),#[]⟩::az::gA "node_of" "node_of" (top 30)::t
noncomputable def xz(P:Lv)(t:List Obj):List Obj:=au P 63::au P 64::az::aN::⟨(.type "tuple"),none,(.seq #[sv "word" 465]),#[]⟩::az::gA "looks_like_place" "looks_like_place" (top 31)::au P 65::au P 66::au P 67::az::aN::⟨(.type "tuple"),none,(.seq #[sv "shorts" 481,sv "nodes" 482,sv "count" 483]),#[]⟩::az::gA "size_of" "size_of" (top 36)::au P 68::t
noncomputable def xA(P:Lv)(t:List Obj):List Obj:=au P 69::az::aN::⟨(.type "tuple"),none,(.seq #[sv "shorts" 490,sv "name" 491,sv "count" 492,sv "nodes" 493,sv "size" 494,sv "row" 495,sv "calls" 496]),#[]⟩::az::gA "new_short" "new_short" (top 37)::au P 70::au P 71::az::aN::⟨(.type "tuple"),none,(.seq #[sv "shorts" 503,sv "nodes" 504,sv "named" 505,sv "size" 506]),#[]⟩::az::gA "put_out" "put_out" (top 38)::au P 72::au P 73::az::t
noncomputable def xB(P:Lv)(t:List Obj):List Obj:=aN::gA "by_name" "by_name" (top 39)::au P 74::au P 75::az::aN::⟨(.type "tuple"),none,(.seq #[sv "named" 519,sv "call" 520,sv "name" 521,sv "short" 522]),#[]⟩::az::gA "short_called" "short_called" (top 40)::au P 76::au P 77::az::aN::⟨(.type "tuple"),none,(.seq #[sv "named" 529,sv "nodes" 530,sv "count" 531,sv "row" 532,sv "calls" 533,sv "node" 534,sv "short" 535,sv "k" 536,sv "argument" 537,sv "size" 538]),#[]⟩::az::gA "size_among" "size_among" (top 41)::t
noncomputable def xC(P:Lv)(t:List Obj):List Obj:=au P 78::au P 79::az::aN::gA "sum_of_rows" "sum_of_rows" (top 42)::au P 80::au P 81::az::aN::gA "words_out" "words_out" (top 43)::au P 82::au P 83::au P 84::au P 85::az::aN::t
noncomputable def xD(P:Lv)(t:List Obj):List Obj:=⟨(.type "tuple"),none,(.seq #[sv "rows" 569,sv "reader" 570,sv "row" 571]),#[]⟩::az::gA "read_rows" "read_rows" (top 48)::au P 86::au P 87::az::i5::⟨(.type "dict"),none,.dict (Lo (dE P "__module__" 582 (sv "trueleaf.reading" 554)::dE P "__qualname__" 584 (sv "Reader" 583)::dE P "__firstlineno__" 586 (.int 170 585)::dE P "__init__" 593 (.ref 280)::dE P "read_row" 602 (.ref 287)::dE P "read_let" 608 (.ref 292)::dE P "read_foot" 618 (.ref 299)::dE P "read_alone" 627 (.ref 306)::dE P "read_words" 636 (.ref 313)::dE P "add_thing" 644 (.ref 320)::dE P "words_out" 650 (.ref 325)::dE P "__static_attributes__" 655 (.ref 326)::[])) 12,#[]⟩::az::⟨(.none),none,(.fields #[.int 172 0,.int 4 0,.ref 279,.int 178 0,.int 4 0,.ref 286,.int 196 0,.int 4 0,.ref 291,.int 205 0,.int 4 0,.ref 298,.int 216 0,.int 4 0,.ref 305,.int 222 0,.int 4 0,.ref 312,.int 230 0,.int 4 0,.ref 319,.int 234 0,.int 4 0,.ref 324]),#[]⟩::⟨(.type "code"),none,(.fields #[sv "Reader" 577,sv "Reader" 578,sv "/claim/cut.py" 579,.int 170 0,.int 0 0,.int 0 0,.int 0 0,.int 0 0,.ref 270,.bool false,.int 181 0,.ref 271,.none,.none,.none,.none,.int 580 0,.int 170 0,sv "/claim/cut.py" 581]),#[]⟩::⟨(.type "frame"),none,(.plain),#[KD (.ref 272),KD (.ref 3),KD (.ref 269),none,KD (sv "trueleaf.reading" 554),none,KD (.ref 0)]⟩::az::aN::⟨(.type "tuple"),none,(.seq #[sv "self" 590]),#[]⟩::az::t
noncomputable def xE(P:Lv)(t:List Obj):List Obj:=gA "__init__" "Reader.__init__" (aH 49 0)::au P 88::au P 89::az::aN::⟨(.type "tuple"),none,(.seq #[sv "self" 597,sv "words" 598,sv "first" 599]),#[]⟩::az::gA "read_row" "Reader.read_row" (aH 49 1)::au P 90::au P 91::az::aN::gA "read_let" "Reader.read_let" (aH 49 2)::au P 92::au P 93::az::t
noncomputable def xF(P:Lv)(t:List Obj):List Obj:=aN::⟨(.type "tuple"),none,(.seq #[sv "self" 612,sv "words" 613,sv "name" 614,sv "text" 615]),#[]⟩::az::gA "read_foot" "Reader.read_foot" (aH 49 3)::au P 94::au P 95::az::aN::⟨(.type "tuple"),none,(.seq #[sv "self" 622,sv "words" 623,sv "first" 624]),#[]⟩::az::gA "read_alone" "Reader.read_alone" (aH 49 4)::au P 96::au P 97::az::aN::⟨(.type "tuple"),none,(.seq #[sv "self" 631,sv "words" 632,sv "read" 633]),#[]⟩::t
noncomputable def xG(P:Lv)(t:List Obj):List Obj:=az::gA "read_words" "Reader.read_words" (aH 49 5)::au P 98::au P 99::az::aN::⟨(.type "tuple"),none,(.seq #[sv "self" 640,sv "thing" 641]),#[]⟩::az::gA "add_thing" "Reader.add_thing" (aH 49 6)::au P 100::au P 101::az::aN::gA "words_out" "Reader.words_out" (aH 49 7)::au P 102::au P 103::t
noncomputable def xH(P:Lv)(t:List Obj):List Obj:=au P 104::au P 105::au P 106::au P 107::au P 108::⟨(.type "super"),none,(.fields #[.ref 328,.ref 328,.ref 328]),#[]⟩::⟨(.type "builtin_function_or_method"),none,(.fields #[.builtin "object.__init_subclass__",.ref 328]),#[]⟩::az::aN::⟨(.type "tuple"),none,(.seq #[sv "word" 666]),#[]⟩::az::gA "is_figure" "is_figure" (top 50)::au P 109::au P 110::au P 111::au P 112::t
noncomputable def xI(P:Lv)(t:List Obj):List Obj:=az::aN::gA "set_words" "set_words" (top 54)::au P 113::au P 114::az::i5::⟨(.type "dict"),none,.dict (Lo (dE P "__module__" 696 (sv "trueleaf.setting" 670)::dE P "__qualname__" 698 (sv "Setter" 697)::dE P "__firstlineno__" 700 (.int 255 699)::dE P "__init__" 706 (.ref 358)::dE P "set_thing" 715 (.ref 365)::dE P "set_head" 724 (.ref 372)::dE P "set_list" 730 (.ref 377)::dE P "set_run" 741 (.ref 384)::dE P "set_mark" 749 (.ref 391)::dE P "set_word" 759 (.ref 398)::dE P "next_foot" 767 (.ref 405)::dE P "check_marks" 773 (.ref 410)::dE P "words_told" 779 (.ref 415)::dE P "saying_of" 789 (.ref 422)::dE P "number_at" 800 (.ref 429)::dE P "__static_attributes__" 810 (.ref 430)::[])) 16,#[]⟩::az::⟨(.none),none,(.fields #[.int 257 0,.int 4 0,.ref 357,.int 268 0,.int 4 0,.ref 364,.int 281 0,.int 4 0,.ref 371,.int 286 0,.int 4 0,.ref 376,.int 293 0,.int 4 0,.ref 383,.int 302 0,.int 4 0,.ref 390,.int 307 0,.int 4 0,.ref 397,.int 319 0,.int 4 0,.ref 404,.int 325 0,.int 4 0,.ref 409,.int 336 0,.int 4 0,.ref 414,.int 342 0,.int 4 0,.ref 421,.int 353 0,.int 4 0,.ref 428]),#[]⟩::⟨(.type "code"),none,(.fields #[sv "Setter" 691,sv "Setter" 692,sv "/claim/cut.py" 693,.int 255 0,.int 0 0,.int 0 0,.int 0 0,.int 0 0,.ref 350,.bool false,.int 181 0,.ref 351,.none,.none,.none,.none,.int 694 0,.int 255 0,sv "/claim/cut.py" 695]),#[]⟩::⟨(.type "frame"),none,(.plain),#[KD (.ref 352),KD (.ref 3),KD (.ref 349),none,KD (sv "trueleaf.setting" 670),none,KD (.ref 0)]⟩::az::aN::gA "__init__" "Setter.__init__" (aH 55 0)::au P 115::t
noncomputable def xJ(P:Lv)(t:List Obj):List Obj:=au P 116::az::aN::⟨(.type "tuple"),none,(.seq #[sv "self" 710,sv "thing" 711,sv "kind" 712]),#[]⟩::az::gA "set_thing" "Setter.set_thing" (aH 55 1)::au P 117::au P 118::az::aN::⟨(.type "tuple"),none,(.seq #[sv "self" 719,sv "k" 720,sv "number" 721]),#[]⟩::az::gA "set_head" "Setter.set_head" (aH 55 2)::au P 119::au P 120::az::t
noncomputable def xK(P:Lv)(t:List Obj):List Obj:=aN::gA "set_list" "Setter.set_list" (aH 55 3)::au P 121::au P 122::az::aN::⟨(.type "tuple"),none,(.seq #[sv "self" 734,sv "lead" 735,sv "words" 736,sv "by_head" 737,sv "word" 738]),#[]⟩::az::gA "set_run" "Setter.set_run" (aH 55 4)::au P 123::au P 124::az::aN::⟨(.type "tuple"),none,(.seq #[sv "self" 745,sv "name" 746]),#[]⟩::az::gA "set_mark" "Setter.set_mark" (aH 55 5)::t
noncomputable def xL(P:Lv)(t:List Obj):List Obj:=au P 125::au P 126::az::aN::⟨(.type "tuple"),none,(.seq #[sv "self" 753,sv "lead" 754,sv "word" 755,sv "foot" 756]),#[]⟩::az::gA "set_word" "Setter.set_word" (aH 55 6)::au P 127::au P 128::az::aN::⟨(.type "tuple"),none,(.seq #[sv "self" 763,sv "name" 764]),#[]⟩::az::gA "next_foot" "Setter.next_foot" (aH 55 7)::au P 129::au P 130::t
noncomputable def xM(P:Lv)(t:List Obj):List Obj:=az::aN::gA "check_marks" "Setter.check_marks" (aH 55 8)::au P 131::au P 132::az::aN::gA "words_told" "Setter.words_told" (aH 55 9)::au P 133::au P 134::az::aN::⟨(.type "tuple"),none,(.seq #[sv "self" 783,sv "word" 784,sv "kind" 785,sv "rest" 786]),#[]⟩::az::gA "saying_of" "Setter.saying_of" (aH 55 10)::au P 135::t
noncomputable def xN(P:Lv)(t:List Obj):List Obj:=au P 136::az::aN::⟨(.type "tuple"),none,(.seq #[sv "self" 793,sv "k" 794,sv "number" 795,sv "text" 796,sv "at" 797]),#[]⟩::az::gA "number_at" "Setter.number_at" (aH 55 11)::au P 137::au P 138::au P 139::au P 140::au P 141::au P 142::au P 143::⟨(.type "super"),none,(.fields #[.ref 432,.ref 432,.ref 432]),#[]⟩::⟨(.type "builtin_function_or_method"),none,(.fields #[.builtin "object.__init_subclass__",.ref 432]),#[]⟩::t
noncomputable def BJ(P:Lv)(t:List Obj):List Obj:=az::aN::⟨(.type "tuple"),none,(.seq #[sv "script" 823,sv "k" 824]),#[]⟩::az::gA "_law_cell_at" "_law_cell_at" (top 57)::au P 144::au P 145::az::aN::⟨(.type "tuple"),none,(.seq #[sv "cell" 831,sv "k" 832,sv "many" 833,sv "number" 834]),#[]⟩::az::gA "_law_draw" "_law_draw" (top 58)::au P 146::au P 147::az::aN::t
noncomputable def BK(P:Lv)(t:List Obj):List Obj:=⟨(.type "tuple"),none,(.seq #[sv "cell" 841,sv "wide" 842]),#[]⟩::az::gA "_law_form" "_law_form" (top 59)::au P 148::au P 149::az::aN::gA "_law_name" "_law_name" (top 60)::au P 150::au P 151::az::aN::⟨(.type "tuple"),none,(.seq #[sv "cell" 855,sv "short" 856,sv "foot" 857,sv "fresh" 858,sv "some" 859]),#[]⟩::az::gA "_law_no_row" "_law_no_row" (top 61)::au P 152::t
noncomputable def BL(P:Lv)(t:List Obj):List Obj:=au P 153::az::aN::⟨(.type "tuple"),none,(.seq #[sv "cell" 866,sv "short" 867,sv "fresh" 868,sv "some" 869]),#[]⟩::az::gA "_law_no_call" "_law_no_call" (top 62)::au P 154::au P 155::az::aN::⟨(.type "tuple"),none,(.seq #[sv "cell" 876,sv "short" 877,sv "fresh" 878,sv "some" 879]),#[]⟩::az::gA "_law_no_short" "_law_no_short" (top 63)::au P 156::au P 157::az::t
noncomputable def BM(P:Lv)(t:List Obj):List Obj:=aN::⟨(.type "tuple"),none,(.seq #[sv "cell" 886,sv "short" 887,sv "foot" 888,sv "fresh" 889,sv "some" 890]),#[]⟩::az::gA "_law_twice" "_law_twice" (top 64)::au P 158::au P 159::az::aN::⟨(.type "tuple"),none,(.seq #[sv "cell" 897,sv "short" 898,sv "foot" 899,sv "fresh" 900,sv "some" 901]),#[]⟩::az::gA "_law_no_word" "_law_no_word" (top 65)::au P 160::au P 161::az::aN::⟨(.type "tuple"),none,(.seq #[sv "cell" 908,sv "short" 909,sv "fresh" 910,sv "deep" 911,sv "some" 912]),#[]⟩::t
noncomputable def BN(P:Lv)(t:List Obj):List Obj:=az::gA "_law_too_long" "_law_too_long" (top 66)::au P 162::au P 163::az::aN::⟨(.type "tuple"),none,(.seq #[sv "cell" 919,sv "short" 920,sv "foot" 921,sv "fresh" 922,sv "way" 923]),#[]⟩::az::gA "_law_bad" "_law_bad" (top 67)::au P 164::au P 165::az::aN::⟨(.type "tuple"),none,(.seq #[sv "cell" 930,sv "short" 931,sv "some" 932]),#[]⟩::az::gA "_law_good" "_law_good" (top 68)::t
noncomputable def BO(P:Lv)(t:List Obj):List Obj:=au P 166::au P 167::az::aN::⟨(.type "tuple"),none,(.seq #[sv "rows" 939,sv "form" 940,sv "which" 941,sv "e" 942]),#[]⟩::az::gA "_law_refusal" "_law_refusal" (top 69)::au P 168::au P 169::az::aN::⟨(.type "tuple"),none,(.seq #[sv "rows" 949,sv "first" 950,sv "spaced" 951,sv "k" 952,sv "row" 953,sv "ahead" 954,sv "end" 955]),#[]⟩::az::gA "_law_spaced" "_law_spaced" (top 70)::au P 170::au P 171::t
noncomputable def BP(P:Lv)(t:List Obj):List Obj:=az::aN::gA "law" "law" (top 71)::au P 172::au P 173::t
noncomputable def zzhA(P:Lv):Heap:=⟨⟨(oB P (boot_o_3 P) (zO P) [])⟩,{}⟩
noncomputable def zzhB(P:Lv):Heap:=⟨⟨(oB P (boot_o_3 P) (zO P) [])⟩,{}⟩
noncomputable def zzh1(P:Lv):Heap:=⟨⟨(oB P (Gg P) (Fg P) (t0 P (Fj P) (t4 P (t6 P (t8 P (t9 P []))))))⟩,{}⟩
noncomputable def zzh2(P:Lv):Heap:=⟨⟨(oB P (Gh P) (Fh P) (t0 P (au P 5) (t4 P (t6 P (t8 P (t9 P (wY P (wZ P (w9 P (w_ P (t_ P [])))))))))))⟩,{}⟩
noncomputable def zzh3(P:Lv):Heap:=⟨⟨(oB P (Gk P) (Fi P) (t0 P (au P 5) (t4 P (t6 P (t8 P (t9 P (wY P (wZ P (w9 P (w_ P (t_ P (xx P (xy P (xz P (xA P (xB P (xC P (xD P (xE P (xF P (xG P (xH P (xI P (xJ P (xK P (xL P (xM P (xN P []))))))))))))))))))))))))))))⟩,{}⟩
noncomputable def zzh4(P:Lv):Heap:=⟨⟨(oB P (au P 1) (zP P) (t0 P (au P 5) (t4 P (t6 P (t8 P (t9 P (wY P (wZ P (w9 P (w_ P (t_ P (xx P (xy P (xz P (xA P (xB P (xC P (xD P (xE P (xF P (xG P (xH P (xI P (xJ P (xK P (xL P (xM P (xN P (BJ P (BK P (BL P (BM P (BN P (BO P (BP P [])))))))))))))))))))))))))))))))))))⟩,{}⟩
noncomputable def zzhF(P:Lv):Heap:=⟨⟨(oB P (au P 1) (zP P) (t0 P (au P 5) (t4 P (t6 P (t8 P (t9 P (wY P (wZ P (w9 P (w_ P (t_ P (xx P (xy P (xz P (xA P (xB P (xC P (xD P (xE P (xF P (xG P (xH P (xI P (xJ P (xK P (xL P (xM P (xN P (BJ P (BK P (BL P (BM P (BN P (BO P (BP P [])))))))))))))))))))))))))))))))))))⟩,{}⟩
noncomputable abbrev zzbE:List Stmt:=behindTheImports PySem.Challenge.pw_trueleaf_k56_rows_refused
noncomputable abbrev zzev:Env:={ scope:=PySem.Challenge.pw_trueleaf_k56_rows_refused.main.scope,locals:=mainNs,globals:=mainNs,cells:=[],code:=.ref 13,frame:=some 14 }
noncomputable abbrev zzcE:Code:=.body zzbE zzev
noncomputable abbrev zzbF:List Frame:=[topFrame (LK 0 0 0 0)]
theorem zzpreL(w:K_)(os:Mj):topGo LX PySem.Challenge.pw_trueleaf_k56_rows_refused w 11 (some (.ref 6)) 12 ⟨boot_heap w.params,LY [],boot_drawn,boot_toks,os⟩ (topStub PySem.Challenge.pw_trueleaf_k56_rows_refused)=some (⟨zzhA w.params,LY [],⟨0,0,0,0⟩,187,os⟩,⟨denote LX zzcE,zzcE,LK 0 0 0 0,zzbF⟩):=by kernel_rfl
theorem zzblkL(w:K_)(os:Mj):segRun LX PySem.Challenge.pw_trueleaf_k56_rows_refused w 11 (some (.ref 6)) 1 1 ⟨zzhA w.params,LY [],⟨0,0,0,0⟩,187,os⟩ (blockOf zzbE zzev zzcE (LK 0 0 0 0) zzbF)=some (.next,⟨zzhB w.params,LY [],⟨0,0,0,0⟩,187,os⟩,zzcE,LK 0 0 0 0):=by kernel_rfl
theorem zzseg0(w:K_)(os:Mj):segRun LX PySem.Challenge.pw_trueleaf_k56_rows_refused w 11 (some (.ref 6)) 1 1261 ⟨zzhB w.params,LY [],⟨0,0,0,0⟩,187,os⟩ (piecesOf ((zzbE.drop 0).take 7) zzev zzcE (LK 0 0 0 0) zzbF)=some (.next,⟨zzh1 w.params,LY [],⟨0,0,0,0⟩,287,os⟩,zzcE,LK 12 0 13 8):=by kernel_rfl
def zzsegP1(w:K_):Prop:=∀os:Mj,segRun LX PySem.Challenge.pw_trueleaf_k56_rows_refused w 11 (some (.ref 6)) 1 1148 ⟨zzh1 w.params,LY [],⟨0,0,0,0⟩,287,os⟩ (piecesOf ((zzbE.drop 7).take 18) zzev zzcE (LK 12 0 13 8) zzbF)=some (.next,⟨zzh2 w.params,LY [],⟨0,0,0,0⟩,417,os⟩,zzcE,LK 53 0 53 8)
theorem zzsegF1(w:K_):zzsegP1 (w.withFollow "special-get-raises" false):=λos=>by kernel_rfl
theorem zzsegT1(w:K_):zzsegP1 (w.withFollow "special-get-raises" true):=λos=>by kernel_rfl
theorem zzseg1(w:K_)(os:Mj):segRun LX PySem.Challenge.pw_trueleaf_k56_rows_refused w 11 (some (.ref 6)) 1 1148 ⟨zzh1 w.params,LY [],⟨0,0,0,0⟩,287,os⟩ (piecesOf ((zzbE.drop 7).take 18) zzev zzcE (LK 12 0 13 8) zzbF)=some (.next,⟨zzh2 w.params,LY [],⟨0,0,0,0⟩,417,os⟩,zzcE,LK 53 0 53 8):=byRow2 "special-get-raises" (P:=zzsegP1) zzsegF1 zzsegT1 w os
def zzsegP2(w:K_):Prop:=∀os:Mj,segRun LX PySem.Challenge.pw_trueleaf_k56_rows_refused w 11 (some (.ref 6)) 1 1690 ⟨zzh2 w.params,LY [],⟨0,0,0,0⟩,417,os⟩ (piecesOf ((zzbE.drop 25).take 31) zzev zzcE (LK 53 0 53 8) zzbF)=some (.next,⟨zzh3 w.params,LY [],⟨0,0,0,0⟩,818,os⟩,zzcE,LK 255 0 358 21)
theorem zzsegF2(w:K_):zzsegP2 (w.withFollow "special-get-raises" false):=λos=>by kernel_rfl
theorem zzsegT2(w:K_):zzsegP2 (w.withFollow "special-get-raises" true):=λos=>by kernel_rfl
theorem zzseg2(w:K_)(os:Mj):segRun LX PySem.Challenge.pw_trueleaf_k56_rows_refused w 11 (some (.ref 6)) 1 1690 ⟨zzh2 w.params,LY [],⟨0,0,0,0⟩,417,os⟩ (piecesOf ((zzbE.drop 25).take 31) zzev zzcE (LK 53 0 53 8) zzbF)=some (.next,⟨zzh3 w.params,LY [],⟨0,0,0,0⟩,818,os⟩,zzcE,LK 255 0 358 21):=byRow2 "special-get-raises" (P:=zzsegP2) zzsegF2 zzsegT2 w os
theorem zzseg3(w:K_)(os:Mj):segRun LX PySem.Challenge.pw_trueleaf_k56_rows_refused w 11 (some (.ref 6)) 1 481 ⟨zzh3 w.params,LY [],⟨0,0,0,0⟩,818,os⟩ (piecesOf ((zzbE.drop 56).take 16) zzev zzcE (LK 255 0 358 21) zzbF)=some (.next,⟨zzh4 w.params,LY [],⟨0,0,0,0⟩,965,os⟩,zzcE,LK 444 0 468 67):=by kernel_rfl
theorem zzfinL(w:K_)(os:Mj):topRun LX PySem.Challenge.pw_trueleaf_k56_rows_refused w 11 (some (.ref 6)) 2 ⟨zzh4 w.params,LY [],⟨0,0,0,0⟩,965,os⟩ ⟨doneF .next,zzcE,LK 444 0 468 67,zzbF⟩=some ⟨zzhF w.params,LY [],⟨0,0,0,0⟩,965,os⟩:=by kernel_rfl
theorem zzbodyE:zzbE=(((zzbE.drop 0).take 7)++(((zzbE.drop 7).take 18)++(((zzbE.drop 25).take 31)++(((zzbE.drop 56).take 16)++[])))):=by kernel_rfl
theorem zzrunL(w:K_)(os:Mj):topRun LX PySem.Challenge.pw_trueleaf_k56_rows_refused w 11 (some (.ref 6)) (12+(1+(1261+(1148+(1690+(481+2)))))) ⟨boot_heap w.params,LY [],boot_drawn,boot_toks,os⟩ (topStub PySem.Challenge.pw_trueleaf_k56_rows_refused)=some ⟨zzhF w.params,LY [],⟨0,0,0,0⟩,965,os⟩:=by
 have k0:topRun LX PySem.Challenge.pw_trueleaf_k56_rows_refused w 11 (some (.ref 6)) (1261+(1148+(1690+(481+2)))) ⟨zzhB w.params,LY [],⟨0,0,0,0⟩,187,os⟩ (restOf (((zzbE.drop 0).take 7)++(((zzbE.drop 7).take 18)++(((zzbE.drop 25).take 31)++(((zzbE.drop 56).take 16)++[])))) zzev zzcE (LK 0 0 0 0) zzbF)=some ⟨zzhF w.params,LY [],⟨0,0,0,0⟩,965,os⟩:=piece_app (zzseg0 w os) (piece_app (zzseg1 w os) (piece_app (zzseg2 w os) (piece_app (zzseg3 w os) (piece_nil (env:=zzev) (q:=LK 0 0 0 0) (zzfinL w os)))));have k1:topRun LX PySem.Challenge.pw_trueleaf_k56_rows_refused w 11 (some (.ref 6)) (1261+(1148+(1690+(481+2)))) ⟨zzhB w.params,LY [],⟨0,0,0,0⟩,187,os⟩ (restOf zzbE zzev zzcE (LK 0 0 0 0) zzbF)=some ⟨zzhF w.params,LY [],⟨0,0,0,0⟩,965,os⟩:=(congrArg (λb=>topRun LX PySem.Challenge.pw_trueleaf_k56_rows_refused w 11 (some (.ref 6)) (1261+(1148+(1690+(481+2)))) ⟨zzhB w.params,LY [],⟨0,0,0,0⟩,187,os⟩ (restOf b zzev zzcE (LK 0 0 0 0) zzbF)) zzbodyE).trans k0;exact go_top (zzpreL w os) (piece_block (zzblkL w os) k1)
theorem zzopE:opening PySem.Challenge.pw_trueleaf_k56_rows_refused=plainProg PySem.Challenge.pw_trueleaf_k56_rows_refused.main.scope.names:=by kernel_rfl
theorem Ih(w:K_):((boot_heap w.params).isNs Lr&&(LY []:Array Pm).size==0,(boot_heap w.params).objs.size,(boot_heap w.params).nsMap Lr "__annotations__")=(true,11,some (.ref 6)):=by kernel_rfl
theorem zzlkA(w:K_)(os:Mj):staticsOk (Ob PySem.Challenge.pw_trueleaf_k56_rows_refused.main.body) (boot_heap w.params) (zzhF w.params)=true:=by kernel_rfl
theorem zzlkB(w:K_)(os:Mj):namesBound PySem.Challenge.pw_trueleaf_k56_rows_refused (zzhF w.params)=true:=by kernel_rfl
theorem zzlkC(w:K_)(os:Mj):gensDone (⟨zzhF w.params,LY [],⟨0,0,0,0⟩,965,os⟩)=true:=by kernel_rfl
theorem zzlkD(w:K_)(os:Mj):laidKept (boot_heap w.params) (zzhF w.params)=true:=by kernel_rfl
noncomputable abbrev zzzF(w:K_)(os:Mj):KJ:=⟨zzhF w.params,LY [],⟨0,0,0,0⟩,965,os⟩
theorem zzlc0(w:K_)(os:Mj):seen ((recsOf vw).map (·.name)) (ownsOf vw) [] { zzzF w os with gens:=#[] }=expectedOf vw:=by kernel_rfl
theorem zzlc1(w:K_)(os:Mj):(zzzF w os).heap.bltView=bltViewBooted:=by kernel_rfl
theorem zzlc2(w:K_)(os:Mj):((zzzF w os).heap.keysOk (looseW vw ls) ((recsOf vw).map (·.name)) ((litsOf vw).map (·.1)) ((clssOf vw (looseW vw ls)).map (·.name))&&(zzzF w os).heap.accountedOkI (Ob PySem.Challenge.pw_trueleaf_k56_rows_refused.main.body)&&(zzzF w os).heap.isNs Lr&&(zzzF w os).heap.isNs Pi&&tablesOk vw (zzzF w os).heap&&xt (zzzF w os)&&(if true=true then(zzzF w os).gens.size==0 else !leftWithCleanup (zzzF w os).gens))=true:=by kernel_rfl
theorem zzlc3(w:K_)(os:Mj):tabsOk vw (zzzF w os)=true:=by kernel_rfl
theorem zzlc4(w:K_)(os:Mj):pinSeenD vw (drecsOf vw) (zzzF w os)=pinGoodD (drecsOf vw):=by kernel_rfl
theorem zzlc5(w:K_)(os:Mj):plainSeenE vw (looseW vw ls) (zzzF w os)=plainGoodE vw (looseW vw ls):=by kernel_rfl
theorem zzlc6(w:K_)(os:Mj):plainSeenD vw ls (zzzF w os)=plainGoodD vw ls:=by kernel_rfl
theorem zzlc7(w:K_)(os:Mj):wideSeen vw (zzzF w os)=wideGood vw:=by kernel_rfl
theorem zzlc8(w:K_)(os:Mj):clsSeenW vw ls (zzzF w os)=clsGoodW vw ls:=by kernel_rfl
theorem zzmk9{A B C D E F G H I:Type}{a a':A}{b b':B}{c c':C}{d d':D}{e e':E}{f f':F}{g g':G}{h h':H}{i i':I}(zzh0:a=a')(zzh1:b=b')(zzh2:c=c')(zzh3:d=d')(zzh4:e=e')(zzh5:f=f')(zzh6:g=g')(zzh7:h=h')(zzh8:i=i'):(a,b,c,d,e,f,g,h,i)=(a',b',c',d',e',f',g',h',i'):=by
 subst zzh0 zzh1 zzh2 zzh3 zzh4 zzh5 zzh6 zzh7 zzh8;rfl
theorem zzlkO(w:K_)(os:Mj):openSeen vw ls (Ob PySem.Challenge.pw_trueleaf_k56_rows_refused.main.body) xt true (zzzF w os)=openGood vw ls:=zzmk9 (zzlc0 w os) (zzlc1 w os) (zzlc2 w os) (zzlc3 w os) (zzlc4 w os) (zzlc5 w os) (zzlc6 w os) (zzlc7 w os) (zzlc8 w os)
theorem Ii(w:K_)(os:Mj):Hook.obs hk (⟨zzhF w.params,LY [],⟨0,0,0,0⟩,965,os⟩)=Hook.val hk w:=by kernel_rfl
theorem zzlkP(w:K_)(os:Mj):(staticsOk (Ob PySem.Challenge.pw_trueleaf_k56_rows_refused.main.body) (boot_heap w.params) (zzhF w.params)&&namesBound PySem.Challenge.pw_trueleaf_k56_rows_refused (zzhF w.params)&&gensDone (⟨zzhF w.params,LY [],⟨0,0,0,0⟩,965,os⟩)&&laidKept (boot_heap w.params) (zzhF w.params))=true:=by rw[zzlkA w os,zzlkB w os,zzlkC w os,zzlkD w os];rfl
theorem left:LeftO PySem.Challenge.pw_trueleaf_k56_rows_refused vw ls xt (Hook.obs hk) (Hook.val hk) 9278:=
 LeftO.of_pieces (boot_open zzopE (by decide) (λs=>rfl)) Ih zzrunL (by decide) λw=>funext λos=>Prod.ext (zzlkP w os) (Prod.ext (zzlkO w os) (Ii w os))

end K56
namespace L2
open PySem PySem.Spec PyProof.Rows

abbrev Key:=Sum Int Str
def mG:Key->KG->Bool
 |.inl k,v=>Value.isInt k v
 |.inr x,v=>Value.isStrOf x v
def Gm(w:K_):Key->Int
 |.inl k=>hashInt k
 |.inr x=>hashStr w x
theorem db:∀{k:Key}{v:KG},mG k v=true->(∃i t,k=O_ i/\v=NX i t)\/(∃x t,k=Nv x/\v=MV x t)
 |.inl i,v,h=>by
  obtain⟨t,e⟩:=Value.isInt_shape (k:=i) (v:=v) h;exact .inl ⟨i,t,rfl,e⟩
 |.inr x,v,h=>by
  obtain⟨t,e⟩:=Value.isStrOf_shape (x:=x) (v:=v) h;exact .inr ⟨x,t,rfl,e⟩
theorem BQ(i:Int)(t:Tok):mG (.inl i) (.int i t)=true:=by simp[mG,Value.isInt]
theorem BR(x:Str)(t:Tok):mG (.inr x) (.str x t)=true:=by simp[mG,Value.isStrOf]
theorem Go(a b:Int):decide ((O_ a:Key)=O_ b)=(a==b):=by
 by_cases e:a=b
 .subst e;simp
 .have h:¬ (O_ a:Key)=O_ b:=λq=>e (Sum.inl.inj q);rw[decide_eq_false h];exact(beq_eq_false_iff_ne.mpr e).symm
theorem Gp(a b:Str):decide ((Nv a:Key)=Nv b)=decide (a=b):=by
 by_cases e:a=b
 .subst e;simp
 .have h:¬ (Nv a:Key)=Nv b:=λq=>e (O4 q);rw[decide_eq_false h,decide_eq_false e]
theorem Gq(a:Int)(b:Str):decide ((O_ a:Key)=Nv b)=false:=decide_eq_false (λq=>nomatch q)
theorem Gr(a:Str)(b:Int):decide ((Nv a:Key)=O_ b)=false:=decide_eq_false (λq=>nomatch q)

def bC(prog:K8)(w:K_):PySem.KeyKind prog w Key where
 is:=mG
 hash:=Gm w
 inj:=λv a b ha hb=>by
  rcases db ha with⟨i,t,rfl,rfl⟩|⟨x,t,rfl,rfl⟩
  .rcases db hb with⟨j,u,rfl,e⟩|⟨y,u,rfl,e⟩
   .injection e with e1 _;rw[e1]
   .exact nomatch e
  .rcases db hb with⟨j,u,rfl,e⟩|⟨y,u,rfl,e⟩
   .exact nomatch e
   .injection e with e1 _;rw[e1]
 byValue:=λk v h=>by
  rcases db h with⟨i,t,rfl,rfl⟩|⟨x,t,rfl,rfl⟩<;>rfl
 pyHash:=λhv h=>by
  rcases db hv with⟨i,t,rfl,rfl⟩|⟨x,t,rfl,rfl⟩
  .exact wpAny_pyHash_int h
  .exact wpAny_pyHash_str h
 eqBool:=λhu hv h=>by
  rcases db hu with⟨i,t,rfl,rfl⟩|⟨x,t,rfl,rfl⟩
  .rcases db hv with⟨j,u,rfl,rfl⟩|⟨y,u,rfl,rfl⟩
   .rw[Go]at h;exact wpAny_eqBool_int h
   .rw[Gq]at h;exact SeqAt.EqAt.int_str i t y u _ _ _ _ h
  .rcases db hv with⟨j,u,rfl,rfl⟩|⟨y,u,rfl,rfl⟩
   .rw[Gr]at h;exact SeqAt.EqAt.str_int x t j u _ _ _ _ h
   .rw[Gp]at h;exact wpAny_eqBool_str h
 «strs»:=λk x t v h=>by
  rcases db h with⟨i,u,rfl,e⟩|⟨y,u,rfl,e⟩
  .exact nomatch e
  .injection e with e1 _;subst e1;cases v<;>rfl

theorem zr(prog:K8)(w:K_)(i:Int)(t:Tok):(bC prog w).is (.inl i) (.int i t)=true:=BQ i t
theorem zt(prog:K8)(w:K_)(x:Str)(t:Tok):(bC prog w).is (.inr x) (.str x t)=true:=BR x t

inductive V where
 |non|bl (b:Bool)|int (i:Int)|str (x:Str)|byt (b:Array UInt8)|flt (b:UInt64)|ref (a:Addr)|ty (n:String)
 deriving DecidableEq

def bg:V->KG->Prop
 |.non,u=>u=NY
 |.bl b,u=>u=Pj b
 |.int i,u=>∃t,u=NX i t
 |.str x,u=>∃t,u=MV x t
 |.byt b,u=>∃t,u=Value.bytes b t
 |.flt b,u=>∃t,u=Value.float b t
 |.ref a,u=>u=LG a
 |.ty n,u=>u=MU n

abbrev aS:List V->List KG->Prop:=Paired bg
theorem aS.length{xs:List V}{us:List KG}(r:aS xs us):xs.length=us.length:=Paired.length r
theorem aS.get:∀{xs:List V}{us:List KG}{i:Nat}{x:V},aS xs us->xs[i]?=some x->∃u,us[i]?=some u/\bg x u
 |_,_,_,_,.nil,e=>by simp at e
 |_,_,0,_,.cons r _,e=>by simp at e;subst e;exact⟨_,rfl,r⟩
 |_,_,i+1,x,.cons _ t,e=>by
  obtain⟨u,h1,h2⟩:=aS.get (i:=i) (x:=x) t (by simpa using e);exact⟨u,by simpa using h1,h2⟩
theorem aS.set{x:V}{u:KG}(r:bg x u):∀{xs:List V}{us:List KG}(i:Nat),aS xs us->aS (xs.set i x) (us.set i u)
 |_,_,_,.nil=>.nil
 |_,_,0,.cons _ t=>.cons r t
 |_,_,i+1,.cons q t=>.cons q (aS.set r i t)
theorem aS.append:∀{xs ys:List V}{us ws:List KG},aS xs us->aS ys ws->aS (xs++ys) (us++ws)
 |_,_,_,_,.nil,s=>s
 |_,_,_,_,.cons r t,s=>.cons r (aS.append t s)
theorem aS.take:∀{xs:List V}{us:List KG}(n:Nat),aS xs us->aS (xs.take n) (us.take n)
 |_,_,0,_=>.nil
 |_,_,_+1,.nil=>.nil
 |_,_,n+1,.cons r t=>.cons r (aS.take n t)
theorem aS.drop:∀{xs:List V}{us:List KG}(n:Nat),aS xs us->aS (xs.drop n) (us.drop n)
 |_,_,0,r=>r
 |_,_,_+1,.nil=>.nil
 |_,_,n+1,.cons _ t=>aS.drop n t
def gP:Option V->Option KG->Prop
 |some v,some u=>bg v u
 |none,none=>True
 |_,_=>False
def KV{κ:Type}:List (κ×V)->List (κ×KG)->Prop:=Paired λ(p:κ×V)(q:κ×KG)=>p.1=q.1/\bg p.2 q.2

def kV:Key->V
 |.inl i=>.int i
 |.inr x=>.str x

inductive HO where
  |lst (xs:List V)
  |tup (xs:List V)
  |dK (kvs:List (Key×V))|dT (kvs:List (List Key×V))
  |set (S:Int->Bool) (n:Nat)
  |ins (C dx:Addr) (fs:List (Str×V))
  |own (x:Addr)
  |xd (fs:List (Str×V))
  |met (f x:Addr)
  |rng (lo hi:Int)
  |frz (o:Obj) (u:HO)
  |tbl (ps:Array KG)
  |ext (φ:Heap->Prop)

abbrev Hp:=Addr->Option HO
def upd(H:Hp)(a:Addr)(o:HO):Hp:=λb=>if b=a then some o else H b
theorem ah{H:Hp}{a:Addr}{o:HO}:upd H a o a=some o:=by unfold upd;rw[if_pos rfl]
theorem aq{H:Hp}{a b:Addr}{o:HO}(h:b≠a):upd H a o b=H b:=by unfold upd;rw[if_neg h]
theorem Au{H:Hp}{a b:Addr}{o u:HO}(h:H a=some o)(h':H b=some u)(d:o≠u):a≠b:=by
 intro e;subst e;rw[h]at h';exact d (Lm h')
theorem a7{H:Hp}{a b:Addr}{o:HO}(h:H a=some o)(h':H b=none):a≠b:=by
 intro e;subst e;rw[h]at h';cases h'

section
variable (P:K8)(w:K_)
def cm(H:Hp)(h:Heap)(a:Addr):HO->Prop
 |.lst xs=>xs.length<=KP/\∃(its:List KG)(n:Nat),aS xs its/\h.get? a=some { cls:=.type "list",data:=.seq its.toArray n }
 |.tup xs=>xs.length<=KP/\∃its:List KG,aS xs its/\IsTup h a its.toArray
 |.dK kvs=>kvs.length<=KP/\(a==Mw)=false/\∃vs,KV kvs vs/\h.DictOf (bC P w) a vs
 |.dT kvs=>kvs.length<=KP/\(a==Mw)=false/\∃xs:List (List Key×Addr×KG),
   Paired (λ(p:List Key×V)(q:List Key×Addr×KG)=>p.1=q.1/\H q.2.1=some (.tup (p.1.map kV))/\bg p.2 q.2.2) kvs xs/\
   ∃o es ep,h.get? a=some o/\o.ExactDict/\o.data=.dict es ep/\es.toList=xs.map (entryOfKey (Pa (bC P w)))/\(xs.map (·.1)).Nodup
 |.set S n=>h.SetOf (intKind P w) a S n
 |.ins C dx fs=>H dx=some (.own a)/\fs.length<=1000/\dx≠a/\h.get? a=some (MK C dx)/\
   ∃mA,h.Ns1 dx mA/\(∀f,gP (fs.lookup f) (mA f))/\Pn mA (fs.map (·.1))
 |.own _=>∃o,h.get? a=some o
 |.xd fs=>∃mA,h.Ns1 a mA/\∀f,gP (fs.lookup f) (mA f)
 |.rng lo hi=>∃t u v,h.get? a=some { cls:=.type "range",data:=.fields #[.int lo t,.int hi u,.int 1 v] }
 |.frz o u=>h.get? a=some o/\cm H h a u
 |.tbl ps=>h.get? a=some { cls:=.none,data:=.fields ps }
 |.met f x=>h.get? a=some (OA (.ref f) (.ref x))
 |.ext φ=>φ h/\(∃o,h.get? a=some o)/\∀h1 h2:Heap,φ h1->(∀o,h1.get? a=some o->h2.get? a=some o)->φ h2
def HOk(H:Hp)(h:Heap):Prop:=∀a o,H a=some o->cm P w H h a o
end

section
variable {P:K8}{w:K_}{H H':Hp}{h h':Heap}{a:Addr}{o:HO}
theorem cm.lt(x:cm P w H h a o):a<h.objs.size:=by
 cases o with
 |lst xs=>obtain⟨_,_,_,_,e⟩:=x;exact KR e
 |tup xs=>obtain⟨_,_,_,p⟩:=x;exact p.lt
 |dK kvs=>obtain⟨_,_,_,_,o,_,_,e,_⟩:=x;exact KR e
 |dT kvs=>obtain⟨_,_,_,_,o,_,_,e,_⟩:=x;exact KR e
 |set S n=>obtain⟨o,_,_,_,e,_⟩:=x;exact KR e
 |ins C dx fs=>obtain⟨_,_,_,e,_⟩:=x;exact KR e
 |own y=>obtain⟨_,e⟩:=x;exact KR e
 |xd fs=>obtain⟨_,⟨_,_,_,e,_⟩,_⟩:=x;exact KR e
 |rng lo hi=>obtain⟨_,_,_,e⟩:=x;exact KR e
 |frz ob u=>obtain⟨e,_⟩:=x;exact KR e
 |tbl ps=>exact KR (show h.get? a=some _ from x)
 |met f y=>exact KR (show h.get? a=some _ from x)
 |ext φ=>obtain⟨_,⟨_,e⟩,_⟩:=x;exact KR e
theorem Paired.mapP{α β:Type}{F G:α->β->Prop}:∀{l₁:List α}{l₂:List β},Paired F l₁ l₂->(∀a b,F a b->G a b)->Paired G l₁ l₂
 |_,_,.nil,_=>.nil
 |_,_,.cons r t,f=>.cons (f _ _ r) (Paired.mapP t f)
theorem cm.stay(x:cm P w H h a o)(k:∀b u,(b=a\/H b=some (.own a))->h.get? b=some u->h'.get? b=some u)
  (ho:∀b,H b=some (.own a)->H' b=some (.own a))(ht:∀b xs,H b=some (.tup xs)->H' b=some (.tup xs)):cm P w H' h' a o:=by
 induction o with
 |lst xs=>obtain⟨z,its,n,r,e⟩:=x;exact⟨z,its,n,r,k _ _ (.inl rfl) e⟩
 |tup xs=>obtain⟨z,its,r,ob,e,c⟩:=x;exact⟨z,its,r,ob,k _ _ (.inl rfl) e,c⟩
 |dK kvs=>obtain⟨z,y,vs,r,ob,es,ep,e,c⟩:=x;exact⟨z,y,vs,r,ob,es,ep,k _ _ (.inl rfl) e,c⟩
 |dT kvs =>
  obtain⟨z,y,xs,r,ob,es,ep,e,c⟩:=x;exact⟨z,y,xs,Paired.mapP r λp q z=>⟨z.1,ht _ _ z.2.1,z.2.2⟩,ob,es,ep,k _ _ (.inl rfl) e,c⟩
 |set S n=>obtain⟨ob,es,ep,t,e,c⟩:=x;exact⟨ob,es,ep,t,k _ _ (.inl rfl) e,c⟩
 |ins C dx fs =>
  obtain⟨d,z,ne,e,mA,⟨od,es,ep,e2,c⟩,r⟩:=x;exact⟨ho _ d,z,ne,k _ _ (.inl rfl) e,mA,⟨od,es,ep,k _ _ (.inr d) e2,c⟩,r⟩
 |own y=>obtain⟨ob,e⟩:=x;exact⟨ob,k _ _ (.inl rfl) e⟩
 |xd fs=>obtain⟨mA,⟨od,es,ep,e,c⟩,r⟩:=x;exact⟨mA,⟨od,es,ep,k _ _ (.inl rfl) e,c⟩,r⟩
 |rng lo hi=>obtain⟨t,u,v,e⟩:=x;exact⟨t,u,v,k _ _ (.inl rfl) e⟩
 |frz ob u ih=>obtain⟨e,q⟩:=x;exact⟨k _ _ (.inl rfl) e,ih q⟩
 |tbl ps =>
  have e:h.get? a=some { cls:=.none,data:=.fields ps }:=x;show h'.get? a=some { cls:=.none,data:=.fields ps };exact k a _ (.inl rfl) e
 |met f y =>
  have e:h.get? a=some (OA (.ref f) (.ref y)):=x;show h'.get? a=some (OA (.ref f) (.ref y));exact k a _ (.inl rfl) e
 |ext φ=>obtain⟨p,⟨o,e⟩,st⟩:=x;exact⟨st _ _ p λo q=>k _ _ (.inl rfl) q,⟨o,k _ _ (.inl rfl) e⟩,st⟩
theorem HOk.lt(x:HOk P w H h)(e:H a=some o):a<h.objs.size:=(x a o e).lt
theorem HOk.fresh(x:HOk P w H h)(e:h.objs.size<=a):H a=none:=by
 cases q:H a with
 |none=>rfl
 |some u=>exact absurd (K6 (x.lt q) e) (Me _)
theorem HOk.kept(x:HOk P w H h)(k:∀b u,h.get? b=some u->h'.get? b=some u):HOk P w H h':=λa o e =>
 (x a o e).stay (λb u _ q=>k b u q) (λ_ q=>q) λ_ _ q=>q
theorem HOk.laid(x:HOk P w H h)(k:∀b u,h.get? b=some u->h'.get? b=some u)(hp:h.objs.size<=a)(new:cm P w (upd H a o) h' a o):HOk P w (upd H a o) h':=λb u e=>by
 have hn:=x.fresh hp;by_cases hb:b=a
 .subst hb;rw[ah]at e;cases e;exact new
 .rw[aq hb]at e;exact(x b u e).stay (λc v _ q=>k c v q) (λc q=>by rw[aq (a7 q hn)];exact q) λc xs q=>by rw[aq (a7 q hn)];exact q
end

def Rd(H:Hp)(a:Addr)(u:HO):Prop:=H a=some u\/∃o,H a=some (.frz o u)
theorem Rd.ok{P:K8}{w:K_}{H:Hp}{h:Heap}{a:Addr}{u:HO}(r:Rd H a u)(x:HOk P w H h):cm P w H h a u:=by
 rcases r with r|⟨o,r⟩
 .exact x a u r
 .obtain⟨_,q⟩:=x a _ r;exact q
def Mut:Option HO->Prop
 |some (.lst _)=>True
 |some (.dK _)=>True
 |some (.dT _)=>True
 |some (.set _ _)=>True
 |some (.ins _ _ _)=>True
 |some (.ext _)=>True
 |_=>False
section
variable {P:K8}{w:K_}{H:Hp}{h h':Heap}{x e:Addr}{o':HO}
theorem HOk.write(ok:HOk P w H h)(mu:Mut (H x))(he:e=x\/H e=some (.own x))(k:∀b u,b≠e->h.get? b=some u->h'.get? b=some u)(heo:∃u,h'.get? e=some u)
  (new:cm P w (upd H x o') h' x o'):HOk P w (upd H x o') h':=λb u q=>by
 have nown:∀c y,H c=some (.own y)->c≠x:=λc y r z=>by subst z;rw[r]at mu;exact mu
 have ntup:∀c xs,H c=some (.tup xs)->c≠x:=λc xs r z=>by subst z;rw[r]at mu;exact mu
 by_cases hb:b=x
 .subst hb;rw[ah]at q;cases q;exact new
 .rw[aq hb]at q;by_cases hbe:b=e
  .have q':H b=some (.own x):=by
    rcases he with z|z
    .exact absurd (hbe.trans z) hb
    .rw[hbe];exact z
   rw[q]at q';cases q';obtain⟨v,hv⟩:=heo;exact⟨v,by rw[hbe];exact hv⟩
  .refine(ok b u q).stay (λc v hc r=>k c v ?_ r) (λc r=>by rw[aq (nown c b r)];exact r) λc xs r=>by rw[aq (ntup c xs r)];exact r
   rcases hc with rfl|hc
   .exact hbe
   .rintro rfl;rcases he with z|z
    .exact nown c b hc z
    .rw[hc]at z;cases z;exact hb rfl
end

structure Un(fs ex:List Addr)(H H':Hp)(h h':Heap):Prop where
 keep:∀b o,h.get? b=some o->H b=none->b∉fs->b∉ex->h'.get? b=some o
 slot:∀b o,h.get? b=some o->H b=none->b∈fs->b∉ex->∃sl,h'.get? b=some { o with slots:=sl }
 free:∀b o,h.get? b=some o->H b=none->b∉ex->H' b=none
 there:∀b o,h.get? b=some o->b∉ex->∃o',h'.get? b=some o'
 tups:∀b xs,H b=some (.tup xs)->H' b=some (.tup xs)
 frzs:∀b o u,H b=some (.frz o u)->H' b=some (.frz o u)
 tbls:∀b ps,H b=some (.tbl ps)->∃more,H' b=some (.tbl (ps++more))
section
variable {fs fs' ex ex':List Addr}{H H1 H2:Hp}{h h1 h2 h':Heap}{a x e:Addr}{o:HO}
theorem Un.any(u:Un fs ex H H1 h h1){b:Addr}{ob:Obj}(q:h.get? b=some ob)(n:H b=none)(hx:b∉ex):∃sl,h1.get? b=some { ob with slots:=sl }:=by
 by_cases hb:b∈fs
 .exact u.slot b ob q n hb hx
 .exact⟨ob.slots,u.keep b ob q n hb hx⟩
theorem Un.trans(a:Un fs ex H H1 h h1)(b:Un fs ex H1 H2 h1 h2):Un fs ex H H2 h h2 where
 keep:=λc ob q n hc hx=>b.keep c ob (a.keep c ob q n hc hx) (a.free c ob q n hx) hc hx
 slot:=λc ob q n hc hx=>by
  obtain⟨sl,e1⟩:=a.slot c ob q n hc hx;obtain⟨sl',e2⟩:=b.slot c _ e1 (a.free c ob q n hx) hc hx;exact⟨sl',e2⟩
 free:=λc ob q n hx=>by
  obtain⟨o',e1⟩:=a.there c ob q hx;exact b.free c o' e1 (a.free c ob q n hx) hx
 there:=λc ob q hx=>by
  obtain⟨o',e1⟩:=a.there c ob q hx;exact b.there c o' e1 hx
 tups:=λc xs q=>b.tups c xs (a.tups c xs q)
 frzs:=λc ob xs q=>b.frzs c ob xs (a.frzs c ob xs q)
 tbls:=λc ps q=>by
  obtain⟨m1,e1⟩:=a.tbls c ps q;obtain⟨m2,e2⟩:=b.tbls c _ e1;exact⟨m1++m2,by rw[e2,Oo]⟩
theorem Un.kept(k:∀b u,h.get? b=some u->h'.get? b=some u):Un fs ex H H h h':=
 ⟨λb ob q _ _ _=>k b ob q,λb ob q _ _ _=>⟨ob.slots,k b ob q⟩,λ_ _ _ n _=>n,λb ob q _=>⟨ob,k b ob q⟩,λ_ _ q=>q,λ_ _ _ q=>q,λ_ ps q=>⟨#[],by rw[q];simp⟩⟩
theorem Un.refl:Un fs ex H H h h:=Un.kept λ_ _ q=>q
theorem Un.laid(k:∀b u,h.get? b=some u->h'.get? b=some u)(hp:h.objs.size<=a)(hn:H a=none):Un fs ex H (upd H a o) h h' where
 keep:=λb u q _ _ _=>k b u q
 slot:=λb u q _ _ _=>⟨u.slots,k b u q⟩
 free:=λb u q n _=>by rw[aq (KZ (K6 (KR q) hp))];exact n
 there:=λb u q _=>⟨u,k b u q⟩
 tups:=λb xs q=>by rw[aq (a7 q hn)];exact q
 frzs:=λb u xs q=>by rw[aq (a7 q hn)];exact q
 tbls:=λb ps q=>⟨#[],by rw[aq (a7 q hn),q];simp⟩
theorem Un.write(mu:Mut (H x))(he:e=x\/H e=some (.own x))(k:∀b u,b≠e->h.get? b=some u->h'.get? b=some u)(heo:∃u,h'.get? e=some u):Un fs ex H (upd H x o) h h':=by
 have hx:∀b,H b=none->b≠x:=λb n z=>by subst z;rw[n]at mu;exact mu
 have hb:∀b,H b=none->b≠e:=λb n z=>by
  subst z;rcases he with r|r
  .exact hx b n r
  .rw[n]at r;cases r
 have hm:∀b u,H b=some u->¬ Mut (some u)->b≠x:=λb u q nm z=>by subst z;rw[q]at mu;exact nm mu
 refine⟨λb u q n _ _=>k b u (hb b n) q,λb u q n _ _=>⟨u.slots,k b u (hb b n) q⟩,λb u q n _=>by rw[aq (hx b n)];exact n,λb u q _=>?_,
  λb xs q=>by rw[aq (hm b _ q λz=>z)];exact q,λb u xs q=>by rw[aq (hm b _ q λz=>z)];exact q,λb ps q=>⟨#[],by rw[aq (hm b _ q λz=>z),q];simp⟩⟩
 by_cases hbe:b=e
 .subst hbe;exact heo
 .exact⟨u,k b u hbe q⟩
end

def trk(h:Heap)(H:Hp):List Addr:=(Mh h.objs.size).filter λa=>(H a).isSome
def oC(h:Heap)(H:Hp):Heap:=Nw h (trk h H)
theorem BS(h:Heap)(H:Hp):(oC h H).objs.size=h.objs.size:=PySem.W.hideAll_size _ _
theorem Du{h:Heap}{H:Hp}{b:Addr}{o:Obj}(e:h.get? b=some o)(n:H b=none):(oC h H).get? b=some o:=
 Np _ e λhm=>by
  have q:(H b).isSome=true:=(List.mem_filter.mp hm).2;rw[n]at q;simp at q
theorem Fk{h:Heap}{H:Hp}{b:Addr}{o:Obj}(e:(oC h H).get? b=some o):h.get? b=some o/\H b=none:=by
 have e':h.get? b=some o:=PySem.W.of_hideAll (trk h H) e;refine⟨e',?_⟩;cases q:H b with
 |none=>rfl
 |some x =>
  have hm:b∈trk h H:=List.mem_filter.mpr ⟨List.mem_range.mpr (KR e'),by simp[q]⟩;have z:(oC h H).get? b=none:=PySem.W.hideAll_none (trk h H) hm;rw[z]at e;cases e


structure Mod(K:KC)(mg:Str->Option KG)(base:Heap):Prop where
 kin:K.In base
 glob:base.Ns Lr mg
 blt:∃mb,base.Ns Pi mb/\∀x:Str,x≠"__name__"->mb x=MN x
 nolimit:base.NoLimit

structure Cx where
 prog:K8
 w:K_
 K:KC
 mg:Str->Option KG
 base:Heap
 A:LC
 N:List Str
 s₀:KJ
 H₀:Hp
 env:Env
 outer:List Env
 stack:List Env
 ex:List Addr
 fn:Str->Bool
 calm:Bool
 pn:List (Addr×Obj)
 xe:KG->KJ->Prop
def frs(l:List Env):List Addr:=l.filterMap (·.frame)
abbrev Cx.fs(X:Cx):List Addr:=frs X.outer

def Vis(sc:Scope)(x:Str):Prop:=sc.names.lookup x=some .local\/sc.names.lookup x=some .cell\/sc.names.lookup x=some .free
def Loc(sc:Scope)(x:Str):Prop:=sc.names.lookup x=some .local\/sc.names.lookup x=some .cell
def Jb(env:Env)(h:Heap)(m:Str->Option KG)(x:Str)(u:KG):Prop:=
 (env.kindOf x=some .local/\m x=some u)\/((env.kindOf x=some .cell\/env.kindOf x=some .free)/\∃c,env.cells.lookup x=some c/\h.IsCell c (some u))

structure Cx.Ok(X:Cx):Prop where
 mod:Mod X.K X.mg X.base
 kind:X.env.scope.kind=.function
 glob:X.env.globals=Lr
 blt:X.env.builtins=Pi
 above:X.s₀.heap.objs.size<=X.env.locals
 inj:∀x y c,X.env.cells.lookup x=some c->X.env.cells.lookup y=some c->x=y
 has:∀x,(X.env.kindOf x=some .cell\/X.env.kindOf x=some .free)->∃c,X.env.cells.lookup x=some c
 cab:∀x c,X.fn x=true->X.env.cells.lookup x=some c->X.s₀.heap.objs.size<=c
 hd:X.calm=true->X.A.handled=none
 frames:X.A.frames=some X.stack
 stk:X.stack=X.outer\/(X.stack=X.env::X.outer/\X.env.frame=some X.env.locals)
 exf:∀b∈X.ex,b≠X.env.locals/\∀x c,X.env.cells.lookup x=some c->c≠b
 bs:∀b o,X.base.get? b=some o->X.s₀.heap.get? b=some o/\X.H₀ b=none
 bsz:X.base.objs.size<=X.s₀.heap.objs.size
 noex:∀b o,X.base.get? b=some o->b∉X.ex
 exfs:∀b∈X.ex,b∉X.fs
 funs:X.s₀.heap.FunFrames X.base X.outer
 frf:∀b∈X.fs,X.H₀ b=none

structure Inv(X:Cx)(pins:List (Addr×Obj))(σ:List (Option V))(H:Hp)(s:KJ):Prop where
 ok:X.Ok
 os:s.os=X.s₀.os
 bare:N6 s.gens
 base:Un X.fs X.ex X.H₀ H X.s₀.heap s.heap
 loc:∃m,s.heap.Ns X.env.locals m/\∀(i:Nat)(x:Str)(v:V),X.N[i]?=some x->σ[i]?=some (some v)->Vis X.env.scope x->∃u,bg v u/\Jb X.env s.heap m x u
 cell:∀x c,X.env.cells.lookup x=some c->∃v,s.heap.IsCell c v
 free:H X.env.locals=none
 freeC:∀x c,X.env.cells.lookup x=some c->H c=none
 pin:∀p∈X.pn++pins,s.heap.get? p.1=some p.2/\H p.1=none/\p.1≠X.env.locals/\p.1∉X.fs/\∀v,p.2.data≠.cell v
 hok:HOk X.prog X.w H s.heap
 len:σ.length=X.N.length

section
variable {X:Cx}{pins:List (Addr×Obj)}{σ:List (Option V)}{H H':Hp}{s:KJ}{h':Heap}

theorem Cx.Ok.nofr(ok:X.Ok){b:Addr}{o:Obj}(e:X.base.get? b=some o):b∉X.fs:=λhb=>by
 have:=(ok.funs.mem hb).1;rw[e]at this;cases this
theorem Inv.bs(I:Inv X pins σ H s):∀b o,X.base.get? b=some o->s.heap.get? b=some o/\H b=none:=λb o e =>
 ⟨I.base.keep b o (I.ok.bs b o e).1 (I.ok.bs b o e).2 (I.ok.nofr e) (I.ok.noex b o e),I.base.free b o (I.ok.bs b o e).1 (I.ok.bs b o e).2 (I.ok.noex b o e)⟩
theorem Inv.bk(I:Inv X pins σ H s):∀b o,X.base.get? b=some o->s.heap.get? b=some o:=λb o e=>(I.bs b o e).1
theorem Inv.mod(I:Inv X pins σ H s):Mod X.K X.mg X.base:=I.ok.mod
theorem Inv.kIn(I:Inv X pins σ H s):X.K.In s.heap:=I.ok.mod.kin.keeps I.bk
theorem Inv.lt(I:Inv X pins σ H s):X.env.locals<s.heap.objs.size:=let⟨_,hn,_⟩:=I.loc;hn.lt
theorem Inv.sz(I:Inv X pins σ H s):X.s₀.heap.objs.size<=s.heap.objs.size:=Ln I.ok.above (Md I.lt)
theorem Inv.nofs(I:Inv X pins σ H s){a:Addr}(h:s.heap.objs.size<=a):a∉X.fs:=λhb=>by
 obtain⟨_,o,ho,_⟩:=I.ok.funs.mem hb;exact absurd (K6 (KR ho) (Ln I.sz h)) (Me _)
theorem Inv.cne(I:Inv X pins σ H s):∀x c,X.env.cells.lookup x=some c->c≠X.env.locals:=λx c e z=>by
 obtain⟨v,o,ho,hd⟩:=I.cell x c e;obtain⟨m,⟨o',es,ep,ho',hd',_⟩,_⟩:=I.loc;rw[z,ho']at ho;cases ho;rw[hd']at hd;cases hd
theorem Inv.funs(I:Inv X pins σ H s):s.heap.FunFrames X.base X.outer:=by
 have all:∀(l:List Env),(∀b∈frs l,b∈X.fs)->X.s₀.heap.FunFrames X.base l->s.heap.FunFrames X.base l:=by
  intro l;induction l with
  |nil=>intro _ _;trivial
  |cons env r ih =>
   intro hs hl;obtain⟨hk,⟨L,o,hf,hn,ho,hd⟩,hr⟩:=hl;have hL:L∈X.fs:=hs L (by unfold frs;rw[ML,hf];exact KO);obtain⟨sl,e⟩:=I.base.slot L o ho (I.ok.frf L hL) hL λz=>I.ok.exfs L z hL;exact⟨hk,⟨L,_,hf,hn,e,hd⟩,ih (λb hb=>hs b (by unfold frs;rw[ML,hf];exact KN _ hb)) hr⟩
 exact all X.outer (λ_ hb=>hb) I.ok.funs

theorem Inv.stack(I:Inv X pins σ H s):s.heap.FunFrames X.base X.stack:=by
 rcases I.ok.stk with e|⟨e,hf⟩
 .rw[e];exact I.funs
 .rw[e];obtain⟨m,hn,_⟩:=I.loc;refine .cons (by rw[I.ok.kind];decide) hf hn ?_ I.funs;exact Heap.get?_none_of_le (Ln I.ok.bsz I.ok.above)
theorem Inv.stkSub(I:Inv X pins σ H s):∀b∈frs X.stack,b∈X.env.locals::X.fs:=λb hb=>by
 rcases I.ok.stk with e|⟨e,hf⟩
 .rw[e]at hb;exact KN _ hb
 .rw[e]at hb;unfold frs at hb;rw[ML,hf]at hb;exact hb
theorem Inv.stkFree(I:Inv X pins σ H s):∀b∈frs X.stack,H b=none:=λb hb=>by
 rcases List.mem_cons.mp (I.stkSub b hb)with e|hb
 .rw[e];exact I.free
 .obtain⟨_,o,ho,_⟩:=I.ok.funs.mem hb;exact I.base.free b o ho (I.ok.frf b hb) λz=>I.ok.exfs b z hb

theorem Inv.step{g':Array Pm}{t':Nat}{d':Drawn}{ch:List Addr}(I:Inv X pins σ H s)
  (hch:∀b∈ch,(b∈X.ex\/X.s₀.heap.objs.size<=b)/\b≠X.env.locals/\(∀x c,X.env.cells.lookup x=some c->c≠b)/\∀p∈X.pn++pins,p.1≠b)
  (keep:∀b o,b≠X.env.locals->b∉X.fs->b∉ch->s.heap.get? b=some o->H b=none->h'.get? b=some o)
  (slot:∀b o,b≠X.env.locals->b∈X.fs->b∉ch->s.heap.get? b=some o->H b=none->∃sl,h'.get? b=some { o with slots:=sl })(free:∀b o,b∉ch->s.heap.get? b=some o->H b=none->H' b=none)
  (there:∀b o,b∉ch->s.heap.get? b=some o->∃o',h'.get? b=some o')
  (tups:∀b xs,H b=some (.tup xs)->H' b=some (.tup xs))(frzs:∀b o u,H b=some (.frz o u)->H' b=some (.frz o u))(tbls:∀b ps,H b=some (.tbl ps)->∃more,H' b=some (.tbl (ps++more)))
  (ns:∀m,s.heap.Ns X.env.locals m->h'.Ns X.env.locals m)(hok:HOk X.prog X.w H' h')(hg:N6 g') :
  Inv X pins σ H' { s with heap:=h',gens:=g',drawn:=d',toks:=t' }:=by
 have neL:∀b o,X.s₀.heap.get? b=some o->b≠X.env.locals:=λb o e=>KZ (K6 (KR e) I.ok.above);have neC:∀b o,X.s₀.heap.get? b=some o->b∉X.ex->b∉ch:=λb o e hx hb=>by
  rcases(hch b hb).1 with z|z
  .exact hx z
  .exact absurd (K6 (KR e) z) (Me _)
 have cellK:∀x c,X.env.cells.lookup x=some c->∀v,s.heap.IsCell c v->h'.IsCell c v:=λx c e v ⟨o,ho,hd⟩=>by
  have nch:c∉ch:=λz=>(hch c z).2.2.1 x c e rfl;by_cases hc:c∈X.fs
  .obtain⟨sl,q⟩:=slot c o (I.cne x c e) hc nch ho (I.freeC x c e);exact⟨_,q,hd⟩
  .exact⟨o,keep c o (I.cne x c e) hc nch ho (I.freeC x c e),hd⟩
 refine⟨I.ok,I.os,hg,⟨λb o e n hb hx=>?_,λb o e n hb hx=>?_,λb o e n hx=>?_,λb o e hx=>?_,λb xs e=>tups b xs (I.base.tups b xs e),λb o xs e=>frzs b o xs (I.base.frzs b o xs e),λb ps e=>?_⟩,?_,λx c e=>?_,?_,λx c e=>?_,λp hp=>?_,hok,I.len⟩
 .exact keep b o (neL b o e) hb (neC b o e hx) (I.base.keep b o e n hb hx) (I.base.free b o e n hx)
 .obtain⟨sl,e1⟩:=I.base.slot b o e n hb hx;obtain⟨sl',e2⟩:=slot b _ (neL b o e) hb (neC b o e hx) e1 (I.base.free b o e n hx);exact⟨sl',e2⟩
 .obtain⟨o',e1⟩:=I.base.there b o e hx;exact free b o' (neC b o e hx) e1 (I.base.free b o e n hx)
 .obtain⟨o',e1⟩:=I.base.there b o e hx;exact there b o' (neC b o e hx) e1
 .obtain⟨m1,e1⟩:=I.base.tbls b ps e;obtain⟨m2,e2⟩:=tbls b _ e1;exact⟨m1++m2,by rw[e2,Oo]⟩
 .obtain⟨m,hn,hl⟩:=I.loc;refine⟨m,ns m hn,λi x v e1 e2 e3=>?_⟩;obtain⟨u,r,l⟩:=hl i x v e1 e2 e3;refine⟨u,r,?_⟩;rcases l with l|⟨k,c,e,z⟩
  .exact .inl l
  .exact .inr ⟨k,c,e,cellK x c e _ z⟩
 .obtain⟨v,z⟩:=I.cell x c e;exact⟨v,cellK x c e v z⟩
 .obtain⟨m,⟨o,_,_,ho,_⟩,_⟩:=I.loc;exact free _ o (λz=>(hch _ z).2.1 rfl) ho I.free
 .obtain⟨v,o,ho,hd⟩:=I.cell x c e;exact free c o (λz=>(hch c z).2.2.1 x c e rfl) ho (I.freeC x c e)
 .obtain⟨e,n,ne,nf,d⟩:=I.pin p hp;have nch:p.1∉ch:=λz=>(hch p.1 z).2.2.2 p hp rfl;exact⟨keep p.1 p.2 ne nf nch e n,free p.1 p.2 nch e n,ne,nf,d⟩
theorem Inv.un{t':Nat}(I:Inv X pins σ H s)(u:Un X.fs [] H H' s.heap h')(hok:HOk X.prog X.w H' h'):Inv X pins σ H' { s with heap:=h',toks:=t' }:=by
 obtain⟨m,⟨o,es,ep,ho,r⟩,_⟩:=id I.loc;obtain⟨sl,hL⟩:=u.any ho I.free (by simp);exact I.step (g':=s.gens) (d':=s.drawn) (ch:=[]) (λ_ z=>nomatch z) (λb o _ hb _ e n=>u.keep b o e n hb (by simp)) (λb o _ hb _ e n=>u.slot b o e n hb (by simp)) (λb o _ e n=>u.free b o e n (by simp)) (λb o _ e=>u.there b o e (by simp)) u.tups u.frzs u.tbls (λm' hm=>by
  obtain⟨o',es',ep',ho',r'⟩:=hm;rw[ho]at ho';cases ho';exact⟨_,es',ep',hL,r'⟩) hok I.bare
theorem Inv.call{g':Array Pm}{t':Nat}{d':Drawn}{ch:List Addr}(I:Inv X pins σ H s)(u:Un (frs X.stack) ch H H' s.heap h')(hok:HOk X.prog X.w H' h')(hg:N6 g')
  (hch:∀b∈ch,(b∈X.ex\/X.s₀.heap.objs.size<=b)/\b≠X.env.locals/\(∀x c,X.env.cells.lookup x=some c->c≠b)/\∀p∈X.pn++pins,p.1≠b) :
  Inv X pins σ H' { s with heap:=h',gens:=g',drawn:=d',toks:=t' }:=by
 obtain⟨m,⟨o,es,ep,ho,r⟩,_⟩:=id I.loc;obtain⟨sl,hL⟩:=u.any ho I.free λz=>(hch _ z).2.1 rfl;exact I.step (ch:=ch) hch (λb o hL hb hc e n=>u.keep b o e n (λz=>(List.mem_cons.mp (I.stkSub b z)).elim hL hb) hc) (λb o _ _ hc e n=>u.any e n hc) (λb o hc e n=>u.free b o e n hc) (λb o hc e=>u.there b o e hc) u.tups u.frzs u.tbls (λm' hm=>by
  obtain⟨o',es',ep',ho',r'⟩:=hm;rw[ho]at ho';cases ho';exact⟨_,es',ep',hL,r'⟩) hok hg
theorem Inv.turned{t':Nat}{it:Addr}(I:Inv X pins σ H s)(k:∀b o,b≠it->s.heap.get? b=some o->h'.get? b=some o)(hn:H it=none)(hL:it≠X.env.locals)
  (h1:it∈X.ex\/X.s₀.heap.objs.size<=it)(h2:∀x c,X.env.cells.lookup x=some c->c≠it)(h3:∀p∈X.pn++pins,p.1≠it):Inv X pins σ H { s with heap:=h',toks:=t' }:=by
 have nit:∀b u,H b=some u->b≠it:=λb u e z=>by rw[z,hn]at e;cases e
 refine I.step (g':=s.gens) (d':=s.drawn) (ch:=[it]) (λb hb=>?_) (λb o _ _ hc e _=>k b o (λz=>hc (by simp[z])) e) (λb o _ _ hc e _=>⟨o.slots,k b o (λz=>hc (by simp[z])) e⟩) (λ_ _ _ _ n=>n)
  (λb o hc e=>⟨o,k b o (λz=>hc (by simp[z])) e⟩) (λ_ _ e=>e) (λ_ _ _ e=>e) (λb ps e=>⟨#[],by rw[e];simp⟩) (λm hm=>?_) (λb u e=>?_) I.bare
 .have e:b=it:=by simpa using hb
  subst e;exact⟨h1,hL,h2,h3⟩
 .obtain⟨o,es,ep,ho,r⟩:=hm;exact⟨o,es,ep,k _ o (Lp hL) ho,r⟩
 .refine(I.hok b u e).stay (λc v hc q=>k c v ?_ q) (λ_ q=>q) λ_ _ q=>q;rcases hc with z|z
  .rw[z];exact nit b u e
  .exact nit c _ z
theorem Inv.tok(I:Inv X pins σ H s)(t:Nat):Inv X pins σ H { s with toks:=t }:=I.un (h':=s.heap) (t':=t) Un.refl I.hok
theorem Inv.kept{t':Nat}(I:Inv X pins σ H s)(k:∀b u,s.heap.get? b=some u->h'.get? b=some u):Inv X pins σ H { s with heap:=h',toks:=t' }:=I.un (Un.kept k) (I.hok.kept k)
theorem Inv.laid{a:Addr}{o:HO}{t':Nat}(I:Inv X pins σ H s)(k:∀b u,s.heap.get? b=some u->h'.get? b=some u)(hp:s.heap.objs.size<=a)(new:cm X.prog X.w (upd H a o) h' a o) :
  Inv X pins σ (upd H a o) { s with heap:=h',toks:=t' }:=I.un (Un.laid k hp (I.hok.fresh hp)) (I.hok.laid k hp new)
theorem Inv.write{x e:Addr}{o:HO}{t':Nat}(I:Inv X pins σ H s)(mu:Mut (H x))(he:e=x\/H e=some (.own x))(k:∀b u,b≠e->s.heap.get? b=some u->h'.get? b=some u)(heo:∃u,h'.get? e=some u)
  (new:cm X.prog X.w (upd H x o) h' x o):Inv X pins σ (upd H x o) { s with heap:=h',toks:=t' }:=I.un (Un.write mu he k heo) (I.hok.write mu he k heo new)
theorem Inv.pins_of{pins':List (Addr×Obj)}(I:Inv X pins σ H s)(h:∀p∈pins',s.heap.get? p.1=some p.2/\H p.1=none/\p.1≠X.env.locals/\p.1∉X.fs/\∀v,p.2.data≠.cell v):Inv X pins' σ H s:=
 ⟨I.ok,I.os,I.bare,I.base,I.loc,I.cell,I.free,I.freeC,λp hp=>(List.mem_append.mp hp).elim (λz=>I.pin p (N9 _ z)) (h p),I.hok,I.len⟩

theorem sQ{N:List Str}(hN:N.Nodup){i j:Nat}{x:Str}(a:N[i]?=some x)(b:N[j]?=some x):i=j:=by
 obtain⟨h1,e1⟩:=List.getElem?_eq_some_iff.mp a;obtain⟨h2,e2⟩:=List.getElem?_eq_some_iff.mp b;exact(List.getElem_inj hN).mp (e1.trans e2.symm)

theorem vM{M:Pz}{A:LC}{E:KG->KJ->Prop}{i:Nat}{x:Str}{v:V}{u:KG}{Q:Unit->KJ->Prop}(I:Inv X pins σ H s)(hN:X.N.Nodup)(hi:X.N[i]?=some x)(hx:Loc X.env.scope x)(r:bg v u)
  (h:∀s',Inv X pins (σ.set i (some v)) H s'->(∃a,M8 a s.heap s'.heap/\(a=X.env.locals\/X.env.cells.lookup x=some a))->Q () s')(hf:X.fn x=true\/X.env.scope.names.lookup x=some .local:=by first|exact .inl rfl|exact .inr rfl|assumption):Lc M A (storeName X.env x u) Q E s:=by
 obtain⟨m,hn,hl⟩:=id I.loc;have hcls:(X.env.scope.kind==.class||(X.env.scope.kind==.module&&X.env.locals != X.env.globals))=false:=by rw[I.ok.kind];rfl
 have hiσ:i<σ.length:=by rw[I.len];exact(List.getElem?_eq_some_iff.mp hi).1
 have cne:=I.cne;have tracked:∀{a:Addr}{h':Heap},(∃o,s.heap.get? a=some o/\H a=none)->M8 a s.heap h'->HOk X.prog X.w H h':=λ{a h'} ha hs b ob e=>by
  obtain⟨_,_,hfree⟩:=ha;refine(I.hok b ob e).stay (λc w' hc q=>(hs.2 c ?_).trans q) (λ_ q=>q) λ_ _ q=>q;rintro rfl;rcases hc with rfl|hc
  .rw[hfree]at e;cases e
  .rw[hfree]at hc;cases hc
 rcases hx with hk|hk
 .refine wpAny_storeName_local hk hn (λh' hn' hs=>?_) hcls;obtain⟨oL,_,_,hoL,_⟩:=id hn;refine h _ ⟨I.ok,I.os,I.bare,⟨λb o e n hb hx=>?_,λb o e n hb hx=>?_,I.base.free,λb o e hx=>?_,I.base.tups,I.base.frzs,I.base.tbls⟩,⟨_,hn',λj y v' e1 e2 e3=>?_⟩,λy c e=>?_,I.free,I.freeC,λp hp=>?_,tracked ⟨oL,hoL,I.free⟩ hs,by simpa using I.len⟩ ⟨_,hs,.inl rfl⟩
  .exact(hs.2 b (KZ (K6 (KR e) I.ok.above))).trans (I.base.keep b o e n hb hx)
  .obtain⟨sl,e1⟩:=I.base.slot b o e n hb hx;exact⟨sl,(hs.2 b (KZ (K6 (KR e) I.ok.above))).trans e1⟩
  .obtain⟨o',e1⟩:=I.base.there b o e hx;exact⟨o',(hs.2 b (KZ (K6 (KR e) I.ok.above))).trans e1⟩
  .by_cases hj:j=i
   .subst hj;rw[hi]at e1;cases e1;rw[NI hiσ]at e2;cases e2;exact⟨u,r,.inl ⟨hk,by simp⟩⟩
   .rw[N_ (Lp hj)]at e2;obtain⟨u',r',q⟩:=hl j y v' e1 e2 e3;refine⟨u',r',?_⟩;rcases q with⟨k,e⟩|⟨k,c,e,z⟩
    .refine .inl ⟨k,?_⟩;have:y≠x:=λe=>hj (sQ hN e1 (e▸hi));simp[this,e]
    .exact .inr ⟨k,c,e,z.sameBut hs (cne y c e)⟩
  .obtain⟨w',z⟩:=I.cell y c e;exact⟨w',z.sameBut hs (cne y c e)⟩
  .obtain⟨e,n,ne,nf,d⟩:=I.pin p hp;exact⟨(hs.2 p.1 ne).trans e,n,ne,nf,d⟩
 .have hfn:X.fn x=true:=by
   rcases hf with z|z
   .exact z
   .rw[z]at hk;cases hk
  obtain⟨c,hc⟩:=I.ok.has x (.inl hk);obtain⟨w',z⟩:=I.cell x c hc;refine wpAny_storeName_cell I.ok.kind hk hc z (λh' hc' hs=>?_);obtain⟨oc,hoc,hocd⟩:=id z;refine h { s with heap:=h' } ⟨I.ok,I.os,I.bare,⟨λb o e n hb hx=>?_,λb o e n hb hx=>?_,I.base.free,λb o e hx=>?_,I.base.tups,I.base.frzs,I.base.tbls⟩,⟨m,hn.sameBut hs (Lp (cne x c hc)),λj y v' e1 e2 e3=>?_⟩,λy c' e=>?_,I.free,I.freeC,λp hp=>?_,tracked ⟨oc,hoc,I.freeC x c hc⟩ hs,by simpa using I.len⟩ ⟨c,hs,.inr hc⟩
  .exact(hs.2 b (KZ (K6 (KR e) (I.ok.cab x c hfn hc)))).trans (I.base.keep b o e n hb hx)
  .obtain⟨sl,e1⟩:=I.base.slot b o e n hb hx;exact⟨sl,(hs.2 b (KZ (K6 (KR e) (I.ok.cab x c hfn hc)))).trans e1⟩
  .obtain⟨o',e1⟩:=I.base.there b o e hx;exact⟨o',(hs.2 b (KZ (K6 (KR e) (I.ok.cab x c hfn hc)))).trans e1⟩
  .by_cases hj:j=i
   .subst hj;rw[hi]at e1;cases e1;rw[NI hiσ]at e2;cases e2;exact⟨u,r,.inr ⟨.inl hk,c,hc,hc'⟩⟩
   .rw[N_ (Lp hj)]at e2;obtain⟨u',r',q⟩:=hl j y v' e1 e2 e3;refine⟨u',r',?_⟩;rcases q with q|⟨k,c',e,z'⟩
    .exact .inl q
    .refine .inr ⟨k,c',e,z'.sameBut hs ?_⟩;rintro rfl;exact hj (sQ hN e1 (I.ok.inj _ _ _ e hc▸hi))
  .by_cases hcc:c'=c
   .subst hcc;exact⟨_,hc'⟩
   .obtain⟨w2,z2⟩:=I.cell y c' e;exact⟨w2,z2.sameBut hs hcc⟩
  .obtain⟨e,n,ne,nf,d⟩:=I.pin p hp;refine⟨(hs.2 p.1 ?_).trans e,n,ne,nf,d⟩;intro q;rw[q,hoc]at e;have q':oc=p.2:=Lm e;exact d w' (by rw[<-q'];exact hocd)
theorem oE{M:Pz}{A:LC}{E:KG->KJ->Prop}{i:Nat}{x:Str}{v:V}{u:KG}{Q:Unit->KJ->Prop}(I:Inv X pins σ H s)(hN:X.N.Nodup)(hi:X.N[i]?=some x)(hx:Loc X.env.scope x)(r:bg v u)
  (h:∀s',Inv X pins (σ.set i (some v)) H s'->Q () s')(hf:X.fn x=true\/X.env.scope.names.lookup x=some .local:=by first|exact .inl rfl|exact .inr rfl|assumption):Lc M A (storeName X.env x u) Q E s:=
 vM I hN hi hx r (λs' I' _=>h s' I') hf
theorem Inv.call'{s':KJ}{ch:List Addr}(I:Inv X pins σ H s)(ho:s'.os=s.os)(u:Un (frs X.stack) ch H H' s.heap s'.heap)(hok:HOk X.prog X.w H' s'.heap)(hg:N6 s'.gens)
  (hch:∀b∈ch,(b∈X.ex\/X.s₀.heap.objs.size<=b)/\b≠X.env.locals/\(∀x c,X.env.cells.lookup x=some c->c≠b)/\∀p∈X.pn++pins,p.1≠b):Inv X pins σ H' s':=by
 obtain⟨h',g',d',t',o'⟩:=s';have e:o'=s.os:=ho;subst e;exact I.call (g':=g') (t':=t') (d':=d') u hok hg hch
end

abbrev XK:=KG->Option Addr->Hp->Prop
abbrev St:=List (Option V)
abbrev VK:=V->Hp->Prop
abbrev TE:=St->Hp->VK->Prop
abbrev TT:=St->Hp->(Bool->Hp->Prop)->Prop
abbrev TA:=St->Hp->(List V->Hp->Prop)->Prop
structure dS where
 nx:St->Hp->Prop
 rt:VK
 bk:St->Hp->Prop:=λ_ _=>False
 ct:St->Hp->Prop:=λ_ _=>False
abbrev TS:=dS->St->Hp->Prop

inductive EP(X:Cx)(pins:List (Addr×Obj))(σ:St)(Q:VK)(u:KG)(s':KJ):Prop
 |mk(v H')(_:Inv X pins σ H' s')(_:bg v u)(_:Q v H')
def TP(X:Cx)(pins:List (Addr×Obj))(σ:St)(Q:Bool->Hp->Prop)(b:Bool)(s':KJ):Prop:=∃H',Inv X pins σ H' s'/\Q b H'
inductive AP(X:Cx)(pins:List (Addr×Obj))(σ:St)(Q:List V->Hp->Prop)(us:List KG)(s':KJ):Prop
 |mk(vs H')(_:Inv X pins σ H' s')(_:aS vs us)(_:Q vs H')
def SP(X:Cx)(pins:List (Addr×Obj))(D:dS)(f:Flow)(s':KJ):Prop:=
 match f with
 |.next=>∃σ' H',Inv X pins σ' H' s'/\D.nx σ' H'
 |.brk=>∃σ' H',Inv X pins σ' H' s'/\D.bk σ' H'
 |.cont=>∃σ' H',Inv X pins σ' H' s'/\D.ct σ' H'
 |.ret u=>∃v σ' H',Inv X pins σ' H' s'/\bg v u/\D.rt v H'

def PE(X:Cx)(e:Expr)(t:TE):Prop:=
 ∀(pins:List (Addr×Obj))(s:KJ)(σ:St)(H:Hp)(Q:VK),Inv X pins σ H s->t σ H Q->Lc (Lh X.prog X.w) X.A (eval e X.env) (EP X pins σ Q) X.xe s
def PT(X:Cx)(e:Expr)(t:TT):Prop:=
 ∀(pins:List (Addr×Obj))(s:KJ)(σ:St)(H:Hp)(Q:Bool->Hp->Prop),Inv X pins σ H s->t σ H Q->Lc (Lh X.prog X.w) X.A (isTrue e X.env (eval e X.env)) (TP X pins σ Q) X.xe s
def PW(X:Cx)(e:Expr)(t:TT):Prop:=
 ∀(sD:Sem KG)(pins:List (Addr×Obj))(s:KJ)(σ:St)(H:Hp)(Q:Bool->Hp->Prop),Inv X pins σ H s->t σ H Q->Lc (Lh X.prog X.w) X.A (isTrue e X.env sD) (TP X pins σ Q) X.xe s
theorem PW.pt{X:Cx}{e:Expr}{t:TT}(h:PW X e t):PT X e t:=h _
def PA(X:Cx)(es:List Expr)(t:TA):Prop:=
 ∀(pos:Pos)(pins:List (Addr×Obj))(s:KJ)(σ:St)(H:Hp)(Q:List V->Hp->Prop),Inv X pins σ H s->t σ H Q->Lc (Lh X.prog X.w) X.A (spliced (MB pos (K7 es X.env))) (AP X pins σ Q) X.xe s
def PS(X:Cx)(st:Stmt)(t:TS):Prop:=
 ∀(pins:List (Addr×Obj))(s:KJ)(σ:St)(H:Hp)(D:dS),Inv X pins σ H s->t D σ H->Lc (Lh X.prog X.w) X.A (exec st X.env) (SP X pins D) X.xe s
def PSs(X:Cx)(st:List Stmt)(t:TS):Prop:=
 ∀(pins:List (Addr×Obj))(s:KJ)(σ:St)(H:Hp)(D:dS),Inv X pins σ H s->t D σ H->Lc (Lh X.prog X.w) X.A (execs st X.env) (SP X pins D) X.xe s
theorem thn{α:Type}{t:Sem α}{Q Q':α->KJ->Prop}{M:Pz}{A:LC}{E:KG->KJ->Prop}{s:KJ}(h:Lc M A t Q E s)(hQ:∀a s,Q a s->Q' a s):Lc M A t Q' E s:=LJ h hQ λ_ _ x=>x
section
variable {X:Cx}

inductive Av(i:Nat)(σ:St)(H:Hp)(Q:VK):Prop
 |mk(v)(_:σ[i]?=some (some v))(_:Q v H)
def tC(v:V):TE:=λ_ H Q=>Q v H
theorem Gs{i:Nat}{x:Str}{pos:Pos}(hN:X.N[i]?=some x)(hv:Vis X.env.scope x)(hd:(x==("__debug__" : Str))=false:=by decide)(hcd:(x==("__classdict__" : Str))=false:=by decide):PE X (.Name x pos) (Av i):=by
 intro pins s σ H Q I h;obtain⟨v,e,h⟩:=h;obtain⟨m,hn,hl⟩:=I.loc;obtain⟨u,r,l⟩:=hl i x v hN e hv;have fin:EP X pins σ Q u s:=⟨v,H,I,r,h⟩;rcases l with⟨hk,hm⟩|⟨hk,c,hc,hcell⟩
 .exact PL (wpAny_loadName_local I.ok.kind hk hn hm fin) hd
 .rcases hk with hk|hk
  .exact PL (wpAny_loadName_cell I.ok.kind hk hc hcell fin) hd
  .exact PL (wpAny_loadName_free I.ok.kind hk hc hcell fin hcd) hd
theorem ai{i j pos}:PE X (.Constant (.int i) j pos) (tC (.int i)):=λ_ _ _ H _ I h=>wpAny_Constant_int ⟨.int i,H,I.tok _,⟨_,rfl⟩,h⟩
theorem io{b j pos}:PE X (.Constant (.bool b) j pos) (tC (.bl b)):=λ_ _ _ H _ I h=>Constant_bool ⟨.bl b,H,I,rfl,h⟩
theorem Gu{j pos}:PE X (.Constant .none j pos) (tC .non):=λ_ _ _ H _ I h=>Constant_none ⟨.non,H,I,rfl,h⟩
theorem ak{x j pos}:PE X (.Constant (.str x) j pos) (tC (.str x)):=λ_ _ _ H _ I h=>NA ⟨.str x,H,I.tok _,⟨_,rfl⟩,h⟩

def Gl(X:Cx)(x:Str):Prop:=X.env.kindOf x=some .globalImplicit
theorem jW{E:KG->KJ->Prop}{pins:List (Addr×Obj)}{s:KJ}{σ:St}{H:Hp}{x:Str}{u:KG}{pos:Pos}{Q:KG->KJ->Prop}(I:Inv X pins σ H s)(hg:Gl X x)(hm:X.mg x=some u)(h:Q u s)
  (hd:(x==("__debug__" : Str))=false:=by decide):Lc (Lh X.prog X.w) X.A (eval (.Name x pos) X.env) Q E s:=
 Calls.Name_function_global I.ok.kind hg (Calls.loadGlobal_global (by rw[I.ok.glob];exact I.mod.glob.keeps I.bk) hm h) hd
theorem lK{E:KG->KJ->Prop}{pins:List (Addr×Obj)}{s:KJ}{σ:St}{H:Hp}{x:Str}{u:KG}{pos:Pos}{Q:KG->KJ->Prop}(I:Inv X pins σ H s)(hg:Gl X x)(hm:X.mg x=none)(hv:MN x=some u)(h:Q u s)
  (hn:x≠"__name__":=by decide)(hd:(x==("__debug__" : Str))=false:=by decide):Lc (Lh X.prog X.w) X.A (eval (.Name x pos) X.env) Q E s:=by
 obtain⟨mb,h1,h2⟩:=I.mod.blt;exact Calls.Name_function_global I.ok.kind hg (Calls.loadGlobal_builtin (by rw[I.ok.glob];exact I.mod.glob.keeps I.bk) hm (by rw[I.ok.blt];exact h1.keeps I.bk) ((h2 x hn).trans hv) h) hd
theorem bp{x:Str}{v:V}{u:KG}{pos:Pos}(hg:Gl X x)(hm:X.mg x=some u)(r:bg v u)(hd:(x==("__debug__" : Str))=false:=by decide):PE X (.Name x pos) (tC v):=
 λ_ _ _ H _ I h=>jW I hg hm ⟨v,H,I,r,h⟩ hd
theorem Fl{x:Str}{v:V}{u:KG}{pos:Pos}(hg:Gl X x)(hm:X.mg x=none)(hv:MN x=some u)(r:bg v u)(hn:x≠"__name__":=by decide)(hd:(x==("__debug__" : Str))=false:=by decide):PE X (.Name x pos) (tC v):=
 λ_ _ _ H _ I h=>lK I hg hm hv ⟨v,H,I,r,h⟩ hn hd

variable {a b:Expr}{ta tb:TE}{pos:Pos}
inductive tBI(Q:Bool->Hp->Prop)(x:V)(H1:Hp):Prop
 |mk(c)(_:x=.bl c)(_:Q c H1)
def tB(t:TE):TT:=λσ H Q=>t σ H (tBI Q)
theorem kE{e:Expr}{t:TE}(h:PE X e t)(he:∀sD,isTrue e X.env sD=(do let v<-sD;Po e.pos;Ol [v] (truthy v)):=by intro _;rfl):PT X e (tB t):=by
 intro pins s σ H Q I hw;refine isTrue_plain (thn (h pins s σ H _ I hw) λv s1 ⟨x,H1,I1,r1,q1⟩=>?_) (he _);obtain⟨d,rfl,q⟩:=q1;cases r1;exact MY ⟨H1,I1,q⟩

variable {tA tB':TT}{cU:List Expr}
def Gv(t u:TT):TT:=λσ H Q=>t σ H λc H1=>if c=true then u σ H1 Q else Q false H1
def tOr(t u:TT):TT:=λσ H Q=>t σ H λc H1=>if c=true then Q true H1 else u σ H1 Q
def Jc(t:TT):TT:=λσ H Q=>t σ H λc H1=>Q (!c) H1
theorem jj(ha:PT X a tA):PW X (.BoolOp .And [a] pos) tA:=by
 intro wh pins s σ H Q I h;refine PM (thn (ha pins s σ H Q I h) λc s1 e=>?_);cases c with
 |true=>exact isTrue_and_nil e
 |false=>exact e
theorem kH(ha:PT X a tA):PW X (.BoolOp .Or [a] pos) tA:=by
 intro wh pins s σ H Q I h;refine isTrue_or (thn (ha pins s σ H Q I h) λc s1 e=>?_);cases c with
 |false=>exact isTrue_or_nil e
 |true=>exact e
theorem lM(ha:PT X a tA)(hb:PW X (.BoolOp .And (b::cU) pos) tB'):PW X (.BoolOp .And (a::b::cU) pos) (Gv tA tB'):=by
 intro wh pins s σ H Q I h;refine PM (thn (ha pins s σ H _ I h) λc s1 ⟨H1,I1,q1⟩=>?_);cases c with
 |true=>exact hb wh pins s1 σ H1 Q I1 q1
 |false=>exact⟨H1,I1,q1⟩
theorem lm(ha:PT X a tA)(hb:PW X (.BoolOp .Or (b::cU) pos) tB'):PW X (.BoolOp .Or (a::b::cU) pos) (tOr tA tB'):=by
 intro wh pins s σ H Q I h;refine isTrue_or (thn (ha pins s σ H _ I h) λc s1 ⟨H1,I1,q1⟩=>?_);cases c with
 |true=>exact⟨H1,I1,q1⟩
 |false=>exact hb wh pins s1 σ H1 Q I1 q1
theorem ua(ha:PT X a tA):PT X (.UnaryOp .Not a pos) (Jc tA):=by
 intro pins s σ H Q I h;exact isTrue_not (ha pins s σ H (λc H1=>Q (!c) H1) I h)
inductive Gw(tb:TE)(σ:St)(Q:VK)(x:V)(H1:Hp):Prop
 |mk(c)(_:x=.bl c)(_:if c=true then tb σ H1 Q else Q (.bl false) H1)
def Ij(ta tb:TE):TE:=λσ H Q=>ta σ H (Gw tb σ Q)
inductive Ik(tb:TE)(σ:St)(Q:VK)(x:V)(H1:Hp):Prop
 |mk(c)(_:x=.bl c)(_:if c=true then Q (.bl true) H1 else tb σ H1 Q)
def Jd(ta tb:TE):TE:=λσ H Q=>ta σ H (Ik tb σ Q)
theorem lN{op}{t:TE}(h:PE X a t):PE X (.BoolOp op [a] pos) t:=λpins s σ H Q I hw=>BoolOp_one (h pins s σ H Q I hw)
theorem nN(ha:PE X a ta)(hb:PE X (.BoolOp .And (b::cU) pos) tb):PE X (.BoolOp .And (a::b::cU) pos) (Ij ta tb):=by
 intro pins s σ H Q I h;refine BoolOp_and (thn (ha pins s σ H _ I h) λv s1 ⟨x,H1,I1,r1,q1⟩=>?_);obtain⟨c,rfl,q1⟩:=q1;cases r1;refine MY ?_;cases c with
 |true=>exact hb pins s1 σ H1 Q I1 q1
 |false=>exact⟨.bl false,H1,I1,rfl,q1⟩
theorem EY(ha:PE X a ta)(hb:PE X (.BoolOp .Or (b::cU) pos) tb):PE X (.BoolOp .Or (a::b::cU) pos) (Jd ta tb):=by
 intro pins s σ H Q I h;refine BoolOp_or (thn (ha pins s σ H _ I h) λv s1 ⟨x,H1,I1,r1,q1⟩=>?_);obtain⟨c,rfl,q1⟩:=q1;cases r1;refine MY ?_;cases c with
 |false=>exact hb pins s1 σ H1 Q I1 q1
 |true=>exact⟨.bl true,H1,I1,rfl,q1⟩
end

def SqL(K:KC)(H:Hp)(a:Addr)(xs:List V):Prop:=
 Rd H a (.lst xs)\/
  ∃(o:Obj)(its:Array KG)(n:Nat),K.lookup a=some o/\o.cls=.type "list"/\o.dict=none/\o.data=.seq its n/\its.size<=KP/\aS xs its.toList
def SqT(K:KC)(H:Hp)(a:Addr)(xs:List V):Prop:=
 Rd H a (.tup xs)\/
  ∃(o:Obj)(its:Array KG)(n:Nat),K.lookup a=some o/\o.cls=.type "tuple"/\o.data=.seq its n/\its.size<=KP/\aS xs its.toList
def Je:KG->Option V
 |.none=>some .non
 |.bool b=>some (.bl b)
 |.int i _=>some (.int i)
 |.str x _=>some (.str x)
 |.bytes b _=>some (.byt b)
 |.float b _=>some (.flt b)
 |.ref a=>some (.ref a)
 |.type n=>some (.ty n)
 |_=>none
theorem bg.abs{x:V}{u:KG}(r:bg x u):Je u=some x:=by
 cases x with
 |non=>cases r;rfl
 |bl _=>cases r;rfl
 |int _=>obtain⟨t,rfl⟩:=r;rfl
 |str _=>obtain⟨t,rfl⟩:=r;rfl
 |byt _=>obtain⟨t,rfl⟩:=r;rfl
 |flt _=>obtain⟨t,rfl⟩:=r;rfl
 |ref _=>cases r;rfl
 |ty _=>cases r;rfl
theorem bg.inj{x y:V}{u:KG}(r:bg x u)(q:bg y u):x=y:=Lm (r.abs.symm.trans q.abs)
theorem aS.inj:∀{xs ys:List V}{us:List KG},aS xs us->aS ys us->xs=ys
 |_,_,_,.nil,.nil=>rfl
 |_,_,_,.cons r t,.cons r' t'=>by rw[r.inj r',aS.inj t t']
section
variable {X:Cx}{pins:List (Addr×Obj)}{σ:St}{H:Hp}{s:KJ}{a:Addr}{xs ys:List V}
theorem SqL.of{K:KC}(h:H a=some (.lst xs)):SqL K H a xs:=.inl (.inl h)
theorem SqT.of{K:KC}(h:H a=some (.tup xs)):SqT K H a xs:=.inl (.inl h)
theorem Inv.list(I:Inv X pins σ H s)(h:SqL X.K H a xs):∃its:List KG,aS xs its/\PlainL s.heap a its.toArray/\xs.length<=KP:=by
 rcases h with h|⟨o,its,n,hk,hc,hd,hs,hz,r⟩
 .obtain⟨z,its,n,r,e⟩:=h.ok I.hok;exact⟨its,r,⟨_,n,e,rfl,rfl,rfl⟩,z⟩
 .refine⟨its.toList,r,⟨o,n,I.kIn a o hk,hc,hd,by simpa using hs⟩,?_⟩;have e:=r.length;simp only[Nq]at e;omega
theorem Inv.tuple(I:Inv X pins σ H s)(h:SqT X.K H a xs):∃its:List KG,aS xs its/\IsTup s.heap a its.toArray/\xs.length<=KP:=by
 rcases h with h|⟨o,its,n,hk,hc,hs,hz,r⟩
 .obtain⟨z,its,r,p⟩:=h.ok I.hok;exact⟨its,r,p,z⟩
 .refine⟨its.toList,r,⟨o,I.kIn a o hk,hc,n,by simpa using hs⟩,?_⟩;have e:=r.length;simp only[Nq]at e;omega
theorem Inv.list_inj(I:Inv X pins σ H s)(h:SqL X.K H a xs)(h':SqL X.K H a ys):xs=ys:=by
 obtain⟨its,r,⟨o,n,e,_,_,d⟩,_⟩:=I.list h;obtain⟨its',r',⟨o',n',e',_,_,d'⟩,_⟩:=I.list h';rw[e]at e';cases e';rw[d]at d';injection d' with d1 _;have:its=its':=by simpa using congrArg Array.toList d1
 subst this;exact r.inj r'
end

abbrev Cx.wish(X:Cx)(E:KG->KJ->Prop):Cx:={ X with xe:=E }
abbrev Cx.nox(X:Cx):Cx:=X.wish λ_ _=>False
theorem Cx.Ok.wish{X:Cx}(ok:X.Ok)(E:KG->KJ->Prop):(X.wish E).Ok:=
 ⟨ok.mod,ok.kind,ok.glob,ok.blt,ok.above,ok.inj,ok.has,ok.cab,ok.hd,ok.frames,ok.stk,ok.exf,ok.bs,ok.bsz,ok.noex,ok.exfs,ok.funs,ok.frf⟩
theorem Cx.Ok.unwish{X:Cx}{E:KG->KJ->Prop}(ok:(X.wish E).Ok):X.Ok:=
 ⟨ok.mod,ok.kind,ok.glob,ok.blt,ok.above,ok.inj,ok.has,ok.cab,ok.hd,ok.frames,ok.stk,ok.exf,ok.bs,ok.bsz,ok.noex,ok.exfs,ok.funs,ok.frf⟩
section
variable {X:Cx}{pins:List (Addr×Obj)}{σ:St}{H:Hp}{s:KJ}{E:KG->KJ->Prop}
theorem Inv.wish(I:Inv X pins σ H s)(E:KG->KJ->Prop):Inv (X.wish E) pins σ H s:=⟨I.ok.wish E,I.os,I.bare,I.base,I.loc,I.cell,I.free,I.freeC,I.pin,I.hok,I.len⟩
theorem Inv.unwish(I:Inv (X.wish E) pins σ H s):Inv X pins σ H s:=⟨I.ok.unwish,I.os,I.bare,I.base,I.loc,I.cell,I.free,I.freeC,I.pin,I.hok,I.len⟩
theorem SP.unwish{D:dS}{f:Flow}{s':KJ}(h:SP (X.wish E) pins D f s'):SP X pins D f s':=by
 cases f with
 |next=>obtain⟨σ',H',I,q⟩:=h;exact⟨σ',H',I.unwish,q⟩
 |brk=>obtain⟨σ',H',I,q⟩:=h;exact⟨σ',H',I.unwish,q⟩
 |cont=>obtain⟨σ',H',I,q⟩:=h;exact⟨σ',H',I.unwish,q⟩
 |ret u=>obtain⟨v,σ',H',I,r,q⟩:=h;exact⟨v,σ',H',I.unwish,r,q⟩
theorem PSs.nox{st:List Stmt}{t:TS}(h:PSs X.nox st t):PSs X st t:=λpins s σ H D I hw =>
 LJ (h pins s σ H D (I.wish _) hw) (λ_ _ q=>q.unwish) λ_ _ z=>Mp z
end

section
variable {X:Cx}{st:Stmt}{cU:List Stmt}{t u:TS}{e:Expr}{te:TE}{pos:Pos}
def eG:TS:=λD σ H=>D.nx σ H
def Gx(t u:TS):TS:=λD σ H=>t { D with nx:=u D } σ H
theorem aX:PSs X [] eG:=λ_ _ σ H _ I h=>M_ ⟨σ,H,I,h⟩
theorem ae(h1:PS X st t)(h2:PSs X cU u):PSs X (st::cU) (Gx t u):=by
 intro pins s σ H D I h;refine NZ (thn (h1 pins s σ H { D with nx:=u D } I h) λf s1 q=>?_);cases f with
 |next =>
  obtain⟨σ',H',I',q⟩:=q;exact h2 pins s1 σ' H' D I' q
 |ret v=>exact q
 |brk=>exact q
 |cont=>exact q
theorem ap(h1:PS X st t):PSs X [st] t:=by
 intro pins s σ H D I h;refine NZ (thn (h1 pins s σ H D I h) λf s1 q=>?_);cases f with
 |next=>exact M_ q
 |ret v=>exact q
 |brk=>exact q
 |cont=>exact q
theorem Inv.quiet{pins:List (Addr×Obj)}{σ:St}{H:Hp}{s:KJ}(I:Inv X pins σ H s):interactive X.env=false:=by simp[interactive,I.ok.kind]
def Il(te:TE):TS:=λD σ H=>te σ H λ_ H1=>D.nx σ H1
theorem bf(he:PE X e te)(hs:N0 e none pos.line X.env=pure false:=by rfl):PS X (.Expr e pos) (Il te):=by
 intro pins s σ H D I h;exact wpAny_Expr_any (thn (he pins s σ H _ I h) λv s1 ⟨x,H1,I1,r1,q1⟩=>⟨σ,H1,I1,q1⟩) I.quiet hs
def Jf(te:TE):TS:=λD σ H=>te σ H D.rt
theorem aM(he:PE X e te):PS X (.Return (some e) pos) (Jf te):=by
 intro pins s σ H D I h;exact wpAny_Return_some (thn (he pins s σ H _ I h) λv s1 ⟨x,H1,I1,r1,q1⟩=>⟨x,σ,H1,I1,r1,q1⟩)
def Im:TS:=λD _ H=>D.rt .non H
theorem Fm:PS X (.Return none pos) Im:=λ_ _ σ H _ I h=>wpAny_Return_none ⟨.non,σ,H,I,rfl,h⟩
def Gy(c:TT)(t u:TS):TS:=λD σ H=>c σ H λb H1=>if b=true then t D σ H1 else u D σ H1
theorem aW{c:Expr}{a b:List Stmt}{tc:TT}(hc:PT X c tc)(ha:PSs X a t)(hb:PSs X b u):PS X (.If c a b pos) (Gy tc t u):=by
 intro pins s σ H D I h;refine wpAny_If (thn (hc pins s σ H _ I h) λd s1 ⟨H1,I1,q1⟩=>?_);cases d with
 |true=>exact ha pins s1 σ H1 D I1 q1
 |false=>exact hb pins s1 σ H1 D I1 q1
end

abbrev TG:=V->St->Hp->(St->Hp->Prop)->Prop
abbrev TGs:=List V->St->Hp->(St->Hp->Prop)->Prop
def PG(X:Cx)(target:Expr)(t:TG):Prop:=
 ∀(pins:List (Addr×Obj))(s:KJ)(σ:St)(H:Hp)(v:V)(u:KG)(Q:St->Hp->Prop),Inv X pins σ H s->bg v u->t v σ H Q->
  Lc (Lh X.prog X.w) X.A (Pk target X.env u) (λ_ s'=>∃σ' H',Inv X pins σ' H' s'/\Q σ' H') X.xe s
def PGs(X:Cx)(ts:List Expr)(t:TGs):Prop:=
 ∀(pins:List (Addr×Obj))(s:KJ)(σ:St)(H:Hp)(vs:List V)(us:List KG)(Q:St->Hp->Prop),Inv X pins σ H s->aS vs us->t vs σ H Q->
  Lc (Lh X.prog X.w) X.A (assignInOrder ((Op ts X.env).map (·.2)) us) (λ_ s'=>∃σ' H',Inv X pins σ' H' s'/\Q σ' H') X.xe s
abbrev Dw:=V->V->V->Hp->(Hp->Prop)->Prop
def Gz(X:Cx)(t:Dw):Prop:=
 ∀(pins:List (Addr×Obj))(s:KJ)(σ:St)(H:Hp)(o i v:V)(ov iv u:KG)(Q:Hp->Prop),Inv X pins σ H s->bg o ov->bg i iv->bg v u->t o i v H Q->
  Lc (Lh X.prog X.w) X.A (setItem ov iv u) (λ_ s'=>∃H',Inv X pins σ H' s'/\Q H') X.xe s
section
variable {X:Cx}{pos:Pos}
def bN(i:Nat):TG:=λv σ H Q=>Q (σ.set i (some v)) H
theorem bw{i:Nat}{x:Str}(hN:X.N.Nodup)(hi:X.N[i]?=some x)(hx:Loc X.env.scope x)(hf:X.fn x=true\/X.env.scope.names.lookup x=some .local:=by first|exact .inl rfl|exact .inr rfl|assumption):PG X (.Name x pos) (bN i):=by
 intro pins s σ H v u Q I r h;exact wpAny_assign_Name (oE I hN hi hx r (λs' I'=>⟨_,H,I',h⟩) hf)
def Dx:TGs:=λvs σ H Q=>vs=[]/\Q σ H
inductive rP(t:TG)(u:TGs)(vs:List V)(σ:St)(H:Hp)(Q:St->Hp->Prop):Prop
 |mk(v r)(_:vs=v::r)(_:t v σ H λσ' H'=>u r σ' H' Q)
theorem gc:PGs X [] Dx:=by
 intro pins s σ H vs us Q I r h;obtain⟨e,h⟩:=h;subst e;cases r;exact assignInOrder_nil ⟨σ,H,I,h⟩
theorem bZ{e:Expr}{es:List Expr}{t:TG}{u:TGs}(h1:PG X e t)(h2:PGs X es u)
  (hs:(Op (e::es) X.env).map (·.2)=Pk e X.env::(Op es X.env).map (·.2):=by rfl):PGs X (e::es) (rP t u):=by
 intro pins s σ H vs us Q I r h;obtain⟨v,vr,e1,h⟩:=h;subst e1;cases r with
 |cons r rr =>
  rw[hs];refine assignInOrder_cons (thn (h1 pins s σ H _ _ _ I r h) λ_ s1 ⟨σ1,H1,I1,q1⟩=>?_);exact h2 pins s1 σ1 H1 _ _ Q I1 rr q1
inductive Dy(K:KC)(n:Nat)(t:TGs)(v:V)(σ:St)(H:Hp)(Q:St->Hp->Prop):Prop
 |mk(a xs)(_:v=.ref a)(_:SqT K H a xs)(_:xs.length=n)(_:t xs σ H Q)
theorem iX{es:List Expr}{k:Nat}{t:TGs}{n:Nat}(hc:X.calm=true)(h:PGs X es t)
  (hn:(Op es X.env).length=n:=by rfl)(hst:(Op es X.env).findIdx? (·.1)=none:=by rfl):PG X (.Tuple es k pos) (Dy X.K n t):=by
 intro pins s σ H v u Q I r hw;obtain⟨a,xs,e1,hq,hl,hw⟩:=hw;subst e1;cases r;obtain⟨its,rv,ht,hz⟩:=I.tuple hq;refine assign_Tuple_tuple (I.ok.hd hc) ht (by simp[hn,<-hl,rv.length]) hst λh' hx=>?_;have I1:Inv X pins σ H { s with heap:=h' }:=I.kept (t':=s.toks) λb o e=>hx b o (KZ (KR e)) e;exact h pins _ σ H xs _ Q I1 (by simpa using rv) hw
def Jg(to ti:TE)(t:Dw):TG:=λv σ H Q=>to σ H λo H1=>ti σ H1 λi H2=>t o i v H2 λH3=>Q σ H3
theorem xO{o i:Expr}{to ti:TE}{t:Dw}(ho:PE X o to)(hi:PE X i ti)(hs:Gz X t)
  (ha:∀ v,Pk (.Subscript o i pos) X.env v=(do
   let ov<-Ol [v] (eval o X.env)
   let iv<-Ol [v,ov] (eval i X.env)
   Po pos
   Ol [v,ov,iv] (setItem ov iv v)
   release [v,ov,iv] []):=by intro _;rfl):PG X (.Subscript o i pos) (Jg to ti t):=by
 intro pins s σ H v u Q I r h;rw[ha];refine K3 (Nc (thn (ho pins s σ H _ I h) λov s1 ⟨x,H1,I1,r1,q1⟩=>?_));refine K3 (Nc (thn (hi pins s1 σ H1 _ I1 q1) λiv s2 ⟨y,H2,I2,r2,q2⟩=>?_));refine K3 (OH (K3 (Nc (thn (hs pins s2 σ H2 x y v ov iv u _ I2 r1 r2 r q2) λ_ s3 ⟨H3,I3,q3⟩=>?_))));exact wpAny_release ⟨σ,H3,I3,q3⟩
def xP(te:TE)(g:TG):TS:=λD σ H=>te σ H λx H1=>g x σ H1 D.nx
theorem ub{tg e:Expr}{te:TE}{g:TG}(he:PE X e te)(hg:PG X tg g)(hs:swapsWithSole [tg] e pos.line X.env=pure false:=by rfl)(hw:swappedStores [tg] e X.env=pure none:=by rfl)
  (h1:(Op [tg] X.env).map (·.2)=[Pk tg X.env]:=by rfl):PS X (.Assign [tg] e pos) (xP te g):=by
 intro pins s σ H D I h;refine wpAny_Assign_stores (thn (he pins s σ H _ I h) λv s1 ⟨x,H1,I1,r1,q1⟩=>?_) hs hw;rw[h1];exact thn (hg pins s1 σ H1 x v _ I1 r1 q1) λ_ s2 q=>q
theorem ay{i:Nat}{x:Str}{e:Expr}{te:TE}{pos':Pos}(hN:X.N.Nodup)(hi:X.N[i]?=some x)(hx:Loc X.env.scope x)(he:PE X e te)(hs:N0 e (some (.Name x pos')) pos.line X.env=pure false:=by rfl)(hf:X.fn x=true\/X.env.scope.names.lookup x=some .local:=by first|exact .inl rfl|exact .inr rfl|assumption) :
  PS X (.Assign [.Name x pos'] e pos) (xP te (bN i)):=by
 intro pins s σ H D I h;refine wpAny_Assign_Name (thn (he pins s σ H _ I h) λv s1 ⟨y,H1,I1,r1,q1⟩=>?_) hs;exact oE I1 hN hi hx r1 (λs2 I2=>⟨_,H1,I2,q1⟩) hf
end

section
variable {X:Cx}{pos:Pos}
end

structure It where
 go:Nat->Hp->Prop
 yld:Nat->Hp->V->Hp->Prop
 stop:Nat->Hp->Prop
def qk(X:Cx)(pins:List (Addr×Obj))(H:Hp)(b:Addr):Prop:=
 H b=none/\b≠X.env.locals/\b∉X.fs/\(b∈X.ex\/X.s₀.heap.objs.size<=b)/\(∀x c,X.env.cells.lookup x=some c->c≠b)/\∀p∈X.pn++pins,p.1≠b
theorem Inv.fpOk{X:Cx}{pins:List (Addr×Obj)}{σ:St}{H H':Hp}{s:KJ}{b:Addr}(I:Inv X pins σ H s)(hb:s.heap.objs.size<=b)(hn:H' b=none):qk X pins H' b:=by
 refine⟨hn,Mx (K6 I.lt hb),I.nofs hb,.inr (Ln I.sz hb),λx c e z=>?_,λp hp z=>?_⟩
 .obtain⟨v,q⟩:=I.cell x c e;exact absurd (K6 q.lt (by rw[z];exact hb)) (Me _)
 .exact absurd (K6 (KR (I.pin p hp).1) (by rw[z];exact hb)) (Me _)
structure mU(P:K8)(w:K_)(K:KC)(tg:Expr)(J:It)(fp:List Addr)(it:Addr)(tn:Nat->Heap->Prop):Prop where
 mem:it∈fp
 obj:∀i h,tn i h->∀b∈fp,∃o,h.get? b=some o/\∀v,o.data≠.cell v
 keep:∀i h h',tn i h->(∀b∈fp,∀o,h.get? b=some o->h'.get? b=some o)->tn i h'
 item:∀(X:Cx),X.prog=P->X.w=w->X.K=K->X.calm=true->∀(i:Nat)(pins:List (Addr×Obj))(s:KJ)(σ:St)(H:Hp)(E:KG->KJ->Prop),Inv X pins σ H s->(∀b∈fp,qk X pins H b)->tn i s.heap->J.go i H->
  Lc (Lh P w) X.A (pyNext (.ref it)) (λr s1=>∃u,r=some u/\
   Lc (Lh P w) X.A (Oc tg (.ref it) u) (λ_ s2=>∃x H',Inv X pins σ H' s2/\bg x u/\J.yld i H x H'/\tn (i+1) s2.heap/\∀b∈fp,H' b=none) E s1) E s
 done:∀(X:Cx),X.prog=P->X.w=w->X.K=K->X.calm=true->∀(i:Nat)(pins:List (Addr×Obj))(s:KJ)(σ:St)(H:Hp)(E:KG->KJ->Prop),Inv X pins σ H s->(∀b∈fp,qk X pins H b)->tn i s.heap->J.stop i H->
  Lc (Lh P w) X.A (pyNext (.ref it)) (λr s1=>r=none/\Inv X pins σ H s1) E s
 self:∀(A:LC)(i:Nat)(s:KJ)(Q:KG->KJ->Prop)(E:KG->KJ->Prop),tn i s.heap->Q (.ref it) s->Lc (Lh P w) A (PN (.ref it)) Q E s
abbrev TI:=St->Hp->(It->Hp->Prop)->Prop
inductive PIE(X:Cx)(pins:List (Addr×Obj))(σ:St)(tg:Expr)(R:It->Hp->Prop)(itv:KG)(s2:KJ):Prop
 |mk(it:Addr)(fp:List Addr)(tn:Nat->Heap->Prop)(J:It)(H':Hp)(_:itv=.ref it)(_:Inv X pins σ H' s2)(_:mU X.prog X.w X.K tg J fp it tn)(_:tn 0 s2.heap)(_:∀b∈fp,qk X pins H' b)(_:R J H')
def PI(X:Cx)(tg iter:Expr)(wi:TI):Prop:=
 ∀(pins:List (Addr×Obj))(s:KJ)(σ:St)(H:Hp)(R:It->Hp->Prop),Inv X pins σ H s->wi σ H R->
  Lc (Lh X.prog X.w) X.A (eval iter X.env) (λv s1=>Lc (Lh X.prog X.w) X.A (PN v) (PIE X pins σ tg R) X.xe s1) X.xe s

theorem xb{M:Pz}{A:LC}{E:KG->KJ->Prop}{s:KJ}{tg:Expr}{it:Addr}{u:KG}{o:Obj}{n:String}{vs:Array KG}{Q:Unit->KJ->Prop}(ho:s.heap.get? it=some o)(hc:o.cls=.type n)(hd:o.data=.fields vs)
  (hn:["enumerate","zip","dict_itemiterator","dict_reverseitemiterator","odict_iterator","itertools.zip_longest","itertools.pairwise"].contains n=false)(hQ:Q () s):Lc M A (Oc tg (.ref it) u) Q E s:=by
 unfold Oc;cases tg<;>first
  |exact Lz hQ
  |(cases u<;>first
    |exact Lz hQ
    | (refine K3 (wpAny_load ho ?_)
       rw[hc,hd];show Lc M A (if(["enumerate","zip","dict_itemiterator","dict_reverseitemiterator","odict_iterator","itertools.zip_longest","itertools.pairwise"].contains n&&vs[0]?==some (rawInt _))=true then _ else _) Q E s;rw[if_neg (by intro h;rw[hn,NJ]at h;cases h)];exact Lz hQ))

def Itl(K:KC)(a:Addr):It:=
 ⟨λi H=>∃xs x,SqL K H a xs/\xs[i]?=some x,λi H x H'=>H'=H/\∀xs,SqL K H a xs->xs[i]?=some x,λi H=>∃xs,SqL K H a xs/\xs.length<=i⟩
def Itr(lo:Int)(n:Nat):It:=⟨λi _=>i<n,λi H x H'=>H'=H/\x=.int (lo+i),λi _=>n<=i⟩
theorem BT{P:K8}{w:K_}{K:KC}{tg:Expr}(a it:Addr):mU P w K tg (Itl K a) [it] it (λi h=>h.IsListIter it a i) where
 mem:=by simp
 obj:=λi h st b hb=>by
  have e:b=it:=by simpa using hb
  subst e;obtain⟨o,e,c,d⟩:=st;exact⟨o,e,λv z=>by rw[d]at z;cases z⟩
 keep:=λi h h' st k=>st.at λo e=>k it (by simp) o e
 item:=by
  intro X hP hw hK hc i pins s σ H E I hf st hg;subst hP hw hK;obtain⟨xs,x,hq,hx⟩:=hg;obtain⟨its,rv,p,hz⟩:=I.list hq;obtain⟨u,hu,ru⟩:=rv.get hx;obtain⟨f0,f1,f2,f3,f4,f5⟩:=hf it (by simp);refine wpAny_pyNext_list_item st p.isList (x:=u) (by simpa using hu) λh' st' sb=>?_;have I1:Inv X pins σ H { s with heap:=h' }:=I.turned (t':=s.toks) (λb o hb e=>(sb.2 b hb).trans e) f0 f1 f3 f4 f5;obtain⟨o,e,c,d⟩:=id st';exact⟨u,rfl,xb (s:={ s with heap:=h' }) e c d (by decide) ⟨x,H,I1,ru,⟨rfl,λys hy=>by rw[I.list_inj hy hq];exact hx⟩,st',λb hb=>(hf b hb).1⟩⟩
 done:=by
  intro X hP hw hK hc i pins s σ H E I hf st hg;subst hP hw hK;obtain⟨xs,hq,hx⟩:=hg;obtain⟨its,rv,p,hz⟩:=I.list hq;obtain⟨f0,f1,f2,f3,f4,f5⟩:=hf it (by simp);have hl:=rv.length;exact wpAny_pyNext_list_end (I.ok.hd hc) st p.isList (by simp;omega) λh' eb=>⟨rfl,I.turned (t':=s.toks) (λb o hb e=>eb b o hb e) f0 f1 f3 f4 f5⟩
 self:=λ_ _ _ _ _ st h=>wpAny_pyIter_listiter st h
theorem Aw{P:K8}{w:K_}{K:KC}{tg:Expr}(it:Addr)(lo:Int)(n:Nat):mU P w K tg (Itr lo n) [it] it (λi h=>IsRangeIter h it (lo+(i:Nat)*1) ((n:Int)-(i:Nat)) 1) where
 mem:=by simp
 obj:=λi h st b hb=>by
  have e:b=it:=by simpa using hb
  subst e;exact⟨_,st,λv z=>by
   have z':NE _=Data.cell v:=z;cases z'⟩
 keep:=λi h h' st k=>k it (by simp) _ st
 item:=by
  intro X hP hw hK hc i pins s σ H E I hf st hg;subst hP hw hK;obtain⟨f0,f1,f2,f3,f4,f5⟩:=hf it (by simp);have W:=Walks.range (prog:=X.prog) (w:=X.w) (I.ok.hd hc) it lo 1 n;refine W.item i s _ _ hg st λv h' tk hv st' kk=>?_;obtain⟨t,rfl⟩:=hv;have I1:Inv X pins σ H { s with heap:=h',toks:=tk }:=I.turned (λb o hb e=>kk b o (by simpa using hb) e) f0 f1 f3 f4 f5;refine⟨_,rfl,xb (s:={ s with heap:=h',toks:=tk }) (n := "range_iterator") st' rfl rfl (by decide) ⟨.int (lo+i),H,I1,⟨t,?_⟩,⟨rfl,rfl⟩,st',λb hb=>(hf b hb).1⟩⟩;rw[Int.mul_one]
 done:=by
  intro X hP hw hK hc i pins s σ H E I hf st hg;subst hP hw hK;obtain⟨f0,f1,f2,f3,f4,f5⟩:=hf it (by simp);exact wpAny_pyNext_range_end (I.ok.hd hc) st (by have:n<=i:=hg;omega) λh' eb=>⟨rfl,I.turned (t':=s.toks) (λb o hb e=>eb b o hb e) f0 f1 f3 f4 f5⟩
 self:=λ_ _ _ _ _ st h=>wpAny_pyIter_rangeiter st h
section
variable {X:Cx}{tg:Expr}
inductive GA(K:KC)(R:It->Hp->Prop)(x:V)(H1:Hp):Prop
 |mk(a)(_:x=.ref a)(_:∃xs,SqL K H1 a xs)(_:R (Itl K a) H1)
def Io(K:KC)(tl:TE):TI:=λσ H R=>tl σ H (GA K R)
theorem bU{l:Expr}{tl:TE}(hl:PE X l tl):PI X tg l (Io X.K tl):=by
 intro pins s σ H R I h;refine thn (hl pins s σ H _ I h) λv s1 ⟨x,H1,I1,r1,q1⟩=>?_;obtain⟨a,e,⟨xs,hq⟩,q⟩:=q1;subst e;cases r1;obtain⟨its,rv,p,hz⟩:=I1.list hq;refine MH p.isList ?_;refine⟨s1.heap.objs.size,[s1.heap.objs.size],_,_,H1,rfl,I1.kept (t':=s1.toks) λb o e=>KU _ e,BT a _,⟨_,Ld _ rfl,rfl,rfl⟩,λb hb=>?_,q⟩;have e:b=s1.heap.objs.size:=by simpa using hb
 subst e;exact I1.fpOk (Kz _) (I1.hok.fresh (Kz _))
theorem Dz{pins:List (Addr×Obj)}{σ:St}{H:Hp}{s:KJ}{R:It->Hp->Prop}{E:KG->KJ->Prop}{lo hi:Int}{t u v:Tok}{tk:Nat}(I:Inv X pins σ H s)(h1:-(2^62)<=lo)(h2:lo<2^62)(h3:-(2^62)<=hi)(h4:hi<2^62)
  (q:R (Itr lo (hi-lo).toNat) H):Lc (Lh X.prog X.w) X.A (PN (.ref s.heap.objs.size)) (PIE X pins σ tg R) E { s with heap:=s.heap.push { cls:=.type "range",data:=.fields #[.int lo t,.int hi u,.int 1 v] },toks:=tk }:=by
 refine wpAny_pyIter_range (IsRange.new ..) (small_one h1 h2 h3 h4) ?_;have I1:Inv X pins σ H { s with heap:=s.heap.push { cls:=.type "range",data:=.fields #[.int lo t,.int hi u,.int 1 v] },toks:=tk }:=I.kept λb o e=>KU _ e;refine⟨(s.heap.push { cls:=.type "range",data:=.fields #[.int lo t,.int hi u,.int 1 v] }).objs.size,[(s.heap.push { cls:=.type "range",data:=.fields #[.int lo t,.int hi u,.int 1 v] }).objs.size],_,_,H,rfl,
  I1.kept (t':=tk) λb o e=>KU _ e,Aw _ lo (hi-lo).toNat,?_,λb hb=>?_,q⟩
 .have e1:lo+((0:Nat):Int)*1=lo:=by simp
  have e2:(((hi-lo).toNat:Nat):Int)-((0:Nat):Int)=Builtin.Range.rangeSize lo hi 1:=by rw[rangeSize_one];split<;>omega
  show IsRangeIter _ _ (lo+((0:Nat):Int)*1) ((((hi-lo).toNat:Nat):Int)-((0:Nat):Int)) 1;rw[e1,e2];exact Ld _ rfl
 .have e:b=(s.heap.push { cls:=.type "range",data:=.fields #[.int lo t,.int hi u,.int 1 v] }).objs.size:=by simpa using hb
  subst e;exact I1.fpOk (Kz _) (I1.hok.fresh (Kz _))
inductive GB(R:It->Hp->Prop)(vs:List V)(H1:Hp):Prop
 |mk(j:Int)(_:vs=[.int j])(_:-(2^62)<=j)(_:j<2^62)(_:R (Itr 0 j.toNat) H1)
def Ip(ta:TA):TI:=λσ H R=>ta σ H (GB R)
theorem vN{a:Expr}{ta:TA}{p pos:Pos}(hg:Gl X "range")(hm:X.mg "range" = none)(ha:PA X [a] ta)(hs:K7 [a] X.env=[(false,eval a X.env)]:=by rfl):PI X tg (.Call (.Name "range" p) [a] [] pos) (Ip ta):=by
 intro pins s σ H R I h;refine Call_ (lK I hg hm boot_range (MO (thn (ha pos pins s σ H _ I h) λus s1 ⟨vs,H1,I1,r1,q1⟩=>?_) hs rfl));obtain⟨j,e,q1,q2,q⟩:=q1;subst e;cases r1 with
 |cons r rr =>
  cases rr;obtain⟨t,rfl⟩:=r;exact call_range_1 (Dz I1 (by omega) (by omega) q1 q2 (by simpa using q))
def GC(wi:TI)(g:TG)(tb:TS):TS:=λD σ H=>wi σ H λJ H1=>∃W:Nat->Nat->St->Hp->Prop,(∃m,W 0 m σ H1)/\∀i m σ H,W i m σ H->
 (J.stop i H/\D.nx σ H)\/(J.go i H/\∃N:St->Hp->Prop,(∀σ' H',N σ' H'->∃m',m'<m/\W (i+1) m' σ' H')/\∀x H',J.yld i H x H'->g x σ H' λσ2 H2=>tb { D with nx:=N,ct:=N,bk:=D.nx } σ2 H2)
def ql(fp:List Addr)(h:Heap):List (Addr×Obj):=fp.filterMap λb=>(h.get? b).map λo=>(b,o)
theorem lq{fp:List Addr}{h:Heap}{b:Addr}{o:Obj}(hb:b∈fp)(e:h.get? b=some o):(b,o)∈ql fp h:=List.mem_filterMap.mpr ⟨b,hb,by rw[e];rfl⟩
theorem BU{fp:List Addr}{h:Heap}{p:Addr×Obj}(hp:p∈ql fp h):p.1∈fp/\h.get? p.1=some p.2:=by
 obtain⟨b,hb,e⟩:=List.mem_filterMap.mp hp;cases q:h.get? b with
 |none=>rw[q]at e;cases e
 |some o =>
  rw[q]at e;have e':(b,o)=p:=Lm e;subst e';exact⟨hb,q⟩
theorem Inv.pinned{pins:List (Addr×Obj)}{σ:St}{H:Hp}{s:KJ}{fp:List Addr}(I:Inv X pins σ H s)(hf:∀b∈fp,qk X pins H b)(ho:∀b∈fp,∃o,s.heap.get? b=some o/\∀v,o.data≠.cell v):Inv X (pins++ql fp s.heap) σ H s:=
 I.pins_of λp hp=>(List.mem_append.mp hp).elim (λz=>I.pin p (LU _ z)) λz=>by
  obtain⟨hb,e⟩:=BU z;obtain⟨f0,f1,f2,_⟩:=hf p.1 hb;obtain⟨o,e',d⟩:=ho p.1 hb;rw[e]at e';cases e';exact⟨e,f0,f1,f2,d⟩
theorem Inv.unpinned{pins pl:List (Addr×Obj)}{σ:St}{H:Hp}{s:KJ}(I:Inv X (pins++pl) σ H s):Inv X pins σ H s:=I.pins_of λp hp=>I.pin p (LU _ (N9 _ hp))
theorem dF{iter:Expr}{body:List Stmt}{wi:TI}{g:TG}{tb:TS}{pos:Pos}(hp:PassesOwn (Lh X.prog X.w) X.A X.env X.xe)(hc:X.calm=true)(hi:PI X tg iter wi)(hg:PG X tg g)(hb:PSs X body tb)
  (hs:∀x,MI iter X.env x=pure x:=by intro _;rfl):PS X (.For tg iter body [] pos) (GC wi g tb):=by
 intro pins s σ H D I h;refine wpAny_For (thn (hi pins s σ H _ I h) λv s1 h1=>thn h1 λitv s2 h2=>?_) hs;obtain⟨it,fp,tn,J,H2,e,I2,T,st2,f2,W,⟨m0,w0⟩,turn⟩:=h2;subst e
 -- what stays true of the iterator's objects through the loop
 have stat:∀{H':Hp},(∀b∈fp,H' b=none)->∀b∈fp,qk X pins H' b:=λhn b hb=>⟨hn b hb,(f2 b hb).2⟩;refine codeAny_forLoop_any (λn s'=>∃i σ' H',Inv X pins σ' H' s'/\tn i s'.heap/\(∀b∈fp,H' b=none)/\W i n σ' H') ?_ m0 ⟨0,σ,H2,I2,st2,λb hb=>(f2 b hb).1,w0⟩;rintro n s3 ⟨i,σ3,H3,I3,st3,fr3,w3⟩;rcases turn i n σ3 H3 w3 with⟨stop,qn⟩|⟨go,N,hN,step⟩
 .refine Nx hp (thn (T.done X rfl rfl rfl hc i pins s3 σ3 H3 X.xe I3 (stat fr3) st3 stop) λr s4 ⟨hr,I4⟩=>?_);subst hr;exact M_ ⟨σ3,H3,I4,qn⟩
 .refine Nx hp (thn (T.item X rfl rfl rfl hc i pins s3 σ3 H3 X.xe I3 (stat fr3) st3 go) λr s4 ⟨u,hr,h4⟩=>?_);subst hr;refine Nx hp (thn h4 λ_ s5 ⟨x,H5,I5,r5,y5,st5,fr5⟩=>?_);have I5':=I5.pinned (stat fr5) (T.obj _ _ st5);refine Nx hp (thn (hg _ s5 σ3 H5 x u _ I5' r5 (step x H5 y5)) λ_ s6 ⟨σ6,H6,I6,q6⟩=>?_);refine Nx hp (thn (hb _ s6 σ6 H6 _ I6 q6) λf s7 q7=>?_);have again:∀{σ7:St}{H7:Hp},Inv X (pins++ql fp s5.heap) σ7 H7 s7->N σ7 H7->∃m,m<n/\∃i σ' H',Inv X pins σ' H' s7/\tn i s7.heap/\(∀b∈fp,H' b=none)/\W i m σ' H':=λ{σ7 H7} I7 n7=>by
   obtain⟨m',hm,w7⟩:=hN σ7 H7 n7;refine⟨m',hm,i+1,σ7,H7,I7.unpinned,T.keep _ _ _ st5 λb hb o e=>(I7.pin (b,o) (LU _ (LU _ (lq hb e)))).1,λb hb=>?_,w7⟩;obtain⟨o,e,d⟩:=T.obj _ _ st5 b hb;exact(I7.pin (b,o) (LU _ (LU _ (lq hb e)))).2.1
  cases f with
  |next=>obtain⟨σ7,H7,I7,n7⟩:=q7;exact again I7 n7
  |cont=>obtain⟨σ7,H7,I7,n7⟩:=q7;exact again I7 n7
  |brk=>obtain⟨σ7,H7,I7,q7⟩:=q7;exact⟨σ7,H7,I7.unpinned,q7⟩
  |ret v=>obtain⟨x7,σ7,H7,I7,r7,q7⟩:=q7;exact⟨x7,σ7,H7,I7.unpinned,r7,q7⟩
end

theorem dP{K:KC}{a:Addr}{xs:List V}{g:TG}{tb:TS}{D:dS}{σ:St}{H:Hp}(Pv:Nat->St->Hp->Prop)(h0:Pv 0 σ H)(hl:∀i σ H,i<=xs.length->Pv i σ H->SqL K H a xs)
  (hs:∀i x σ H,xs[i]?=some x->Pv i σ H->g x σ H λσ2 H2=>tb { D with nx:=Pv (i+1),ct:=Pv (i+1),bk:=D.nx } σ2 H2)(hd:∀σ H,Pv xs.length σ H->D.nx σ H) :
  ∃W:Nat->Nat->St->Hp->Prop,(∃m,W 0 m σ H)/\∀i m σ H,W i m σ H->
   ((Itl K a).stop i H/\D.nx σ H)\/((Itl K a).go i H/\∃N:St->Hp->Prop,(∀σ' H',N σ' H'->∃m',m'<m/\W (i+1) m' σ' H')/\∀x H',(Itl K a).yld i H x H'->g x σ H' λσ2 H2=>tb { D with nx:=N,ct:=N,bk:=D.nx } σ2 H2):=by
 refine⟨λi m σ H=>m=xs.length-i/\i<=xs.length/\Pv i σ H,⟨xs.length,by simp,Ls _,h0⟩,?_⟩;rintro i m σ H ⟨rfl,hi,p⟩;have q:=hl i σ H hi p;by_cases hlt:i<xs.length
 .refine .inr ⟨⟨xs,xs[i],q,by simp[hlt]⟩,Pv (i+1),λσ' H' p'=>⟨xs.length-(i+1),by omega,rfl,hlt,p'⟩,λx H' y=>?_⟩;obtain⟨e,y⟩:=y;subst e;exact hs i x σ _ (y xs q) p
 .have e:i=xs.length:=by omega
  subst e;exact .inl ⟨⟨xs,q,Kz _⟩,hd σ H p⟩

abbrev R2:=V->V->Hp->VK->Prop
def OpR(X:Cx)(f:KG->KG->Sem KG)(r:R2):Prop:=
 ∀(pins:List (Addr×Obj))(s:KJ)(σ:St)(H:Hp)(x y:V)(v u:KG)(Q:VK),Inv X pins σ H s->bg x v->bg y u->r x y H Q->
  Lc (Lh X.prog X.w) X.A (f v u) (EP X pins σ Q) X.xe s
def UnR(X:Cx)(f:KG->Sem KG)(r:V->Hp->VK->Prop):Prop:=
 ∀(pins:List (Addr×Obj))(s:KJ)(σ:St)(H:Hp)(x:V)(v:KG)(Q:VK),Inv X pins σ H s->bg x v->r x H Q->
  Lc (Lh X.prog X.w) X.A (f v) (EP X pins σ Q) X.xe s
def ip(X:Cx)(f:KG)(r:List V->Hp->VK->Prop):Prop:=
 ∀(pins:List (Addr×Obj))(s:KJ)(σ:St)(H:Hp)(xs:List V)(us:List KG)(Q:VK),Inv X pins σ H s->aS xs us->r xs H Q->
  Lc (Lh X.prog X.w) X.A (call f us) (EP X pins σ Q) X.xe s
def tOp(r:R2)(ta tb:TE):TE:=λσ H Q=>ta σ H λx H1=>tb σ H1 λy H2=>r x y H2 Q
def tUn(r:V->Hp->VK->Prop)(ta:TE):TE:=λσ H Q=>ta σ H λx H1=>r x H1 Q
inductive rI(C:Int->Int->Prop)(g:Int->Int->V)(x:V)(y:V)(H:Hp)(Q:VK):Prop
 |mk(i j)(_:x=.int i)(_:y=.int j)(_:C i j)(_:Q (g i j) H)
inductive rI0(g:Int->Int->V)(x:V)(y:V)(H:Hp)(Q:VK):Prop
 |mk(i j)(_:x=.int i)(_:y=.int j)(_:Q (g i j) H)
inductive rU(g:Int->V)(x:V)(H:Hp)(Q:VK):Prop
 |mk(i)(_:x=.int i)(_:Q (g i) H)

section
variable {X:Cx}{a b c:Expr}{ta tb tc:TE}{pos:Pos}

theorem DA(ha:PE X a ta)(hb:PE X b tb){pins:List (Addr×Obj)}{s:KJ}{σ:St}{H:Hp}{R:V->V->Hp->Prop}(I:Inv X pins σ H s)
  (h:ta σ H λx H1=>tb σ H1 λy H2=>R x y H2){Q:KG->KJ->Prop}{f:KG->KG->Sem KG}
  (hf:∀v u s2 x y H2,Inv X pins σ H2 s2->bg x v->bg y u->R x y H2->Lc (Lh X.prog X.w) X.A (f v u) Q X.xe s2) :
  Lc (Lh X.prog X.w) X.A (eval a X.env) (λv s₁=>Lc (Lh X.prog X.w) X.A (eval b X.env) (λu s₂=>Lc (Lh X.prog X.w) X.A (f v u) Q X.xe s₂) X.xe s₁) X.xe s:=by
 refine thn (ha pins s σ H _ I h) λv s1 ⟨x,H1,I1,r1,q1⟩=>?_;refine thn (hb pins s1 σ H1 _ I1 q1) λu s2 ⟨y,H2,I2,r2,q2⟩=>?_;exact hf v u s2 x y H2 I2 r1 r2 q2

theorem ao{op:Operator}{r:R2}(ho:OpR X (Nt op) r)(ha:PE X a ta)(hb:PE X b tb):PE X (.BinOp a op b pos) (tOp r ta tb):=by
 intro pins s σ H Q I h;exact wpAny_BinOp (DA ha hb I h λv u s2 x y H2 I2 rx ry q=>ho pins s2 σ H2 x y v u Q I2 rx ry q)
theorem EZ{op:UnaryOp}{r:V->Hp->VK->Prop}(ho:UnR X (unaryOp op) r)(ha:PE X a ta):PE X (.UnaryOp op a pos) (tUn r ta):=by
 intro pins s σ H Q I h;exact UnaryOp_ (thn (ha pins s σ H _ I h) λv s1 ⟨x,H1,I1,r1,q1⟩=>ho pins s1 σ H1 x v Q I1 r1 q1)
theorem opI{f:KG->KG->Sem KG}{C:Int->Int->Prop}{g:Int->Int->Int}
  (rule:∀(i j:Int)(t u:Tok)(s:KJ)(Q:KG->KJ->Prop)(E:KG->KJ->Prop),C i j->Q (.int (g i j) s.toks) { s with toks:=s.toks+1 }->Lc (Lh X.prog X.w) X.A (f (.int i t) (.int j u)) Q E s) :
  OpR X f (rI C λi j=>.int (g i j)):=by
 intro pins s σ H x y v u Q I rx ry h;obtain⟨i,j,rfl,rfl,hc,q⟩:=h;obtain⟨t,rfl⟩:=rx;obtain⟨t',rfl⟩:=ry;exact rule i j t t' s _ _ hc ⟨.int (g i j),H,I.tok _,⟨_,rfl⟩,q⟩
theorem GD{f:KG->KG->Sem KG}{g:Int->Int->Int}
  (rule:∀(i j:Int)(t u:Tok)(s:KJ)(Q:KG->KJ->Prop)(E:KG->KJ->Prop),Q (.int (g i j) s.toks) { s with toks:=s.toks+1 }->Lc (Lh X.prog X.w) X.A (f (.int i t) (.int j u)) Q E s) :
  OpR X f (rI0 λi j=>.int (g i j)):=by
 intro pins s σ H x y v u Q I rx ry h;obtain⟨i,j,rfl,rfl,q⟩:=h;obtain⟨t,rfl⟩:=rx;obtain⟨t',rfl⟩:=ry;exact rule i j t t' s _ _ ⟨.int (g i j),H,I.tok _,⟨_,rfl⟩,q⟩
theorem DB{f:KG->KG->Sem KG}{g:Int->Int->Bool}
  (rule:∀(i j:Int)(t u:Tok)(s:KJ)(Q:KG->KJ->Prop)(E:KG->KJ->Prop),Q (.bool (g i j)) s->Lc (Lh X.prog X.w) X.A (f (.int i t) (.int j u)) Q E s) :
  OpR X f (rI0 λi j=>.bl (g i j)):=by
 intro pins s σ H x y v u Q I rx ry h;obtain⟨i,j,rfl,rfl,q⟩:=h;obtain⟨t,rfl⟩:=rx;obtain⟨t',rfl⟩:=ry;exact rule i j t t' s _ _ ⟨.bl (g i j),H,I,rfl,q⟩

def Jh(i j:Int):Prop:=0<j/\j<1073741824
def Ji(i j:Int):Prop:=0<=j/\j<=1000000/\i.natAbs<2^64
def DC(i j:Int):Prop:=(-(2^64)<i/\i<2^64)\/(-(2^64)<j/\j<2^64)
theorem DC.ok{i j:Int}(h:DC i j):IntMulOk i j:=by
 rcases h with⟨h1,h2⟩|⟨h1,h2⟩
 .exact .of_left (intBits_le_64 h1 h2)
 .exact .of_right (intBits_le_64 h1 h2)
theorem cz:OpR X (Nt .Add) (rI0 λi j=>.int (i+j)):=GD λ_ _ _ _ _ _ _ q=>add_int q
theorem kI:OpR X (Nt .Sub) (rI0 λi j=>.int (i-j)):=GD λ_ _ _ _ _ _ _ q=>sub_int q
theorem qm:OpR X (Nt .Mult) (rI DC λi j=>.int (i*j)):=opI λ_ _ _ _ _ _ _ hc q=>mul_int q hc.ok
theorem zQ:OpR X (Nt .FloorDiv) (rI Jh λi j=>.int (i/j)):=opI λi j _ _ _ _ _ hc q=>by
 have h1:(0:Int)<j:=hc.1;have h2:j<1073741824:=hc.2;exact floordiv_int (by omega) (by rw[Int.fdiv_eq_ediv_of_nonneg i (by omega)];exact q) (.inl (PyProof.noPylong_small (by omega)))
theorem nO:OpR X (Nt .Mod) (rI (λ_ j=>0<j) λi j=>.int (i%j)):=opI λi j _ _ _ _ _ hc q=>by
 have h1:(0:Int)<j:=hc;exact mod_int' (by omega) (by rw[Int.fmod_eq_emod_of_nonneg i (by omega)];exact q)
theorem GE:OpR X (Nt .Pow) (rI Ji λi j=>.int (i^j.toNat)):=opI λ_ _ _ _ _ _ _ hc q=>pow_int_small hc.1 hc.2.1 hc.2.2 q
theorem unI{f:KG->Sem KG}{g:Int->Int}
  (rule:∀(i:Int)(t:Tok)(s:KJ)(Q:KG->KJ->Prop)(E:KG->KJ->Prop),Q (.int (g i) s.toks) { s with toks:=s.toks+1 }->Lc (Lh X.prog X.w) X.A (f (.int i t)) Q E s) :
  UnR X f (rU λi=>.int (g i)):=by
 intro pins s σ H x v Q I rx h;obtain⟨i,rfl,q⟩:=h;obtain⟨t,rfl⟩:=rx;exact rule i t s _ _ ⟨.int (g i),H,I.tok _,⟨_,rfl⟩,q⟩
theorem BV:UnR X (unaryOp .USub) (rU λi=>.int (-i)):=unI λ_ _ _ _ _ q=>neg_int q
end

def GF:V->V->Bool
 |.non,.non=>true|.non,.int _=>true|.int _,.non=>true|.non,.bl _=>true|.bl _,.non=>true|.non,.str _=>true|.str _,.non=>true
 |.int _,.int _=>true|.bl _,.bl _=>true|.str _,.str _=>true|.byt _,.byt _=>true
 |.int _,.str _=>true|.str _,.int _=>true|.bl _,.str _=>true|.str _,.bl _=>true
 |_,_=>false
def rEq:R2:=λx y H Q=>GF x y=true/\Q (.bl (decide (x=y))) H
def rNe:R2:=λx y H Q=>GF x y=true/\Q (.bl (!decide (x=y))) H

theorem zR{i j:Int}:decide (V.int i=V.int j)=(i==j):=by
 rw[Od];simp
theorem BW{i j:Bool}:decide (V.bl i=V.bl j)=(i==j):=by
 rw[Od];simp
theorem zS{i j:Str}:decide (V.str i=V.str j)=(i==j):=by
 rw[Od];simp
theorem zT{i j:Array UInt8}:decide (V.byt i=V.byt j)=(i.toList==j.toList):=by
 rw[Od];cases i;cases j;simp

section
variable {X:Cx}{a b c:Expr}{ta tb tc:TE}{pos:Pos}
theorem bT{pins:List (Addr×Obj)}{σ:St}{H:Hp}{s:KJ}{Q:VK}{k k':Bool}(I:Inv X pins σ H s)(q:Q (.bl k) H)(e:k=k'):EP X pins σ Q (.bool k') s:=by
 subst e;exact⟨.bl k,H,I,rfl,q⟩
theorem bQ:OpR X (Ml .Eq) rEq:=by
 intro pins s σ H x y v u Q I rx ry h;obtain⟨hs,q⟩:=h;cases x with
 |non =>
  cases rx;cases y with
  |non=>cases ry;exact PySem.EqNone.eq_none_none (bT I q (by simp))
  |bl j=>cases ry;exact PySem.EqNone.eq_none_bool (bT I q (by simp))
  |int j=>obtain⟨t',rfl⟩:=ry;exact PySem.EqNone.eq_none_int (bT I q (by simp))
  |str j=>obtain⟨t',rfl⟩:=ry;exact PySem.EqNone.eq_none_str (bT I q (by simp))
  |_=>exact absurd (show false=true from hs) K5
 |bl i =>
  cases rx;cases y with
  |non=>cases ry;exact PySem.EqNone.eq_bool_none (bT I q (by simp))
  |bl j=>cases ry;exact eq_bool (bT I q BW)
  |str j=>obtain⟨t',rfl⟩:=ry;exact PySem.EqMixed.eq_bool_str (bT I q (by simp))
  |_=>exact absurd (show false=true from hs) K5
 |int i =>
  obtain⟨t,rfl⟩:=rx;cases y with
  |non=>cases ry;exact PySem.EqNone.eq_int_none (bT I q (by simp))
  |int j=>obtain⟨t',rfl⟩:=ry;exact eq_int (bT I q zR)
  |str j=>obtain⟨t',rfl⟩:=ry;exact PySem.EqMixed.eq_int_str (bT I q (by simp))
  |_=>exact absurd (show false=true from hs) K5
 |str i =>
  obtain⟨t,rfl⟩:=rx;cases y with
  |non=>cases ry;exact PySem.EqNone.eq_str_none (bT I q (by simp))
  |bl j=>cases ry;exact PySem.EqMixed.eq_str_bool (bT I q (by simp))
  |int j=>obtain⟨t',rfl⟩:=ry;exact PySem.EqMixed.eq_str_int (bT I q (by simp))
  |str j=>obtain⟨t',rfl⟩:=ry;exact eq_str (bT I q zS)
  |_=>exact absurd (show false=true from hs) K5
 |byt i =>
  obtain⟨t,rfl⟩:=rx;cases y with
  |byt j=>obtain⟨t',rfl⟩:=ry;exact PySem.W.eq_bytes (bT I q zT)
  |_=>exact absurd (show false=true from hs) K5
 |_=>cases y<;>exact absurd (show false=true from hs) K5
theorem xc:OpR X (Ml .NotEq) rNe:=by
 intro pins s σ H x y v u Q I rx ry h;obtain⟨hs,q⟩:=h;cases x with
 |non =>
  cases rx;cases y with
  |non=>cases ry;exact PySem.EqNone.ne_none_none (bT I q (by simp))
  |bl j=>cases ry;exact PySem.EqNone.ne_none_bool (bT I q (by simp))
  |int j=>obtain⟨t',rfl⟩:=ry;exact PySem.EqNone.ne_none_int (bT I q (by simp))
  |str j=>obtain⟨t',rfl⟩:=ry;exact PySem.EqNone.ne_none_str (bT I q (by simp))
  |_=>exact absurd (show false=true from hs) K5
 |bl i =>
  cases rx;cases y with
  |non=>cases ry;exact PySem.EqNone.ne_bool_none (bT I q (by simp))
  |bl j=>cases ry;exact ne_bool (bT I q (congrArg not BW))
  |str j=>obtain⟨t',rfl⟩:=ry;exact PySem.EqMixed.ne_bool_str (bT I q (by simp))
  |_=>exact absurd (show false=true from hs) K5
 |int i =>
  obtain⟨t,rfl⟩:=rx;cases y with
  |non=>cases ry;exact PySem.EqNone.ne_int_none (bT I q (by simp))
  |int j=>obtain⟨t',rfl⟩:=ry;exact ne_int (bT I q (congrArg not zR))
  |str j=>obtain⟨t',rfl⟩:=ry;exact PySem.EqMixed.ne_int_str (bT I q (by simp))
  |_=>exact absurd (show false=true from hs) K5
 |str i =>
  obtain⟨t,rfl⟩:=rx;cases y with
  |non=>cases ry;exact PySem.EqNone.ne_str_none (bT I q (by simp))
  |bl j=>cases ry;exact PySem.EqMixed.ne_str_bool (bT I q (by simp))
  |int j=>obtain⟨t',rfl⟩:=ry;exact PySem.EqMixed.ne_str_int (bT I q (by simp))
  |str j=>obtain⟨t',rfl⟩:=ry;exact ne_str (bT I q (congrArg not zS))
  |_=>exact absurd (show false=true from hs) K5
 |byt i =>
  obtain⟨t,rfl⟩:=rx;cases y with
  |byt j=>obtain⟨t',rfl⟩:=ry;exact PySem.W.ne_bytes (bT I q (congrArg not zT))
  |_=>exact absurd (show false=true from hs) K5
 |_=>cases y<;>exact absurd (show false=true from hs) K5

theorem xf:OpR X (Ml .Lt) (rI0 λi j=>.bl (decide (i<j))):=DB λ_ _ _ _ _ _ _ q=>lt_int q
theorem E1:OpR X (Ml .LtE) (rI0 λi j=>.bl (decide (i<=j))):=DB λ_ _ _ _ _ _ _ q=>le_int q
theorem jv:OpR X (Ml .Gt) (rI0 λi j=>.bl (decide (j<i))):=DB λ_ _ _ _ _ _ _ q=>gt_int q
inductive Ax(x:V)(y:V)(H:Hp)(Q:VK):Prop
 |mk(i j)(_:x=.str i)(_:y=.str j)(_:Q (.bl (!(Mu j i 0 j.length 1).isEmpty)) H)
theorem kJ:OpR X (Ml .In) Ax:=by
 intro pins s σ H x y v u Q I rx ry h;obtain⟨i,j,rfl,rfl,q⟩:=h;obtain⟨t,rfl⟩:=rx;obtain⟨t',rfl⟩:=ry;exact in_str (bT I q rfl)

theorem GG:OpR X (Ml .Is) (λx y H Q=>y=.non/\Q (.bl (decide (x=.non))) H):=by
 intro pins s σ H x y v u Q I rx ry h;obtain⟨rfl,q⟩:=h;cases ry;refine is_none_gen (bT I q ?_);cases x<;>first
  |(cases rx;rfl)
  |(obtain⟨t,rfl⟩:=rx;rfl)
theorem nomark(b:Expr){op:CmpOp}(h:op≠.In:=by decide)(h2:op≠.NotIn:=by decide):N7 op b=false:=by
 have e1:(op==CmpOp.In)=false:=by cases op<;>first|rfl|exact absurd rfl h
 have e2:(op==CmpOp.NotIn)=false:=by cases op<;>first|rfl|exact absurd rfl h2
 cases b<;>simp[N7,e1,e2]
theorem dZ{op:CmpOp}{r:R2}(ho:OpR X (Ml op) r)(ha:PE X a ta)(hb:PE X b tb)(hm:N7 op b=false):PE X (.Compare a [op] [b] pos) (tOp r ta tb):=by
 intro pins s σ H Q I h;exact wpAny_Compare1 (DA ha hb I h λv u s2 x y H2 I2 rx ry q=>ho pins s2 σ H2 x y v u Q I2 rx ry q) hm
inductive GH(Q:Bool->Hp->Prop)(x:V)(H':Hp):Prop
 |mk(k)(_:x=.bl k)(_:Q k H')
def E3(t:TE):TT:=λσ H Q=>t σ H (GH Q)
theorem aA{op:CmpOp}{r:R2}(ho:OpR X (Ml op) r)(ha:PE X a ta)(hb:PE X b tb)(hm:N7 op b=false):PT X (.Compare a [op] [b] pos) (E3 (tOp r ta tb)):=by
 intro pins s σ H Q I h;refine wpAny_isTrue_Compare1 (thn (ha pins s σ H _ I h) λv s1 ⟨x,H1,I1,r1,q1⟩=>thn (hb pins s1 σ H1 _ I1 q1) λu s2 ⟨y,H2,I2,r2,q2⟩ =>
  thn (ho pins s2 σ H2 x y v u _ I2 r1 r2 q2) λc s3 ⟨z,H3,I3,r3,k,e,q3⟩=>?_) hm
 subst e;cases r3;exact MY ⟨H3,I3,q3⟩
theorem lO:(KP:Nat)<2^63:=by rw[PB];decide
inductive zu(x:V)(y:V)(H:Hp)(Q:VK):Prop
 |mk(i j)(_:x=.str i)(_:y=.str j)(_:i.length+j.length<=KP)(_:Q (.str (i++j)) H)
theorem af:OpR X (Nt .Add) zu:=by
 intro pins s σ H x y v u Q I rx ry h;obtain⟨i,j,rfl,rfl,hz,q⟩:=h;obtain⟨t,rfl⟩:=rx;obtain⟨t',rfl⟩:=ry;exact add_str (λt' tk=>⟨.str (i++j),H,I.tok _,⟨_,rfl⟩,q⟩) hz
theorem iq{x:V}{us:List KG}(r:aS [x] us):∃u,us=[u]/\bg x u:=by
 cases r with
 |cons r1 r2=>cases r2;exact⟨_,rfl,r1⟩
theorem Ay{x y:V}{us:List KG}(r:aS [x,y] us):∃u w',us=[u,w']/\bg x u/\bg y w':=by
 cases r with
 |cons r1 r2 =>
  cases r2 with
  |cons r3 r4=>cases r4;exact⟨_,_,rfl,r1,r3⟩
inductive Az(xs:List V)(H:Hp)(Q:VK):Prop
 |mk(i j)(_:xs=[.int i,.int j])(_:Q (.int (if j>i then j else i)) H)
theorem qo(hc:X.calm=true):ip X (.builtin "max") Az:=by
 intro pins s σ H xs us Q I r h;obtain⟨i,j,rfl,q⟩:=h;obtain⟨u,w',rfl,⟨t,rfl⟩,⟨t',rfl⟩⟩:=Ay r;refine max_two_ints (I.ok.hd hc) λh' tk k=>⟨_,H,I.kept k,?_,q⟩;by_cases hj:j>i
 .rw[if_pos hj,if_pos hj];exact⟨_,rfl⟩
 .rw[if_neg hj,if_neg hj];exact⟨_,rfl⟩
inductive wD(xs:List V)(H:Hp)(Q:VK):Prop
 |mk(i)(_:xs=[.int i])(_:i.natAbs.log2<1920)(_:Q (.str (toString i)) H)
theorem xQ:ip X (.type "str") wD:=by
 intro pins s σ H xs us Q I r h;obtain⟨i,rfl,hz,q⟩:=h;obtain⟨u,rfl,t,rfl⟩:=iq r;exact PySem.P.str_of_int hz ⟨.str _,H,I.tok _,⟨_,rfl⟩,q⟩
def Jj(K:KC)(x:V)(H:Hp)(n:Nat):Prop:=
 match x with
 |.str y=>y.length<=KP/\n=y.length
 |.byt y=>y.size<=KP/\n=y.size
 |.ref p=>(∃xs,SqL K H p xs/\n=xs.length)\/∃xs,SqT K H p xs/\n=xs.length
 |_=>False
inductive BX(K:KC)(xs:List V)(H:Hp)(Q:VK):Prop
 |mk(x n)(_:xs=[x])(_:Jj K x H n)(_:Q (.int n) H)
theorem DE:ip X (.builtin "len") (BX X.K):=by
 intro pins s σ H xs us Q I r h;obtain⟨x,n,rfl,e,q⟩:=h;obtain⟨u,rfl,rx⟩:=iq r;have hl:=lO;have hs:KP=16777216:=PB;cases x with
 |str y =>
  obtain⟨t,rfl⟩:=rx;obtain⟨hy,e'⟩:y.length<=KP/\n=y.length:=e;subst e';exact len_str (by omega) ⟨.int _,H,I.tok _,⟨_,rfl⟩,q⟩
 |byt y =>
  obtain⟨t,rfl⟩:=rx;obtain⟨hy,e'⟩:y.size<=KP/\n=y.size:=e;subst e';exact PySem.W.len_bytes (by omega) ⟨.int _,H,I.tok _,⟨_,rfl⟩,q⟩
 |ref p =>
  cases rx;have e':(∃xs,SqL X.K H p xs/\n=xs.length)\/∃xs,SqT X.K H p xs/\n=xs.length:=e;rcases e' with⟨xs,hx,e'⟩|⟨xs,hx,e'⟩
  .subst e';obtain⟨its,r',pl,hz⟩:=I.list hx;have hlen:=r'.length;exact Calls.call_len_list pl.isList (by simp only[K2];omega) ⟨.int xs.length,H,I.tok _,⟨_,by simp only[K2];rw[hlen]⟩,q⟩
  .subst e';obtain⟨its,r',pl,hz⟩:=I.tuple hx;have hlen:=r'.length;exact len_tuple pl (by simp only[K2];omega) ⟨.int xs.length,H,I.tok _,⟨_,by simp only[K2];rw[hlen]⟩,q⟩
 |_=>exact(show False from e).elim
end

structure sR(h:Heap)(x dx C:Addr)(mA:Str->Option KG):Prop where
 obj:h.get? x=some (MK C dx)
 ns:h.Ns1 dx mA
 ne:dx≠x

theorem BY{h:Heap}{dx:Addr}{mA:Str->Option KG}(n:h.Ns1 dx mA):∃od,h.get? dx=some od/\∀name,Oq name od=some (mA name):=by
 obtain⟨o,es,ep,ho,hd,hk,_,hm⟩:=n;refine⟨o,ho,λname=>?_⟩;have e:=hm name;unfold nsFind findBy at e;rw[<-Array.find?_toList]at e;unfold Oq;rw[hd];dsimp only
 split
 .rename_i y q
  rw[q]at e;exact congrArg some e
 .rename_i q
  rw[q]at e;have a:es.toList.any (·.refKey)=false:=by
   rw[NK];intro y hy;obtain⟨z,t,hkey⟩:=hk y (Array.mem_toList_iff.mp hy);simp[DictEntry.refKey,hkey]
  have a':¬ es.toList.any (·.refKey)=true:=by rw[a];exact K5
  rw[if_neg a'];exact congrArg some e

theorem sR.look{h:Heap}{x dx C:Addr}{mA:Str->Option KG}(I:sR h x dx C mA):∃od,PySem.W.InstAt h x (MK C dx) C (some od)/\∀name,Oq name od=some (mA name):=
 let⟨od,ho,hl⟩:=BY I.ns
 ⟨od,⟨I.obj,rfl,rfl,ho⟩,hl⟩

section
variable {prog:K8}{w:K_}{A:LC}{E:KG->KJ->Prop}{s:KJ}{K:KC}{x dx C f:Addr}{mA:Str->Option KG}{name:Str}{v:KG}

theorem Fn{expr:Bool}{Q:KG->KJ->Prop}(X:K.In s.heap)(I:sR s.heap x dx C mA)(hg:N1 K C name=true)(hh:OB K C=true)
  (ha:Ms K (.ref C) name=some none)(hv:mA name=some v)(hv':PySem.W.handedIn v=true)(h:Q v { s with toks:=s.toks+1 }) :
  Lc (Lh prog w) A (getAttr (.ref x) name expr) Q E s:=by
 obtain⟨od,J,hl⟩:=I.look;exact PySem.W.get_value X J (Oi hg).1 (PySem.W.findObj_own hh ha rfl (by rw[hl,hv])) hv' h

theorem DF{pl:Sem Bool}{Q:KG×List KG->KJ->Prop}(X:K.In s.heap)(I:sR s.heap x dx C mA)(hg:N1 K C name=true)
  (hf:Ms K (.ref C) name=some (some (.ref f)))(ht:OR K (.ref f)=true)(hv:mA name=none)(h:Q (.ref f,[.ref x]) s) :
  Lc (Lh prog w) A (OL (.ref x) name pl) Q E s:=by
 obtain⟨od,J,hl⟩:=I.look;exact PySem.W.method_fn X J (Oi hg).1 (Oi hg).2 hf (beq_iff_eq.mp ht) (by show(Oq name od).map (·.isSome)=some false;rw[hl,hv];rfl) h

theorem Fo{ns:List Str}{Q:Unit->KJ->Prop}(X:K.In s.heap)(I:sR s.heap x dx C mA)
  (hs:Ms K (.ref C) "__setattr__" = some (some (.builtin "object.__setattr__")))(hp:PySem.W.plainOver K C=true)(ht:OY K C name=some none)(hh:OB K C=true)
  (hw:Pn mA ns)(hsz:ns.length<=KP)
  (h:∀h',sR h' x dx C (λy=>if y=name then some v else mA y)->M8 dx s.heap h'->Q () { s with heap:=h',toks:=s.toks+2 }) :
  Lc (Lh prog w) A (setAttr (.ref x) name v) Q E s:=by
 obtain⟨od,J,hl⟩:=I.look;refine PySem.W.set_plain X J hs (PySem.W.osa_open (s:={ s with toks:=s.toks+1 }) (r:=none) X J hp ht λb=>?_);obtain⟨cd,hc,hd'⟩:=PySem.W.any_some hh;have hx:s.heap.get? x=some ⟨.ref C,some dx,.plain,#[]⟩:=I.obj;refine K3 (Lz (K3 (K3 (wpAny_loadPart hx (K3 (PySem.W.Looks.here (s:={ s with toks:=s.toks+1 }) (PySem.W.looks_clsIn X hc) ?_))))));rw[hd'];refine Lz (a:=some dx) (K3 (Lz (K3 ?_)));refine wpAny_nsSet1 (s:={ s with toks:=s.toks+1 }) I.ns λh' hn2 hs2=>?_;obtain⟨oD,esD,epD,hoD,hdD,hcD⟩:=hn2.count (PySem.Within.cons name v hw);refine K3 (wpAny_lookBehind hoD (by rw[hdD];exact pastItsLine_dict (Ln hcD (by rw[KH];omega))) ?_);exact Lz (h _ ⟨(hs2.2 _ (Lp I.ne)).trans I.obj,hn2,I.ne⟩ hs2)

theorem DG{R:Oe->KJ->Prop}{vs:List KG}{kw:List (Str×KG)}(X:K.In s.heap)(hm:OZ K C=true)
  (hi:Ms K (.ref C) "__init__" = some (some (.ref f)))(hf:PySem.W.typeIn K (.ref f)=some (.type "function"))
  (h:Ny (Lh prog w) (A.under (.builtin "type.__call__" ⟨.ref C :: vs,kw⟩)) (.call (.ref f) ⟨.ref (s.heap.objs.size+1) :: vs,kw⟩) (PySem.W.InitBack (s.heap.objs.size+1) R)
   { s with heap:=(s.heap.push Mq).push (MK C s.heap.objs.size) }) :
  Ny (Lh prog w) A (.call (.ref C) ⟨vs,kw⟩) R s:=by
 obtain⟨hh,g,d,t,os⟩:=s;exact PySem.W.make_core (PySem.W.makes_of X hm) (PySem.W.looks_findIn X hi) (λself=>PySem.W.bind_fn X self hf) (.inl rfl) h
end

def bY(f:Str)(v:V):List (Str×V)->List (Str×V)
 |[]=>[(f,v)]
 |(g,x)::r=>if g=f then(g,v)::r else(g,x)::bY f v r
theorem sI(f g:Str)(v:V):∀fs:List (Str×V),(bY f v fs).lookup g=if g=f then some v else fs.lookup g
 |[]=>by
  show Lw g [(f,v)]=_;by_cases h:g=f
  .have hb:(g==f)=true:=beq_iff_eq.mpr h;simp only[Lw,hb,if_pos h]
  .have hb:(g==f)=false:=beq_eq_false_iff_ne.mpr h;simp only[Lw,hb,if_neg h]
 |(k,x)::r=>by
  have ih:=sI f g v r;rw[show bY f v ((k,x)::r)=(if k=f then(k,v)::r else(k,x)::bY f v r)from rfl];by_cases hk:k=f
  .rw[if_pos hk];by_cases h:g=k
   .have hb:(g==k)=true:=beq_iff_eq.mpr h;simp only[Lw,hb,if_pos (h.trans hk)]
   .have hb:(g==k)=false:=beq_eq_false_iff_ne.mpr h;simp only[Lw,hb,if_neg (λe:g=f=>h (e.trans hk.symm))]
  .rw[if_neg hk];by_cases h:g=k
   .have hb:(g==k)=true:=beq_iff_eq.mpr h;simp only[Lw,hb,if_neg (λe:g=f=>hk (h.symm.trans e))]
   .have hb:(g==k)=false:=beq_eq_false_iff_ne.mpr h;simp only[Lw,hb];exact ih
theorem qp(f:Str)(v:V):∀fs:List (Str×V),f∈(bY f v fs).map (·.1)/\∀g,g∈fs.map (·.1)->g∈(bY f v fs).map (·.1)
 |[]=>⟨by simp[bY],λg h=>by simp at h⟩
 |(k,x)::r=>by
  obtain⟨i1,i2⟩:=qp f v r;rw[show bY f v ((k,x)::r)=(if k=f then(k,v)::r else(k,x)::bY f v r)from rfl];by_cases hk:k=f
  .rw[if_pos hk];subst hk;exact⟨by simp,λg h=>by simpa using h⟩
  .rw[if_neg hk];refine⟨?_,λg h=>?_⟩
   .rw[KW];exact KN _ i1
   .rw[KW]at h⊢;rcases List.mem_cons.mp h with e|e
    .exact List.mem_cons.mpr (.inl e)
    .exact KN _ (i2 g e)
theorem sJ(f:Str)(v:V):∀fs:List (Str×V),(bY f v fs).length<=fs.length+1
 |[]=>by simp[bY]
 |(k,x)::r=>by
  have ih:=sJ f v r;rw[show bY f v ((k,x)::r)=(if k=f then(k,v)::r else(k,x)::bY f v r)from rfl];by_cases hk:k=f
  .rw[if_pos hk,KH,KH];omega
  .rw[if_neg hk,KH,KH];omega

theorem gP.some_of{v:V}{o:Option KG}(r:gP (some v) o):∃u,o=some u/\bg v u:=by
 cases o with
 |none=>exact(show False from r).elim
 |some u=>exact⟨u,rfl,r⟩
theorem gP.none_of{o:Option KG}(r:gP none o):o=none:=by
 cases o with
 |none=>rfl
 |some u=>exact(show False from r).elim
theorem BZ{v:V}{u:KG}(r:bg v u):PySem.W.handedIn u=true:=by
 cases v with
 |non=>cases (show u=NY from r);rfl
 |bl b=>cases (show u=Pj b from r);rfl
 |int i=>obtain⟨t,e⟩:=(show ∃t,u=NX i t from r);cases e;rfl
 |str x=>obtain⟨t,e⟩:=(show ∃t,u=MV x t from r);cases e;rfl
 |byt b=>obtain⟨t,e⟩:=(show ∃t,u=Value.bytes b t from r);cases e;rfl
 |flt b=>obtain⟨t,e⟩:=(show ∃t,u=Value.float b t from r);cases e;rfl
 |ref a=>cases (show u=LG a from r);rfl
 |ty n=>cases (show u=MU n from r);rfl

section
variable {P:K8}{w:K_}{H H':Hp}{h h':Heap}{a C dx:Addr}{fs fs':List (Str×V)}
theorem uP(hok:HOk P w H h)(e:H a=some (.ins C dx fs)):∃mA,sR h a dx C mA/\(∀f,gP (fs.lookup f) (mA f))/\Pn mA (fs.map (·.1))/\fs.length<=1000/\H dx=some (.own a):=by
 obtain⟨d,z,ne,ob,mA,n,r,q⟩:=(show cm P w H h a (.ins C dx fs)from hok a _ e);exact⟨mA,⟨ob,n,ne⟩,r,q,z,d⟩
end

structure Cls(K:KC)(C:Addr):Prop where
 pg:N1 K C MS=true
 hd:OB K C=true
 po:PySem.W.plainOver K C=true
 sa:Ms K (.ref C) "__setattr__" = some (some (.builtin "object.__setattr__"))
theorem Cls.get{K:KC}{C:Addr}(c:Cls K C)(f:Str):N1 K C f=true:=c.pg
def df(K:KC)(C:Addr)(f:Str):Prop:=Ms K (.ref C) f=some none
theorem df.taker{K:KC}{C:Addr}{f:Str}(n:df K C f):OY K C f=some none:=by
 unfold OY;rw[show Ms K (.ref C) f=some none from n];rfl
structure AB(K:KC)(C:Addr)(m:Str)(f:Addr):Prop where
 at_:Ms K (.ref C) m=some (some (.ref f))
 fn:OR K (.ref f)=true
 kp:My K (.ref f)=true

section
variable {X:Cx}{pins:List (Addr×Obj)}{σ:St}{H:Hp}{s:KJ}{a C dx:Addr}{fs:List (Str×V)}{f:Str}{v:V}{A:LC}{E:KG->KJ->Prop}

theorem AC{b:Bool}{Q:KG->KJ->Prop}(I:Inv X pins σ H s)(e:H a=some (.ins C dx fs))(c:Cls X.K C)(n:df X.K C f)(l:fs.lookup f=some v)
  (h:∀u s',Inv X pins σ H s'->bg v u->Q u s'):Lc (Lh X.prog X.w) A (getAttr (.ref a) f b) Q E s:=by
 obtain⟨mA,O,r,_,_,_⟩:=uP I.hok e;obtain⟨u,hu,ru⟩:=gP.some_of (v:=v) (o:=mA f) (by rw[<-l];exact r f);exact Fn I.kIn O (c.get f) c.hd n hu (BZ ru) (h u _ (I.tok _) ru)

theorem ud{m:Str}{g:Addr}{pl:Sem Bool}{Q:KG×List KG->KJ->Prop}(I:Inv X pins σ H s)(e:H a=some (.ins C dx fs))(c:Cls X.K C)(k:AB X.K C m g)(l:fs.lookup m=none)
  (h:Q (.ref g,[.ref a]) s):Lc (Lh X.prog X.w) A (OL (.ref a) m pl) Q E s:=by
 obtain⟨mA,O,r,_,_,_⟩:=uP I.hok e;have hn:mA m=none:=gP.none_of (by rw[<-l];exact r m);exact DF I.kIn O (c.get m) k.at_ k.fn hn h

theorem AD{y:V}{u:KG}{Q:Unit->KJ->Prop}(I:Inv X pins σ H s)(e:H a=some (.ins C dx fs))(c:Cls X.K C)(n:df X.K C f)(hl:fs.length<1000)(ry:bg y u)
  (h:∀s',Inv X pins σ (upd H a (.ins C dx (bY f y fs))) s'->Q () s'):Lc (Lh X.prog X.w) A (setAttr (.ref a) f u) Q E s:=by
 obtain⟨mA,O,r,wi,_,ho⟩:=uP I.hok e;have hz:(fs.map (·.1)).length<=KP:=by rw[KA,PB];omega
 refine Fo I.kIn O c.sa c.po n.taker c.hd wi hz λh' O' sb=>h _ ?_;have hd:∃o,h'.get? dx=some o:=let⟨o,_,_,e',_⟩:=O'.ns;⟨o,e'⟩;refine I.write (x:=a) (e:=dx) (by rw[e];exact Os) (.inr ho) (λb q hb z=>(sb.2 b hb).trans z) hd ?_;refine⟨by rw[aq O.ne];exact ho,?_,O.ne,O'.obj,_,O'.ns,λg=>?_,λg hg=>?_⟩
 .have:=sJ f y fs;omega
 .show gP ((bY f y fs).lookup g) (if g=f then some u else mA g);rw[sI];by_cases q:g=f
  .rw[if_pos q,if_pos q];exact ry
  .rw[if_neg q,if_neg q];exact r g
 .by_cases q:g=f
  .rw[q];exact(qp f y fs).1
  .refine(qp f y fs).2 g (wi g λz=>hg ?_);show(if g=f then some u else mA g)=none;rw[if_neg q];exact z

theorem Inv.made(I:Inv X pins σ H s):Inv X pins σ (upd (upd H s.heap.objs.size (.own (s.heap.objs.size+1))) (s.heap.objs.size+1) (.ins C s.heap.objs.size []))
  { s with heap:=(s.heap.push Mq).push (MK C s.heap.objs.size) }:=by
 have e1:(s.heap.push Mq).get? s.heap.objs.size=some Mq:=Ld s.heap rfl;have e2:((s.heap.push Mq).push (MK C s.heap.objs.size)).get? (s.heap.objs.size+1)=some (MK C s.heap.objs.size):=by
  have:=Ld (s.heap.push Mq) (o:=MK C s.heap.objs.size) rfl
  rwa[Nh]at this
 have e3:(s.heap.push Mq).Ns s.heap.objs.size (λ_=>none):=⟨Mq,#[],_,e1,rfl,(λe he=>absurd he (by simp)),λ_=>rfl⟩;have I1:=I.laid (a:=s.heap.objs.size) (o:=.own (s.heap.objs.size+1)) (h':=s.heap.push Mq) (t':=s.toks) (λb u q=>KU _ q) (Kz _) ⟨_,e1⟩;refine I1.laid (a:=s.heap.objs.size+1) (o:=.ins C s.heap.objs.size []) (t':=s.toks) (λb u q=>KU _ q) (Pp (Nh _ _)) ?_;have ne:s.heap.objs.size≠s.heap.objs.size+1:=KZ (MT _);refine⟨by rw[aq ne,ah],Ls _,ne,e2,λ_=>none,(Heap.Ns1.of_empty e3).at λo q=>KU _ q,λ_=>Os,λy hy=>absurd rfl hy⟩

theorem Fp{prog:K8}{w:K_}{env:Env}{e:Expr}{f:Str}{pos:Pos}{s:KJ}{Q:KG->KJ->Prop}(hb:Nf e f env (eval e env)=eval e env)
  (h:Lc (Lh prog w) A (eval e env) (λo s₁=>Lc (Lh prog w) A (getAttr o f true) Q E s₁) E s):Lc (Lh prog w) A (eval (.Attribute e f pos) env) Q E s:=
 Attribute_any_ h (by rw[arm_eval_Attribute,hb])
end

inductive Iq(K:KC)(f:Str)(Q:VK)(x:V)(H1:Hp):Prop
 |mk(a C dx fs v)(_:x=.ref a)(_:H1 a=some (.ins C dx fs))(_:Cls K C)(_:df K C f)(_:fs.lookup f=some v)(_:Q v H1)
def Jk(K:KC)(ta:TE)(f:Str):TE:=λσ H Q=>ta σ H (Iq K f Q)
inductive Ir(K:KC)(f:Str)(D:dS)(σ:St)(y:V)(x:V)(H2:Hp):Prop
 |mk(a C dx fs)(_:x=.ref a)(_:H2 a=some (.ins C dx fs))(_:Cls K C)(_:df K C f)(_:fs.length<1000)(_:D.nx σ (upd H2 a (.ins C dx (bY f y fs))))
def Jl(K:KC)(ta tv:TE)(f:Str):TS:=λD σ H=>tv σ H λy H1=>ta σ H1 (Ir K f D σ y)
section
variable {X:Cx}{o e value:Expr}{f:Str}{pos pos' tpos:Pos}{ta tv:TE}
theorem bi(he:PE X e ta)(hb:Nf e f X.env (eval e X.env)=eval e X.env):PE X (.Attribute e f pos) (Jk X.K ta f):=by
 intro pins s σ H Q I h;refine Fp hb (thn (he pins s σ H _ I h) λu s1 ⟨x,H1,I1,rx,a,C,dx,fs,v,ex,ea,c,n,l,q⟩=>?_);subst ex;obtain rfl:u=LG a:=rx;exact AC I1 ea c n l λu' s2 I2 ru=>⟨v,H1,I2,ru,q⟩
theorem c4(ha:PE X o ta)(hv:PE X value tv)(hs:N0 value (some (.Attribute o f pos')) pos.line X.env=pure false):PS X (.Assign [.Attribute o f pos'] value pos) (Jl X.K ta tv f):=by
 intro pins s σ H D I h;refine plainObj_wpAny_Assign_Attribute (thn (hv pins s σ H _ I h) λu s1 ⟨y,H1,I1,ry,q⟩=>thn (ha pins s1 σ H1 _ I1 q) λov s2 ⟨x,H2,I2,rx,a,C,dx,fs,ex,ea,c,n,l,q2⟩=>?_) hs;subst ex;obtain rfl:ov=LG a:=rx;exact AD I2 ea c n l ry λs3 I3=>⟨σ,_,I3,q2⟩
end

section
variable {X:Cx}{pins:List (Addr×Obj)}{σ:St}{H:Hp}{s:KJ}{A:LC}{E:KG->KJ->Prop}{Q:KG->KJ->Prop}{c:KG}{b:Bool}
end

structure cg(k:Nat)(A:LC):Prop where
 hd:A.handled=none
 dp:A.depth+3*k+5<recursionLimit
 un:A.units+16*k+200<OC
theorem cg.mono{j k:Nat}{A:LC}(r:cg k A)(h:j<=k):cg j A:=⟨r.hd,by have:=r.dp;omega,by have:=r.un;omega⟩
theorem cg.deeper{k:Nat}{A:LC}(r:cg (k+1) A)(env:Env):cg k (A.deeper env):=
 ⟨r.hd,by have:=r.dp;show A.depth+1+3*k+5<_;omega,by have:=r.un;show A.units+3+16*k+200<_;omega⟩
theorem AE{A:LC}{C:Addr}{us:List KG}{kw:List (Str×KG)}:(A.under (.builtin "type.__call__" ⟨.ref C::us,kw⟩)).depth=A.depth+1:=by
 first|rfl|simp[Pq,Code.weight,Code.isCreation,Code.isGuard,Code.isCaller,Code.frames,Pr,guardIds]
theorem AF{A:LC}{C:Addr}{us:List KG}{kw:List (Str×KG)}:(A.under (.builtin "type.__call__" ⟨.ref C::us,kw⟩)).units=A.units+1:=by
 first|rfl|simp[Pq,Code.cUnits,Code.frames,Pr]
theorem cg.make{k:Nat}{A:LC}(r:cg (k+1) A)(C:Addr)(us:List KG)(kw:List (Str×KG)):cg k (A.under (.builtin "type.__call__" ⟨.ref C::us,kw⟩)):=
 ⟨r.hd,by have:=r.dp;rw[AE];omega,by have:=r.un;rw[AF];omega⟩
theorem cg.depth{k:Nat}{A:LC}(r:cg k A):A.depth<recursionLimit:=by have:=r.dp;omega
theorem cg.units{k:Nat}{A:LC}(r:cg k A):A.units+64<OC:=by have:=r.un;omega
def qq:TA:=λ_ H Q=>Q [] H
def ue(ta:TE)(tr:TA):TA:=λσ H Q=>ta σ H λx H1=>tr σ H1 λxs H2=>Q (x::xs) H2
section
variable {X:Cx}{e:Expr}{es:List Expr}{te:TE}{t:TA}{pos:Pos}
theorem ac:PA X [] qq:=λ_ _ _ _ H Q I h=>Calls.spliced_nil ⟨[],H,I,.nil,h⟩
theorem aa(ha:PE X e te)(hr:PA X es t)(hs:K7 (e::es) X.env=(false,eval e X.env)::K7 es X.env:=by rfl):PA X (e::es) (ue te t):=by
 intro pos pins s σ H Q I h;rw[hs];show Lc _ _ (spliced ((false,eval e X.env)::MB pos (K7 es X.env))) _ _ s;refine Ot (thn (ha pins s σ H _ I h) λu s1 ⟨x,H1,I1,r1,q1⟩=>?_);exact thn (hr pos pins s1 σ H1 _ I1 q1) λus s2 ⟨xs,H2,I2,r2,q2⟩=>⟨x::xs,H2,I2,.cons r1 r2,q2⟩

def Jm(t:TA):TE:=λσ H Q=>t σ H λxs H1=>xs.length<=KP/\∀p,H1 p=none->Q (.ref p) (upd H1 p (.tup xs))
def Jn(t:TA):TE:=λσ H Q=>t σ H λxs H1=>xs.length<=KP/\∀p,H1 p=none->Q (.ref p) (upd H1 p (.lst xs))
theorem bx{x1}(h:PA X es t):PE X (.Tuple es x1 pos) (Jm t):=by
 intro pins s σ H Q I hq;refine wpAny_Tuple_spliced (thn (h pos pins s σ H _ I hq) λus s1 ⟨xs,H1,I1,r,z,q⟩=>⟨by rw[<-r.length];exact z,?_⟩);have hf:H1 s1.heap.objs.size=none:=I1.hok.fresh (Kz _);refine⟨.ref s1.heap.objs.size,upd H1 s1.heap.objs.size (.tup xs),I1.laid (t':=s1.toks) (λb u e=>KU _ e) (Kz _) ?_,rfl,q _ hf⟩;exact⟨z,us,r,⟨_,Ld _ rfl,rfl,_,rfl⟩⟩
theorem aK(h:PA X es t):PE X (.List es pos) (Jn t):=by
 intro pins s σ H Q I hq;refine wpAny_List_spliced (thn (h pos pins s σ H _ I hq) λus s1 ⟨xs,H1,I1,r,z,q⟩=>⟨by rw[<-r.length];exact z,?_⟩);have hf:H1 s1.heap.objs.size=none:=I1.hok.fresh (Kz _);refine⟨.ref s1.heap.objs.size,upd H1 s1.heap.objs.size (.lst xs),I1.laid (t':=s1.toks) (λb u e=>KU _ e) (Kz _) ?_,rfl,q _ hf⟩;exact⟨z,us,0,r,Ld _ rfl⟩
end

abbrev Sp:=List V->Hp->VK->XK->Prop
abbrev CXT:=List Env->Hp->KJ->XK->KG->KJ->Prop

structure sS(P:K8)(w:K_)(K:KC)(mg:Str->Option KG)(base:Heap)(A:LC)(outer:List Env)(s:KJ)(H:Hp):Prop where
 frames:A.frames=some outer
 mod:Mod K mg base
 bs:∀b o,base.get? b=some o->s.heap.get? b=some o/\H b=none
 bsz:base.objs.size<=s.heap.objs.size
 funs:s.heap.FunFrames base outer
 frf:∀b∈frs outer,H b=none
 hok:HOk P w H s.heap
 bare:N6 s.gens
inductive CE(outer:List Env)(P:K8)(w:K_)(H:Hp)(s:KJ)(Q:VK)(u:KG)(s':KJ):Prop
 |mk(v H')(_:s'.os=s.os)(_:N6 s'.gens)(_:Un (frs outer) [] H H' s.heap s'.heap)(_:HOk P w H' s'.heap)(_:bg v u)(_:Q v H')
def CR(CX:CXT)(outer:List Env)(P:K8)(w:K_)(H:Hp)(s:KJ)(Q:VK)(E:XK)(r:Oe)(s':KJ):Prop:=
 match r with
 |.ok (.ret u)=>CE outer P w H s Q u s'
 |.ok _=>False
 |.error e=>CX outer H s E e s'
structure aO(P:K8)(w:K_)(K:KC)(mg:Str->Option KG)(base:Heap)(CX:CXT)(k:Nat)(f:Addr)(fd:KY)(ps:List Str)(sp:Sp):Prop where
 len:∀vs H Q E,sp vs H Q E->vs.length=ps.length
 run:∀(A:LC)(outer:List Env)(s:KJ)(H:Hp)(args:Args)(us:List KG)(vs:List V)(Q:VK)(E:XK),cg k A->sS P w K mg base A outer s H->BindsTo s fd args (ps.zip us)->aS vs us->sp vs H Q E->
  Ny (Lh P w) A (.call (.ref f) args) (CR CX outer P w H s Q E) s
theorem sS.make{P:K8}{w:K_}{K:KC}{mg:Str->Option KG}{base:Heap}{A:LC}{outer:List Env}{s:KJ}{H:Hp}(e:sS P w K mg base A outer s H)(C:Addr)(us:List KG)(kw:List (Str×KG)) :
  sS P w K mg base (A.under (.builtin "type.__call__" ⟨.ref C::us,kw⟩)) outer s H:=⟨by first|exact e.frames|(simpa[Pq,Code.envs,Pr,pushEnvs]using e.frames),e.mod,e.bs,e.bsz,e.funs,e.frf,e.hok,e.bare⟩
section
variable {X:Cx}{pins:List (Addr×Obj)}{σ:St}{H:Hp}{s s':KJ}
theorem Inv.env0(I:Inv X pins σ H s):sS X.prog X.w X.K X.mg X.base X.A X.stack s H:=
 ⟨I.ok.frames,I.ok.mod,I.bs,Ln I.ok.bsz I.sz,I.stack,I.stkFree,I.hok,I.bare⟩
theorem Inv.after{Q:VK}{u:KG}(I:Inv X pins σ H s)(h:CE X.stack X.prog X.w H s Q u s'):EP X pins σ Q u s':=by
 obtain⟨v,H',os,bare,un,hok,r,q⟩:=h;obtain⟨hh,g,d,t,os'⟩:=s';obtain rfl:os'=s.os:=os;exact⟨v,H',I.call (h':=hh) (g':=g) (d':=d) (t':=t) (ch:=[]) un hok bare (λb z=>absurd z (by simp)),r,q⟩
end

def uf(sp:Sp)(dvs:List V)(E:XK)(t:TA):TE:=λσ H Q=>t σ H λvs H1=>sp (vs++dvs) H1 Q E
inductive GI(C:Addr)(m:Str)(sp:Sp)(dvs:List V)(E:XK)(t:TA)(σ:St)(Q:VK)(x:V)(H1:Hp):Prop
 |mk(a dx fs)(_:x=.ref a)(_:H1 a=some (.ins C dx fs))(_:fs.lookup m=none)(_:t σ H1 λvs H2=>sp (x::(vs++dvs)) H2 Q E)
def xg(C:Addr)(m:Str)(sp:Sp)(dvs:List V)(E:XK)(ta:TE)(t:TA):TE:=λσ H Q=>ta σ H (GI C m sp dvs E t σ Q)
def xh(C:Addr)(sp:Sp)(dvs:List V)(E:XK)(t:TA):TE:=λσ H Q=>t σ H λvs H1=>∀x dx,H1 x=none->H1 dx=none->dx≠x->
 sp (.ref x::(vs++dvs)) (upd (upd H1 dx (.own x)) x (.ins C dx [])) (λv H2=>v=.non/\Q (.ref x) H2) E

def gO(K:KC)(fd:KY)(ps:List Str)(ds:List KG):Prop:=
 ∀(s:KJ)(us:List KG),K.In s.heap->(us++ds).length=ps.length->BindsTo s fd ⟨us,[]⟩ (ps.zip (us++ds))
theorem gO.all{K:KC}{fd:KY}{ps:List Str}(h:∀us:List KG,us.length=ps.length->OM fd ⟨us,[]⟩=pure (ps.zip us)):gO K fd ps []:=λs us _ hl=>by
 rw[LF]at hl⊢;exact .of_eq (h us hl)

def dR(CX:CXT)(X:Cx)(E:XK):Prop:=∀(pins:List (Addr×Obj))(σ:St)(H:Hp)(s:KJ)(e:KG)(s':KJ),Inv X pins σ H s->CX X.stack H s E e s'->X.xe e s'

section
variable {X:Cx}{CX:CXT}{k:Nat}{f C:Addr}{fd:KY}{ps:List Str}{sp:Sp}{dvs:List V}{ds:List KG}{E:XK}{x m:Str}{p pos apos:Pos}{e o:Expr}{es:List Expr}{ta:TE}{t:TA}

theorem xR{pins:List (Addr×Obj)}{σ:St}{H:Hp}{s:KJ}{Q:VK}{us:List KG}{vs:List V}(F:aO X.prog X.w X.K X.mg X.base CX k f fd ps sp)(hr:cg k X.A)(hb:gO X.K fd ps ds)(hd:aS dvs ds)(hx:dR CX X E)
  (I:Inv X pins σ H s)(r:aS vs us)(h:sp (vs++dvs) H Q E):Lc (Lh X.prog X.w) X.A (call (.ref f) us) (EP X pins σ Q) X.xe s:=by
 have r2:aS (vs++dvs) (us++ds):=r.append hd;have hl:(us++ds).length=ps.length:=by rw[<-r2.length];exact F.len _ _ _ _ h
 refine Pl (Nk (F.run X.A X.stack s H ⟨us,[]⟩ (us++ds) (vs++dvs) Q E hr I.env0 (hb s us I.kIn hl) r2 h) λr s' hq=>?_);cases r with
 |error e=>exact hx pins σ H s e s' I hq
 |ok fl =>
  cases fl with
  |ret u=>exact I.after hq
  |next=>exact Mp hq
  |brk=>exact Mp hq
  |cont=>exact Mp hq

theorem rQ(F:aO X.prog X.w X.K X.mg X.base CX k f fd ps sp)(hr:cg k X.A)(hg:Gl X x)(hm:X.mg x=some (.ref f))(hk:My X.K (.ref f)=true)(hb:gO X.K fd ps ds)(hd:aS dvs ds)(hx:dR CX X E)
  (ha:PA X (e::es) t)(hdb:(x==("__debug__" : Str))=false:=by decide)(he:K7 (e::es) X.env=(false,eval e X.env)::K7 es X.env:=by rfl)(hpl:(MB pos (K7 es X.env)).any (·.1)=false:=by rfl) :
  PE X (.Call (.Name x p) (e::es) [] pos) (uf sp dvs E t):=by
 intro pins s σ H Q I h;refine ME (jW I hg hm ?_ hdb);refine NB (h₀:=X.base) I.ok.mod.kin hk (thn (ha pos pins s σ H _ I h) λus s1 ⟨vs,H1,I1,r,q⟩=>⟨I1.kIn,?_⟩) he hpl;exact xR F hr hb hd hx I1 r q
theorem Fq{pl:Sem Bool}(he:PE X o ta)(c:Cls X.K C)(hm:AB X.K C m f)(F:aO X.prog X.w X.K X.mg X.base CX k f fd ps sp)(hr:cg k X.A)(hb:gO X.K fd ps ds)(hd:aS dvs ds)(hx:dR CX X E)(ha:PA X (e::es) t)
  (hst:K7 (e::es) X.env=(false,eval e X.env)::K7 es X.env:=by rfl)(hpl:(MB pos (K7 es X.env)).any (·.1)=false:=by rfl)
  (ht:eval (.Call (.Attribute o m apos) (e :: es) [] pos) X.env=(do
   let ov<-eval o X.env
   Po apos.atName
   let(f,first)<-Ol [ov] (OL ov m pl)
   O5 pos f first (MB pos (K7 (e::es) X.env)) (Ou pos (Ni [] X.env))):=by rfl) :
  PE X (.Call (.Attribute o m apos) (e::es) [] pos) (xg C m sp dvs E ta t):=by
 intro pins s σ H Q I h;refine PySem.W.methodCall_KW (pl:=pl) (thn (he pins s σ H _ I h) λu s1 ⟨x,H1,I1,rx,a,dx,fs,ex,ea,l,q⟩=>?_) ht;subst ex;obtain rfl:u=LG a:=rx;refine ud I1 ea c hm l ?_;refine NB (first:=[.ref a]) (h₀:=X.base) I.ok.mod.kin hm.kp (thn (ha pos pins s1 σ H1 _ I1 q) λus s2 ⟨vs,H2,I2,r,q2⟩=>⟨I2.kIn,?_⟩) hst hpl
 exact xR (us:=.ref a::us) (vs:=.ref a::vs) F hr hb hd hx I2 (.cons rfl r) q2
theorem DI{pl:Sem Bool}(he:PE X o ta)(c:Cls X.K C)(hm:AB X.K C m f)(F:aO X.prog X.w X.K X.mg X.base CX k f fd ps sp)(hr:cg k X.A)(hb:gO X.K fd ps ds)(hd:aS dvs ds)(hx:dR CX X E)
  (ht:eval (.Call (.Attribute o m apos) [] [] pos) X.env=(do
   let ov<-eval o X.env
   Po apos.atName
   let(f,first)<-Ol [ov] (OL ov m pl)
   O5 pos f first (MB pos (K7 [] X.env)) (Ou pos (Ni [] X.env))):=by rfl) :
  PE X (.Call (.Attribute o m apos) [] [] pos) (xg C m sp dvs E ta qq):=by
 intro pins s σ H Q I h;refine PySem.W.methodCall_KW (pl:=pl) (thn (he pins s σ H _ I h) λu s1 ⟨x,H1,I1,rx,a,dx,fs,ex,ea,l,q⟩=>?_) ht;subst ex;obtain rfl:u=LG a:=rx;refine ud I1 ea c hm l ?_;exact PySem.W.callWith_K0 (first:=[.ref a]) I1.kIn hm.kp (xR (us:=[.ref a]) (vs:=[.ref a]) F hr hb hd hx I1 (.cons rfl .nil) q)

structure Mk(K:KC)(C f:Addr):Prop where
 makes:OZ K C=true
 init:Ms K (.ref C) "__init__" = some (some (.ref f))
 fn:OR K (.ref f)=true
 kp:My K (.ref C)=true

theorem xS{pins:List (Addr×Obj)}{σ:St}{H:Hp}{s:KJ}{Q:VK}{us:List KG}{vs:List V}(M:Mk X.K C f)(F:aO X.prog X.w X.K X.mg X.base CX k f fd ps sp)(hr:cg (k+1) X.A)(hb:gO X.K fd ps ds)(hd:aS dvs ds)
  (hx:dR CX X E)(I:Inv X pins σ H s)(r:aS vs us)
  (h:∀x dx,H x=none->H dx=none->dx≠x->sp (.ref x::(vs++dvs)) (upd (upd H dx (.own x)) x (.ins C dx [])) (λv H2=>v=.non/\Q (.ref x) H2) E) :
  Lc (Lh X.prog X.w) X.A (call (.ref C) us) (EP X pins σ Q) X.xe s:=by
 have hq:=h (s.heap.objs.size+1) s.heap.objs.size (I.hok.fresh (Mf _)) (I.hok.fresh (Kz _)) (KZ (MT _));have I2:=Inv.made (C:=C) I;have r2:aS (V.ref (s.heap.objs.size+1)::(vs++dvs)) (LG (s.heap.objs.size+1)::(us++ds)):=.cons rfl (r.append hd);have hl:(LG (s.heap.objs.size+1)::us++ds).length=ps.length:=by
  have e:=r2.length;rw[F.len _ _ _ _ hq]at e;exact e.symm
 refine Pl (DG (f:=f) I.kIn M.makes M.init (beq_iff_eq.mp M.fn) (Nk (F.run _ X.stack _ _ ⟨LG (s.heap.objs.size+1)::us,[]⟩ (LG (s.heap.objs.size+1)::(us++ds)) _ _ E (hr.make C us [])
  (I2.env0.make C us []) (hb _ (LG (s.heap.objs.size+1)::us) I2.kIn hl) r2 hq) λr s' hq'=>?_))
 cases r with
 |error e=>exact hx pins σ _ _ e s' I2 hq'
 |ok fl =>
  cases fl with
  |ret u =>
   obtain⟨v,H',I3,rv,ev,q3⟩:=I2.after hq';subst ev;exact⟨rv,⟨V.ref (s.heap.objs.size+1),H',I3,rfl,q3⟩⟩
  |next=>exact Mp hq'
  |brk=>exact Mp hq'
  |cont=>exact Mp hq'
theorem Ft(M:Mk X.K C f)(F:aO X.prog X.w X.K X.mg X.base CX k f fd ps sp)(hr:cg (k+1) X.A)(hg:Gl X x)(hm:X.mg x=some (.ref C))(hb:gO X.K fd ps ds)(hd:aS dvs ds)(hx:dR CX X E)
  (ha:PA X (e::es) t)(hdb:(x==("__debug__" : Str))=false:=by decide)(he:K7 (e::es) X.env=(false,eval e X.env)::K7 es X.env:=by rfl)(hpl:(MB pos (K7 es X.env)).any (·.1)=false:=by rfl) :
  PE X (.Call (.Name x p) (e::es) [] pos) (xh C sp dvs E t):=by
 intro pins s σ H Q I h;refine ME (jW I hg hm ?_ hdb);refine NB (h₀:=X.base) I.ok.mod.kin M.kp (thn (ha pos pins s σ H _ I h) λus s1 ⟨vs,H1,I1,r,q⟩=>⟨I1.kIn,?_⟩) he hpl;exact xS M F hr hb hd hx I1 r q
theorem DJ(M:Mk X.K C f)(F:aO X.prog X.w X.K X.mg X.base CX k f fd ps sp)(hr:cg (k+1) X.A)(hg:Gl X x)(hm:X.mg x=some (.ref C))(hb:gO X.K fd ps ds)(hd:aS dvs ds)(hx:dR CX X E)
  (hdb:(x==("__debug__" : Str))=false:=by decide):PE X (.Call (.Name x p) [] [] pos) (xh C sp dvs E qq):=by
 intro pins s σ H Q I h;refine ME (jW I hg hm ?_ hdb);exact PySem.W.callWith_K0 I.kIn M.kp (xS (us:=[]) M F hr hb hd hx I .nil h)
end

section
variable {X:Cx}{CX:CXT}{k:Nat}{f C:Addr}{fd:KY}{ps ks:List Str}{sp:Sp}{E:XK}{x m:Str}{p pos apos kpos:Pos}{e o:Expr}{es:List Expr}{kws:List PH}{te ta:TE}{t tk:TA}{nm:Option Str}
variable {g:List KG->List KG->List KG}{gV:List V->List V->List V}
end

structure aE(N P:List Str)(sc:Scope):Prop where
 kind:sc.kind=.function
 co:sc.isCoroutine=false
 gen:sc.isGenerator=false
 nd:N.Nodup
 pre:N.take P.length=P
 par:∀x∈P,sc.names.lookup x=some .local\/sc.names.lookup x=some .cell
 nofree:∀y∈sc.names,y.2≠.free

theorem vO{N2:Str->Option O6}{x:Str}:∀{binds:List (Str×KG)}{m:Str->Option KG},(∀v,(x,v)∉binds)->PQ N2 binds m x=m x
 |[],_,_=>rfl
 |(n,v)::r,m,h=>by
  unfold PQ;rw[vO λw hw=>h w (KN _ hw)]
  split
  .have:x≠n:=by rintro rfl;exact h v KO
   simp[this]
  .rfl
theorem vP{N2:Str->Option O6}{x:Str}:∀{binds:List (Str×KG)}{m:Str->Option KG},(∀v,(x,v)∉binds)->PR N2 binds m x=m x
 |[],_,_=>rfl
 |(n,v)::r,m,h=>by
  unfold PR;rw[vP λw hw=>h w (KN _ hw)]
  split
  .rfl
  .have:x≠n:=by rintro rfl;exact h v KO
   simp[this]
theorem vQ{N2:Str->Option O6}{x:Str}{v:KG}:∀{P:List Str}{vs:List KG}{i:Nat}{m:Str->Option KG},P.Nodup->P[i]?=some x->vs[i]?=some v->N2 x=some .local->
  PQ N2 (P.zip vs) m x=some v
 |[],_,_,_,_,h,_,_=>by simp at h
 |_::_,[],_,_,_,_,h,_=>by simp at h
 |p::P,w::vs,0,m,nd,h1,h2,hk=>by
  simp at h1 h2;subst h1;subst h2;show PQ N2 ((p,w)::P.zip vs) m p=_;unfold PQ;rw[vO λv hv=>(List.nodup_cons.mp nd).1 (O0 hv).1,if_pos hk];simp
 |p::P,w::vs,i+1,m,nd,h1,h2,hk=>by
  show PQ N2 ((p,w)::P.zip vs) m x=_;unfold PQ;exact vQ (i:=i) (List.nodup_cons.mp nd).2 (by simpa using h1) (by simpa using h2) hk
theorem vR{N2:Str->Option O6}{x:Str}{v:KG}:∀{P:List Str}{vs:List KG}{i:Nat}{m:Str->Option KG},P.Nodup->P[i]?=some x->vs[i]?=some v->N2 x≠some .local->
  PR N2 (P.zip vs) m x=some v
 |[],_,_,_,_,h,_,_=>by simp at h
 |_::_,[],_,_,_,_,h,_=>by simp at h
 |p::P,w::vs,0,m,nd,h1,h2,hk=>by
  simp at h1 h2;subst h1;subst h2;show PR N2 ((p,w)::P.zip vs) m p=_;unfold PR;rw[vP λv hv=>(List.nodup_cons.mp nd).1 (O0 hv).1,if_neg hk];simp
 |p::P,w::vs,i+1,m,nd,h1,h2,hk=>by
  show PR N2 ((p,w)::P.zip vs) m x=_;unfold PR;exact vR (i:=i) (List.nodup_cons.mp nd).2 (by simpa using h1) (by simpa using h2) hk

def i6(N:List Str)(vs:List V):St:=vs.map some++KB (N.length-vs.length) none

def lP(CX:CXT)(P:K8)(w:K_)(K:KC)(mg:Str->Option KG)(base:Heap)(N:List Str)(qual:Str)(scope:Scope)(f:Addr)(cd:KG)(A:LC)(outer:List Env)(s:KJ)(H:Hp)(E:XK):Cx where
 prog:=P
 w:=w
 K:=K
 mg:=mg
 base:=base
 A:=A.deeper (MC qual scope s.heap.objs.size f cd)
 N:=N
 s₀:=s
 H₀:=H
 env:=MC qual scope s.heap.objs.size f cd
 outer:=outer
 stack:=MC qual scope s.heap.objs.size f cd::outer
 ex:=[]
 calm:=true
 fn:=λ_=>true
 pn:=[]
 xe:=λe s'=>Lc (Lh P w) (A.deeper (MC qual scope s.heap.objs.size f cd)) (leaving (MC qual scope s.heap.objs.size f cd) e) (λ_ s''=>CX outer H s E e s'') (λe' s''=>CX outer H s E e' s'') s'

theorem xT{sc:Scope}{n:Nat}{x:Str}(h:sc.names.lookup x=some .cell):∃c,(cellsFrom n sc.names []).lookup x=some c:=by
 have q:=PySem.W.cellsFrom_some sc.names n [] (.inl h);exact Option.isSome_iff_exists.mp q

theorem B3{CX:CXT}{P:K8}{w:K_}{K:KC}{mg:Str->Option KG}{base:Heap}{N ps:List Str}{qual:Str}{scope:Scope}{f:Addr}{cd:KG}{A:LC}{outer:List Env}{s s1:KJ}{H:Hp}{E:XK}{us:List KG}{vs:List V}
  (S:aE N ps scope)(hd:A.handled=none)(e0:sS P w K mg base A outer s H)(hl:vs.length=ps.length)(r:aS vs us)
  (x:InCallC s s.heap.objs.size (PQ (MC qual scope s.heap.objs.size f cd).kindOf (ps.zip us) λ_=>none) (cellsFrom (s.heap.objs.size+1) scope.names []) (PR (MC qual scope s.heap.objs.size f cd).kindOf (ps.zip us) λ_=>none) s1) :
  Inv (lP CX P w K mg base N qual scope f cd A outer s H E) [] (i6 N vs) H s1:=by
 have hpl:ps.length<=N.length:=by have:=congrArg List.length S.pre;rw[La]at this;omega
 obtain⟨h1,tk,rfl,hk⟩:=x.done;have noA:∀b:Addr,b∉(lP CX P w K mg base N qual scope f cd A outer s H E).ex:=λb z=>absurd (show b∈([]:List Addr)from z) (by simp);refine⟨⟨e0.mod,S.kind,rfl,rfl,Kz _,λy z c h1 h2=>?_,λy hy=>?_,λy c _ h=>?_,λ_=>hd,Around.frames_deeper e0.frames,.inr ⟨rfl,rfl⟩,λb z=>absurd z (noA b),e0.bs,e0.bsz,λb _ _=>noA b,λb z=>absurd z (noA b),e0.funs,e0.frf⟩,
  rfl,e0.bare,Un.kept hk,⟨_,x.toInCall.ns,λi y v h1 h2 h3=>?_⟩,λy c h=>⟨_,x.cell y c h⟩,e0.hok.fresh (Kz _),λy c h=>?_,λp hp=>absurd (show p∈([]:List (Addr×Obj))from hp) (by simp),e0.hok.kept hk,?_⟩
 .exact name_of_addr x.apart (M6 h1) (M6 h2)
 .have hy:scope.names.lookup y=some .cell\/scope.names.lookup y=some .free:=hy;rcases hy with hy|hy
  .exact xT hy
  .exact absurd rfl (S.nofree _ (M6 hy))
 .exact Md (x.above y c (M6 h))
 .have hi:i<vs.length:=by
   unfold i6 at h2;by_cases hi:i<vs.length
   .exact hi
   .rw[LS (by simpa using hi)]at h2;rw[NF]at h2
    split at h2<;>cases h2
  have ha:vs[i]?=some v:=by
   unfold i6 at h2;rw[LO (by simpa using hi),KS]at h2;cases e:vs[i]? with
   |none=>rw[e]at h2;cases h2
   |some a=>rw[e]at h2;cases h2;rfl
  obtain⟨u,hu,rv⟩:=r.get ha;have hp:ps[i]?=some y:=by
   rw[<-S.pre,List.getElem?_take_of_lt (by omega)];exact h1
  have ndP:ps.Nodup:=by rw[<-S.pre];exact S.nd.sublist (List.take_sublist _ _)
  refine⟨u,rv,?_⟩;rcases S.par y (KL hp)with k|k
  .exact .inl ⟨k,vQ ndP hp hu k⟩
  .obtain⟨c,e⟩:=xT (n:=s.heap.objs.size+1) k;refine .inr ⟨.inl k,c,e,?_⟩;have q:=x.cell y c e;rw[vR ndP hp hu (by show scope.names.lookup y≠_;rw[k];decide)]at q;exact q
 .exact e0.hok.fresh (Md (x.above y c (M6 h)))
 .unfold i6;show _=N.length;rw[KI,KA,Lx];omega

theorem AG{CX:CXT}{P:K8}{w:K_}{K:KC}{mg:Str->Option KG}{base:Heap}{k:Nat}{f:Addr}{name qual:Str}{params:Arguments}{body:List Stmt}{scope:Scope}{dV kV doc pm cdv ct oc:KG}{an od:Option Addr}
  {osl:Array (Option KG)}{N ps:List Str}{sp:Sp}(lk:K.lookup f=some ⟨oc,od,.func (L9 name qual params body scope dV kV doc pm an cdv ct),osl⟩)(hcd:M7 K cdv qual=true)(S:aE N ps scope)
  (len:∀vs H Q E,sp vs H Q E->vs.length=ps.length)
  (hbody:∀ (A:LC) (outer:List Env) (s:KJ) (H:Hp) (vs:List V) (Q:VK) (E:XK),cg k (A.deeper (MC qual scope s.heap.objs.size f cdv))→sp vs H Q E →
   ∃t,PSs (lP CX P w K mg base N qual scope f cdv A outer s H E) body t/\t { nx:=λ_ H'=>Q .non H',rt:=Q } (i6 N vs) H) :
  aO P w K mg base CX (k+1) f (L9 name qual params body scope dV kV doc pm an cdv ct) ps sp:=by
 refine⟨len,λA outer s H args us vs Q E hr e0 hb r hsp=>?_⟩;have hl:=len _ _ _ _ hsp;have KX:K.In s.heap:=e0.mod.kin.keeps λb o e=>(e0.bs b o e).1;have lim:s.heap.NoLimit:=e0.mod.nolimit.keeps λb o e=>(e0.bs b o e).1;have hkind:∀y∈ps.zip us,scope.names.lookup y.1=some .local\/(scope.names.lookup y.1=some .cell/\((cellsFrom (s.heap.objs.size+1) scope.names []).lookup y.1).isSome=true):=λ⟨n,v⟩ hy=>by
  rcases S.par n (O0 hy).1 with q|q
  .exact .inl q
  .exact .inr ⟨q,PySem.W.cellsFrom_some _ _ _ (.inl q)⟩
 refine codeAny_call_function hr.depth (KX _ _ lk) rfl S.co S.gen rfl (PySem.W.codeRec_of KX hcd) (hb _ _ _ _ ?_);refine wpAny_newFunctionEnv_cells S.kind hkind λenv he s1 x=>?_;subst he;refine⟨lim.keeps x.toInCall.keep,codeAny_func ?_⟩;obtain⟨t,ht,hq⟩:=hbody A outer s H vs Q E (hr.deeper _) hsp;have I:Inv (lP CX P w K mg base N qual scope f cdv A outer s H E) [] (i6 N vs) H s1:=B3 S hr.hd e0 hl r x;refine LJ (ht [] s1 (i6 N vs) H _ I hq) (λfl s' hs=>?_) λe s' hs=>hs;have fin:∀{σ':St}{H':Hp}{v:V}{u:KG},Inv (lP CX P w K mg base N qual scope f cdv A outer s H E) [] σ' H' s'->bg v u->Q v H'->CE outer P w H s Q u s':=
  λ{σ' H' v u} J rv q=>⟨v,H',J.os,J.bare,J.base,J.hok,rv,q⟩
 cases fl with
 |ret u =>
  obtain⟨v,σ',H',J,rv,q⟩:=hs;exact fin J rv q
 |next =>
  obtain⟨σ',H',J,q⟩:=hs;exact fin (v:=V.non) (u:=NY) J rfl q
 |brk =>
  obtain⟨_,_,_,q⟩:=hs;exact Mp q
 |cont =>
  obtain⟨_,_,_,q⟩:=hs;exact Mp q
section
variable {X:Cx}{x:Str}{p pos:Pos}{e:Expr}{es:List Expr}{t:TA}{id T:String}{r:List V->Hp->VK->Prop}

def tCB(r:List V->Hp->VK->Prop)(t:TA):TE:=λσ H Q=>t σ H λvs H1=>r vs H1 Q
theorem aT(hc:ip X (.builtin id) r)(hg:Gl X x)(hm:X.mg x=none)(hv:MN x=some (.builtin id))(ha:PA X (e::es) t)(hn:x≠"__name__":=by decide)(hdb:(x==("__debug__" : Str))=false:=by decide)
  (he:K7 (e::es) X.env=(false,eval e X.env)::K7 es X.env:=by rfl)(hpl:(MB pos (K7 es X.env)).any (·.1)=false:=by rfl):PE X (.Call (.Name x p) (e::es) [] pos) (tCB r t):=by
 intro pins s σ H Q I h;refine ME (lK I hg hm hv ?_ hn hdb);exact PyProof.Rows.callWith_builtin1 (thn (ha pos pins s σ H _ I h) λus s1 ⟨vs,H1,I1,r1,q1⟩=>hc pins s1 σ H1 vs us Q I1 r1 q1) he hpl
theorem kK(hc:ip X (.type T) r)(hg:Gl X x)(hm:X.mg x=none)(hv:MN x=some (.type T))(ha:PA X (e::es) t)(hn:x≠"__name__":=by decide)(hdb:(x==("__debug__" : Str))=false:=by decide)
  (he:K7 (e::es) X.env=(false,eval e X.env)::K7 es X.env:=by rfl)(hpl:(MB pos (K7 es X.env)).any (·.1)=false:=by rfl):PE X (.Call (.Name x p) (e::es) [] pos) (tCB r t):=by
 intro pins s σ H Q I h;refine ME (lK I hg hm hv ?_ hn hdb);exact MO (thn (ha pos pins s σ H _ I h) λus s1 ⟨vs,H1,I1,r1,q1⟩=>hc pins s1 σ H1 vs us Q I1 r1 q1) he hpl
end
end L2

namespace HT
open PySem PyProof.Rows

section
open PySem.SeqAt
open PySem.AutoSeq1 (wpAny_loadPart')
open PySem.MeetsSeq PySem.MeetsSeq2 PySem.MeetsSeq3

end

section
variable {prog:K8}{w:K_}{A:LC}{E:KG->KJ->Prop}{s:KJ}

def sIx(n d:Nat):Option Int->Nat
 |none=>d
 |some v=>if v<0 then(v+(n:Int)).toNat else min v.toNat n
theorem sIx_none(n d:Nat):sIx n d none=d:=rfl
theorem sIx_nat(n d k:Nat):sIx n d (some (k:Int))=min k n:=by
 show(if(k:Int)<0 then((k:Int)+(n:Int)).toNat else min (k:Int).toNat n)=min k n;rw[if_neg (by omega),Int.toNat_natCast]
theorem sIx_le(n d:Nat)(hd:d<=n)(o:Option Int):sIx n d o<=n:=by
 cases o with
 |none=>exact hd
 |some v =>
  show(if v<0 then(v+(n:Int)).toNat else min v.toNat n)<=n;by_cases hv:v<0
  .rw[if_pos hv];omega
  .rw[if_neg hv];exact Nat.min_le_right _ _
end
end HT

namespace L2
open PySem PySem.Spec PyProof.Rows

abbrev TO:=St->Hp->(Option Int->Hp->Prop)->Prop
def PO(X:Cx)(e:Option Expr)(t:TO):Prop:=
 ∀(pins:List (Addr×Obj))(s:KJ)(σ:St)(H:Hp)(Q:Option Int->Hp->Prop),Inv X pins σ H s->t σ H Q->
  Lc (Lh X.prog X.w) X.A (evalPart e X.env) (λu s'=>∃o H',Inv X pins σ H' s'/\IsPart u o/\Q o H') X.xe s
def Fu:TO:=λ_ H Q=>Q none H
inductive GJ(Q:Option Int->Hp->Prop)(x:V)(H1:Hp):Prop
 |mk(i)(_:x=.int i)(_:Q (some i) H1)
def Iu(t:TE):TO:=λσ H Q=>t σ H (GJ Q)

section
variable {X:Cx}{e:Expr}{te:TE}{lo hi:Option Expr}{tl th:TO}{pos p2:Pos}

theorem dM:PO X none Fu:=by
 intro pins s σ H Q I h;rw[evalPart_none];exact Lz ⟨none,H,I,.none,h⟩
theorem dn(h:PE X e te):PO X (some e) (Iu te):=by
 intro pins s σ H Q I hw;rw[evalPart_some];refine thn (h pins s σ H _ I hw) λu s1 ⟨x,H1,I1,r1,q1⟩=>?_;obtain⟨i,rfl,q⟩:=q1;obtain⟨t,rfl⟩:=r1;exact⟨some i,H1,I1,.int i t,q⟩

def SlR(X:Cx)(r:V->Option Int->Option Int->Hp->VK->Prop):Prop:=
 ∀(pins:List (Addr×Obj))(s:KJ)(σ:St)(H:Hp)(x:V)(v vl vu:KG)(lo hi:Option Int)(sl:Addr)(Q:VK),Inv X pins σ H s->bg x v->s.heap.IsSliceOf sl vl vu .none->IsPart vl lo->IsPart vu hi->r x lo hi H Q->
  ∃T id,OS (.type T) "__getitem__" = pure (some (.builtin id))/\s.TypeIs v T/\Lc (Lh X.prog X.w) X.A (Ps v (.ref sl)) (EP X pins σ Q) X.xe s
def tSl(r:V->Option Int->Option Int->Hp->VK->Prop)(te:TE)(tl th:TO):TE:=λσ H Q=>te σ H λx H1=>tl σ H1 λl H2=>th σ H2 λu H3=>r x l u H3 Q
theorem cY{r:V->Option Int->Option Int->Hp->VK->Prop}(hr:SlR X r)(he:PE X e te)(hl:PO X lo tl)(hu:PO X hi th):PE X (.Subscript e (.Slice lo hi none p2) pos) (tSl r te tl th):=by
 intro pins s σ H Q I h;refine PU (thn (he pins s σ H _ I h) λv s1 ⟨x,H1,I1,r1,q1⟩=>?_);refine wpAny_Slice (thn (hl pins s1 σ H1 _ I1 q1) λvl s2 ⟨l,H2,I2,pl,q2⟩=>thn (hu pins s2 σ H2 _ I2 q2) λvu s3 ⟨u,H3,I3,pu,q3⟩=>?_);rw[evalPart_none];refine Lz ?_;have I4:Inv X pins σ H3 { s3 with heap:=s3.heap.push { cls:=.type "slice",data:=.fields #[vl,vu,.none] } }:=I3.kept (t':=s3.toks) λb ob q=>KU _ q;obtain⟨T,id,hT,ht,hg⟩:=hr pins { s3 with heap:=s3.heap.push { cls:=.type "slice",data:=.fields #[vl,vu,.none] } } σ H3 x v vl vu l u s3.heap.objs.size Q I4 r1 (Heap.IsSliceOf.new ..) pl pu q3;show Lc (Lh X.prog X.w) X.A (Pd e (.Slice lo hi none p2) v (.ref s3.heap.objs.size)) (EP X pins σ Q) X.xe { s3 with heap:=s3.heap.push { cls:=.type "slice",data:=.fields #[vl,vu,.none] } };exact tail_any (ops:=[.ref s3.heap.objs.size,v]) ht hT hg (by with_unfolding_all rfl)

def dQ(xs:List V)(lo hi:Option Int):List V:=(xs.drop (HT.sIx xs.length 0 lo)).take (HT.sIx xs.length xs.length hi-HT.sIx xs.length 0 lo)
theorem zv(xs:List V)(lo hi:Option Int):(dQ xs lo hi).length<=xs.length:=by
 unfold dQ;rw[La,Nl];omega
end

def ixN(n:Nat)(i:Int):Option Nat:=if 0<=i then(if i<n then some i.toNat else none)else if -(n:Int)<=i then some (i+n).toNat else none
def atI{α:Type}(xs:List α)(i:Int):Option α:=(ixN xs.length i).bind λj=>xs[j]?
theorem zU{n:Nat}{i:Int}{j:Nat}(h:ixN n i=some j):seqIndex? i n=some j/\j<n/\-(n:Int)<=i/\i<n:=by
 unfold ixN at h;by_cases h0:0<=i
 .rw[if_pos h0]at h;by_cases h1:i<n
  .rw[if_pos h1]at h;have e:i.toNat=j:=Lm h;exact⟨by rw[PC h0 h1,e],by omega,by omega,h1⟩
  .rw[if_neg h1]at h;cases h
 .rw[if_neg h0]at h;by_cases h1:-(n:Int)<=i
  .rw[if_pos h1]at h;have e:(i+n).toNat=j:=Lm h;exact⟨by rw[Pt (by omega) h1,e],by omega,h1,by omega⟩
  .rw[if_neg h1]at h;cases h
theorem uQ{α:Type}{xs:List α}{i:Int}{v:α}(h:atI xs i=some v):∃j,seqIndex? i xs.length=some j/\xs[j]?=some v/\j<xs.length/\-(xs.length:Int)<=i/\i<xs.length:=by
 unfold atI at h;cases e:ixN xs.length i with
 |none=>rw[e]at h;cases h
 |some j =>
  rw[e]at h;obtain⟨h1,h2,h3,h4⟩:=zU e;exact⟨j,h1,h,h2,h3,h4⟩
theorem a_{α:Type}{xs:List α}{j:Nat}{v:α}(h:xs[j]?=some v):atI xs (j:Int)=some v:=by
 have hj:j<xs.length:=(List.getElem?_eq_some_iff.mp h).1;have e:ixN xs.length (j:Int)=some j:=by
  unfold ixN;rw[if_pos (by omega),if_pos (by omega)];simp
 unfold atI;rw[e];exact h
theorem DK{α:Type}(xs:List α)(v:α):atI (xs++[v]) (-1)=some v:=by
 have hl:(xs++[v]).length=xs.length+1:=by simp
 have e:ixN (xs++[v]).length (-1)=some xs.length:=by
  unfold ixN;rw[hl,if_neg (by decide),if_pos (by omega)];congr 1;omega
 unfold atI;rw[e];show(xs++[v])[xs.length]?=some v;simp

def Fv(b:Expr):Prop:=∀o i,O7 b false o i=operate [o,i] (Ps o i)
def IxR(X:Cx)(r:R2):Prop:=
 ∀(value slice:Expr)(pins:List (Addr×Obj))(s:KJ)(σ:St)(H:Hp)(x y:V)(v u:KG)(Q:VK),Inv X pins σ H s->bg x v->bg y u->r x y H Q->
  O7 slice false v u=operate [v,u] (Ps v u)->Lc (Lh X.prog X.w) X.A (Pd value slice v u) (EP X pins σ Q) X.xe s
def MtR(X:Cx)(id:String)(r:V->List V->Hp->VK->Prop):Prop:=
 ∀(pins:List (Addr×Obj))(s:KJ)(σ:St)(H:Hp)(x:V)(xs:List V)(v:KG)(us:List KG)(Q:VK),Inv X pins σ H s->bg x v->aS xs us->r x xs H Q->
  Lc (Lh X.prog X.w) X.A (call (.builtin id) (v::us)) (EP X pins σ Q) X.xe s
section
variable {X:Cx}{a b:Expr}{ta tb:TE}{pos:Pos}
theorem aC{r:R2}(hr:IxR X r)(ha:PE X a ta)(hb:PE X b tb)(hs:Fv b):PE X (.Subscript a b pos) (tOp r ta tb):=by
 intro pins s σ H Q I h;exact PU (DA ha hb I h λv u s2 x y H2 I2 rx ry q=>hr a b pins s2 σ H2 x y v u Q I2 rx ry q (hs _ _))

inductive Jo(K:KC)(x:V)(y:V)(H:Hp)(Q:VK):Prop
 |mk(p xs i v)(_:x=.ref p)(_:y=.int i)(_:SqL K H p xs)(_:atI xs i=some v)(_:Q v H)
inductive qr(K:KC)(x:V)(y:V)(H:Hp)(Q:VK):Prop
 |mk(p xs i v)(_:x=.ref p)(_:y=.int i)(_:SqT K H p xs)(_:atI xs i=some v)(_:Q v H)
inductive Jp(x:V)(y:V)(H:Hp)(Q:VK):Prop
 |mk(z i c)(_:x=.str z)(_:y=.int i)(_:z.length<=KP)(_:atI z.cps.toList i=some c)(_:Q (.str ⟨#[c]⟩) H)
theorem bb:IxR X (Jo X.K):=by
 intro value slice pins s σ H x y v u Q I rx ry h hs;obtain⟨p,xs,i,z,rfl,rfl,hq,he,q⟩:=h;cases rx;obtain⟨t,rfl⟩:=ry;obtain⟨its,r,pl,hz⟩:=I.list hq;obtain⟨j,h1,h2,h3,h4,h5⟩:=uQ he;obtain⟨w,ew,rw'⟩:=r.get h2;have hl:=r.length;have hn:=lO;have fin:EP X pins σ Q w s:=⟨z,H,I,rw',q⟩;by_cases h0:0<=i
 .have hj:i.toNat=j:=by
   rw[PC h0 h5]at h1;exact Lm h1
  exact item_listR pl.isList h0 (by omega) (by rw[hj];simpa using ew) fin hs
 .have hj:(i+(its.toArray.size:Int)).toNat=j:=by
   rw[Pt (by omega) h4]at h1;rw[K2,<-hl];exact Lm h1
  exact subscriptTail_builtinR (x:=w) pl.isList.typeIs slot_list_getitem.lookup
   (wpAny_getItem_list_neg (Q:=λr s'=>r=w/\EP X pins σ Q r s') pl.isList (by omega) (by rw[K2]<;>omega) (by omega) (by rw[hj];simpa using ew) ⟨rfl,fin⟩) hs
theorem aY:IxR X (qr X.K):=by
 intro value slice pins s σ H x y v u Q I rx ry h hs;obtain⟨p,xs,i,z,rfl,rfl,hq,he,q⟩:=h;cases rx;obtain⟨t,rfl⟩:=ry;obtain⟨its,r,pl,hz⟩:=I.tuple hq;obtain⟨j,h1,h2,h3,h4,h5⟩:=uQ he;obtain⟨w,ew,rw'⟩:=r.get h2;have hl:=r.length;have hn:=lO;have fin:EP X pins σ Q w s:=⟨z,H,I,rw',q⟩;exact subscriptTail_builtinR (x:=w) pl.typeIs slot_tuple_getitem.lookup
  (getItem_tuple (j:=j) (Q:=λr s'=>r=w/\EP X pins σ Q r s') pl (by omega) (by omega) (by rw[K2,<-hl];exact h1) (by simpa using ew) ⟨rfl,fin⟩) hs
theorem jw:IxR X Jp:=by
 intro value slice pins s σ H x y v u Q I rx ry h hs;obtain⟨z,i,c,rfl,rfl,hz,he,q⟩:=h;obtain⟨t,rfl⟩:=rx;obtain⟨t',rfl⟩:=ry;obtain⟨j,h1,h2,h3,h4,h5⟩:=uQ he;have hl:z.cps.toList.length=z.length:=by simp[Str.length]
 rw[hl]at h1 h4 h5;have hn:=lO;exact tail_any (Ov s z t) slot_str_getitem.lookup (getItem_str (c:=c) (by
  have e1:decide (i < -(2^63:Int))=false:=decide_eq_false (by omega);have e2:decide (i>=2^63)=false:=decide_eq_false (by omega);rw[e1,e2,Pe]) (by rw[h1];simpa using h2) ⟨.str ⟨#[c]⟩,H,I.tok _,⟨_,rfl⟩,q⟩) hs
theorem AH(its:List KG)(n j:Nat)(u:KG):OT (·.setIfInBounds j u) { cls:=.type "list",data:=.seq its.toArray n }={ cls:=.type "list",data:=.seq (its.set j u).toArray n }:=by
 simp[OT]
theorem Inv.lst{pins:List (Addr×Obj)}{σ:St}{H:Hp}{s:KJ}{p:Addr}{xs:List V}(I:Inv X pins σ H s)(h:H p=some (.lst xs)) :
  ∃(its:List KG)(n:Nat),aS xs its/\s.heap.get? p=some { cls:=.type "list",data:=.seq its.toArray n }/\xs.length<=KP:=by
 obtain⟨z,its,n,r,e⟩:=I.hok p _ h;exact⟨its,n,r,e,z⟩
theorem Inv.lstUpd{pins:List (Addr×Obj)}{σ:St}{H:Hp}{s:KJ}{p:Addr}{xs ys:List V}{its its':List KG}{n n':Nat}{f:Obj->Obj}(I:Inv X pins σ H s)(h:H p=some (.lst xs))
  (ho:s.heap.get? p=some { cls:=.type "list",data:=.seq its.toArray n })(hf:f { cls:=.type "list",data:=.seq its.toArray n }={ cls:=.type "list",data:=.seq its'.toArray n' })(r:aS ys its')(hz:ys.length<=KP)(t:Nat) :
  Inv X pins σ (upd H p (.lst ys)) { s with heap:=s.heap.update p f,toks:=t }:=by
 have e:(s.heap.update p f).get? p=some { cls:=.type "list",data:=.seq its'.toArray n' }:=by
  rw[Heap.get?_update_self f ho (by rw[hf]<;>rfl),hf]
 refine I.write (x:=p) (e:=p) (by rw[h];trivial) (.inl rfl) (λb u hb q=>(NL _ _ (Lp hb)).trans q) ⟨_,e⟩ ?_;exact⟨hz,its',n',r,e⟩
inductive Iv(o:V)(i:V)(v:V)(H:Hp)(Q:Hp->Prop):Prop
 |mk(p xs k j)(_:o=.ref p)(_:i=.int k)(_:H p=some (.lst xs))(_:ixN xs.length k=some j)(_:Q (upd H p (.lst (xs.set j v))))
theorem sT:Gz X Iv:=by
 intro pins s σ H o i v ov iv u Q I ro ri rv h;obtain⟨p,xs,k,j,rfl,rfl,hp,hj,q⟩:=h;cases ro;obtain⟨t,rfl⟩:=ri;obtain⟨its,n,r,ho,hz⟩:=I.lst hp;obtain⟨h1,h2,h3,h4⟩:=zU hj;have hl:=r.length;have hn:=lO;have I':Inv X pins σ (upd H p (.lst (xs.set j v))) { s with heap:=s.heap.update p (OT (·.setIfInBounds j u)) }:=
  I.lstUpd hp ho (AH its n j u) (r.set rv j) (by rw[List.length_set];exact hz) s.toks
 by_cases h0:0<=k
 .have hk:k.toNat=j:=by
   rw[PC h0 h4]at h1;exact Lm h1
  exact PySem.W.ki_setAt ho h0 (by omega) (by rw[K2,<-hl];exact h4) (by rw[hk];exact⟨_,I',q⟩)
 .have hk:(k+(its.toArray.size:Int)).toNat=j:=by
   rw[Pt (by omega) h3]at h1;rw[K2,<-hl];exact Lm h1
  exact PySem.W.ki_setBack ho (by omega) (by rw[K2,<-hl];exact h3) (by omega) (by rw[hk];exact⟨_,I',q⟩)

theorem xU(lo hi:Option Int)(n:Nat):(NG lo hi none n).1=((HT.sIx n 0 lo:Nat):Int)/\(NG lo hi none n).2.1=((HT.sIx n n hi:Nat):Int)/\(NG lo hi none n).2.2=1:=by
 refine⟨?_,?_,rfl⟩
 .cases lo with
  |none=>simp[NG,HT.sIx]
  |some i =>
   simp only[NG,HT.sIx,Option.getD_none,show(1:Int)>0 by decide,if_true];by_cases h:i<0
   .simp only[h,if_true]<;>omega
   .simp only[h,if_false]<;>omega
 .cases hi with
  |none=>simp[NG,HT.sIx]
  |some i =>
   simp only[NG,HT.sIx,Option.getD_none,show(1:Int)>0 by decide,if_true];by_cases h:i<0
   .simp only[h,if_true]<;>omega
   .simp only[h,if_false]<;>omega
theorem wE(its:List KG)(lo hi:Option Int):slicePick its.toArray lo hi none=((its.drop (HT.sIx its.length 0 lo)).take (HT.sIx its.length its.length hi-HT.sIx its.length 0 lo)).toArray:=by
 obtain⟨h1,h2,h3⟩:=xU lo hi its.toArray.size;unfold slicePick;rw[h1,h2,h3];simp only[sliceRange_one,pick_run,K2]<;>rfl
inductive Jq(K:KC)(x:V)(lo:Option Int)(hi:Option Int)(H:Hp)(Q:VK):Prop
 |mk(a xs)(_:x=.ref a)(_:SqL K H a xs)(_:∀p,H p=none->Q (.ref p) (upd H p (.lst (dQ xs lo hi))))
theorem jX:SlR X (Jq X.K):=by
 intro pins s σ H x v vl vu lo hi sl Q I rx hs pl pu h;obtain⟨a,xs,rfl,hx,q⟩:=h;cases rx;obtain⟨its,r,ht,hz⟩:=I.list hx;have hlen:=r.length;refine⟨"list",_,slot_list_getitem.lookup,ht.isList.typeIs,?_⟩;refine wpAny_getItem_list_slice ht.isList hs pl pu .none (by simp) ?_ (by rw[K2]<;>omega)
 rw[wE,<-hlen];refine⟨.ref s.heap.objs.size,_,I.laid (t':=s.toks) (o:=.lst (dQ xs lo hi)) (λb ob q=>KU _ q) (Kz _) ?_,rfl,q _ (I.hok.fresh (Kz _))⟩;exact⟨Ln (zv xs lo hi) hz,_,0,(r.drop (HT.sIx xs.length 0 lo)).take (HT.sIx xs.length xs.length hi-HT.sIx xs.length 0 lo),Ld _ rfl⟩

def dU:V->Bool
 |.non=>true
 |.bl _=>true
 |.int _=>true
 |.str _=>true
 |_=>false
def eqV:V->V->Bool
 |.non,.non=>true
 |.bl a,.bl b=>a==b
 |.bl a,.int b=>(if a then 1 else 0)==b
 |.int a,.bl b=>a==(if b then 1 else 0)
 |.int a,.int b=>a==b
 |.str a,.str b=>a==b
 |_,_=>false
theorem B4{A:LC}{s:KJ}{y x:V}{u v:KG}(ry:bg y u)(rx:bg x v)(fy:dU y=true)(fx:dU x=true):PV A s u v (eqV y x):=by
 cases y with
 |non =>
  cases ry;cases x with
  |non=>cases rx;exact SeqAt.EqAt.same _
  |bl b=>cases rx;exact SeqAt.EqAt.none_bool b
  |int b=>obtain⟨t,rfl⟩:=rx;exact SeqAt.EqAt.none_int b t
  |str b=>obtain⟨t,rfl⟩:=rx;exact SeqAt.EqAt.none_str b t
  |_=>exact absurd (show false=true from fx) K5
 |bl a =>
  cases ry;cases x with
  |non=>cases rx;exact SeqAt.EqAt.bool_none a
  |bl b=>cases rx;exact SeqAt.EqAt.bool_bool a b
  |int b=>obtain⟨t,rfl⟩:=rx;exact SeqAt.EqAt.bool_int a b t
  |str b=>obtain⟨t,rfl⟩:=rx;exact SeqAt.EqAt.bool_str a b t
  |_=>exact absurd (show false=true from fx) K5
 |int a =>
  obtain⟨t',rfl⟩:=ry;cases x with
  |non=>cases rx;exact SeqAt.EqAt.int_none a t'
  |bl b=>cases rx;exact SeqAt.EqAt.int_bool a t' b
  |int b=>obtain⟨t,rfl⟩:=rx;exact SeqAt.EqAt.int_int a t' b t
  |str b=>obtain⟨t,rfl⟩:=rx;exact SeqAt.EqAt.int_str a t' b t
  |_=>exact absurd (show false=true from fx) K5
 |str a =>
  obtain⟨t',rfl⟩:=ry;cases x with
  |non=>cases rx;exact SeqAt.EqAt.str_none a t'
  |bl b=>cases rx;exact SeqAt.EqAt.str_bool a t' b
  |int b=>obtain⟨t,rfl⟩:=rx;exact SeqAt.EqAt.str_int a t' b t
  |str b=>obtain⟨t,rfl⟩:=rx;exact SeqAt.EqAt.str_str a t' b t
  |_=>exact absurd (show false=true from fx) K5
 |_=>exact absurd (show false=true from fy) K5
def eqU(x:V)(u:KG):Bool:=match u with
 |.none=>eqV .non x
 |.bool b=>eqV (.bl b) x
 |.int i _=>eqV (.int i) x
 |.str z _=>eqV (.str z) x
 |_=>false
theorem B5{x y:V}{u:KG}(r:bg y u)(f:dU y=true):eqU x u=eqV y x:=by
 cases y with
 |non=>cases r;rfl
 |bl b=>cases r;rfl
 |int i=>obtain⟨t,rfl⟩:=r;rfl
 |str z=>obtain⟨t,rfl⟩:=r;rfl
 |_=>exact absurd (show false=true from f) K5
theorem uR{x:V}:∀{xs:List V}{us:List KG},aS xs us->xs.all dU=true->us.any (eqU x)=xs.any λy=>eqV y x
 |_,_,.nil,_=>rfl
 |y::xs,u::us,.cons r t,f=>by
  rw[MF,Ly]at f;rw[MG,MG,B5 r f.1,uR t f.2]
theorem sU{A:LC}{s:KJ}{x:V}{v:KG}(rx:bg x v)(fx:dU x=true):∀{xs:List V}{us:List KG},aS xs us->xs.all dU=true->∀u∈us,PV A s u v (eqU x u)
 |_,_,.nil,_=>λu hu=>by cases hu
 |y::xs,u::us,.cons r t,f=>λu' hu=>by
  rw[MF,Ly]at f;rcases List.mem_cons.mp hu with rfl|hu
  .rw[B5 r f.1];exact B4 r rx f.1 fx
  .exact sU rx fx t f.2 u' hu
def inV(x:V)(xs:List V):Bool:=xs.any λy=>eqV y x
inductive rIn(K:KC)(neg:Bool)(x:V)(y:V)(H:Hp)(Q:VK):Prop
 |mk(p xs)(_:y=.ref p)(_:SqL K H p xs\/SqT K H p xs)(_:dU x=true)(_:xs.all dU=true)(_:Q (.bl (if neg then !inV x xs else inV x xs)) H)
theorem jk:OpR X (Ml .In) (rIn X.K false):=by
 intro pins s σ H x y v u Q I rx ry h;obtain⟨p,xs,rfl,hq,fx,fs,q⟩:=h;cases ry;rcases hq with hq|hq
 .obtain⟨its,r,pl,hz⟩:=I.list hq;refine SeqAt.in_listAt (eqU x) pl.isList (λw hw=>sU rx fx r fs w (by simpa using hw)) ⟨.bl _,H,I,rfl,?_⟩;rw[show its.toArray.any (eqU x)=its.any (eqU x) by simp,uR r fs];exact q
 .obtain⟨its,r,pl,hz⟩:=I.tuple hq;refine SeqAt.in_tupleAt (eqU x) pl (λw hw=>sU rx fx r fs w (by simpa using hw)) ⟨.bl _,H,I,rfl,?_⟩;rw[show its.toArray.any (eqU x)=its.any (eqU x) by simp,uR r fs];exact q
inductive wF(K:KC)(xs:List V)(H:Hp)(Q:VK):Prop
 |mk(p ys)(_:xs=[.ref p])(_:SqL K H p ys\/SqT K H p ys)(_:Q (.int ys.length) H)
theorem bz:ip X (.builtin "len") (wF X.K):=by
 intro pins s σ H xs us Q I r h;obtain⟨p,ys,rfl,hq,q⟩:=h;obtain⟨u,rfl,rx⟩:=iq r;cases rx;have hn:=lO;rcases hq with hq|hq
 .obtain⟨its,r',pl,hz⟩:=I.list hq;have hlen:=r'.length;exact Calls.call_len_list pl.isList (by simp only[K2]<;>omega) ⟨.int ys.length,H,I.tok _,⟨s.toks+1,by rw[K2,hlen]⟩,q⟩
 .obtain⟨its,r',pl,hz⟩:=I.tuple hq;have hlen:=r'.length;exact len_tuple pl (by simp only[K2]<;>omega) ⟨.int ys.length,H,I.tok _,⟨s.toks+1,by rw[K2,hlen]⟩,q⟩
inductive wG(xs:List V)(H:Hp)(Q:VK):Prop
 |mk(z)(_:xs=[.str z])(_:z.length<=KP)(_:Q (.int z.length) H)
theorem gQ:ip X (.builtin "len") wG:=by
 intro pins s σ H xs us Q I r h;obtain⟨z,rfl,hz,q⟩:=h;obtain⟨u,rfl,t,rfl⟩:=iq r;have hn:=lO;exact len_str (by omega) ⟨.int z.length,H,I.tok _,⟨_,rfl⟩,q⟩
inductive wH(K:KC)(xs:List V)(H:Hp)(Q:VK):Prop
 |mk(p ys)(_:xs=[.ref p])(_:SqL K H p ys\/SqT K H p ys)(_:∀l,H l=none->Q (.ref l) (upd H l (.lst ys)))
theorem xV:ip X (.type "list") (wH X.K):=by
 intro pins s σ H xs us Q I r h;obtain⟨p,ys,rfl,hq,q⟩:=h;obtain⟨u,rfl,rx⟩:=iq r;cases rx;have fin:∀(its:List KG),aS ys its->ys.length<=KP->∀(h':Heap)(c':Nat),(∀b o',s.heap.get? b=some o'->h'.get? b=some o')->
   h'.get? s.heap.objs.size=some { cls:=.type "list",dict:=none,data:=.seq its.toArray c',slots:=#[] }->EP X pins σ Q (.ref s.heap.objs.size) { s with heap:=h' }:=λits r' hz h' c' kp e =>
  ⟨.ref s.heap.objs.size,_,I.laid (t':=s.toks) kp (Kz _) (show cm X.prog X.w _ h' _ (.lst ys)from⟨hz,its,c',r',e⟩),rfl,q _ (I.hok.fresh (Kz _))⟩
 rcases hq with hq|hq
 .obtain⟨its,r',pl,hz⟩:=I.list hq;have hlen:=r'.length;obtain⟨o,ho,hc,n,hd⟩:=pl.isList;exact call_list_seq p (.inl rfl) ho hc hd (λh' c' kp e=>fin its r' hz h' c' kp e) (by simp only[K2]<;>omega)
 .obtain⟨its,r',pl,hz⟩:=I.tuple hq;have hlen:=r'.length;obtain⟨o,ho,hc,n,hd⟩:=pl;exact call_list_seq p (.inr rfl) ho hc hd (λh' c' kp e=>fin its r' hz h' c' kp e) (by simp only[K2]<;>omega)
def tyV(K:KC)(T:String)(x:V)(H:Hp):Prop:=match x with
 |.str _=>T = "str"
 |.int _=>T = "int"
 |.ref p=>(T = "list"/\∃xs,SqL K H p xs)\/(T = "tuple"/\∃o,K.lookup p=some o/\o.cls=.type "tuple"/\o.dict=none)\/
   (T = "dict"/\((∃kvs,H p=some (.dK kvs))\/∃kvs,H p=some (.dT kvs)))\/(T = "set"/\∃S n,H p=some (.set S n))
 |_=>False
theorem B6{pins:List (Addr×Obj)}{σ:St}{H:Hp}{s:KJ}{T:String}{x:V}{v:KG}(I:Inv X pins σ H s)(r:bg x v)(ty:tyV X.K T x H) :
  s.TypeIs v T/\∀a,v=.ref a->∃ob,s.heap.get? a=some ob/\ob.dict=none:=by
 cases x with
 |str z =>
  obtain⟨t,rfl⟩:=r;cases (show T = "str" from ty);exact⟨Ov s z t,λ_ e=>nomatch e⟩
 |int i =>
  obtain⟨t,rfl⟩:=r;cases (show T = "int" from ty);exact⟨PX s i t,λ_ e=>nomatch e⟩
 |ref p =>
  cases r;rcases ty with⟨rfl,xs,hq⟩|⟨rfl,o,hk,hc,hd⟩|⟨rfl,hk⟩|⟨rfl,S,n,hk⟩
  .obtain⟨its,_,pl,_⟩:=I.list hq;refine⟨pl.isList.typeIs,λa e=>?_⟩;cases e;obtain⟨o,n,e,c,hd,_⟩:=pl;exact⟨o,e,hd⟩
  .refine⟨⟨o,I.kIn p o hk,hc⟩,λa e=>?_⟩;cases e;exact⟨o,I.kIn _ o hk,hd⟩
  .have z:∃o,s.heap.get? p=some o/\o.ExactDict:=by
    rcases hk with⟨kvs,hk⟩|⟨kvs,hk⟩
    .obtain⟨_,_,_,_,o,_,_,e,ex,_⟩:=I.hok p _ hk;exact⟨o,e,ex⟩
    .obtain⟨_,_,_,_,o,_,_,e,ex,_⟩:=I.hok p _ hk;exact⟨o,e,ex⟩
   obtain⟨o,e,ex⟩:=z;refine⟨⟨o,e,ex.1⟩,λa e2=>?_⟩;cases e2;exact⟨o,e,ex.2.1⟩
  .obtain⟨o,_,_,_,e,ex,_⟩:=I.hok p _ hk;refine⟨⟨o,e,ex.1⟩,λa e2=>?_⟩;cases e2;exact⟨o,e,ex.2.1⟩
 |_=>exact Mp ty
def Jr(K:KC)(T:String)(r:V->List V->Hp->VK->Prop)(to:TE):TE:=λσ H Q=>to σ H λx H1=>tyV K T x H1/\r x [] H1 Q
def tBM(K:KC)(T:String)(r:V->List V->Hp->VK->Prop)(to:TE)(t:TA):TE:=λσ H Q=>to σ H λx H1=>tyV K T x H1/\t σ H1 λxs H2=>r x xs H2 Q
variable {o e:Expr}{es:List Expr}{to:TE}{t:TA}{name:Str}{apos cpos:Pos}{T id:String}{r:V->List V->Hp->VK->Prop}
theorem GK(pa:PlainAttrs T)(slot:Slot T name id)(hty:PY (.builtin id)=pure (.type "method_descriptor"))(hm:MtR X id r)(ho:PE X o to)
  (hbase:Nf o name X.env (eval o X.env)=eval o X.env:=by rfl)(hline:(apos.endLine==cpos.line)=true:=by rfl):PE X (.Call (.Attribute o name apos) [] [] cpos) (Jr X.K T r to):=by
 intro pins s σ H Q I h;refine NH hbase hline (thn (ho pins s σ H _ I h) λv s1 ⟨x,H1,I1,r1,ty,q1⟩=>?_);obtain⟨h1,h2⟩:=B6 I1 r1 ty;exact⟨T,id,pa,slot,hty,h1,h2,MP rfl (Oj (hm pins s1 σ H1 x [] v [] Q I1 r1 .nil q1))⟩
theorem dg(pa:PlainAttrs T)(slot:Slot T name id)(hty:PY (.builtin id)=pure (.type "method_descriptor"))(hm:MtR X id r)(ho:PE X o to)(ha:PA X (e::es) t)
  (hbase:Nf o name X.env (eval o X.env)=eval o X.env:=by rfl)
  (hfew:((MB cpos (K7 (e :: es) X.env)).all (fun x=>!x.1) && (Ou cpos (Ni [] X.env)).all (fun x=>x.1.isSome)
   && decide ((e::es).length+([]:List PH).length+(if([]:List PH).isEmpty then 0 else 1)<30))=true:=by rfl)
  (hline:(apos.endLine==cpos.line)=true:=by rfl) (hs:K7 (e::es) X.env=(false,eval e X.env)::K7 es X.env:=by rfl) (hplain:(MB cpos (K7 es X.env)).any (·.1)=false:=by rfl) :
  PE X (.Call (.Attribute o name apos) (e::es) [] cpos) (tBM X.K T r to t):=by
 intro pins s σ H Q I h;refine wpAny_Call_method_late hbase hfew hline rfl (thn (ho pins s σ H _ I h) λv s1 ⟨x,H1,I1,r1,ty,q1⟩=>?_);obtain⟨h1,h2⟩:=B6 I1 r1 ty;refine⟨T,id,pa,slot,hty,h1,h2,?_⟩;have hA:=ha cpos pins s1 σ H1 _ I1 q1;rw[hs]at hA⊢;refine MP (by show(false||(MB cpos (K7 es X.env)).any (·.1))=false;rw[hplain]<;>rfl) (Oa ?_)
 exact thn hA λus s2 ⟨vs,H2,I2,r2,q2⟩=>hm pins s2 σ H2 x vs v us Q I2 r1 r2 q2
end

def MtM(X:Cx)(id:String)(r:V->List V->Hp->VK->Prop):Prop:=
 ∀(pins:List (Addr×Obj))(s:KJ)(σ:St)(H:Hp)(x:V)(xs:List V)(v:KG)(us:List KG)(Q:VK),Inv X pins σ H s->bg x v->aS xs us->r x xs H Q->
  Lc (Lh X.prog X.w) X.A (call (.builtin id) (v::us)) (EP X pins σ Q) X.xe s

theorem aS.one:∀{x:V}{us:List KG},aS [x] us->∃u,us=[u]/\bg x u
 |_,_,.cons r .nil=>⟨_,rfl,r⟩
theorem aS.zero:∀{us:List KG},aS [] us->us=[]
 |_,.nil=>rfl
theorem aS.dropLast{xs:List V}{us:List KG}(h:aS xs us):aS xs.dropLast us.dropLast:=by
 induction h with
 |nil=>exact .nil
 |cons r t ih =>
  cases t with
  |nil=>exact .nil
  |cons q t'=>exact .cons r ih
theorem aS.rep{xs:List V}{us:List KG}(h:aS xs us):∀k:Nat,aS (KB k xs).flatten (KB k us).flatten
 |0=>.nil
 |k+1=>by
  rw[LV,LV,Mi,Mi];exact aS.append h (aS.rep h k)
theorem AI{α:Type}(l:List α):l.eraseIdx (l.length-1)=l.dropLast:=by
 induction l with
 |nil=>rfl
 |cons a r ih =>
  cases r with
  |nil=>rfl
  |cons b r =>
   have e:(a::b::r).length-1=((b::r).length-1)+1:=by
    have h1:(a::b::r).length=r.length+2:=rfl;have h2:(b::r).length=r.length+1:=rfl;omega
   rw[e,List.eraseIdx_cons_succ,ih]
   all_goals rfl
theorem vS(its:List KG):∀(k:Nat)(acc:List KG),
  PZ (λx1 x2=>x1++x2) acc.toArray (KB k its.toArray)=(acc++(KB k its).flatten).toArray
 |0,acc=>by simp
 |k+1,acc=>by
  have e:acc.toArray++its.toArray=(acc++its).toArray:=by simp
  have e2:(acc++its)++(KB k its).flatten=acc++(KB (k+1) its).flatten:=by
   rw[LV,Mi,Ma]
  rw[<-e2,<-vS its k (acc++its),<-e,LV,O1]

section
variable {X:Cx}{pins:List (Addr×Obj)}{σ:St}{H:Hp}{s:KJ}{l b:Addr}{xs ys zs:List V}

theorem Inv.lset{its its':List KG}{n:Nat}{f:Array KG->Array KG}{t':Nat}(I:Inv X pins σ H s)(hH:H l=some (.lst xs))
  (e:s.heap.get? l=some { cls:=.type "list",data:=.seq its.toArray n })(hf:f its.toArray=its'.toArray)(hv:aS ys its')(hz:ys.length<=KP) :
  Inv X pins σ (upd H l (.lst ys)) { s with heap:=s.heap.update l (OT f),toks:=t' }:=by
 have q:=PySem.IsL.update e f;rw[hf]at q;refine I.write (x:=l) (e:=l) (by rw[hH];exact trivial) (.inl rfl) (λb' u hb hu=>(NL s.heap (OT f) (Lp hb)).trans hu) ⟨_,q⟩ ?_;exact⟨hz,its',_,hv,q⟩
theorem Inv.lnew{its:List KG}{t':Nat}(I:Inv X pins σ H s)(hv:aS ys its)(hz:ys.length<=KP) :
  Inv X pins σ (upd H s.heap.objs.size (.lst ys)) { s with heap:=s.heap.push { cls:=.type "list",data:=.seq its.toArray },toks:=t' }:=
 I.laid (λ_ _ q=>KU _ q) (Kz _) ⟨hz,its,0,hv,Ld _ rfl⟩
theorem Inv.fresh(I:Inv X pins σ H s):H s.heap.objs.size=none:=I.hok.fresh (Kz _)
theorem Inv.lstM(I:Inv X pins σ H s)(hH:H l=some (.lst xs)):xs.length<=KP/\∃(its:List KG)(n:Nat),aS xs its/\xs.length=its.length/\s.heap.get? l=some { cls:=.type "list",data:=.seq its.toArray n }:=by
 obtain⟨z,its,n,r,e⟩:=I.hok l _ hH;exact⟨z,its,n,r,r.length,e⟩

theorem xW{n:Nat}(h:n<=KP):M2 n=false:=by
 unfold M2;exact decide_eq_false (by omega)
end

section
variable {X:Cx}

inductive Fw(x:V)(vs:List V)(H:Hp)(Q:VK):Prop
 |mk(l xs y)(_:x=.ref l)(_:vs=[y])(_:H l=some (.lst xs))(_:xs.length<KP)(_:Q .non (upd H l (.lst (xs++[y]))))
theorem cw:MtM X "list.append" Fw:=by
 intro pins s σ H x vs v us Q I rx rv h;obtain⟨l,xs,y,rfl,rfl,hH,hz,q⟩:=h;cases rx;obtain⟨u,rfl,ru⟩:=rv.one;obtain⟨z,its,n,r,hl,e⟩:=I.lstM hH;refine NC F.slot_list_append ⟨_,e,rfl⟩ F.entry_list_append (F.args_list_append_2 _ _) (PySem.list_append l its.toArray n u (by rw[K2];omega)) ⟨e,?_⟩;refine⟨.non,_,I.lset (its':=its++[u]) hH e (by simp) (r.append (.cons ru .nil)) ?_,rfl,q⟩;rw[KI,Li];omega

inductive Fx(x:V)(vs:List V)(H:Hp)(Q:VK):Prop
 |mk(l b xs zs)(_:x=.ref l)(_:vs=[.ref b])(_:H l=some (.lst xs))(_:H b=some (.lst zs))(_:xs.length+zs.length<=KP)(_:Q .non (upd H l (.lst (xs++zs))))
theorem mH:MtM X "list.extend" Fx:=by
 intro pins s σ H x vs v us Q I rx rv h;obtain⟨l,b,xs,zs,rfl,rfl,hH,hB,hz,q⟩:=h;cases rx;obtain⟨u,rfl,ru⟩:=rv.one;cases ru;obtain⟨z,its,n,r,hl,e⟩:=I.lstM hH;obtain⟨z2,its2,n2,r2,hl2,e2⟩:=I.lstM hB;have hsz:its.toArray.size+its2.toArray.size<=KP:=by rw[K2,K2];omega
 have hlong:¬ (!its.toArray.isEmpty&&M2 (its.toArray.size+its2.toArray.size))=true:=by
  rw[xW hsz,NM];exact K5
 refine NC F.slot_list_extend ⟨_,e,rfl⟩ F.entry_list_extend (F.args_list_extend_2 _ _)
  (AutoSeq1.list_extend_list_list_0 l its.toArray n b its2.toArray n2 hlong (by rw[K2];omega) (by omega)) ⟨e,e2,?_⟩
 refine⟨.non,_,I.lset (its':=its++its2) hH e (by simp) (r.append r2) ?_,rfl,q⟩;rw[KI];omega

inductive Js(x:V)(vs:List V)(H:Hp)(Q:VK):Prop
 |mk(l xs y)(_:x=.ref l)(_:vs=[])(_:H l=some (.lst xs))(_:xs[xs.length-1]?=some y)(_:Q y (upd H l (.lst xs.dropLast)))
theorem GL:MtM X "list.pop" Js:=by
 intro pins s σ H x vs v us Q I rx rv h;obtain⟨l,xs,y,rfl,rfl,hH,hy,q⟩:=h;cases rx;have hus:=rv.zero;subst hus;obtain⟨z,its,n,r,hl,e⟩:=I.lstM hH;obtain⟨u,hu,ru⟩:=r.get hy;have hy':its.toArray[its.toArray.size-1]?=some u:=by
  show its.toArray[its.length-1]?=some u;rw[<-Array.getElem?_toList,<-hl];exact hu
 refine NC F.slot_list_pop ⟨_,e,rfl⟩ F.entry_list_pop (F.args_list_pop_1 _) (MeetsSeq.list_pop_last l its.toArray n u hy' (by rw[K2];omega)) ⟨e,?_⟩;refine⟨y,_,I.lset (its':=its.dropLast) hH e ?_ r.dropLast ?_,ru,q⟩
 .show its.toArray.eraseIdxIfInBounds (its.toArray.size-1)=its.dropLast.toArray;rw[K2,List.eraseIdxIfInBounds_toArray,AI]
 .rw[List.length_dropLast];omega

inductive Jt(x:V)(y:V)(H:Hp)(Q:VK):Prop
 |mk(l b xs zs)(_:x=.ref l)(_:y=.ref b)(_:H l=some (.lst xs))(_:H b=some (.lst zs))(_:xs.length+zs.length<=KP)(_:∀p,H p=none->Q (.ref p) (upd H p (.lst (xs++zs))))
theorem cA:OpR X (Nt .Add) Jt:=by
 intro pins s σ H x y v u Q I rx ry h;obtain⟨l,b,xs,zs,rfl,rfl,hH,hB,hz,q⟩:=h;cases rx;cases ry;obtain⟨z,its,n,r,hl,e⟩:=I.lstM hH;obtain⟨z2,its2,n2,r2,hl2,e2⟩:=I.lstM hB;refine PySem.P.add_list e e2 ?_ (by rw[K2,K2];omega);have ea:its.toArray++its2.toArray=(its++its2).toArray:=by simp
 rw[ea];exact⟨.ref _,_,I.lnew (t':=s.toks) (r.append r2) (by rw[KI];omega),rfl,q _ I.fresh⟩
inductive Ju(x:V)(y:V)(H:Hp)(Q:VK):Prop
 |mk(l k xs)(_:x=.ref l)(_:y=.int k)(_:H l=some (.lst xs))(_:-(2^63)<=k)(_:k<2^63)(_:xs.length*k.toNat<=KP)(_:∀p,H p=none->Q (.ref p) (upd H p (.lst (KB k.toNat xs).flatten)))
theorem zV{α:Type}(xs:List α)(k:Nat):(KB k xs).flatten.length=k*xs.length:=by
 induction k with
 |zero=>simp
 |succ k ih=>rw[LV,Mi,KI,ih,Nat.succ_mul,Nat.add_comm]
theorem B8:OpR X (Nt .Mult) Ju:=by
 intro pins s σ H x y v u Q I rx ry h;obtain⟨l,k,xs,rfl,rfl,hH,h1,h2,hz,q⟩:=h;cases rx;obtain⟨t,rfl⟩:=ry;obtain⟨z,its,n,r,hl,e⟩:=I.lstM hH;have hlen:its.toArray.size*k.toNat<=KP:=by rw[K2,<-hl];exact hz
 have hcap:¬ its.toArray.size*k.toNat>(2^63-1)/8:=by
  have:(KP:Nat)<=(2^63-1)/8:=by decide
  omega
 have hfit:¬ (!Builtin.List.listFitsIndex k)=true:=by
  rw[fitsIndex_both h1 h2];exact K5
 have hlong:¬ M2 (its.toArray.size*k.toNat)=true:=by
  rw[xW hlen];exact K5
 have hnew:PZ (λx1 x2=>x1++x2) #[] (KB (if its.toArray.isEmpty=true then 0 else k.toNat) its.toArray)=(KB k.toNat its).flatten.toArray:=by
  have f0:∀m:Nat,PZ (λx1 x2=>x1++x2) #[] (KB m its.toArray)=(KB m its).flatten.toArray:=λm=>by
   have:=vS its m [];rw[LA]at this;exact this
  rw[f0];cases its with
  |nil=>simp
  |cons a r'=>rw[if_neg (by simp)]
 refine wpAny_binaryOp_repeat_ref (T := "list") (U := "int") (by decide) ⟨_,e,rfl⟩ (λs'=>PX s' k t) noFill_list_mul F.fills_int_mul F.slot_int_rmul repeat_list F.slot_int_index.lookup
  (NC F.slot_int_rmul (PX s k t) F.entry_int_rmul (F.args_int_rmul_2 _ _) (int___rmul___int_list k t l its.toArray n)
   ⟨e,rfl,⟨_,e,rfl⟩,NC F.slot_list_mul ⟨_,e,rfl⟩ F.entry_list_mul (F.args_list_mul_2 _ _) (AutoListH.list___mul___list_int_3 l its.toArray n k t hfit hcap hlong) ⟨e,?_⟩⟩)
 rw[hnew];exact⟨.ref _,_,I.lnew (t':=s.toks) (r.rep k.toNat) (by rw[zV,Nat.mul_comm];exact hz),rfl,q _ I.fresh⟩

end

section
variable {prog:K8}{w:K_}{A:LC}{E:KG->KJ->Prop}{s:KJ}
end

section
variable {X:Cx}
end

section
variable {κ:Type}[DecidableEq κ]
def b8(kvs:List (κ×V))(k:κ):Option V:=(kvs.find? λkv=>decide (kv.1=k)).map (·.2)
def fh(kvs:List (κ×V))(k:κ)(v:V):List (κ×V):=
 if(kvs.any λkv=>decide (kv.1=k))=true then kvs.map (λkv=>if kv.1=k then(kv.1,v)else kv)else kvs++[(k,v)]
theorem dz{p:κ×V}{r:List (κ×V)}{k:κ}(e:p.1=k):b8 (p::r) k=some p.2:=by simp[b8,Mz,e]
theorem b_{p:κ×V}{r:List (κ×V)}{k:κ}(e:¬ p.1=k):b8 (p::r) k=b8 r k:=by simp[b8,Mz,e]
theorem lQ(k:κ):∀kvs:List (κ×V),(kvs.any λkv=>decide (kv.1=k))=(b8 kvs k).isSome
 |[]=>rfl
 |p::r=>by
  rw[MG];by_cases e:p.1=k
  .simp only[dz e,decide_eq_true e,Bool.true_or,Option.isSome_some]
  .rw[b_ e,decide_eq_false e,Pf];exact lQ k r
theorem xX(k j:κ)(y:V):∀kvs:List (κ×V),b8 (kvs.map λkv=>if kv.1=k then(kv.1,y)else kv) j=(b8 kvs j).map λx=>if j=k then y else x
 |[]=>rfl
 |p::r=>by
  have ih:=xX k j y r;rw[KW];by_cases h:p.1=k
  .rw[if_pos h];by_cases e:p.1=j
   .rw[dz (p:=(p.1,y)) e,dz e,Of,if_pos (e.symm.trans h)]
   .rw[b_ (p:=(p.1,y)) e,b_ e,ih]
  .rw[if_neg h];by_cases e:p.1=j
   .rw[dz (p:=p) e,dz e,Of,if_neg (λz=>h (e.trans z))]
   .rw[b_ (p:=p) e,b_ e,ih]
theorem vT(k j:κ)(y:V):∀kvs:List (κ×V),b8 kvs k=none->b8 (kvs++[(k,y)]) j=if j=k then some y else b8 kvs j
 |[],_=>by
  by_cases e:k=j
  .rw[if_pos e.symm];exact dz (p:=(k,y)) e
  .rw[if_neg (λz=>e z.symm)];exact b_ (p:=(k,y)) e
 |p::r,hn=>by
  rw[Lu];have hk:¬ p.1=k:=λz=>by rw[dz z]at hn;cases hn
  rw[b_ hk]at hn;have ih:=vT k j y r hn;by_cases e:p.1=j
  .rw[dz e,dz e,if_neg (λz=>hk (e.trans z))]
  .rw[b_ e,b_ e,ih]
theorem DL(kvs:List (κ×V))(k j:κ)(y:V):b8 (fh kvs k y) j=if j=k then some y else b8 kvs j:=by
 unfold fh;by_cases a:(kvs.any λkv=>decide (kv.1=k))=true
 .rw[if_pos a,xX];rw[lQ]at a;by_cases e:j=k
  .obtain⟨x,hx⟩:=Option.isSome_iff_exists.mp a;rw[if_pos e,e,hx,Of,if_pos rfl]
  .rw[if_neg e];cases b8 kvs j with
   |none=>rfl
   |some x=>rw[Of,if_neg e]
 .rw[if_neg a];refine vT k j y kvs ?_;rw[lQ]at a;cases q:b8 kvs k with
  |none=>rfl
  |some x=>rw[q]at a;exact(a rfl).elim
theorem mV(kvs:List (κ×V))(k:κ)(v:V):(fh kvs k v).length<=kvs.length+1:=by
 unfold fh
 split
 .rw[KA];omega
 .rw[KI,KH,L_];omega
theorem xY{kvs:List (κ×V)}{k:κ}(v:V)(h:b8 kvs k=none):fh kvs k v=kvs++[(k,v)]:=by
 unfold fh;rw[lQ,h];exact if_neg (by decide)

theorem gP.isSome_eq{o:Option V}{u:Option KG}(r:gP o u):o.isSome=u.isSome:=by
 cases o with
 |none=>cases u with
  |none=>rfl
  |some _=>exact(show False from r).elim
 |some _=>cases u with
  |none=>exact(show False from r).elim
  |some _=>rfl
theorem KV.val{kvs:List (κ×V)}{vs:List (κ×KG)}(r:KV kvs vs)(k:κ):gP (b8 kvs k) (OU vs k):=by
 unfold KV at r;induction r with
 |nil=>exact Os
 |@cons p q ps qs h t ih =>
  obtain⟨h1,h2⟩:=h;by_cases e:p.1=k
  .have e':q.1=k:=h1.symm.trans e;have b:OU (q::qs) k=some q.2:=by simp[OU,Mz,e']
   rw[dz e,b];exact h2
  .have e':¬ q.1=k:=λz=>e (h1.trans z);have b:OU (q::qs) k=OU qs k:=by simp[OU,Mz,e']
   rw[b_ e,b];exact ih
theorem KV.any{kvs:List (κ×V)}{vs:List (κ×KG)}(r:KV kvs vs)(k:κ):(kvs.any λkv=>decide (kv.1=k))=vs.any λkv=>decide (kv.1=k):=by
 unfold KV at r;induction r with
 |nil=>rfl
 |cons h t ih=>rw[MG,MG,ih,h.1]
theorem KV.repl{kvs:List (κ×V)}{vs:List (κ×KG)}(r:KV kvs vs)(k:κ){y:V}{u:KG}(ry:bg y u) :
  KV (kvs.map λkv=>if kv.1=k then(kv.1,y)else kv) (vs.map λkv=>if kv.1=k then(kv.1,u)else kv):=by
 unfold KV at r⊢;induction r with
 |nil=>exact .nil
 |@cons p q ps qs h t ih =>
  rw[KW,KW];refine .cons ?_ ih;obtain⟨h1,h2⟩:=h;by_cases e:p.1=k
  .rw[if_pos e,if_pos (h1.symm.trans e)];exact⟨h1,ry⟩
  .rw[if_neg e,if_neg (λz=>e (h1.trans z))];exact⟨h1,h2⟩
theorem KV.put{kvs:List (κ×V)}{vs:List (κ×KG)}(r:KV kvs vs)(k:κ){y:V}{u:KG}(ry:bg y u):KV (fh kvs k y) (P0 vs k u):=by
 unfold fh P0;rw[r.any k];by_cases e:(vs.any λkv=>decide (kv.1=k))=true
 .rw[if_pos e,if_pos e];exact r.repl k ry
 .rw[if_neg e,if_neg e];exact Paired.snoc r ⟨rfl,ry⟩
theorem KV.length{kvs:List (κ×V)}{vs:List (κ×KG)}(r:KV kvs vs):kvs.length=vs.length:=Paired.length r
end


theorem mI{P:K8}{w:K_}{k:Key}{u:KG}(r:bg (kV k) u):(bC P w).is k u=true:=by
 cases k with
 |inl i=>obtain⟨t,e⟩:=(show ∃t,u=NX i t from r);subst e;exact zr P w i t
 |inr x=>obtain⟨t,e⟩:=(show ∃t,u=MV x t from r);subst e;exact zt P w x t
theorem vU{P:K8}{w:K_}:∀{ks:List Key}{us:List KG},aS (ks.map kV) us->ItemsAre (bC P w) ks us
 |[],_,r=>by rw[MZ]at r;cases r;exact .nil
 |k::ks,_,r=>by
  rw[KW]at r;cases r with
  |cons h t=>exact .cons (mI h) (vU t)

abbrev KT(H:Hp):List (List Key×V)->List (List Key×Addr×KG)->Prop:=Paired λp q=>p.1=q.1/\H q.2.1=some (.tup (p.1.map kV))/\bg p.2 q.2.2
theorem KT.val{H:Hp}{kvs:List (List Key×V)}{xs:List (List Key×Addr×KG)}(r:KT H kvs xs)(k:List Key):gP (b8 kvs k) ((PD xs k).map (·.2)):=by
 induction r with
 |nil=>exact Os
 |@cons p q ps qs h t ih =>
  obtain⟨h1,_,h2⟩:=h;by_cases e:p.1=k
  .have e':q.1=k:=h1.symm.trans e;have b:PD (q::qs) k=some q.2:=by simp[PD,Mz,e']
   rw[dz e,b];exact h2
  .have e':¬ q.1=k:=λz=>e (h1.trans z);have b:PD (q::qs) k=PD qs k:=by simp[PD,Mz,e']
   rw[b_ e,b];exact ih
theorem KT.repl{H:Hp}{kvs:List (List Key×V)}{xs:List (List Key×Addr×KG)}(r:KT H kvs xs)(k:List Key){y:V}{u:KG}(ry:bg y u) :
  KT H (kvs.map λkv=>if kv.1=k then(kv.1,y)else kv) (xs.map (putAt k u)):=by
 induction r with
 |nil=>exact .nil
 |@cons p q ps qs h t ih =>
  rw[KW,KW];refine .cons ?_ ih;obtain⟨h1,h2,h3⟩:=h;unfold putAt;by_cases e:p.1=k
  .rw[if_pos e,if_pos (h1.symm.trans e)];exact⟨h1,h2,ry⟩
  .rw[if_neg e,if_neg (λz=>e (h1.trans z))];exact⟨h1,h2,h3⟩
theorem KT.put{H:Hp}{kvs:List (List Key×V)}{xs:List (List Key×Addr×KG)}(r:KT H kvs xs)(k:List Key){b:Addr}{y:V}{u:KG}(hb:H b=some (.tup (k.map kV)))(ry:bg y u) :
  KT H (fh kvs k y) (storedH xs k b u):=by
 have e:(kvs.any λkv=>decide (kv.1=k))=(PD xs k).isSome:=by
  rw[lQ,(r.val k).isSome_eq,OD]
 unfold fh storedH;rw[e];by_cases q:(PD xs k).isSome=true
 .rw[if_pos q,if_pos q];exact r.repl k ry
 .rw[if_neg q,if_neg q];exact Paired.snoc r ⟨rfl,hb,ry⟩
theorem KT.keeps{H H':Hp}{kvs:List (List Key×V)}{xs:List (List Key×Addr×KG)}(r:KT H kvs xs)(ht:∀b ys,H b=some (.tup ys)->H' b=some (.tup ys)):KT H' kvs xs:=
 Paired.mapP r λ_ _ z=>⟨z.1,ht _ _ z.2.1,z.2.2⟩

section
variable {P:K8}{w:K_}{H:Hp}{h:Heap}{a:Addr}
theorem E4{u:HO}(ok:HOk P w H h)(e:Rd H a u):cm P w H h a u:=e.ok ok
theorem rR{kvs:List (Key×V)}(ok:HOk P w H h)(e:Rd H a (.dK kvs)):kvs.length<=KP/\(a==Mw)=false/\∃vs,KV kvs vs/\h.DictOf (bC P w) a vs:=
 show cm P w H h a (.dK kvs)from E4 ok e
theorem Iw{kvs:List (Key×V)}(ok:HOk P w H h)(e:H a=some (.dK kvs)):kvs.length<=KP/\(a==Mw)=false/\∃vs,KV kvs vs/\h.DictOf (bC P w) a vs:=rR ok (.inl e)
theorem qt{ks:List Key}(ok:HOk P w H h)(e:H a=some (.tup (ks.map kV))):(Pa (bC P w)).is h ks a:=by
 obtain⟨_,its,r,o,h1,h2,n,h3⟩:=(show cm P w H h a (.tup (ks.map kV))from ok a _ e);exact⟨o,its.toArray,n,h1,h2,h3,by simpa using vU r⟩
theorem rT{kvs:List (List Key×V)}(ok:HOk P w H h)(e:Rd H a (.dT kvs)):kvs.length<=KP/\(a==Mw)=false/\
  ∃xs,KT H kvs xs/\h.DictOfH (Pa (bC P w)) a xs:=by
 obtain⟨z,y,xs,r,o,es,ep,h1,h2,h3,h4,h5⟩:=(show cm P w H h a (.dT kvs)from E4 ok e);refine⟨z,y,xs,r,o,es,ep,h1,h2,h3,h4,λx hx=>?_,h5⟩;have all:∀{l:List (List Key×V)}{m:List (List Key×Addr×KG)},KT H l m->∀x∈m,(Pa (bC P w)).is h x.1 x.2.1:=by
  intro l m q;induction q with
  |nil=>intro x hx;exact nomatch hx
  |@cons p q ps qs hq t ih =>
   intro x hx;rcases List.mem_cons.mp hx with e|hx
   .subst e;exact qt ok (by rw[<-hq.1];exact hq.2.1)
   .exact ih x hx
 exact all r x hx
theorem Iy{kvs:List (List Key×V)}(ok:HOk P w H h)(e:H a=some (.dT kvs)):kvs.length<=KP/\(a==Mw)=false/\
  ∃xs,KT H kvs xs/\h.DictOfH (Pa (bC P w)) a xs:=rT ok (.inl e)
end

def kT(H:Hp)(a:Addr)(y:V)(r:Option V):Prop:=
 (∃kvs k,Rd H a (.dK kvs)/\y=kV k/\r=b8 kvs k)\/∃kvs k b,Rd H a (.dT kvs)/\y=.ref b/\H b=some (.tup (k.map kV))/\r=b8 kvs k
def uS(H:Hp)(a:Addr)(y v:V)(H':Hp):Prop:=
 (∃kvs k,H a=some (.dK kvs)/\y=kV k/\kvs.length<KP/\H'=upd H a (.dK (fh kvs k v)))\/
 ∃kvs k b,H a=some (.dT kvs)/\y=.ref b/\H b=some (.tup (k.map kV))/\kvs.length<KP/\H'=upd H a (.dT (fh kvs k v))
theorem kT.k{H:Hp}{a:Addr}{kvs:List (Key×V)}{k:Key}(e:H a=some (.dK kvs)):kT H a (kV k) (b8 kvs k):=.inl ⟨kvs,k,.inl e,rfl,rfl⟩
theorem uS.k{H:Hp}{a:Addr}{kvs:List (Key×V)}{k:Key}{v:V}(e:H a=some (.dK kvs))(hl:kvs.length<KP):uS H a (kV k) v (upd H a (.dK (fh kvs k v))):=.inl ⟨kvs,k,e,rfl,hl,rfl⟩
section
variable {X:Cx}{pins:List (Addr×Obj)}{σ:St}{H:Hp}{s:KJ}{a:Addr}{y v:V}{u r:KG}{o:Option V}{A:LC}{E:KG->KJ->Prop}

theorem Inv.big(I:Inv X pins σ H s):Mw<s.heap.objs.size:=by
 have h:Lr<s.heap.objs.size:=(I.mod.glob.keeps I.bk).lt;exact MQ (by decide) h

theorem B9{Q:KG->KJ->Prop}(hu:A.units+1<OC)(I:Inv X pins σ H s)(g:kT H a y (some v))(ry:bg y u)(h:∀w' s',Inv X pins σ H s'->bg v w'->Q w' s') :
  Lc (Lh X.prog X.w) A (Ps (.ref a) u) Q E s:=by
 rcases g with⟨kvs,k,e,ey,l⟩|⟨kvs,k,b,e,ey,eb,l⟩
 .subst ey;obtain⟨z,hd,vs,rel,dd⟩:=rR I.hok e;obtain⟨w',hw,rw'⟩:=gP.some_of (v:=v) (o:=OU vs k) (by rw[l];exact rel.val k);exact wpAny_getItem_of (mI ry) dd.mapOf hw (h w' _ (I.tok _) rw')
 .subst ey;cases (show u=LG b from ry);obtain⟨z,hd,xs,rel,dd⟩:=rT I.hok e;obtain⟨w',hw,rw'⟩:=gP.some_of (v:=v) (o:=(PD xs k).map (·.2)) (by rw[l];exact rel.val k);obtain⟨p,hp,hp2⟩:=Option.map_eq_some_iff.mp hw;refine wpAny_getItem_heap (ND hu) (qt I.hok eb) dd hp ?_;rw[hp2];exact h w' _ (I.tok _) rw'
theorem Jv{Q:KG->KJ->Prop}(hu:A.units+1<OC)(I:Inv X pins σ H s)(g:kT H a y o)(ry:bg y u)(h:∀s',Inv X pins σ H s'->Q (.bool o.isSome) s') :
  Lc (Lh X.prog X.w) A (Ml .In u (.ref a)) Q E s:=by
 rcases g with⟨kvs,k,e,ey,l⟩|⟨kvs,k,b,e,ey,eb,l⟩
 .subst ey;obtain⟨z,hd,vs,rel,dd⟩:=rR I.hok e;refine wpAny_in_of (mI ry) hd dd.mapOf ?_;rw[<-(rel.val k).isSome_eq,<-l];exact h _ (I.tok _)
 .subst ey;cases (show u=LG b from ry);obtain⟨z,hd,xs,rel,dd⟩:=rT I.hok e;refine wpAny_in_heap (ND hu) (qt I.hok eb) hd dd ?_;have q:=(rel.val k).isSome_eq;rw[OD]at q;rw[<-q,<-l];exact h _ (I.tok _)
theorem Fy{Q:KG->KJ->Prop}(hu:A.units+1<OC)(I:Inv X pins σ H s)(g:kT H a y o)(ry:bg y u)(h:∀s',Inv X pins σ H s'->Q (.bool (!o.isSome)) s') :
  Lc (Lh X.prog X.w) A (Ml .NotIn u (.ref a)) Q E s:=by
 rcases g with⟨kvs,k,e,ey,l⟩|⟨kvs,k,b,e,ey,eb,l⟩
 .subst ey;obtain⟨z,hd,vs,rel,dd⟩:=rR I.hok e;refine wpAny_notIn_of (mI ry) hd dd.mapOf ?_;rw[<-(rel.val k).isSome_eq,<-l];exact h _ (I.tok _)
 .subst ey;cases (show u=LG b from ry);obtain⟨z,hd,xs,rel,dd⟩:=rT I.hok e;refine wpAny_notIn_heap (ND hu) (qt I.hok eb) hd dd ?_;have q:=(rel.val k).isSome_eq;rw[OD]at q;rw[<-q,<-l];exact h _ (I.tok _)
theorem zW{h':Heap}{t':Nat}{ob:HO}(I:Inv X pins σ H s)(mu:Mut (H a))(hs:M8 a s.heap h')(he:∃q,h'.get? a=some q)(new:cm X.prog X.w (upd H a ob) h' a ob) :
  Inv X pins σ (upd H a ob) { s with heap:=h',toks:=t' }:=
 I.write (x:=a) (e:=a) mu (.inl rfl) (λb q hb z=>(hs.2 b hb).trans z) he new
theorem B_{P:K8}{w:K_}{H':Hp}{h':Heap}{kvs:List (Key×V)}{vs:List (Key×KG)}(z:kvs.length<=KP)(hd:(a==Mw)=false)(rel:KV kvs vs)(dd:h'.DictOf (bC P w) a vs) :
  cm P w H' h' a (.dK kvs):=⟨z,hd,vs,rel,dd⟩
theorem Ca{H':Hp}{Q:Unit->KJ->Prop}(hu:A.units+1<OC)(I:Inv X pins σ H s)(g:uS H a y v H')(ry:bg y u)(rv:bg v r)(h:∀s',Inv X pins σ H' s'->Q () s') :
  Lc (Lh X.prog X.w) A (setItem (.ref a) u r) Q E s:=by
 rcases g with⟨kvs,k,e,ey,l,eH⟩|⟨kvs,k,b,e,ey,eb,l,eH⟩
 .subst ey eH;obtain⟨z,hd,vs,rel,dd⟩:=Iw I.hok e;have hz:vs.length<=KP:=by rw[<-rel.length];exact z
  have hl:(fh kvs k v).length<=KP:=by have:=mV kvs k v;omega
  refine wpAny_setItem_pairs (hsz:=hz) (mI ry) dd λh' dd' hs=>h _ ?_;have he:∃q,h'.get? a=some q:=let⟨q,_,_,hq,_⟩:=dd';⟨q,hq⟩;exact zW I (by rw[e];exact Os) hs he (B_ hl hd (rel.put k rv) dd')
 .subst ey eH;cases (show u=LG b from ry);obtain⟨z,hd,xs,rel,dd⟩:=Iy I.hok e;have hz:xs.length<=KP:=by rw[<-Paired.length rel];exact z
  have hl:(fh kvs k v).length<=KP:=by have:=mV kvs k v;omega
  refine wpAny_setItem_heap (hsz:=hz) (ND hu) (qt I.hok eb) dd λh' dd' hs=>h _ ?_;obtain⟨q,es,ep,hq,h2,h3,h4,_,h5⟩:=dd';refine zW I (by rw[e];exact Os) hs ⟨q,hq⟩ ⟨hl,hd,_,(rel.put k eb rv).keeps λc ys ec=>?_,q,es,ep,hq,h2,h3,h4,h5⟩;rw[aq (Au ec e (λz=>nomatch z))];exact ec
end

section
variable {X:Cx}{pins:List (Addr×Obj)}{σ:St}{H:Hp}{s:KJ}{a:Addr}{kvs:List (Key×V)}{k:Key}{u:KG}{A:LC}{E:KG->KJ->Prop}
end


def DM(i:Expr):Prop:=∀ov iv,O7 i false ov iv=operate [ov,iv] (Ps ov iv)
theorem zX{prog:K8}{w:K_}{A:LC}{E:KG->KJ->Prop}{s:KJ}{env:Env}{value slice:Expr}{pos:Pos}{T id:String}{Q:KG->KJ->Prop}
  (hl:OS (.type T) "__getitem__" = pure (some (.builtin id)))(hs:DM slice)
  (h:Lc (Lh prog w) A (eval value env) (λo s₁=>Lc (Lh prog w) A (eval slice env) (λi s₂=>s₂.TypeIs o T/\Lc (Lh prog w) A (Ps o i) Q E s₂) E s₁) E s) :
  Lc (Lh prog w) A (eval (.Subscript value slice pos) env) Q E s:=by
 refine PU (LJ h (λo s₁ h₁=>LJ h₁ (λi s₂ h₂=>?_) λ_ _ x=>x) λ_ _ x=>x);obtain⟨hT,h₂⟩:=h₂;unfold Pd;refine K3 ?_;rw[getitemInPython_of_ne hT.not_modules];refine K3 (wpAny_specialOf hT hl ?_);have fin:Lc (Lh prog w) A (O7 slice false o i) (λr s₃=>Lc (Lh prog w) A (letTemporaryGo value o r >>= λ_=>pure r) Q E s₃) E s₂:=by
  rw[hs o i];exact wpAny_operating (LJ h₂ (λr s₃ h₃=>K3 (wpAny_letTemporaryGo (Lz h₃))) λ_ _ x=>x)
 first
  |exact Lz (K3 fin)
  |exact K3 (Lz (K3 fin))
  |exact K3 fin

theorem zw{X:Cx}{pins:List (Addr×Obj)}{σ:St}{H:Hp}{s:KJ}{a:Addr}{y:V}{o:Option V}(I:Inv X pins σ H s)(g:kT H a y o):s.TypeIs (.ref a) "dict":=by
 rcases g with⟨kvs,k,e,_,_⟩|⟨kvs,k,b,e,_,_,_⟩
 .obtain⟨_,_,vs,_,dd⟩:=rR I.hok e;exact dd.typeIs
 .obtain⟨_,_,xs,_,dd⟩:=rT I.hok e;exact dd.typeIs
inductive GM(Q:VK)(x:V)(y:V)(H2:Hp):Prop
 |mk(a v)(_:x=.ref a)(_:kT H2 a y (some v))(_:Q v H2)
def Iz(td ty:TE):TE:=λσ H Q=>td σ H λx H1=>ty σ H1 (GM Q x)
inductive GN(D:dS)(σ:St)(v:V)(x:V)(y:V)(H3:Hp):Prop
 |mk(a H4)(_:x=.ref a)(_:uS H3 a y v H4)(_:D.nx σ H4)
def IB(td ty tv:TE):TS:=λD σ H=>tv σ H λv H1=>td σ H1 λx H2=>ty σ H2 (GN D σ v x)
section
variable {X:Cx}{o i e value:Expr}{pos pos' tpos:Pos}{td ty tv:TE}
theorem nP(hu:X.A.units+1<OC)(ho:PE X o td)(hi:PE X i ty)(hs:DM i):PE X (.Subscript o i pos) (Iz td ty):=by
 intro pins s σ H Q I h;refine zX PySem.F.slot_dict_getitem.lookup hs (thn (ho pins s σ H _ I h) λu s1 ⟨x,H1,I1,rx,q1⟩=>thn (hi pins s1 σ H1 _ I1 q1) λiv s2 ⟨y,H2,I2,ry,a,v,ex,g,q2⟩=>?_);subst ex;obtain rfl:u=LG a:=rx;exact⟨zw I2 g,B9 hu I2 g ry λw' s3 I3 rw'=>⟨v,H2,I3,rw',q2⟩⟩
theorem zY(hu:X.A.units+1<OC)(ho:PE X o td)(hi:PE X i ty)(hv:PE X value tv)(hs:N0 value (some (.Subscript o i pos')) pos.line X.env=pure false) :
  PS X (.Assign [.Subscript o i pos'] value pos) (IB td ty tv):=by
 intro pins s σ H D I h;refine wpAny_Assign_Subscript (thn (hv pins s σ H _ I h) λr s1 ⟨v,H1,I1,rv,q1⟩=>thn (ho pins s1 σ H1 _ I1 q1) λu s2 ⟨x,H2,I2,rx,q2⟩=>thn (hi pins s2 σ H2 _ I2 q2) λiv s3 ⟨y,H3,I3,ry,a,H4,ex,g,q3⟩=>?_) hs;subst ex;obtain rfl:u=LG a:=rx;exact Ca hu I3 g ry rv λs4 I4=>⟨σ,H4,I4,q3⟩
end


theorem DN{P:K8}{w:K_}{H:Hp}(h:Heap)(hb:Mw<h.objs.size):cm P w H (h.push { cls:=.type "dict",data:=.dict #[] }) h.objs.size (.dK []):=
 ⟨Ls _,beq_eq_false_iff_ne.mpr (Lp (KZ hb)),[],.nil,Heap.DictOf.new h⟩
def GO:TE:=λ_ H Q=>∀p,H p=none->Q (.ref p) (upd H p (.dK []))
section
variable {X:Cx}{pos:Pos}
theorem xZ:PE X (.Dict [] [] pos) GO:=λpins s σ H Q I h =>
 wpAny_Dict_empty ⟨.ref s.heap.objs.size,_,I.laid (a:=s.heap.objs.size) (o:=.dK []) (t':=s.toks) (λ_ _ q=>KU _ q) (Kz _) (DN s.heap I.big),rfl,h _ (I.hok.fresh (Kz _))⟩
end

def IsD(H:Hp)(a:Addr):Prop:=(∃kvs,Rd H a (.dK kvs))\/∃kvs,Rd H a (.dT kvs)
theorem Cb{X:Cx}{pins:List (Addr×Obj)}{σ:St}{H:Hp}{s:KJ}{a:Addr}(I:Inv X pins σ H s)(d:IsD H a) :
  s.TypeIs (.ref a) "dict"/\(∀b,LG a=.ref b->∃ob,s.heap.get? b=some ob/\ob.dict=none)/\(a==Mw)=false:=by
 rcases d with⟨kvs,e⟩|⟨kvs,e⟩
 .obtain⟨_,hd,vs,_,dd⟩:=rR I.hok e;refine⟨dd.typeIs,λb q=>?_,hd⟩;cases q;obtain⟨ob,_,_,h1,h2,_⟩:=dd;exact⟨ob,h1,h2.2.1⟩
 .obtain⟨_,hd,xs,_,dd⟩:=rT I.hok e;refine⟨dd.typeIs,λb q=>?_,hd⟩;cases q;obtain⟨ob,_,_,h1,h2,_⟩:=dd;exact⟨ob,h1,h2.2.1⟩

section
variable {X:Cx}{pins:List (Addr×Obj)}{σ:St}{H:Hp}{s:KJ}{a:Addr}{y d:V}{u r:KG}{o:Option V}{A:LC}{E:KG->KJ->Prop}
end

section
variable {X:Cx}{o e f:Expr}{apos cpos:Pos}{td ty tx:TE}
end

section
variable {X:Cx}{pins:List (Addr×Obj)}{σ:St}{H:Hp}{s:KJ}{a:Addr}{kvs:List (Key×V)}{A:LC}{E:KG->KJ->Prop}
end


section
variable {X:Cx}{pins:List (Addr×Obj)}{σ:St}{H:Hp}{s:KJ}{a:Addr}{y:V}{u:KG}{A:LC}{E:KG->KJ->Prop}
end
end L2

namespace Att
open PySem PySem.W PySem.Calls PyProof.Rows

theorem ug{P:Lv}{h:Heap}:∀(ns:List Int)(vs:List KG),WellAll P h vs (ns.map WData.int)->PK vs ns:=by
 intro ns;induction ns with
 |nil =>
  intro vs w;rw[MZ]at w;cases w;exact .nil
 |cons n ns ih =>
  intro vs w;rw[KW]at w;cases w with
  |cons a b =>
   cases a;exact .cons _ _ (ih _ b)

theorem Cc{l:OpenLaw}{n:Nat}(hn:l.most=some n){P:Lv}{h:Heap}{args:List WData}{vals:List KG}
  (hpre:l.row.toRowW.claim.pre args=true)(hwl:WellAll P h vals args) :
  ∃a vs ns,vals=[LG a]/\args=[WData.list (ns.map WData.int)]/\h.get? a=some { cls:=.type "list",data:=.seq vs.toArray }/\PK vs ns/\ns.length<=n:=by
 have hsh:WShape.hasAll [] args [.list .int]=true:=(pre_splitW hpre).1;have hc:l.pre.holds [] { args:=args }=true:=(pre_splitW hpre).2;obtain⟨d,r,rfl,h1,h2⟩:=hasAllW_cons hsh;obtain rfl:=hasAllW_nil h2;obtain⟨xs,rfl,h3⟩:=hasW_list h1;obtain⟨ns,rfl⟩:=items_int h3;have hlen:ns.length<=n:=by
  unfold OpenLaw.pre at hc;have h4:(WTm.not (.lt (.lit (.int (n:Int))) (.len (.arg 0)))).holds [] { args:=[.list (ns.map .int)] }=true:=by
   have h4:=(holds_andW hc).1;rw[hn]at h4;exact h4
  have h5:=condW_of h4 (w_not (w_lt w_lit (w_len_list (w_arg rfl))));rw[KA]at h5;refine N3 λq=>?_;have q':(n:Int)<((ns.length:Nat):Int):=by omega
  first
   |(rw[decide_eq_true q']at h5;exact absurd h5 (by decide))
   |(simp at h5;omega)
 cases hwl with
 |cons w1 w2 =>
  cases w2;cases w1 with
  |list ho hall=>exact⟨_,_,ns,rfl,rfl,ho,ug ns _ hall,hlen⟩

theorem Cd(l:OpenLaw)(args:List WData):l.row.toRowW.claim.post args (.bool true) args=true:=
 postW_of (r:=l.row.toRowW) (X:=(true==true))
  (show WShape.has [] (.bool true) .bool=true by first|rfl|decide|simp[WShape.has,WShape.arms,WShape.armsAll])
  (show(WTm.eq .res (.lit (.bool true))).value [] { args:=args,res:=some (.bool true),after:=args }=some (.bool (true==true))from w_eq_bool (w_res rfl) w_lit) rfl

theorem attach_call{l:OpenLaw}{n:Nat}{q:K8}{loose:List Str}{XP:(Str->Option KG)->Heap->Prop}{YP:K_->Heap->Prop}{d:DefRec}
  (hn:l.most=some n)(hdf:d.params.defaults=[])
  (call:∀ (w:K_) (s₀ s₁:KJ) (mg mb:Str→Option KG) (fa:Addr) (o:Obj) (pm cd doc:KG) (a:Addr) (vs:List KG) (ns:List Int),
   Ground q loose [] XP w s₀ mg mb s₁.heap->YP w s₁.heap->
   s₁.heap.get? fa=some o->o.data=.func (docDef d.name d.params d.body d.scope pm cd doc)->s₁.heap.CodeRec cd d.name->mg d.name=some (.ref fa)->
   s₁.heap.get? a=some { cls:=.type "list",data:=.seq vs.toArray }->PK vs ns->ns.length<=n->s₁.gens=#[]->
   Ny (Lh l.prog w) Pb (.call (.ref fa) ⟨[.ref a],[]⟩) (λr s'=>r=.ok (.ret (.bool true))/\OldK s₁.heap s'.heap/\s'.os=s₁.os/\N6 s'.gens) s₁) :
  WalkO q loose XP YP l.row.toRowW d [] (λf vs=>P1 f vs):=by
 intro w s₀ s₁ mg mb G Y fa o pm cd doc dV kV ho hd hcd hD hmg hg args vals as hpre hlay hrd hwl hlo;obtain rfl:dV=.none:=Dflts.none hD hdf;obtain rfl:kV=.none:=Dflts.noKw hD;obtain⟨a,vs,ns,rfl,rfl,hobj,hints,hlen⟩:=Cc hn hpre hwl;refine enter_call (Nk (call w s₀ s₁ mg mb fa o pm cd doc a vs ns G Y ho (fd_plain hd) hcd hmg hobj hints hlen hg) λr s' hq=>?_);obtain⟨rfl,h2,h3,h4⟩:=hq;exact⟨.inl ⟨.bool true,.bool true,[],rfl,λ_=>rfl,.bool true,Cd l _,λ_=>⟨List.Pairwise.nil,λ_ hm=>(nomatch hm)⟩⟩,h2,h3,h4⟩

section
variable {prog:K8}{w:K_}{A:LC}{E:KG->KJ->Prop}{s:KJ}{K:Frag}

end
end Att

namespace L2
open PySem PySem.Spec PyProof.Rows

theorem vV:∀{vs:List KG}{ns:List Int},PK vs ns->aS (ns.map V.int) vs
 |_,_,.nil=>.nil
 |_,_,.cons n t h=>.cons ⟨t,rfl⟩ (vV h)

def DO(H:Hp):Prop:=∀b,H b=none\/∃o xs,H b=some (.frz o (.lst xs))

theorem DP{P:K8}{w:K_}{K:KC}{mg mb:Str->Option KG}{CX:CXT}{k:Nat}{fa a:Addr}{fd:KY}{x:Str}{sp:Sp}{s₁:KJ}{vs:List KG}{ns:List Int}
  (KX:K.In s₁.heap)(hns:s₁.heap.Ns Lr mg)(hb:s₁.heap.Ns Pi mb)(hbb:∀x:Str,x≠"__name__"->mb x=MN x)(hlim:s₁.heap.NoLimit)(hg:s₁.gens=#[])
  (ha:s₁.heap.get? a=some { cls:=.type "list",data:=.seq vs.toArray })(hi:PK vs ns)(hl:ns.length<=KP)(hr:cg k Pb)
  (F:∀base:Heap,K.In base->base.Ns Lr mg->aO P w K mg base CX k fa fd [x] sp)(hbind:∀(s:KJ)(u:KG),BindsTo s fd ⟨[u],[]⟩ [(x,u)])
  (hsp:∀H:Hp,DO H->SqL K H a (ns.map V.int)->sp [.ref a] H (λv _=>v=.bl true) λ_ _ _=>False)
  (hCX:∀H e s',CX [] H s₁ (λ_ _ _=>False) e s'->False) :
  Ny (Lh P w) Pb (.call (.ref fa) ⟨[.ref a],[]⟩) (λr s'=>r=.ok (.ret (.bool true))/\OldK s₁.heap s'.heap/\s'.os=s₁.os/\N6 s'.gens) s₁:=by
 have rv:=vV hi;have lenV:=hi.length
 -- from an abstract heap in which nothing but the script may be tracked
 have core:∀H:Hp,DO H->SqL K H a (ns.map V.int)->HOk P w H s₁.heap->(∀b,H b≠none->b=a)->(H a≠none->K.lookup a=none)->
   Ny (Lh P w) Pb (.call (.ref fa) ⟨[.ref a],[]⟩) (λr s'=>r=.ok (.ret (.bool true))/\OldK s₁.heap s'.heap/\s'.os=s₁.os/\N6 s'.gens) s₁:=by
  intro H hO hS hok hA hK;have base_of:∀{b:Addr}{o:Obj},s₁.heap.get? b=some o->H b=none->(oC s₁.heap H).get? b=some o:=λe n=>Du e n;have noA:∀{b:Addr}{o:Obj}{es:Array LD}{ep:Nat},s₁.heap.get? b=some o->o.data=.dict es ep->H b=none:=λ{b o es ep} e d=>by
   cases q:H b with
   |none=>rfl
   |some u =>
    have e':b=a:=hA b (by rw[q];simp);subst e';rw[ha]at e;cases e;have d':Data.seq vs.toArray _=Data.dict es ep:=d;cases d'
  have nsK:∀{b:Addr}{m:Str->Option KG},s₁.heap.Ns b m->(oC s₁.heap H).Ns b m:=λ{b m} ⟨o,es,ep,e,d,r⟩=>⟨o,es,ep,base_of e (noA e d),d,r⟩;have hKb:K.In (oC s₁.heap H):=λb o e=>base_of (KX b o e) (by
   cases q:H b with
   |none=>rfl
   |some u =>
    have e':b=a:=hA b (by rw[q];simp);subst e';rw[hK (by rw[q];simp)]at e;cases e)
  have hM:Mod K mg (oC s₁.heap H):=⟨hKb,nsK hns,⟨mb,nsK hb,hbb⟩,let⟨mc,h1,h2⟩:=hlim;⟨mc,nsK h1,h2⟩⟩;have e0:sS P w K mg (oC s₁.heap H) Pb [] s₁ H:=⟨rfl,hM,λb o e=>Fk e,Pp (BS _ _),trivial,λb hb=>absurd (show b∈([]:List Addr)from hb) (by simp),hok,.of_eq hg⟩;refine Nk ((F _ hKb (nsK hns)).run Pb [] s₁ H ⟨[.ref a],[]⟩ [.ref a] [.ref a] _ _ hr e0 (hbind s₁ (.ref a)) (.cons rfl .nil) (hsp H hO hS)) λr s' h=>?_;cases r with
  |error e=>exact(hCX H e s' h).elim
  |ok fl =>
   cases fl with
   |next=>exact Mp h
   |brk=>exact Mp h
   |cont=>exact Mp h
   |ret u =>
    obtain⟨v,H',os,bare,un,hok',r',q⟩:=h;have q':v=.bl true:=q;subst q';obtain rfl:u=Pj true:=r';refine⟨rfl,OldK.of_keep λb o e=>?_,os,bare⟩;cases q:H b with
    |none=>exact un.keep b o e q (by intro z;exact absurd (show b∈([]:List Addr)from z) (by simp)) (by simp)
    |some u =>
     rcases hO b with z|⟨ob,xs,z⟩
     .rw[q]at z;cases z
     .have z2:=un.frzs b ob _ z;obtain⟨e1,_⟩:=hok b _ z;obtain⟨e2,_⟩:=hok' b _ z2;rw[e]at e1;cases e1;exact e2
 cases hk:K.lookup a with
 |some o =>
  -- the script is one of the module's own objects
  have e:=KX a o hk;rw[ha]at e;cases e;refine core (λ_=>none) (λ_=>.inl rfl) (.inr ⟨_,vs.toArray,_,hk,rfl,rfl,rfl,by rw[K2,lenV];exact hl,by simpa using rv⟩) (λb u z=>by have z':(none:Option HO)=some u:=z;cases z') (λb z=>absurd rfl z) λz=>absurd rfl z
 |none =>
  refine core (λb=>if b=a then some (.frz { cls:=.type "list",data:=.seq vs.toArray } (.lst (ns.map V.int)))else none) (λb=>?_) (.inl (.inr ⟨{ cls:=.type "list",data:=.seq vs.toArray },if_pos rfl⟩)) (λb u z=>?_) (λb z=>?_) λ_=>hk
  .by_cases hb:b=a
   .exact .inr ⟨_,_,if_pos hb⟩
   .exact .inl (if_neg hb)
  .by_cases hb:b=a
   .have z':=(if_pos hb).symm.trans z;cases z';subst hb;exact⟨ha,by rw[KA];exact hl,vs,_,rv,ha⟩
   .have z':=(if_neg hb).symm.trans z;cases z'
  .by_cases hb:b=a
   .exact hb
   .exact absurd (if_neg hb) z

theorem walk_of{l:PySem.W.OpenLaw}{n k:Nat}{q:K8}{loose:List Str}{XP:(Str->Option KG)->Heap->Prop}{YP:K_->Heap->Prop}{d:DefRec}{K:Lv->KC}{CX:K_->CXT}{sp:K_->Sp}{x:Str}
  (hn:l.most=some n)(hn2:n<=KP)(hdf:d.params.defaults=[])(hr:cg k Pb)
  (hY:∀(w:K_)(h:Heap),YP w h->(K w.params).In h)
  (F:∀ (w:K_) (mg:Str→Option KG) (fa:Addr) (h:Heap),(K w.params).In h→h.Ns Lr mg→mg d.name=some (.ref fa) →
   ∃fd:KY,(∀(s:KJ)(u:KG),BindsTo s fd ⟨[u],[]⟩ [(x,u)])/\
    ∀base:Heap,(K w.params).In base->base.Ns Lr mg->aO l.prog w (K w.params) mg base (CX w) k fa fd [x] (sp w))
  (hsp:∀(w:K_)(H:Hp)(a:Addr)(ns:List Int),ns.length<=n->DO H->SqL (K w.params) H a (ns.map V.int)->sp w [.ref a] H (λv _=>v=.bl true) λ_ _ _=>False)
  (hCX:∀(w:K_)(H:Hp)(s:KJ)(e:KG)(s':KJ),CX w [] H s (λ_ _ _=>False) e s'->False) :
  PySem.W.WalkO q loose XP YP l.row.toRowW d [] (λf vs=>P1 f vs):=by
 refine Att.attach_call hn hdf λw s₀ s₁ mg mb fa o pm cd doc a vs ns G Y ho hd hcd hmg hobj hints hlen hg=>?_;have KX:=hY w _ Y;obtain⟨fd,hb,hF⟩:=F w mg fa _ KX G.T.g hmg;exact DP KX G.T.g G.T.b G.T.builtins G.T.nolimit hg hobj hints (Ln hlen hn2) hr hF hb (λH hO hS=>hsp w H a ns hlen hO hS) λH e s'=>hCX w H s₁ e s'

abbrev CX0:CXT:=λ_ _ _ _ _ _=>False
abbrev E0:XK:=λ_ _ _=>False
theorem ky{X:Cx}:dR CX0 X E0:=λ_ _ _ _ _ _ _ h=>h.elim

structure Fun(K:KC)(x qual:Str)(st:Stmt)(f:Addr)(fd:KY):Prop where
 ex:∃(oc:KG)(od:Option Addr)(kV doc pm:KG)(an:Option Addr)(cdv ct:KG)(osl:Array (Option KG)),
  fd=L9 x qual (cJ st) (ci st) (av st) .none kV doc pm an cdv ct/\K.lookup f=some ⟨oc,od,.func fd,osl⟩/\M7 K cdv qual=true
 kp:My K (.ref f)=true
section
variable {P:K8}{w:K_}{K:KC}{mg:Str->Option KG}{base:Heap}
theorem Fun.ok{x qual:Str}{st:Stmt}{f:Addr}{fd:KY}{N ps:List Str}{k:Nat}{sp:Sp}(F:Fun K x qual st f fd)(S:aE N ps (av st))(len:∀vs H Q E,sp vs H Q E->vs.length=ps.length)
  (hbody:∀ (cdv:KG) (A:LC) (outer:List Env) (s:KJ) (H:Hp) (vs:List V) (Q:VK) (E:XK),cg k (A.deeper (MC qual (av st) s.heap.objs.size f cdv))→sp vs H Q E →
   ∃t,PSs (lP CX0 P w K mg base N qual (av st) f cdv A outer s H E).nox (ci st) t/\t { nx:=λ_ H'=>Q .non H',rt:=Q } (i6 N vs) H):aO P w K mg base CX0 (k+1) f fd ps sp:=by
 obtain⟨oc,od,kV,doc,pm,an,cdv,ct,osl,rfl,lk,hcd⟩:=F.ex;refine AG lk hcd S len λA outer s H vs Q E hr hsp=>?_;obtain⟨t,h,q⟩:=hbody cdv A outer s H vs Q E hr hsp;exact⟨t,h.nox,q⟩
theorem Fun.binds{x qual:Str}{st:Stmt}{f:Addr}{fd:KY}{ps:List Str}(F:Fun K x qual st f fd)
  (h:∀(kV doc pm:KG)(an:Option Addr)(cdv ct:KG)(us:List KG),us.length=ps.length->OM (L9 x qual (cJ st) (ci st) (av st) .none kV doc pm an cdv ct) ⟨us,[]⟩=pure (ps.zip us)):gO K fd ps []:=by
 obtain⟨oc,od,kV,doc,pm,an,cdv,ct,osl,rfl,lk,hcd⟩:=F.ex;exact .all (h kV doc pm an cdv ct)
theorem uh{x qual:Str}{st:Stmt}{f:Addr}{oc:KG}{od an:Option Addr}{osl:Array (Option KG)}{kV doc pm cdv ct:KG}(l:K.lookup f=some ⟨oc,od,.func (L9 x qual (cJ st) (ci st) (av st) .none kV doc pm an cdv ct),osl⟩)
  (c:M7 K cdv qual=true)(k:My K (.ref f)=true):Fun K x qual st f (L9 x qual (cJ st) (ci st) (av st) .none kV doc pm an cdv ct):=⟨⟨oc,od,kV,doc,pm,an,cdv,ct,osl,rfl,l,c⟩,k⟩
end
theorem dW{A:LC}{k:Nat}(hr:cg k A):A.units+1<OC:=Le (Nat.add_le_add_left (by decide:1<=64) _) hr.units
theorem aF{n:Nat}(h:n<=1000):n<KP:=Le h (by decide)

section
variable {X:Cx}
theorem pv(i:Nat){x:Str}{pos:Pos}(hN:X.N[i]?=some x:=by rfl)(hv:Vis X.env.scope x:=by first|exact K1 rfl|exact Py (K1 rfl)|exact Py (Py rfl))(hd:(x==("__debug__" : Str))=false:=by decide)
  (hcd:(x==("__classdict__" : Str))=false:=by decide):PE X (.Name x pos) (Av i):=Gs hN hv hd hcd
end

theorem x5{A B:Prop}(h:B):if false=true then A else B:=by
 rw[if_neg K5];exact h
theorem DQ{A B:Prop}(h:A):if true=true then A else B:=by
 rw[if_pos rfl];exact h
theorem cZ{c A B:Prop}[Decidable c](h1:c->A)(h2:¬ c->B):if c then A else B:=by
 by_cases h:c
 .rw[if_pos h];exact h1 h
 .rw[if_neg h];exact h2 h
def ar(H H':Hp):Prop:=∀b o,H b=some o->H' b=some o
theorem ar.refl(H:Hp):ar H H:=λ_ _ h=>h
theorem ar.trans{H H1 H2:Hp}(a:ar H H1)(b:ar H1 H2):ar H H2:=λc o h=>b c o (a c o h)
theorem ar.free{H H':Hp}(e:ar H H'){l:Addr}(h:H' l=Option.none):H l=Option.none:=by
 cases q:H l with
 |none=>rfl
 |some o =>
  rw[e l o q]at h;cases h
theorem ar.seq{K:KC}{H H':Hp}{a:Addr}{xs:List V}(e:ar H H')(h:SqL K H a xs):SqL K H' a xs:=by
 rcases h with(h|⟨o,h⟩)|h
 .exact .inl (.inl (e _ _ h))
 .exact .inl (.inr ⟨o,e _ _ h⟩)
 .exact .inr h

section
variable {κ:Type}[DecidableEq κ]
end

section
variable {prog:K8}{w:K_}{A:LC}{R:Oe->KJ->Prop}{s:KJ}
theorem x6{elt target iter:Expr}{ifs:List Expr}{scope:Scope}{pos:Pos}{it acc:KG}{env:Env}(I:Nat->KJ->Prop)
  (turn:∀ n s,I n s→Lc (Lh prog w) A (pyNext it) (fun r s₁=>match r with
   |none=>R (.ok .next) s₁
   |some v=>Lc (Lh prog w) A (Oc target it v) (λ_ s₀=>Lc (Lh prog w) A (Pk target env v) (λ_ s₂ =>
     Lc (Lh prog w) A (forIn ifs true λc r=>if r=true then do let ok<-isTrue c env (eval c env);pure (Og ok)else pure (Og r)) (λok s₃ =>
      if ok=true then Lc (Lh prog w) A (eval elt env) (λx s₄ =>
       Lc (Lh prog w) A (call (.builtin "list.append") [acc,x]) (λ_ s₅=>∃m,m<n/\I m s₅) (λ_ _=>False) s₄) (λ_ _=>False) s₃
      else ∃m,m<n/\I m s₃) (λ_ _=>False) s₂) (λ_ _=>False) s₀) (λ_ _=>False) s₁) (λ_ _=>False) s)
  (n:Nat) (h:I n s):Ny (Lh prog w) A (.compLoop (.ListComp elt [⟨target,iter,ifs,0⟩] scope pos) 0 it acc env) R s:=by
 refine codeAny_loop rfl I (λn s hI=>?_) n h;show Lc _ A ((compTurn (.ListComp elt [⟨target,iter,ifs,0⟩] scope pos) 0 it acc env).onRaise (λx=>do noteFrame x env;theTreesLotGoes x)) _ _ s
 refine wpAny_noted ?_;rw[compTurn_list];refine K3 (OH (K3 (LJ (turn n s hI) (λr s₁ h₁=>?_) λ_ _ h'=>h'.elim)));cases r with
 |none=>exact Lz h₁
 |some v =>
  refine K3 (LJ h₁ (λ_ s₀ h₀=>?_) λ_ _ h'=>h'.elim);refine K3 (LJ h₀ (λ_ s₂ h₂=>K3 (LJ h₂ (λok s₃ h₃=>?_) λ_ _ h'=>h'.elim)) λ_ _ h'=>h'.elim);cases ok with
  |false=>exact Lz ⟨rfl,h₃⟩
  |true =>
   exact K3 (K3 (LJ h₃ (λx s₄ h₄=>K3 (LJ h₄ (λ_ s₅ h₅=>Lz (Lz ⟨rfl,h₅⟩)) λ_ _ h'=>h'.elim)) λ_ _ h'=>h'.elim))
end

def PTs(X:Cx)(ifs:List Expr)(t:TT):Prop:=
 ∀(pins:List (Addr×Obj))(s:KJ)(σ:St)(H:Hp)(Q:Bool->Hp->Prop),Inv X pins σ H s->t σ H Q->
  Lc (Lh X.prog X.w) X.A (forIn ifs true λc r=>if r=true then do let ok<-isTrue c X.env (eval c X.env);pure (Og ok)else pure (Og r)) (TP X pins σ Q) X.xe s
def GP:TT:=λ_ H Q=>Q true H
theorem dA{X:Cx}:PTs X [] GP:=λ_ _ _ H _ I h=>wpAny_tests_nil ⟨H,I,h⟩
theorem uT{X:Cx}{c:Expr}{t:TT}(h:PT X c t):PTs X [c] t:=λpins s σ H Q I hw=>wpAny_tests_one (h pins s σ H Q I hw)

abbrev Cx.blk(X:Cx)(N:List Str)(s:KJ)(H:Hp)(scope:Scope)(cl:List (Str×Addr))(C:Addr)(ex:List Addr):Cx:=
 { X with N:=N,s₀:=s,H₀:=H,env:=compEnvC scope cl C X.env,outer:=X.stack,stack:=X.stack,ex:=ex,fn:=λ_=>false,pn:=[],xe:=λ_ _=>False }

def sV(env:Env):List (Str×Addr)->Prop
 |[]=>True
 |p::r=>env.cells.lookup p.1=some p.2/\sV env r
theorem lx{α:Type}:∀{l:List (Str×α)}{x:Str}{k:α},l.lookup x=some k->(x,k)∈l
 |[],_,_,h=>by simp at h
 |(n,k')::r,x,k,h=>by
  rw[List.lookup_cons]at h;cases hx:x==n with
  |true =>
   rw[hx]at h;have e:x=n:=Pc hx;have e2:k'=k:=Lm h;rw[e,e2];exact KO
  |false =>
   rw[hx]at h;exact KN _ (lx h)
theorem sV.get{env:Env}:∀{cl:List (Str×Addr)}{x:Str}{c:Addr},sV env cl->cl.lookup x=some c->env.cells.lookup x=some c:=λ{cl x c} h e=>by
 have go:∀(l:List (Str×Addr)),sV env l->∀p∈l,env.cells.lookup p.1=some p.2:=by
  intro l;induction l with
  |nil=>intro _ p hp;cases hp
  |cons q r ih =>
   intro ha p hp;rcases List.mem_cons.mp hp with rfl|hp
   .exact ha.1
   .exact ih ha.2 p hp
 exact go cl h (x,c) (lx e)
def ly(X:Cx)(scope:Scope)(cl:List (Str×Addr)):List Str->List Nat->Prop
 |[],[]=>True
 |y::ys,j::js=>(X.N[j]?=some y/\(X.env.kindOf y=some .cell\/X.env.kindOf y=some .free)/\(cl.lookup y).isSome=true/\((NN scope X.env).names.lookup y=some .cell\/(NN scope X.env).names.lookup y=some .free))/\ly X scope cl ys js
 |_,_=>False
theorem ly.get{X:Cx}{scope:Scope}{cl:List (Str×Addr)}:∀{ys:List Str}{js:List Nat}{i:Nat}{y:Str},ly X scope cl ys js->ys[i]?=some y->
  ∃j,js[i]?=some j/\X.N[j]?=some y/\(X.env.kindOf y=some .cell\/X.env.kindOf y=some .free)/\(cl.lookup y).isSome=true/\((NN scope X.env).names.lookup y=some .cell\/(NN scope X.env).names.lookup y=some .free)
 |[],_,_,_,_,e=>by simp at e
 |_::_,[],_,_,h,_=>h.elim
 |y::ys,j::js,0,z,h,e=>by
  have e':y=z:=by simpa using e
  subst e';exact⟨j,rfl,h.1⟩
 |y::ys,j::js,i+1,z,h,e=>by
  obtain⟨k,e1,e2⟩:=ly.get (i:=i) h.2 (by simpa using e);exact⟨k,by simpa using e1,e2⟩
theorem ly.len{X:Cx}{scope:Scope}{cl:List (Str×Addr)}:∀{ys:List Str}{js:List Nat},ly X scope cl ys js->ys.length=js.length
 |[],[],_=>rfl
 |[],_::_,h=>h.elim
 |_::_,[],h=>h.elim
 |_::_,_::_,h=>by rw[KH,KH,ly.len h.2]
def qu(σ:St)(js:List Nat):St:=js.map λj=>(σ[j]?).join
theorem x8{scope:Scope}{env:Env}{x:Str}(hcell:∀y∈scope.names,y.2≠.cell)(h:(NN scope env).names.lookup x=some .cell\/(NN scope env).names.lookup x=some .free):(x,OI)∈scope.names:=by
 have hm:∃k,(k=NameKind.cell\/k=OI)/\(x,k)∈(NN scope env).names:=by
  rcases h with h|h
  .exact⟨_,.inl rfl,lx h⟩
  .exact⟨_,.inr rfl,lx h⟩
 obtain⟨k,hk,hm⟩:=hm;obtain⟨⟨n,k'⟩,hin,e⟩:=List.mem_map.mp hm;dsimp only at e;by_cases hc:(k'==OI&&env.scope.kind==.function&&env.kindOf n==some .cell)=true
 .rw[if_pos hc]at e;cases e;have:k'=OI:=by
   rw[Ly,Ly]at hc;exact Pc hc.1.1
  rw[<-this];exact hin
 .rw[if_neg hc]at e;cases e;rcases hk with hk|hk
  .exact absurd hk (hcell _ hin)
  .rw[<-hk];exact hin
section
variable {X:Cx}{pins:List (Addr×Obj)}{σ:St}{H:Hp}{s:KJ}
theorem Inv.adopt{D:Addr}{ys:List V}{its:List KG}{n:Nat}(I:Inv X pins σ H s)(hn:H D=none)(hnew:X.s₀.heap.objs.size<=D)(hL:D≠X.env.locals)(hc:∀x c,X.env.cells.lookup x=some c->c≠D)(hp:∀p∈X.pn++pins,p.1≠D)
  (e:s.heap.get? D=some { cls:=.type "list",data:=.seq its.toArray n })(hv:aS ys its)(hz:ys.length<=KP):Inv X pins σ (upd H D (.lst ys)) s:=by
 have ne:∀b u,H b=some u->b≠D:=λb u q=>a7 q hn;refine⟨I.ok,I.os,I.bare,⟨I.base.keep,I.base.slot,λb o q nn hx=>?_,I.base.there,λb xs q=>?_,λb o u q=>?_,λb ps q=>?_⟩,I.loc,I.cell,?_,λx c q=>?_,λp hq=>?_,λb u q=>?_,I.len⟩
 .rw[aq (KZ (K6 (KR q) hnew))];exact I.base.free b o q nn hx
 .have z:=I.base.tups b xs q;rw[aq (ne b _ z)];exact z
 .have z:=I.base.frzs b o u q;rw[aq (ne b _ z)];exact z
 .obtain⟨more,z⟩:=I.base.tbls b ps q;exact⟨more,by rw[aq (ne b _ z)];exact z⟩
 .rw[aq (Lp hL)];exact I.free
 .rw[aq (hc x c q)];exact I.freeC x c q
 .obtain⟨a1,a2,a3⟩:=I.pin p hq;exact⟨a1,by rw[aq (hp p hq)];exact a2,a3⟩
 .by_cases hb:b=D
  .subst hb;rw[ah]at q;cases q;exact⟨hz,its,n,hv,e⟩
  .rw[aq hb]at q;exact(I.hok b u q).stay (λc v _ r=>r) (λc r=>by rw[aq (ne c _ r)];exact r) λc xs r=>by rw[aq (ne c _ r)];exact r
structure AJ(X:Cx)(pins:List (Addr×Obj))(σ:St)(C D:Addr)(H:Hp)(s:KJ):Prop where
 inv:Inv X pins σ H s
 ns:∃m,s.heap.Ns C m
 nL:C≠X.env.locals
 new:X.s₀.heap.objs.size<=C
 nc:∀x c,X.env.cells.lookup x=some c->c≠C
 np:∀p∈X.pn++pins,p.1≠C
 free:H C=none
theorem AJ.gone{C D:Addr}{h':Heap}(O:AJ X pins σ C D H s)(sb:M8 C s.heap h'):Inv X pins σ H { s with heap:=h' }:=
 O.inv.turned (t':=s.toks) (it:=C) (λb o hb e=>(sb.2 b hb).trans e) O.free O.nL (.inr O.new) O.nc O.np
end

inductive gLC(J:It)(g:TG)(tc:TT)(te:TE)(n:Nat)(cv:St)(Fin:List V->Hp->Prop)(H1:Hp):Prop
 |mk(W:Nat->Nat->List V->Hp->Prop)(_:∃m,W 0 m [] H1)(_:∀i m ys H,W i m ys H->(J.stop i H/\Fin ys H)\/(J.go i H/\ys.length<KP/\∃N:List V->Hp->Prop,(∀ys' H',N ys' H'->∃m',m'<m/\W (i+1) m' ys' H')/\∀x H',J.yld i H x H'->∀own:St,own.length=n->g x (own++cv) H' λσ2 H2=>(∃own2:St,own2.length=n/\σ2=own2++cv)/\tc σ2 H2 λb H3=>if b=true then te σ2 H3 λy H4=>N (ys++[y]) H4 else N ys H3))

def uU(env:Env):List (Str×O6)->List (Str×Addr)->List (Str×Addr)
 |[],acc=>acc
 |(n,k)::r,acc=>uU env r (if k==.free then(match env.cells.lookup n with|some c=>(n,c)::acc|none=>acc)else acc)
theorem x9(env:Env):∀(names:List (Str×O6))(acc:List (Str×Addr)),sV env acc->sV env (uU env names acc)
 |[],_,h=>h
 |(n,k)::r,acc,h=>by
  refine x9 env r _ ?_
  split
  .split
   .exact⟨by assumption,h⟩
   .exact h
  .exact h
structure sW(X:Cx)(scope:Scope)(cl:List (Str×Addr))(own caps:List Str)(js:List Nat):Prop where
 clos:closureFor scope X.env=pure cl
 cell:∀y∈scope.names,y.2≠.cell
 kind:scope.kind=.function
 names:∀y∈scope.names,y.2=.local->scope.names.lookup y.1=some .local
 allc:sV X.env cl
 free:(scope.names.all λy=>y.2 != .free||(cl.lookup y.1).isSome)=true
 cap:ly X scope cl caps js

theorem gq{X:Cx}{scope:Scope}{own caps:List Str}{js:List Nat}(clos:closureFor scope X.env=pure (uU X.env scope.names []):=by with_unfolding_all rfl)(cell:∀y∈scope.names,y.2≠.cell:=by decide)(kind:scope.kind=.function:=by rfl)
  (names:∀y∈scope.names,y.2=.local->scope.names.lookup y.1=some .local:=by decide)(free:(scope.names.all λy=>y.2 != .free||((uU X.env scope.names []).lookup y.1).isSome)=true:=by with_unfolding_all rfl)
  (cap:ly X scope (uU X.env scope.names []) caps js):sW X scope (uU X.env scope.names []) own caps js:=⟨clos,cell,kind,names,x9 _ _ _ trivial,free,cap⟩
section
variable {X:Cx}{elt iter target:Expr}{ifs:List Expr}{scope:Scope}{cl:List (Str×Addr)}{pos:Pos}{own caps:List Str}{js:List Nat}{g:TG}{tc:TT}{te:TE}
theorem x_{pins:List (Addr×Obj)}{σ:St}{s₂:KJ}{H1:Hp}{it:Addr}{fp:List Addr}{tn:Nat->Heap->Prop}{J:It}{Fin:List V->Hp->Prop}{RR:KG->Addr->Oe->KJ->Prop}{E:KG->KJ->Prop}
  (hc:X.calm=true)(L:sW X scope cl own caps js)
  (hg:∀s H C ex,PG (X.blk (own++caps) s H scope cl C ex) target g)(ht:∀s H C ex,PTs (X.blk (own++caps) s H scope cl C ex) ifs tc)(he:∀s H C ex,PE (X.blk (own++caps) s H scope cl C ex) elt te)
  (I2:Inv X pins σ H1 s₂)(T:mU X.prog X.w X.K target J fp it tn)(st2:tn 0 s₂.heap)(f2:∀b∈fp,qk X pins H1 b)
  (G:gLC J g tc te own.length (qu σ js) Fin H1)
  (hRR:∀D C H ys s',H D=none->AJ X pins σ C D (upd H D (.lst ys)) s'->Fin ys H->RR (.ref D) C (.ok .next) s') :
  Lc (Lh X.prog X.w) X.A (newList []) (λacc s₃=>Lc (Lh X.prog X.w) X.A (newFunctionEnv scope X.env.globals cl [] X.env.qual none .none (some X.env)) (λcenv s₄ =>
   Ny (Lh X.prog X.w) X.A (.compStart (.ListComp elt [⟨target,iter,ifs,0⟩] scope pos) 0 (.ref it) acc { cenv with scope:=NN scope X.env }) (RR acc cenv.locals) s₄) E s₃) E s₂:=by
 refine OE (wpAny_newFunctionEnv L.cell (by intro y hy;simp at hy) (λh₁ hns₁ hsb₁=>?_) L.kind);dsimp only at hns₁ hsb₁⊢;generalize hH2:s₂.heap.push { cls:=.type "list",dict:=none,data:=.seq ([]:List KG).toArray }=G2 at hns₁ hsb₁⊢;have hC:G2.objs.size=s₂.heap.objs.size+1:=by rw[<-hH2,Nh]
 have up2:∀b o,s₂.heap.get? b=some o->G2.get? b=some o:=λb o e=>hH2▸KU _ e;have hDC:s₂.heap.objs.size≠G2.objs.size:=by rw[hC];exact KZ (MT _)
 have hD2:G2.get? s₂.heap.objs.size=some { cls:=.type "list",data:=.seq ([]:List KG).toArray ([]:List KG).length }:=hH2▸Ld _ rfl
 -- the state with the list laid
 have I3:Inv X pins σ H1 { s₂ with heap:=G2 }:=I2.kept (t':=s₂.toks) up2;have up3:∀b o,G2.get? b=some o->h₁.get? b=some o:=λb o e=>hsb₁.extBut b o (KZ (KR e)) (KU _ e);have DH:H1 s₂.heap.objs.size=none:=I2.fresh;have CH:H1 G2.objs.size=none:=I3.fresh;have fpl:∀b∈fp,b<s₂.heap.objs.size:=λb hb=>by
  obtain⟨o,e,_⟩:=T.obj 0 _ st2 b hb;exact KR e
 have celllt:∀x c,X.env.cells.lookup x=some c->c<s₂.heap.objs.size:=λx c e=>by
  obtain⟨v,q⟩:=I2.cell x c e;exact q.lt
 have locl:X.env.locals<s₂.heap.objs.size:=I2.lt;generalize hD:s₂.heap.objs.size=D at *;generalize hCC:G2.objs.size=C at *;have hDltC:D<C:=by omega
 have noF:∀b,b∈frs X.stack->b<D:=λb hb=>by
  rcases List.mem_cons.mp (I2.stkSub b hb)with e|hb
  .rw[e];exact locl
  .obtain⟨_,o,ho,_⟩:=I2.ok.funs.mem hb;exact K6 (KR ho) (hD▸I2.sz)
 have fpF:∀b∈fp,b∉frs X.stack:=λb hb z=>by
  obtain⟨_,e1,e2,_⟩:=f2 b hb;rcases List.mem_cons.mp (I2.stkSub b z)with e|z
  .exact e1 e
  .exact e2 z
 have ok':(X.blk (own++caps) { s₂ with heap:=G2 } H1 scope cl C (D::fp)).Ok:={
  mod:=I2.ok.mod
  kind:=L.kind
  glob:=I2.ok.glob
  blt:=I2.ok.blt
  above:=Pp hCC
  inj:=λx y c e1 e2=>I2.ok.inj x y c (L.allc.get e1) (L.allc.get e2)
  has:=λx hx=>by
   have hm:=x8 L.cell hx;have q:=List.all_eq_true.mp L.free _ hm;have q':(cl.lookup x).isSome=true:=by simpa using q
   exact Option.isSome_iff_exists.mp q'
  cab:=λx c e=>nomatch e
  hd:=I2.ok.hd
  frames:=I2.ok.frames
  stk:=.inl rfl
  exf:=λb hb=>by
   rcases List.mem_cons.mp hb with rfl|hb
   .exact⟨KZ hDltC,λx c e=>KZ (celllt x c (L.allc.get e))⟩
   .obtain⟨_,e1,e2,_,e4,_⟩:=f2 b hb;exact⟨KZ (MQ (fpl b hb) hDltC),λx c e=>e4 x c (L.allc.get e)⟩
  bs:=λb o e=>⟨up2 b o (I2.bs b o e).1,(I2.bs b o e).2⟩
  bsz:=by
   show X.base.objs.size<=G2.objs.size;have:=I2.ok.bsz;have:=I2.sz;omega
  noex:=λb o e hb=>by
   have hlt:=KR (I2.bs b o e).1;rcases List.mem_cons.mp hb with z|hb
   .exact absurd (show b<D from hD▸hlt) (by rw[z];exact Me _)
   .obtain⟨_,_,_,e3,_⟩:=f2 b hb;rcases e3 with e3|e3
    .exact I2.ok.noex b o e e3
    .exact absurd (K6 (KR (I2.ok.bs b o e).1) e3) (Me _)
  exfs:=λb hb z=>by
   rcases List.mem_cons.mp hb with e|hb
   .exact absurd (noF b z) (by rw[e];exact Me _)
   .exact fpF b hb z
  funs:=I3.stack
  frf:=I3.stkFree }
 have hns:h₁.Ns C (λx=>([]:List (Str×KG)).reverse.lookup x):=hns₁;have i6:Inv (X.blk (own++caps) { s₂ with heap:=G2 } H1 scope cl C (D::fp)) [(D,OF [])] (KB own.length none++qu σ js) H1 { s₂ with heap:=h₁,toks:=s₂.toks+([]:List (Str×KG)).length }:=by
  refine⟨ok',rfl,I2.bare,Un.kept up3,⟨_,hns,λi x v e1 e2 e3=>?_⟩,λx c e=>?_,CH,λx c e=>I2.freeC x c (L.allc.get e),λp hp=>?_,I3.hok.kept up3,?_⟩
  .have hlo:own.length<=i:=by
    refine N3 λhlt=>?_;rw[LO (by rw[Lx];exact hlt),NF,if_pos hlt]at e2;cases e2
   have e1':caps[i-own.length]?=some x:=by rw[<-LS hlo];exact e1
   obtain⟨j,j1,j2,j3,j4,j5⟩:=L.cap.get e1';have e2':(qu σ js)[i-own.length]?=some (some v):=by
    rw[<-e2,LS (by rw[Lx];exact hlo),Lx]
   have e4:σ[j]?=some (some v):=by
    unfold qu at e2';rw[KS,j1]at e2';have e5:(σ[j]?).join=some v:=Lm e2';cases hq:σ[j]? with
    |none=>rw[hq]at e5;cases e5
    |some q=>rw[hq]at e5;exact congrArg some e5
   obtain⟨m,hn,hl⟩:=I2.loc;obtain⟨u,ru,lk⟩:=hl j x v j2 e4 (.inr j3);refine⟨u,ru,.inr ⟨j5,?_⟩⟩;rcases lk with⟨k,_⟩|⟨_,c,ec,o,ho,hd⟩
   .rcases j3 with z|z<;>(rw[k]at z;cases z)
   .obtain⟨c',ec'⟩:=Option.isSome_iff_exists.mp j4;have:=L.allc.get ec';rw[ec]at this;cases this;exact⟨c,ec',o,up3 _ _ (up2 _ _ ho),hd⟩
  .obtain⟨v,o,ho,hd⟩:=I2.cell x c (L.allc.get e);exact⟨v,o,up3 _ _ (up2 _ _ ho),hd⟩
  .have e:p=(D,OF []):=by simpa using hp
   subst e;exact⟨up3 _ _ hD2,DH,KZ hDltC,λz=>absurd (noF D z) (Me _),λv z=>by cases z⟩
  .rw[KI,KI,Lx];unfold qu;rw[KA,L.cap.len]
 obtain⟨W,⟨m0,w0⟩,turn⟩:=G;have loop:Ny (Lh X.prog X.w) X.A (.compLoop (.ListComp elt [⟨target,iter,ifs,0⟩] scope pos) 0 (.ref it) (.ref D) (compEnvC scope cl C X.env)) (RR (.ref D) C) { s₂ with heap:=h₁,toks:=s₂.toks+([]:List (Str×KG)).length }:=by
  refine x6 (λn s'=>∃i ys its ow H',Inv (X.blk (own++caps) { s₂ with heap:=G2 } H1 scope cl C (D::fp)) [(D,OF its)] (ow++qu σ js) H' s'/\ow.length=own.length/\tn i s'.heap/\(∀b∈fp,H' b=none)/\aS ys its/\ys.length<=KP/\W i n ys H') ?_ m0
   ⟨0,[],[],KB own.length none,H1,i6,Lx,T.keep _ _ _ st2 λb _ o e=>up3 _ _ (up2 _ _ e),λb hb=>(f2 b hb).1,.nil,Ls _,w0⟩
  rintro n s' ⟨i,ys,its,ow,H',I',hlo,st,fr,hv,hz,wv⟩;have fpok:∀{H'':Hp},(∀b∈fp,H'' b=none)->∀b∈fp,qk (X.blk (own++caps) { s₂ with heap:=G2 } H1 scope cl C (D::fp)) [(D,OF its)] H'' b:=λhn b hb=>by
   obtain⟨_,e1,e2,e3,e4,e5⟩:=f2 b hb;refine⟨hn b hb,KZ (MQ (fpl b hb) hDltC),fpF b hb,.inl (KN _ hb),λx c e=>e4 x c (L.allc.get e),λp hp=>?_⟩;have e:p=(D,OF its):=by simpa using hp
   subst e;exact Mx (fpl b hb)
  rcases turn i n ys H' wv with⟨stop,fin⟩|⟨go,hlt,N,hN,step⟩
  .refine LJ (T.done (X.blk (own++caps) { s₂ with heap:=G2 } H1 scope cl C (D::fp)) rfl rfl rfl hc i _ s' _ H' (λ_ _=>False) I' (fpok fr) st stop) (λr s4 ⟨hr,I4⟩=>?_) λ_ _ f=>f;subst hr;have pD:=I4.pin (D,OF its) (by simp);have hch:∀b∈D::fp,(b∈X.ex\/X.s₀.heap.objs.size<=b)/\b≠X.env.locals/\(∀x c,X.env.cells.lookup x=some c->c≠b)/\∀p∈X.pn++pins,p.1≠b:=λb hb=>by
    rcases List.mem_cons.mp hb with rfl|hb
    .exact⟨.inr (hD▸I2.sz),Mx locl,λx c e=>KZ (celllt x c e),λp hp=>KZ (hD▸KR (I2.pin p hp).1)⟩
    .obtain⟨_,e1,e2,e3,e4,e5⟩:=f2 b hb;exact⟨e3,e1,e4,e5⟩
   have IX:Inv X pins σ H' s4:=I2.call' (ch:=D::fp) I4.os ((Un.kept up2).trans I4.base) I4.hok I4.bare hch;have cD:=hch D KO;have IA:Inv X pins σ (upd H' D (.lst ys)) s4:=IX.adopt pD.2.1 (hD▸I2.sz) cD.2.1 cD.2.2.1 cD.2.2.2 pD.1 hv hz;obtain⟨mm,hmm,_⟩:=I4.loc;refine hRR D C H' ys s4 pD.2.1 ⟨IA,⟨mm,hmm⟩,Mx (MQ locl hDltC),?_,λx c e=>KZ (MQ (celllt x c e) hDltC),λp hp=>?_,?_⟩ fin
   .have:=I2.sz;omega
   .exact KZ (MQ (show p.1<D from hD▸KR (I2.pin p hp).1) hDltC)
   .rw[aq (Mx hDltC)];exact I4.free
  .refine LJ (T.item (X.blk (own++caps) { s₂ with heap:=G2 } H1 scope cl C (D::fp)) rfl rfl rfl hc i _ s' _ H' (λ_ _=>False) I' (fpok fr) st go) (λr s4 ⟨u,hr,h4⟩=>?_) λ_ _ f=>f;subst hr;refine LJ h4 (λ_ s5 ⟨x,H5,I5,r5,y5,st5,fr5⟩=>?_) λ_ _ f=>f;have I5':=I5.pinned (fpok fr5) (T.obj _ _ st5);have keepT:∀{σ8:St}{H8:Hp}{s8:KJ},Inv (X.blk (own++caps) { s₂ with heap:=G2 } H1 scope cl C (D::fp)) ([(D,OF its)]++ql fp s5.heap) σ8 H8 s8->tn (i+1) s8.heap/\∀b∈fp,H8 b=none:=λ{σ8 H8 s8} I8 =>
    ⟨T.keep _ _ _ st5 fun b hb o e=>(I8.pin (b,o) (LU _ (LU _ (lq hb e)))).1,fun b hb=>by
     obtain⟨o,e,d⟩:=T.obj _ _ st5 b hb;exact(I8.pin (b,o) (LU _ (LU _ (lq hb e)))).2.1⟩
   refine LJ (hg _ _ _ _ _ s5 _ H5 x u _ I5' r5 (step x H5 y5 ow hlo)) (λ_ s6 ⟨σ6,H6,I6,⟨own2,hl2,e6⟩,q6⟩=>?_) λ_ _ f=>f;subst e6;refine LJ (ht _ _ _ _ _ s6 _ H6 _ I6 q6) (λb s7 ⟨H7,I7,q7⟩=>?_) λ_ _ f=>f;cases b with
   |false =>
    rw[if_neg K5];rw[if_neg K5]at q7;obtain⟨m',hm,w7⟩:=hN _ _ q7;obtain⟨k1,k2⟩:=keepT I7;exact⟨m',hm,i+1,ys,its,own2,H7,I7.unpinned,hl2,k1,k2,hv,hz,w7⟩
   |true =>
    rw[if_pos rfl];rw[if_pos rfl]at q7;refine LJ (he _ _ _ _ _ s7 _ H7 _ I7 q7) (λy s8 ⟨vy,H8,I8,r8,n8⟩=>?_) λ_ _ f=>f;obtain⟨m',hm,w8⟩:=hN _ _ n8;obtain⟨k1,k2⟩:=keepT I8;have pD:=I8.pin (D,OF its) (by simp);have hyl:=hv.length;refine append_at (hsz:=by show its.toArray.size<=KP;rw[K2];omega) pD.1 λh9 hs9 hD9=>?_;have I9:Inv (X.blk (own++caps) { s₂ with heap:=G2 } H1 scope cl C (D::fp)) [] (own2++qu σ js) H8 { s8 with heap:=h9 }:=by
     refine(I8.pins_of (pins':=[]) λp hp=>nomatch hp).turned (t':=s8.toks) (it:=D) (λb o hb e=>(hs9.2 b hb).trans e) pD.2.1 (KZ hDltC) (.inl KO) (λx c e=>KZ (celllt x c (L.allc.get e))) λp hp=>?_;simp at hp
    refine⟨m',hm,i+1,ys++[vy],its++[y],own2,H8,I9.pins_of λp hp=>?_,hl2,T.keep _ _ _ k1 λb hb o e=>(hs9.2 b (KZ (fpl b hb))).trans e,k2,hv.append (.cons r8 .nil),?_,w8⟩
    .have e:p=(D,OF (its++[y])):=by simpa using hp
     subst e;exact⟨hD9.trans (congrArg some (LCg.lst_snoc its y)),pD.2.1,KZ hDltC,λz=>absurd (noF D z) (Me _),λv z=>by cases z⟩
    .rw[KI,Li];omega
 exact codeAny_compStart_list loop (T.self _ _ _ _ _ (T.keep _ _ _ st2 λb _ o e=>up3 _ _ (up2 _ _ e)) loop)

def AK(wi:TI)(g:TG)(tc:TT)(te:TE)(n:Nat)(js:List Nat):TE:=λσ H Q=>wi σ H λJ H1=>gLC J g tc te n (qu σ js) (λys H=>∀p,H p=none->Q (.ref p) (upd H p (.lst ys))) H1
variable {wi:TI}
theorem Ce(hc:X.calm=true)(L:sW X scope cl own caps js)(hi:PI X target iter wi)
  (hg:∀s H C ex,PG (X.blk (own++caps) s H scope cl C ex) target g)(ht:∀s H C ex,PTs (X.blk (own++caps) s H scope cl C ex) ifs tc)(he:∀s H C ex,PE (X.blk (own++caps) s H scope cl C ex) elt te)
  (hs:∀x,MI iter X.env x=pure x:=by intro _;rfl):PE X (.ListComp elt [⟨target,iter,ifs,0⟩] scope pos) (AK wi g tc te own.length js):=by
 intro pins s σ H Q I h;rw[eval_ListComp];refine wpAny_comprehension_free (use:=none) rfl hs L.clos L.kind L.names (thn (hi pins s σ H _ I h) λv s1 h1=>thn h1 λitv s2 h2=>?_);obtain⟨it,fp,tn,J,H2,e,I2,T,st2,f2,G⟩:=h2;subst e;refine x_ hc L hg ht he I2 T st2 f2 G ?_;intro D C H3 ys s' hD O fin;obtain⟨m,hn⟩:=O.ns;exact⟨m,hn,λh' sb=>⟨.ref D,_,O.gone sb,rfl,fin D hD⟩⟩
theorem GQ{k:Nat}{y:Str}{py spos:Pos}(hc:X.calm=true)(L:sW X scope cl own caps js)(hi:PI X target iter wi)
  (hg:∀s H C ex,PG (X.blk (own++caps) s H scope cl C ex) target g)(ht:∀s H C ex,PTs (X.blk (own++caps) s H scope cl C ex) ifs tc)(he:∀s H C ex,PE (X.blk (own++caps) s H scope cl C ex) elt te)
  (hN:X.N.Nodup)(hk:X.N[k]?=some y)(hy:X.env.scope.names.lookup y=some .local)
  (hsw:N0 (.ListComp elt [⟨target,iter,ifs,0⟩] scope pos) (some (.Name y py)) spos.line X.env=pure true:=by rfl)
  (hs:∀x,MI iter X.env x=pure x:=by intro _;rfl):PS X (.Assign [.Name y py] (.ListComp elt [⟨target,iter,ifs,0⟩] scope pos) spos) (xP (AK wi g tc te own.length js) (bN k)):=by
 intro pins s σ H De I h;rw[exec_Assign_Name_used _ _ _ _ hsw];refine K3 (OH (K3 ?_));show Lc _ _ (do let _<-comprehension (.ListComp elt [⟨target,iter,ifs,0⟩] scope pos) scope X.env _ (newList []) false (eval iter X.env) (some (Pk (.Name y py) X.env))) _ _ s
 refine K3 (LJ (wpAny_comprehension_free (use:=some (Pk (.Name y py) X.env)) (Q:=λ_ s'=>SP X pins De .next s') rfl hs L.clos L.kind L.names
  (thn (hi pins s σ H _ I h) λv s1 h1=>thn h1 λitv s2 h2=>?_)) (λ_ s' hq=>Lz (Lz hq)) λ_ _ e=>e)
 obtain⟨it,fp,tn,J,H2,e,I2,T,st2,f2,G⟩:=h2;subst e;refine x_ hc L hg ht he I2 T st2 f2 G ?_;intro D C H3 ys s' hD O fin;show Lc _ _ (Pk (.Name y py) X.env (.ref D)) _ _ _;refine wpAny_assign_Name (vM O.inv hN hk (.inl hy) (show bg (.ref D) (.ref D)from rfl) (λs'' I'' sb=>?_) (.inr hy));obtain⟨a,hsb,ha⟩:=sb;have hne:C≠a:=by
  rcases ha with rfl|ha
  .exact O.nL
  .exact Lp (O.nc _ _ ha)
 obtain⟨m,hn⟩:=O.ns;refine⟨m,hn.sameBut hsb hne,λh' sb'=>⟨_,_,?_,fin D hD⟩⟩;exact I''.turned (t':=s''.toks) (it:=C) (λb o hb e=>(sb'.2 b hb).trans e) O.free O.nL (.inr O.new) O.nc O.np
end

section
variable {X:Cx}{elt iter:Expr}{ifs:List Expr}{scope:Scope}{cl:List (Str×Addr)}{pos:Pos}{caps:List Str}{js:List Nat}{tc:TT}{te:TE}{wi:TI}{x:Str}{px:Pos}
theorem DR{J:It}{cv:St}{Fin:List V->Hp->Prop}{H1:Hp}(h:∃W:Nat->Nat->List V->Hp->Prop,(∃m,W 0 m [] H1)/\∀i m ys H,W i m ys H->
  (J.stop i H/\Fin ys H)\/
  (J.go i H∧ys.length < KP∧∃ N:List V→Hp→Prop,(∀ ys' H',N ys' H'→∃ m',m' < m∧W (i+1) m' ys' H')∧∀ x H',J.yld i H x H' →
   tc (some x::cv) H' λb H3=>if b=true then te (some x::cv) H3 λy H4=>N (ys++[y]) H4 else N ys H3)):gLC J (bN 0) tc te 1 cv Fin H1:=by
 obtain⟨W,w0,turn⟩:=h;refine⟨W,w0,λi m ys H w=>?_⟩;rcases turn i m ys H w with⟨a,b⟩|⟨a,b,N,hN,c⟩
 .exact .inl ⟨a,b⟩
 .refine .inr ⟨a,b,N,hN,λv H' y own ho=>?_⟩
  match own,ho with
  |[τ],_=>exact⟨⟨[some v],rfl,rfl⟩,c v H' y⟩
def tLC(wi:TI)(tc:TT)(te:TE)(js:List Nat):TE:=AK wi (bN 0) tc te 1 js
theorem i7(hc:X.calm=true)(L:sW X scope cl [x] caps js)(hi:PI X (.Name x px) iter wi)
  (ht:∀s H C ex,PTs (X.blk (x::caps) s H scope cl C ex) ifs tc)(he:∀s H C ex,PE (X.blk (x::caps) s H scope cl C ex) elt te)
  (hN:(x::caps).Nodup:=by decide)(hx:(NN scope X.env).names.lookup x=some .local:=by with_unfolding_all rfl)
  (hs:∀x,MI iter X.env x=pure x:=by intro _;rfl):PE X (.ListComp elt [⟨.Name x px,iter,ifs,0⟩] scope pos) (tLC wi tc te js):=
 Ce (own:=[x]) (g:=bN 0) hc L hi (λs H C ex=>bw (i:=0) hN rfl (.inl hx) (.inr hx)) ht he hs
theorem ui{k:Nat}{y:Str}{py spos:Pos}(hc:X.calm=true)(L:sW X scope cl [x] caps js)(hi:PI X (.Name x px) iter wi)
  (ht:∀s H C ex,PTs (X.blk (x::caps) s H scope cl C ex) ifs tc)(he:∀s H C ex,PE (X.blk (x::caps) s H scope cl C ex) elt te)
  (hXN:X.N.Nodup)(hk:X.N[k]?=some y)(hy:X.env.scope.names.lookup y=some .local)(hN:(x::caps).Nodup:=by decide)(hx:(NN scope X.env).names.lookup x=some .local:=by with_unfolding_all rfl)
  (hsw:N0 (.ListComp elt [⟨.Name x px,iter,ifs,0⟩] scope pos) (some (.Name y py)) spos.line X.env=pure true:=by rfl)
  (hs:∀x,MI iter X.env x=pure x:=by intro _;rfl):PS X (.Assign [.Name y py] (.ListComp elt [⟨.Name x px,iter,ifs,0⟩] scope pos) spos) (xP (tLC wi tc te js) (bN k)):=
 GQ (own:=[x]) (g:=bN 0) hc L hi (λs H C ex=>bw (i:=0) hN rfl (.inl hx) (.inr hx)) ht he hXN hk hy hsw hs
theorem d7{K:KC}{a:Addr}{xs:List V}{cv:St}{Fin:List V->Hp->Prop}{H1:Hp}(Pv:Nat->List V->Hp->Prop)(h0:Pv 0 [] H1)(hl:∀i ys H,i<=xs.length->Pv i ys H->SqL K H a xs)(hz:∀i ys H,i<xs.length->Pv i ys H->ys.length<KP)
  (hs:∀i x ys H,xs[i]?=some x->Pv i ys H->tc (some x::cv) H λb H3=>if b=true then te (some x::cv) H3 λy H4=>Pv (i+1) (ys++[y]) H4 else Pv (i+1) ys H3)
  (hd:∀ys H,Pv xs.length ys H->Fin ys H):gLC (Itl K a) (bN 0) tc te 1 cv Fin H1:=by
 refine DR ⟨λi m ys H=>m=xs.length-i/\i<=xs.length/\Pv i ys H,⟨xs.length,by simp,Ls _,h0⟩,?_⟩;rintro i m ys H ⟨rfl,hi,p⟩;have q:=hl i ys H hi p;by_cases hlt:i<xs.length
 .refine .inr ⟨⟨xs,xs[i],q,by simp[hlt]⟩,hz i ys H hlt p,Pv (i+1),λys' H' p'=>⟨xs.length-(i+1),by omega,rfl,hlt,p'⟩,λv H' y=>?_⟩;obtain⟨e,y⟩:=y;subst e;exact hs i v ys _ (y xs q) p
 .have e:i=xs.length:=by omega
  subst e;exact .inl ⟨⟨xs,q,Kz _⟩,hd ys H p⟩
theorem ya{lo:Int}{n:Nat}{cv:St}{Fin:List V->Hp->Prop}{H1:Hp}(Pv:Nat->List V->Hp->Prop)(h0:Pv 0 [] H1)(hz:∀i ys H,i<n->Pv i ys H->ys.length<KP)
  (hs:∀i ys H,i<n->Pv i ys H->tc (some (.int (lo+i))::cv) H λb H3=>if b=true then te (some (.int (lo+i))::cv) H3 λy H4=>Pv (i+1) (ys++[y]) H4 else Pv (i+1) ys H3)
  (hd:∀ys H,Pv n ys H->Fin ys H):gLC (Itr lo n) (bN 0) tc te 1 cv Fin H1:=by
 refine DR ⟨λi m ys H=>m=n-i/\i<=n/\Pv i ys H,⟨n,by simp,Ls _,h0⟩,?_⟩;rintro i m ys H ⟨rfl,hi,p⟩;by_cases hlt:i<n
 .refine .inr ⟨hlt,hz i ys H hlt p,Pv (i+1),λys' H' p'=>⟨n-(i+1),by omega,rfl,hlt,p'⟩,λv H' y=>?_⟩;obtain⟨e,y⟩:=y;subst e y;exact hs i ys _ hlt p
 .have e:i=n:=by omega
  subst e;exact .inl ⟨Kz _,hd ys H p⟩
end

theorem eM{A B:Hp->Prop}{σ:St}{H:Hp}(h:A H):GP σ H (λb H3=>if b=true then A H3 else B H3):=by
 show if true=true then A H else B H;rw[if_pos rfl];exact h
theorem rV{α:Type}(x:α)(r:List α):atI (x::r) 0=some x:=a_ (j:=0) rfl

def Its(x:Str):It:=⟨λi _=>i<x.cps.size,λi H v H'=>H'=H/\∃c,x.cps[i]?=some c/\v=.str ⟨#[c]⟩,λi _=>i=x.cps.size⟩
theorem DS{P:K8}{w:K_}{K:KC}{tg:Expr}{x:Str}{t:Tok}{it:Addr}{n:String}(hn:["enumerate","zip","dict_itemiterator","dict_reverseitemiterator","odict_iterator","itertools.zip_longest","itertools.pairwise"].contains n=false)
  (W:∀A':LC,A'.handled=none->Walks P w A' it [it] [it] x.cps.size (SignAt x) (λi h=>h.IsStrIter it n x t i))
  (slf:∀(A:LC)(i:Nat)(s:KJ)(Q:KG->KJ->Prop)(E:KG->KJ->Prop),s.heap.IsStrIter it n x t i->Q (.ref it) s->Lc (Lh P w) A (PN (.ref it)) Q E s) :
  mU P w K tg (Its x) [it] it (λi h=>h.IsStrIter it n x t i) where
 mem:=by simp
 obj:=λi h st b hb=>by
  have e:b=it:=by simpa using hb
  subst e;obtain⟨o,e,c,d⟩:=st;exact⟨o,e,λv z=>by rw[d]at z;cases z⟩
 keep:=λi h h' st k=>let⟨o,ho,r⟩:=st;⟨o,k it (by simp) o ho,r⟩
 item:=by
  intro X hP hw hK hc i pins s σ H E I hf st hg;subst hP hw hK;obtain⟨f0,f1,f2,f3,f4,f5⟩:=hf it (by simp);refine(W X.A (I.ok.hd hc)).item i s _ _ hg st λv h' tk hv st' kk=>?_;obtain⟨c,u,hcx,rfl⟩:=hv;have I1:Inv X pins σ H { s with heap:=h',toks:=tk }:=I.turned (λb o hb e=>kk b o (by simpa using hb) e) f0 f1 f3 f4 f5;obtain⟨o,e,c',d⟩:=id st';exact⟨_,rfl,xb (s:={ s with heap:=h',toks:=tk }) e c' d hn ⟨.str ⟨#[c]⟩,H,I1,⟨u,rfl⟩,⟨rfl,c,hcx,rfl⟩,st',λb hb=>(hf b hb).1⟩⟩
 done:=by
  intro X hP hw hK hc i pins s σ H E I hf st hg;subst hP hw hK;obtain⟨f0,f1,f2,f3,f4,f5⟩:=hf it (by simp);have e:i=x.cps.size:=hg;subst e;exact(W X.A (I.ok.hd hc)).done s _ _ st λh' tk kk=>⟨rfl,I.turned (λb o hb e=>kk b o (by simpa using hb) e) f0 f1 f3 f4 f5⟩
 self:=slf
section
variable {X:Cx}{tg:Expr}
inductive IC(R:It->Hp->Prop)(v:V)(H1:Hp):Prop
 |mk(x)(_:v=.str x)(_:R (Its x) H1)
def Jw(tl:TE):TI:=λσ H R=>tl σ H (IC R)
theorem GR{l:Expr}{tl:TE}(hl:PE X l tl):PI X tg l (Jw tl):=by
 intro pins s σ H R I h;refine thn (hl pins s σ H _ I h) λv s1 ⟨x,H1,I1,r1,q1⟩=>?_;obtain⟨z,e,q⟩:=q1;subst e;obtain⟨t,rfl⟩:=r1;have go:∀n ob,["enumerate","zip","dict_itemiterator","dict_reverseitemiterator","odict_iterator","itertools.zip_longest","itertools.pairwise"].contains n=false->
   (∀A':LC,A'.handled=none->Walks X.prog X.w A' s1.heap.objs.size [s1.heap.objs.size] [s1.heap.objs.size] z.cps.size (SignAt z) (λi h=>h.IsStrIter s1.heap.objs.size n z t i))->
   (∀(A:LC)(i:Nat)(s:KJ)(Q:KG->KJ->Prop)(E:KG->KJ->Prop),s.heap.IsStrIter s1.heap.objs.size n z t i->Q (.ref s1.heap.objs.size) s->Lc (Lh X.prog X.w) A (PN (.ref s1.heap.objs.size)) Q E s)->
   (s1.heap.push ob).IsStrIter s1.heap.objs.size n z t 0->PIE X pins σ tg R (.ref s1.heap.objs.size) { s1 with heap:=s1.heap.push ob }:=λn ob hn W slf st=>by
  refine⟨s1.heap.objs.size,[s1.heap.objs.size],_,_,H1,rfl,I1.kept (t':=s1.toks) λb o e=>KU _ e,DS hn W slf,st,λb hb=>?_,q⟩;have e:b=s1.heap.objs.size:=by simpa using hb
  subst e;exact I1.fpOk (Kz _) (I1.hok.fresh (Kz _))
 cases ha:z.cps.all (· < 128)
 .exact wpAny_pyIter_wide ha (go "str_iterator" _ (by decide) (λA' hA=>Walks.strWide hA _ z t) (λ_ _ _ _ _ st h=>wpAny_pyIter_striter_wide st h) ⟨_,Ld _ rfl,rfl,rfl⟩)
 .exact wpAny_pyIter_ascii ha (go "str_ascii_iterator" _ (by decide) (λA' hA=>Walks.strAscii hA _ z t) (λ_ _ _ _ _ st h=>wpAny_pyIter_striter_ascii st h) ⟨_,Ld _ rfl,rfl,rfl⟩)
end
theorem GS{x:Str}{tc:TT}{te:TE}{cv:St}{Fin:List V->Hp->Prop}{H1:Hp}(Pv:Nat->List V->Hp->Prop)(h0:Pv 0 [] H1)(hz:∀i ys H,i<x.cps.size->Pv i ys H->ys.length<KP)
  (hs:∀i c ys H,x.cps[i]?=some c->Pv i ys H->tc (some (.str ⟨#[c]⟩)::cv) H λb H3=>if b=true then te (some (.str ⟨#[c]⟩)::cv) H3 λy H4=>Pv (i+1) (ys++[y]) H4 else Pv (i+1) ys H3)
  (hd:∀ys H,Pv x.cps.size ys H->Fin ys H):gLC (Its x) (bN 0) tc te 1 cv Fin H1:=by
 refine DR ⟨λi m ys H=>m=x.cps.size-i/\i<=x.cps.size/\Pv i ys H,⟨x.cps.size,by simp,Ls _,h0⟩,?_⟩;rintro i m ys H ⟨rfl,hi,p⟩;by_cases hlt:i<x.cps.size
 .refine .inr ⟨hlt,hz i ys H hlt p,Pv (i+1),λys' H' p'=>⟨x.cps.size-(i+1),by omega,rfl,hlt,p'⟩,λv H' y=>?_⟩;obtain⟨e,c,hc,y⟩:=y;subst e y;exact hs i c ys _ hc p
 .have e:i=x.cps.size:=by omega
  subst e;exact .inl ⟨rfl,hd ys H p⟩

section
variable {X:Cx}
theorem Cf{v:KG}{o:Option Int}(p:IsPart v o):∃l:Option (Int×Tok),v=partValue l/\o=l.map (·.1):=by
 cases p with
 |none=>exact⟨none,rfl,rfl⟩
 |int i t=>exact⟨some (i,t),rfl,rfl⟩
theorem kL:SlR X (λx lo hi H Q=>∃z,x=.str z/\z.length<=KP/\Q (.str (Txt.slice z lo hi)) H):=by
 intro pins s σ H x v vl vu lo hi sl Q I r hs pl pu h;obtain⟨z,rfl,hz,q⟩:=h;obtain⟨t,rfl⟩:=r;obtain⟨l,rfl,rfl⟩:=Cf pl;obtain⟨u,rfl,rfl⟩:=Cf pu;exact⟨"str",_,F.slot_str_getitem.lookup,Ov _ _ _,wpAny_getItem_str_slice (l:=l) (u:=u) (st:=none) hs rfl
  (post_val_or_str ⟨Ln (Txt.slice_le z _ _) hz,λt' k=>⟨.str (Txt.slice z _ _),H,I.tok k,⟨t',rfl⟩,q⟩⟩)⟩
inductive zx(x:V)(y:V)(H:Hp)(Q:VK):Prop
 |mk(z n)(_:x=.str z)(_:y=.int n)(_:MulOk z n)(_:Q (.str (Txt.mul z n)) H)
theorem bO:OpR X (Nt .Mult) zx:=by
 intro pins s σ H x y v u Q I rx ry h;obtain⟨z,n,rfl,rfl,hm,q⟩:=h;obtain⟨t,rfl⟩:=rx;obtain⟨t',rfl⟩:=ry;exact SB.mul hm λt'' k=>⟨.str _,H,I.tok k,⟨t'',rfl⟩,q⟩
theorem vW:∀(l:List (Str×Tok)),aS ((l.map (·.1)).map V.str) (strValues l)
 |[]=>.nil
 |p::r=>.cons ⟨p.2,rfl⟩ (vW r)
inductive AL(x:V)(xs:List V)(H:Hp)(Q:VK):Prop
 |mk(z c)(_:x=.str z)(_:xs=[.str ⟨#[c]⟩])(_:z.length+2<=KP)(_:∀p,H p=none->Q (.ref p) (upd H p (.lst ((Txt.split z ⟨#[c]⟩).map V.str))))
theorem Cg:MtR X "str.split" AL:=by
 intro pins s σ H x xs v us Q I rx r h;obtain⟨z,c,rfl,rfl,hz,q⟩:=h;obtain⟨t,rfl⟩:=rx;obtain⟨w',rfl,u,rfl⟩:=iq r;have hy:((⟨#[c]⟩:Str).length==0)=false:=rfl;have len:=split_le z ⟨#[c]⟩;have new:∀(l:List (Str×Tok))(k:Nat),l.map (·.1)=Txt.split z ⟨#[c]⟩->EP X pins σ Q (.ref s.heap.objs.size) { s with heap:=s.heap.push { cls:=.type "list",data:=.seq (strValues l).toArray },toks:=k }:=λl k e =>
  ⟨.ref _,_,I.lnew (t':=k) (vW l) (by rw[e,KA];exact Ln len hz),rfl,by rw[e];exact q _ I.fresh⟩
 cases h1:(decide (z.length<(⟨#[c]⟩:Str).length)||decide (Builtin.Str.strKind z<Builtin.Str.strKind ⟨#[c]⟩))
 .cases hf:(Mu z ⟨#[c]⟩ 0 z.length (z.length+1)).isEmpty
  .have e1:Txt.split z ⟨#[c]⟩=Builtin.Str.partsBetween z (Mu z ⟨#[c]⟩ 0 z.length (z.length+1)) (⟨#[c]⟩:Str).length:=
    (if_neg (ne_true_of_eq_false h1)).trans (if_neg (ne_true_of_eq_false hf))
   refine NC ON (Ov _ _ _) OG (Ow _ _) (meets_str_split_sep z ⟨#[c]⟩ t u h1 hy hf (by omega) (by rw[<-e1];omega)) ?_;show wants _ _ _ { s with toks:=_,heap:=s.heap.push { cls:=.type "list",data:=.seq (strsFrom s.toks (Builtin.Str.partsBetween z (Mu z ⟨#[c]⟩ 0 z.length (z.length+1)) (⟨#[c]⟩:Str).length)).toArray } };rw[strsFrom_eq];exact new _ _ ((numbered_texts _ _).trans e1.symm)
  .exact NC ON (Ov _ _ _) OG (Ow _ _) (meets_str_split_not_found z ⟨#[c]⟩ t u h1 hy hf)
    (new [(z,t)] _ ((if_neg (ne_true_of_eq_false h1)).trans (if_pos hf)).symm)
 .exact NC ON (Ov _ _ _) OG (Ow _ _) (meets_str_split_cannot_occur z ⟨#[c]⟩ t u h1)
   (new [(z,t)] _ (if_pos h1).symm)
theorem AM{ys:List Str}:∀{us:List KG},aS (ys.map V.str) us->StrsAre us ys:=by
 induction ys with
 |nil=>intro us h;cases h;exact .nil
 |cons y ys ih =>
  intro us h;cases h with
  |cons r t =>
   obtain⟨tk,rfl⟩:=r;exact .cons y tk (ih t)
inductive DT(K:KC)(x:V)(xs:List V)(H:Hp)(Q:VK):Prop
 |mk(sep a ys)(_:x=.str sep)(_:xs=[.ref a])(_:SqL K H a (ys.map V.str))(_:sep.length<=16)(_:(ys.map (·.length)).sum+ys.length<=1048576)(_:Q (.str (Txt.join sep ys)) H)
theorem zZ:MtR X "str.join" (DT X.K):=by
 intro pins s σ H x xs v us Q I rx r h;obtain⟨sep,a,ys,rfl,rfl,hS,h1,h2,q⟩:=h;obtain⟨t,rfl⟩:=rx;obtain⟨w',rfl,rfl⟩:=iq r;obtain⟨its,rv,p,hz⟩:=I.list hS;exact join_listW p.isList (AM (by simpa using rv)) h1 h2 λt' k=>⟨.str _,H,I.tok k,⟨t',rfl⟩,q⟩
inductive uV(xs:List V)(H:Hp)(Q:VK):Prop
 |mk(x n)(_:xs=[.str x])(_:PySem.intText? x=some n)(_:x.length<=640)(_:Q (.int n) H)
theorem pP:ip X (.type "int") uV:=by
 intro pins s σ H xs us Q I r h;obtain⟨x,n,rfl,hn,hl,q⟩:=h;obtain⟨u,rfl,t,rfl⟩:=iq r;exact PySem.W.KIN.call_text hn hl ⟨.int _,H,I.tok _,⟨_,rfl⟩,q⟩
end
end L2

namespace Tl
open PySem PySem.Builtin PySem.Builtin.Str L2

abbrev tx(l:List Nat):Str:=⟨l.toArray⟩
theorem AN(s:Str):s=tx s.cps.toList:=by cases s;rfl
theorem cB(a b:List Nat):tx a++tx b=tx (a++b):=by
 show(⟨a.toArray++b.toArray⟩:Str)=⟨(a++b).toArray⟩;rw[List.append_toArray]
theorem aZ(l:List Nat):(tx l).length=l.length:=by show l.toArray.size=_;simp
theorem eN{a b:List Nat}(h:tx a=tx b):a=b:=by
 have e:a.toArray=b.toArray:=congrArg Str.cps h;have e2:=congrArg Array.toList e;simpa using e2
theorem GT(l:List Nat)(i:Nat):(tx l).cps[i]?=l[i]?:=by show l.toArray[i]?=_;simp
theorem Fz(l:List Nat):(tx l).cps.size=l.length:=by show l.toArray.size=_;simp

def jb{α:Type}(l:List α)(lo hi:Option Int):List α:=(l.drop (HT.sIx l.length 0 lo)).take (HT.sIx l.length l.length hi-HT.sIx l.length 0 lo)
theorem rW(n d:Nat)(i:Int):max 0 (min (if i<0 then i+(n:Int)else i) (n:Int))=((HT.sIx n d (some i):Nat):Int):=by
 show _=(((if i<0 then(i+(n:Int)).toNat else min i.toNat n):Nat):Int);by_cases h:i<0
 .rw[if_pos h,if_pos h];omega
 .rw[if_neg h,if_neg h];omega
theorem qx(lo hi:Option Int)(n:Nat):strSliceIndices lo hi 1 n=OV ((HT.sIx n 0 lo:Nat):Int) ((HT.sIx n n hi:Nat):Int) 1:=by
 cases lo with
 |none =>
  cases hi with
  |none=>rfl
  |some j=>exact congrArg (λz=>OV 0 z 1) (rW n n j)
 |some i =>
  cases hi with
  |none=>exact congrArg (λz=>OV z (n:Int) 1) (rW n 0 i)
  |some j =>
   have a:=rW n 0 i;have b:=rW n n j;show OV (max 0 (min (if i<0 then i+(n:Int)else i) (n:Int))) (max 0 (min (if j<0 then j+(n:Int)else j) (n:Int))) 1=_;rw[a,b]
theorem fJ(l:List Nat)(lo hi:Option Int):Txt.slice (tx l) lo hi=tx (jb l lo hi):=by
 have h1:=HT.sIx_le l.length 0 (Ls _) lo;have h2:=HT.sIx_le l.length l.length (Kz _) hi;have ei:strSliceIndices lo hi 1 l.length=strSliceIndices (some ((HT.sIx l.length 0 lo:Nat):Int)) (some ((HT.sIx l.length l.length hi:Nat):Int)) 1 l.length:=by
  rw[qx lo hi,qx (some _) (some _),HT.sIx_nat,HT.sIx_nat,Na h1,Na h2]
 have e:Txt.slice (tx l) lo hi=StrLaws.sliceText (tx l) (some ((HT.sIx l.length 0 lo:Nat):Int)) (some ((HT.sIx l.length l.length hi:Nat):Int)):=by
  unfold Txt.slice StrLaws.sliceText;rw[aZ,ei]
 by_cases hab:HT.sIx l.length 0 lo<=HT.sIx l.length l.length hi
 .rw[e,StrLaws.sliceText_nat (tx l) hab (by rw[aZ];exact h2)];rfl
 .have e0:strSliceIndices lo hi 1 (tx l).length=[]:=by
   rw[aZ,qx];unfold OV;simp only[show(1:Int)>0 by decide,if_true];rw[if_neg (by omega)];rfl
  unfold Txt.slice;rw[e0];have hne:¬ (((1:Int)==1&&([]:List Nat).length==(tx l).length)=true):=by
   rw[aZ];intro h;have:0=l.length:=by simpa using h
   omega
  rw[if_neg hne];unfold jb;rw[Nat.sub_eq_zero_of_le (by omega),Ox];rfl
theorem cut_to{α:Type}(l:List α)(j:Nat):jb l none (some (j:Int))=l.take j:=by
 unfold jb;rw[HT.sIx_none,HT.sIx_nat,List.drop_zero,Nat.sub_zero];by_cases h:j<=l.length
 .rw[Na h]
 .rw[Nat.min_eq_right (by omega),K9 (Kz _),K9 (by omega)]
theorem cut_from{α:Type}(l:List α)(i:Nat):jb l (some (i:Int)) none=l.drop i:=by
 unfold jb;rw[HT.sIx_none,HT.sIx_nat];by_cases h:i<=l.length
 .rw[Na h,K9 (by rw[Nl];exact Kz _)]
 .rw[Nat.min_eq_right (by omega),Pu,Ox,NO (by omega)]
def c3{α:Type}(l:List α)(n:Nat):List α:=(KB n l).flatten
theorem kM{α:Type}(l:List α)(n:Nat):c3 l (n+1)=l++c3 l n:=by unfold c3;rw[LV,Mi]
theorem yb{α:Type}(l:List α):∀n:Nat,(c3 l n).length=n*l.length
 |0=>by simp[c3]
 |n+1=>by rw[kM,KI,yb l n,Nat.add_mul];omega
theorem yc(l:List Nat):∀(n:Nat)(acc:List Nat),(KB n l.toArray).foldl (·++·) acc.toArray=(acc++c3 l n).toArray
 |0,acc=>by simp[c3]
 |n+1,acc=>by
  rw[LV,O1,List.append_toArray,yc l n,kM,Ma]
theorem fY(l:List Nat)(n:Nat):Txt.mul (tx l) (n:Int)=tx (c3 l n):=by
 unfold Txt.mul;by_cases h1:(n:Int)<1
 .have e:n=0:=by omega
  subst e;rw[if_pos h1];rfl
 .rw[if_neg h1];by_cases h2:((n:Int)==1||(tx l).length==0)=true
  .rw[if_pos h2];rcases Bool.or_eq_true _ _▸h2 with h|h
   .have e:n=1:=by have:=Pc h;omega
    subst e;rw[kM];simp[c3]
   .have e:l=[]:=by
     have:=Pc h;rw[aZ]at this;exact List.eq_nil_of_length_eq_zero this
    subst e;have:∀k,c3 ([]:List Nat) k=[]:=λk=>by
     induction k with
     |zero=>rfl
     |succ k ih=>rw[kM,ih];rfl
    rw[this]
  .rw[if_neg h2];have:=yc l n [];have e:((n:Int)).toNat=n:=by omega
   rw[e];show(⟨(KB n l.toArray).foldl (·++·) #[]⟩:Str)=_;rw[show(#[]:Array Nat)=([]:List Nat).toArray from rfl,this,LA]
theorem sK{l:List Nat}{n:Nat}(h1:n<=100000)(h2:l.length<=100):MulOk (tx l) (n:Int):=by
 have hb:l.length*n<=10000000:=by
  have:=Nat.mul_le_mul h2 h1;omega
 refine⟨?_,λ_ _=>?_,λ_ _=>?_⟩
 .rw[decide_eq_false (by omega),decide_eq_false (by omega)];rfl
 .rw[aZ];have:(100:Int)<=(2^63-1)/(n:Int):=by
   by_cases e:n=0
   .omega
   .exact(Int.le_ediv_iff_mul_le (by omega)).mpr (by omega)
  omega
 .rw[aZ];unfold tooLong;have e:((n:Int)).toNat=n:=by omega
  rw[e];exact decide_eq_false (by show ¬ (_>16777216);omega)

def bv(c:Nat):List Nat->List (List Nat)
 |[]=>[[]]
 |x::r=>if x=c then[]::bv c r else match bv c r with
  |[]=>[[x]]
  |p::ps=>(x::p)::ps
theorem ge(c x:Nat)(r:List Nat):bv c (x::r)=if x=c then[]::bv c r else match bv c r with
  |[]=>[[x]]
  |p::ps=>(x::p)::ps:=rfl
theorem vX(c:Nat):∀l,bv c l≠[]
 |[]=>by simp[bv]
 |x::r=>by
  unfold bv
  split
  .simp
  .split<;>simp
def c_(sep:List Nat):List (List Nat)->List Nat
 |[]=>[]
 |[x]=>x
 |x::y::r=>x++sep++c_ sep (y::r)
theorem uW(sep:List Nat):∀ps:List (List Nat),Txt.join (tx sep) (ps.map tx)=tx (c_ sep ps):=by
 have go:∀ps:List (List Nat),P2 (tx sep) (ps.map tx)=tx (c_ sep ps):=by
  intro ps;induction ps with
  |nil=>rfl
  |cons x r ih =>
   cases r with
   |nil=>rfl
   |cons y r =>
    show tx x++tx sep++P2 (tx sep) (tx y::r.map tx)=_;rw[show P2 (tx sep) (tx y::r.map tx)=tx (c_ sep (y::r))from ih,cB,cB];rfl
 intro ps;show glued (tx sep) (ps.map tx)=_;rw[StrLaws.glued_eq_join];exact go ps
theorem sL(c:Nat):∀ps:List (List Nat),ps≠[]->(∀p∈ps,c∉p)->bv c (c_ [c] ps)=ps:=by
 have one:∀p:List Nat,c∉p->bv c p=[p]:=by
  intro p;induction p with
  |nil=>intro _;rfl
  |cons x r ih =>
   intro h;have hx:x≠c:=λe=>h (by rw[e];exact KO);rw[ge,if_neg hx,ih λz=>h (KN _ z)]
 have app:∀(p:List Nat)(l:List Nat),c∉p->bv c (p++c::l)=p::bv c l:=by
  intro p l;induction p with
  |nil =>
   intro _;show bv c (c::l)=_;rw[ge,if_pos rfl]
  |cons x r ih =>
   intro h;have hx:x≠c:=λe=>h (by rw[e];exact KO);show bv c (x::(r++c::l))=_;rw[ge,if_neg hx,ih λz=>h (KN _ z)]
 intro ps;induction ps with
 |nil=>intro h;exact absurd rfl h
 |cons x r ih =>
  intro _ h;cases r with
  |nil=>exact one x (h x KO)
  |cons y r =>
   show bv c (x++[c]++c_ [c] (y::r))=_;rw[Ma,show[c]++c_ [c] (y::r)=c::c_ [c] (y::r)from rfl,app _ _ (h x KO),ih (by simp) λp hp=>h p (KN _ hp)]
theorem DU(l:List Nat)(c:Nat):Txt.split (tx l) ⟨#[c]⟩=(bv c l).map tx:=by
 have h1:=StrLaws.join_split (tx l) ⟨#[c]⟩;have h2:=StrLaws.split_free (tx l) c;have h3:=PyProof.Rows.split_pos (tx l) ⟨#[c]⟩;obtain⟨ps,e⟩:∃ps:List (List Nat),Txt.split (tx l) ⟨#[c]⟩=ps.map tx:=⟨(Txt.split (tx l) ⟨#[c]⟩).map (λs=>s.cps.toList),by
  rw[Mt];exact(List.map_id' _).symm.trans (Mg λs _=>AN s)⟩
 rw[e]at h1 h2 h3;have e2:c_ [c] ps=l:=by
  have:=uW [c] ps;have h4:Txt.join (tx [c]) (ps.map tx)=P2 (tx [c]) (ps.map tx):=StrLaws.glued_eq_join _ _;rw[h4]at this;exact eN (this.symm.trans h1)
 have hne:ps≠[]:=by
  intro z;rw[z]at h3;simp at h3
 rw[e,<-e2,sL c ps hne λp hp=>?_];have:=h2 (tx p) (List.mem_map_of_mem hp);simpa using this
theorem E5(l:List Nat)(c:Nat):(!(occurrences (tx l) ⟨#[c]⟩ 0 (tx l).length 1).isEmpty)=decide (c∈l):=by
 have:=StrLaws.found_one (tx l) c;rw[this]
end Tl

namespace L2
open PySem PySem.Spec PyProof.Rows

section
variable {X:Cx}
end

section
variable {X:Cx}
end
structure bR(K:KC)(mg:Str->Option KG)(x:Str)(st:Stmt)(ps:List Str)(f:Addr)(fd:KY):Prop where
 fn:Fun K x x st f fd
 bd:gO K fd ps []
 mg:mg x=some (.ref f)
 ba:∀us:List KG,us.length=ps.length->OM fd ⟨us,[]⟩=pure (ps.zip us)
section
variable {X:Cx}{x:Str}{st:Stmt}{ps:List Str}{f:Addr}{fd:KY}{k:Nat}{sp:Sp}{e:Expr}{es:List Expr}{t:TA}{p pos:Pos}
theorem aD(D:bR X.K X.mg x st ps f fd)(G:aO X.prog X.w X.K X.mg X.base CX0 k f fd ps sp)(hr:cg k X.A)(hg:Gl X x)(ha:PA X (e::es) t)(hd:(x==("__debug__" : Str))=false:=by decide)
  (he:K7 (e::es) X.env=(false,eval e X.env)::K7 es X.env:=by rfl)(hpl:(MB pos (K7 es X.env)).any (·.1)=false:=by rfl):PE X (.Call (.Name x p) (e::es) [] pos) (uf sp [] E0 t):=rQ G hr hg D.mg D.fn.kp D.bd .nil ky ha hd he hpl
theorem DV{K:KC}{h:Heap}{mg:Str->Option KG}(KX:K.In h)(G:h.Ns Lr mg){od an:Option Addr}{sl:Array (Option KG)}{oc kV dc pm cd ct:KG}(a:LZ K Lr x=some (some (.ref f)))
  (l:K.lookup f=some ⟨oc,od,.func (L9 x x (cJ st) (ci st) (av st) .none kV dc pm an cd ct),sl⟩)(c:M7 K cd x=true)(k:My K (.ref f)=true)
  (b:∀(kV doc pm:KG)(an:Option Addr)(cdv ct:KG)(us:List KG),us.length=ps.length->OM (L9 x x (cJ st) (ci st) (av st) .none kV doc pm an cdv ct) ⟨us,[]⟩=pure (ps.zip us)) :
  bR K mg x st ps f (L9 x x (cJ st) (ci st) (av st) .none kV dc pm an cd ct):=
 ⟨uh l c k,(uh l c k).binds b,LW KX G a,λus hl=>b _ _ _ _ _ _ us hl⟩
end

theorem lE{t u:TS}{D:dS}{σ:St}{H:Hp}(Mid:St->Hp->Prop)(h2:∀σ' H',Mid σ' H'->u D σ' H')(h1:(∀σ' H',Mid σ' H'->u D σ' H')->t { D with nx:=u D } σ H):Gx t u D σ H:=h1 h2

def jc:List V->List V->Bool
 |[],[]=>true
 |a::r,b::s=>eqV a b&&jc r s
 |_,_=>false
theorem sX:∀{xs ys:List V},xs.length≠ys.length->jc xs ys=false
 |[],[],h=>absurd rfl h
 |[],_::_,_=>rfl
 |_::_,[],_=>rfl
 |a::r,b::s,h=>by
  show(eqV a b&&jc r s)=false;rw[sX (xs:=r) (ys:=s) (λe=>h (by rw[KH,KH,e])),NM]
theorem oF:∀{xs ys:List V},xs.length=ys.length->(Mh xs.length).all (λj=>eqV ((xs[j]?).getD .non) ((ys[j]?).getD .non))=jc xs ys
 |[],[],_=>rfl
 |[],_::_,h=>by simp at h
 |_::_,[],h=>by simp at h
 |a::r,b::s,h=>by
  have ih:=oF (xs:=r) (ys:=s) (by simpa using h);rw[KH,List.range_succ_eq_map,MF,Pw];show(eqV a b&&_)=(eqV a b&&jc r s);rw[<-ih];rfl
theorem DW:∀{x:V},dU x=true->eqV x x=true:=by
 intro x f;cases x with
 |non=>rfl
 |bl b=>show(b==b)=true;simp
 |int i=>show(i==i)=true;simp
 |str s=>show(s==s)=true;simp
 |_=>exact absurd (show false=true from f) K5
theorem vY:∀{xs:List V},xs.all dU=true->jc xs xs=true
 |[],_=>rfl
 |a::r,h=>by
  rw[MF,Ly]at h;show(eqV a a&&jc r r)=true;rw[DW h.1,vY h.2];rfl
section
variable {X:Cx}
theorem yd{xs:List V}(f:xs.all dU=true){j:Nat}{x:V}(h:xs[j]?=some x):dU x=true:=List.all_eq_true.mp f x (KL h)
theorem ye{A:LC}{s:KJ}{xs ys:List V}{its its2:List KG}(r:aS xs its)(r2:aS ys its2)(fx:xs.all dU=true)(fy:ys.all dU=true)(j:Nat)(h1:j<its.toArray.size)(h2:j<its2.toArray.size) :
  PV A s its.toArray[j] its2.toArray[j] (eqV ((xs[j]?).getD .non) ((ys[j]?).getD .non)):=by
 have l1:=r.length;have l2:=r2.length;have h1':j<its.length:=by simpa using h1
 have h2':j<its2.length:=by simpa using h2
 have e1:xs[j]?=some xs[j]:=KM (by omega);have e2:ys[j]?=some ys[j]:=KM (by omega);obtain⟨u,hu,ru⟩:=r.get e1;obtain⟨v,hv,rv⟩:=r2.get e2;have eu:its.toArray[j]=u:=by
  have:its[j]?=some its[j]:=KM h1';rw[hu]at this;simpa using this.symm
 have ev:its2.toArray[j]=v:=by
  have:its2[j]?=some its2[j]:=KM h2';rw[hv]at this;simpa using this.symm
 rw[eu,ev,e1,e2];exact B4 ru rv (yd fx e1) (yd fy e2)
inductive GU(K:KC)(neg:Bool)(x:V)(y:V)(H:Hp)(Q:VK):Prop
 |mk(a b xs ys)(_:x=.ref a)(_:y=.ref b)(_:SqL K H a xs)(_:SqL K H b ys)(_:xs.all dU=true)(_:ys.all dU=true)(_:Q (.bl (if neg then !jc xs ys else jc xs ys)) H)
theorem Ch(hu:X.A.units<OC):OpR X (Ml .Eq) (GU X.K false):=by
 intro pins s σ H x y v u Q I rx ry h;obtain⟨a,b,xs,ys,rfl,rfl,ha,hb,fx,fy,q⟩:=h;cases rx;cases ry;obtain⟨its,r,p,z⟩:=I.list ha;obtain⟨its2,r2,p2,z2⟩:=I.list hb;have l1:=r.length;have l2:=r2.length;by_cases hl:xs.length=ys.length
 .refine SeqAt.eq_listAt (e:=λj=>eqV ((xs[j]?).getD .non) ((ys[j]?).getD .non)) p.isList p2.isList (by simp;omega) hu (λj h1 h2=>ye r r2 fx fy j h1 h2) ⟨.bl _,H,I,rfl,?_⟩;have e:its.toArray.size=xs.length:=by simp;omega
  rw[e,oF hl];exact q
 .refine SeqAt.eq_list_lengthsAt p.isList p2.isList (by simp;omega) hu ⟨.bl false,H,I,rfl,?_⟩;have q':Q (.bl (jc xs ys)) H:=q;rw[sX hl]at q';exact q'
theorem GV(hu:X.A.units<OC):OpR X (Ml .NotEq) (GU X.K true):=by
 intro pins s σ H x y v u Q I rx ry h;obtain⟨a,b,xs,ys,rfl,rfl,ha,hb,fx,fy,q⟩:=h;cases rx;cases ry;obtain⟨its,r,p,z⟩:=I.list ha;obtain⟨its2,r2,p2,z2⟩:=I.list hb;have l1:=r.length;have l2:=r2.length;by_cases hl:xs.length=ys.length
 .refine SeqAt.RcNeAt.lists (e:=λj=>eqV ((xs[j]?).getD .non) ((ys[j]?).getD .non)) p.isList p2.isList (by simp;omega) hu (λj h1 h2=>ye r r2 fx fy j h1 h2) _ _ _ _ ⟨.bl _,H,I,rfl,?_⟩;have e:its.toArray.size=xs.length:=by simp;omega
  rw[e,oF hl];exact q
 .refine SeqAt.RcNeAt.lists_lengths p.isList p2.isList (by simp;omega) hu _ _ _ _ ⟨.bl true,H,I,rfl,?_⟩;have q':Q (.bl (!jc xs ys)) H:=q;rw[sX hl]at q';exact q'

inductive Ci(K:KC)(xs:List V)(H:Hp)(Q:VK):Prop
 |mk(l:Addr)(bs:List Bool)(_:xs=[.ref l])(_:SqL K H l (bs.map V.bl))(_:Q (.bl (bs.all id)) H)
theorem DX(hc:X.calm=true):ip X (.builtin "all") (Ci X.K):=by
 intro pins s σ H xs us Q I r h;obtain⟨l,bs,rfl,hl,q⟩:=h;obtain⟨u,rfl,ru⟩:=iq r;cases ru;obtain⟨its,rv,p,z⟩:=I.list hl;have hlt:l<s.heap.objs.size:=by obtain⟨_,_,e,_⟩:=p;exact KR e
 have len:=rv.length;refine call_all_walk (MH p.isList ?_);refine⟨s.heap.objs.size,[s.heap.objs.size,l],[s.heap.objs.size],its.toArray.size,_,_,λi=>(bs[i]?).getD true,rfl,Walks.list (A:=X.A.in1) (I.ok.hd hc) _ l (KZ hlt) its.toArray,
  ⟨⟨_,Ld _ rfl,rfl,rfl⟩,p.isList.push _⟩,λi v s' Q' E' hP hQ=>?_,λh' tk hk=>?_⟩
 .have hi:its[i]?=some v:=by simpa using hP
  have hlt2:i<bs.length:=by
   have:=(List.getElem?_eq_some_iff.mp hi).1;rw[KA]at len;omega
  have eb:(bs.map V.bl)[i]?=some (V.bl bs[i]):=by rw[KS,KM hlt2];rfl
  obtain⟨w',hw,rw'⟩:=rv.get eb;rw[hi]at hw;cases hw;cases rw';have e2:(bs[i]?).getD true=bs[i]:=by rw[KM hlt2];rfl
  have hQ2:Q' ((bs[i]?).getD true) s':=hQ;rw[e2]at hQ2;exact MY hQ2
 .have e:((Mh its.toArray.size).all λi=>(bs[i]?).getD true)=bs.all id:=by
   have:its.toArray.size=bs.length:=by rw[KA]at len;simp;omega
   rw[this];exact LSm.range_all bs
  rw[e];exact⟨.bl _,H,I.kept λb x e=>hk b x (λhm=>by rw[List.mem_singleton.mp hm]at e;exact Me _ (KR e)) (KU _ e),rfl,q⟩

inductive zy(y:V)(x:V)(H:Hp)(Q:VK):Prop
 |mk(a o)(_:x=.ref a)(_:kT H a y o)(_:Q (.bl o.isSome) H)
theorem uj(hu:X.A.units+1<OC):OpR X (Ml .In) zy:=by
 intro pins s σ H y x u v Q I ry rx h;obtain⟨a,o,rfl,g,q⟩:=h;cases rx;exact Jv hu I g ry λs' I'=>⟨.bl _,H,I',rfl,q⟩
inductive uX(y:V)(x:V)(H:Hp)(Q:VK):Prop
 |mk(a o)(_:x=.ref a)(_:kT H a y o)(_:Q (.bl (!o.isSome)) H)
theorem kU(hu:X.A.units+1<OC):OpR X (Ml .NotIn) uX:=by
 intro pins s σ H y x u v Q I ry rx h;obtain⟨a,o,rfl,g,q⟩:=h;cases rx;exact Fy hu I g ry λs' I'=>⟨.bl _,H,I',rfl,q⟩
end

inductive DD where
 |bl (b:Bool)
 |int (i:Int)
 |str (s:Str)
 |tup (l:List DD)
 |lst (l:List DD)
mutual
def DD.deep:DD->Nat
 |.bl _=>0
 |.int _=>0
 |.str _=>0
 |.tup l=>AO l+1
 |.lst l=>AO l+1
def AO:List DD->Nat
 |[]=>0
 |d::r=>max d.deep (AO r)
end
mutual
def Rep(K:KC)(H:Hp):DD->V->Prop
 |.bl b,v=>v=.bl b
 |.int i,v=>v=.int i
 |.str s,v=>v=.str s
 |.tup l,v=>∃a xs,v=.ref a/\SqT K H a xs/\l.length<=1000/\aB K H l xs
 |.lst l,v=>∃a xs,v=.ref a/\SqL K H a xs/\l.length<=1000/\aB K H l xs
def aB(K:KC)(H:Hp):List DD->List V->Prop
 |[],xs=>xs=[]
 |d::l,xs=>∃x r,xs=x::r/\Rep K H d x/\aB K H l r
end
theorem aB.len{K:KC}{H:Hp}:∀{l:List DD}{xs:List V},aB K H l xs->xs.length=l.length
 |[],xs,h=>by
  unfold aB at h;rw[h];rfl
 |d::l,xs,h=>by
  unfold aB at h;obtain⟨x,r,rfl,_,h⟩:=h;rw[KH,KH,h.len]
theorem aB.get{K:KC}{H:Hp}:∀{l:List DD}{xs:List V}{i:Nat}{d:DD},aB K H l xs->l[i]?=some d->∃x,xs[i]?=some x/\Rep K H d x
 |[],_,_,_,_,e=>by simp at e
 |d::l,xs,0,d',h,e=>by
  unfold aB at h;obtain⟨x,r,rfl,hx,h⟩:=h;have:d=d':=by simpa using e
  subst this;exact⟨x,rfl,hx⟩
 |d::l,xs,i+1,d',h,e=>by
  unfold aB at h;obtain⟨x,r,rfl,hx,h⟩:=h;obtain⟨y,ey,hy⟩:=h.get (i:=i) (by simpa using e);exact⟨y,by simpa using ey,hy⟩

def uY(P:K8)(w:K_)(K:KC)(a:Addr)(kvs:List (Key×V)):Prop:=(a==Mw)=false/\∃o vs,K.lookup a=some o/\KV kvs vs/\o.IsDictOf (bC P w) vs
section
variable {X:Cx}{o i:Expr}{pos:Pos}{td ty:TE}
theorem Inv.modD{pins:List (Addr×Obj)}{σ:St}{H:Hp}{s:KJ}(I:Inv X pins σ H s){a:Addr}{kvs:List (Key×V)}(m:uY X.prog X.w X.K a kvs):∃vs,KV kvs vs/\s.heap.DictOf (bC X.prog X.w) a vs:=by
 obtain⟨_,o,vs,hk,r,d⟩:=m;exact⟨vs,r,Heap.dictOf_iff.mpr ⟨o,I.kIn a o hk,d⟩⟩
theorem vZ:OpR X (Ml .In) (λy x H Q=>∃a kvs k,x=.ref a/\uY X.prog X.w X.K a kvs/\y=kV k/\Q (.bl (b8 kvs k).isSome) H):=by
 intro pins s σ H y x u v Q I ry rx h;obtain⟨a,kvs,k,rfl,m,rfl,q⟩:=h;cases rx;obtain⟨vs,rel,dd⟩:=I.modD m;refine wpAny_in_of (mI ry) m.1 dd.mapOf ?_;rw[<-(rel.val k).isSome_eq];exact⟨.bl _,H,I.tok _,rfl,q⟩
inductive FA(P:K8)(w:K_)(K:KC)(Q:VK)(x:V)(y:V)(H2:Hp):Prop
 |mk(a kvs k v)(_:x=.ref a)(_:uY P w K a kvs)(_:y=kV k)(_:b8 kvs k=some v)(_:Q v H2)
def GW(P:K8)(w:K_)(K:KC)(td ty:TE):TE:=λσ H Q=>td σ H λx H1=>ty σ H1 (FA P w K Q x)
theorem yf(ho:PE X o td)(hi:PE X i ty)(hs:DM i):PE X (.Subscript o i pos) (GW X.prog X.w X.K td ty):=by
 intro pins s σ H Q I h;refine zX PySem.F.slot_dict_getitem.lookup hs (thn (ho pins s σ H _ I h) λu s1 ⟨x,H1,I1,rx,q1⟩=>thn (hi pins s1 σ H1 _ I1 q1) λiv s2 ⟨y,H2,I2,ry,a,kvs,k,v,ex,m,ey,l,q2⟩=>?_);subst ex ey;obtain rfl:u=LG a:=rx;obtain⟨vs,rel,dd⟩:=I2.modD m;obtain⟨w',hw,rw'⟩:=gP.some_of (v:=v) (o:=OU vs k) (by rw[<-l];exact rel.val k);exact⟨dd.mapOf.typeIs,wpAny_getItem_of (mI ry) dd.mapOf hw ⟨v,H2,I2.tok _,rw',q2⟩⟩
end

def CXe(P:K8)(w:K_):CXT:=λouter H s E e s' =>
 ∃(x C:Addr)(H':Hp)(B:Heap)(a0:KG),e=.ref x/\s'.os=s.os/\N6 s'.gens/\Un (frs outer) [] H H' s.heap s'.heap/\HOk P w H' B/\
  (∀b o,s.heap.get? b=some o->H b=none->b∉frs outer->B.get? b=some o)/\(∀b o,s.heap.get? b=some o->b∉frs outer->∃o',B.get? b=some o')/\
  Om B outer x (.ref C) a0 s'.heap/\E (.ref C) none H'
def GX(X:Cx)(E:XK):Prop:=∀(pins:List (Addr×Obj))(σ:St)(H:Hp)(s:KJ)(x C:Addr)(vs:List KG)(h':Heap),Inv X pins σ H s->Heap.MadeExcOf s.heap h' x (.ref C) vs->E (.ref C) none H->X.xe (.ref x) { s with heap:=h' }
theorem z7{env:Env}{l:List Env}{b L:Addr}(hf:env.frame=some L)(h:b∈frs (env::l)):b=L\/b∈frs l:=by
 unfold frs at h;rw[ML,hf]at h;exact List.mem_cons.mp h
theorem FB(l:List Env):∀env∈l,∀a,env.frame=some a->a∈frs l:=λenv he a hf=>List.mem_filterMap.mpr ⟨env,he,hf⟩
section
variable {P:K8}{w:K_}{K:KC}{mg:Str->Option KG}{base:Heap}{N:List Str}{qual:Str}{scope:Scope}{f:Addr}{cd:KG}{A:LC}{outer:List Env}{s:KJ}{H:Hp}{E:XK}
theorem cj:GX (lP (CXe P w) P w K mg base N qual scope f cd A outer s H E) E:=by
 intro pins σ H1 s1 x C vs h' I hx ee;have hfr:(MC qual scope s.heap.objs.size f cd).frame=some (MC qual scope s.heap.objs.size f cd).locals:=rfl;have hst:=I.stack;have hfree:=I.stkFree;have hsub:=I.stkSub;show Lc (Lh P w) (A.deeper (MC qual scope s.heap.objs.size f cd)) (leaving (MC qual scope s.heap.objs.size f cd) (.ref x)) (λ_ s''=>CXe P w outer H s E (.ref x) s'') _ _;have hin:=FB (MC qual scope s.heap.objs.size f cd::outer);have hff:s1.heap.FunFrames (Nw s1.heap (frs (MC qual scope s.heap.objs.size f cd::outer))) (MC qual scope s.heap.objs.size f cd::outer):=PySem.W.funFrames_hide hst hin;have notfr:∀b,b<s.heap.objs.size->b∉frs outer->b∉frs (MC qual scope s.heap.objs.size f cd::outer):=λb hlt hb hm=>by
  rcases z7 hfr hm with e|hm
  .exact absurd (K6 hlt I.ok.above) (by rw[e];exact Me _)
  .exact hb hm
 refine wpAny_leaves_madeW (base:=Nw s1.heap (frs (MC qual scope s.heap.objs.size f cd::outer))) (h:=s1.heap) I.ok.frames hfr (λb o q=>PySem.W.of_hideAll _ q) hff hx λh'' t x1 x2 x3 x4=>?_;have cov1:∀b o,s.heap.get? b=some o->H b=none->b∉frs outer->(Nw s1.heap (frs (MC qual scope s.heap.objs.size f cd::outer))).get? b=some o:=λb o q n hb =>
  Np _ (I.base.keep b o q n hb (show b∉([]:List Addr) by simp)) (notfr b (KR q) hb)
 have cov2:∀b o,s.heap.get? b=some o->b∉frs outer->∃o',(Nw s1.heap (frs (MC qual scope s.heap.objs.size f cd::outer))).get? b=some o':=λb o q hb=>by
  obtain⟨o',e⟩:=I.base.there b o q (show b∉([]:List Addr) by simp);exact⟨o',Np _ e (notfr b (KR q) hb)⟩
 have slot:∀b,b∈frs outer->∀o,s1.heap.get? b=some o->∃sl,h''.get? b=some { o with slots:=sl }:=λb hb o q=>by
  have hm:b∈frs (MC qual scope s.heap.objs.size f cd::outer):=by
   unfold frs;rw[ML,hfr];exact KN _ hb
  obtain⟨_,o2,e2,nd⟩:=hff.mem hm;rw[q]at e2;cases e2;exact x4 b o (hx.keeps b o q) nd
 refine⟨x,C,H1,_,_,rfl,I.os,I.bare,⟨λb o q n hb _=>x1.1 b o (cov1 b o q n hb),λb o q n hb hx'=>?_,I.base.free,λb o q _=>?_,I.base.tups,I.base.frzs,I.base.tbls⟩,λb ob e=>?_,cov1,cov2,x1,ee⟩
 .obtain⟨sl,e1⟩:=I.base.slot b o q n hb hx';obtain⟨sl2,e2⟩:=slot b hb _ e1;exact⟨sl2,e2⟩
 .by_cases hb:b∈frs outer
  .obtain⟨o',e⟩:=I.base.there b o q (show b∉([]:List Addr) by simp);obtain⟨sl2,e2⟩:=slot b hb _ e;exact⟨_,e2⟩
  .obtain⟨o',e⟩:=cov2 b o q hb;exact⟨o',x1.1 b o' e⟩
 .refine(I.hok b ob e).stay (λc v hc q=>Np _ q λhm=>?_) (λ_ q=>q) λ_ _ q=>q;have z:=hfree c hm;rcases hc with rfl|hc
  .rw[e]at z;cases z
  .rw[hc]at z;cases z
theorem bI:dR (CXe P w) (lP (CXe P w) P w K mg base N qual scope f cd A outer s H E) E:=by
 intro pins σ H1 s1 e s' I h;obtain⟨x,C,H',B,a0,rfl,os,bare,un,hok,cov1,cov2,fl,ee⟩:=h;have hfr:(MC qual scope s.heap.objs.size f cd).frame=some (MC qual scope s.heap.objs.size f cd).locals:=rfl;show Lc (Lh P w) (A.deeper (MC qual scope s.heap.objs.size f cd)) (leaving (MC qual scope s.heap.objs.size f cd) (.ref x)) (λ_ s''=>CXe P w outer H s E (.ref x) s'') _ _;have notfr:∀b,b<s.heap.objs.size->b∉frs outer->b∉frs (MC qual scope s.heap.objs.size f cd::outer):=λb hlt hb hm=>by
  rcases z7 hfr hm with e|hm
  .exact absurd (K6 hlt I.ok.above) (by rw[e];exact Me _)
  .exact hb hm
 refine wpAny_leaves_onW I.ok.frames hfr fl λh'' f2 up=>?_;have c1:∀b o,s.heap.get? b=some o->H b=none->b∉frs outer->B.get? b=some o:=λb o q n hb =>
  cov1 b o (I.base.keep b o q n hb (show b∉([]:List Addr) by simp)) (I.base.free b o q n (show b∉([]:List Addr) by simp)) (notfr b (KR q) hb)
 have c2:∀b o,s.heap.get? b=some o->b∉frs outer->∃o',B.get? b=some o':=λb o q hb=>by
  obtain⟨o',e⟩:=I.base.there b o q (show b∉([]:List Addr) by simp);exact cov2 b o' e (notfr b (KR q) hb)
 have fm:∀b,b∈frs outer->b∈frs (MC qual scope s.heap.objs.size f cd::outer):=λb hb=>by
  unfold frs;rw[ML,hfr];exact KN _ hb
 refine⟨x,C,H',B,a0,rfl,os.trans I.os,bare,⟨λb o q n hb _=>f2.1 b o (c1 b o q n hb),λb o q n hb hx'=>?_,λb o q n hx'=>?_,λb o q _=>?_,λb xs q=>un.tups b xs (I.base.tups b xs q),λb o u q=>un.frzs b o u (I.base.frzs b o u q),λb ps q=>?_⟩,hok,c1,c2,f2,ee⟩
 .obtain⟨sl,e1⟩:=I.base.slot b o q n hb hx';obtain⟨sl2,e2⟩:=un.slot b _ e1 (I.base.free b o q n hx') (fm b hb) (by simp);obtain⟨_,o3,e3,nd⟩:=fl.2.2.1.mem (fm b hb);rw[e2]at e3;cases e3;obtain⟨sl3,e4⟩:=up b _ e2 nd;exact⟨sl3,e4⟩
 .obtain⟨o',e⟩:=I.base.there b o q hx';exact un.free b o' e (I.base.free b o q n hx') (by simp)
 .by_cases hb:b∈frs outer
  .obtain⟨_,o3,e3,_⟩:=f2.2.2.1.mem hb;exact⟨o3,e3⟩
  .obtain⟨o',e⟩:=c2 b o q hb;exact⟨o',f2.1 b o' e⟩
 .obtain⟨m1,e1⟩:=I.base.tbls b ps q;obtain⟨m2,e2⟩:=un.tbls b _ e1;exact⟨m1++m2,by rw[e2,Oo]⟩
end

abbrev GY:List KG:=[.type "ValueError",.type "Exception",.type "BaseException",.type "object"]
structure i8(K:KC)(mg:Str->Option KG)(c:Str)(C:Addr):Prop where
 mg:mg c=some (.ref C)
 ex:Pg K C GY "ValueError.__new__" = true
theorem FC{K:KC}{h:Heap}{C:Addr}{bmB:List KG}{newId:String}(X:K.In h)(q:Pg K C bmB newId=true) :
  ∃bm N nm q bs hdct sn sub ab col dd k0 k1 k2 k3 k5 mN,h.get? C=some (excClassObj nm q C N bs bm hdct sn sub ab col dd k0 k1 k2 k3 k5 newId)/\h.Ns N mN/\mN "__init__" = none/\OwnTail h bmB bm:=by
 unfold Pg at q
 split at q
 .rename_i dd cd sl ho
  split at q
  .rename_i C' bm k0 k1 k2 k3 n k5 hm hs
   simp only[Ly,beq_iff_eq,Bool.not_eq_true']at q;obtain⟨⟨⟨⟨⟨rfl,rfl⟩,hdel⟩,ht⟩,hok⟩,hni⟩:=q;obtain⟨nm,bs,mro,ns,qn,hd,sn,sub,ab,col,del⟩:=cd;dsimp only at hm hdel hok hni;subst hm hdel;have hsl:sl=#[k0,k1,k2,k3,some (.builtin n),k5]:=by
    obtain⟨l⟩:=sl;simp only at hs;rw[hs]
   subst hsl;exact⟨bm,ns,nm,qn,bs,hd,sn,sub,ab,col,dd,k0,k1,k2,k3,k5,_,X _ _ ho,.of_isNs (PySem.W.isNs_of_in X hok),PySem.W.nsMap_none_of_in X hok hni,PySem.W.tail_of_in X ht⟩
  .cases q
 .cases q
def GZ(E:XK)(C:Addr)(t:TA):TS:=λ_ σ H=>t σ H λvs H1=>vs.length<=KP/\E (.ref C) none H1
section
variable {X:Cx}{E:XK}{c:Str}{C:Addr}{e:Expr}{es:List Expr}{t:TA}{np cpos pos:Pos}
theorem b7(hc:X.calm=true)(hw:GX X E)(O:i8 X.K X.mg c C)(hg:Gl X c)(ha:PA X (e::es) t)(hd:(c==("__debug__" : Str))=false:=by decide)
  (he:K7 (e::es) X.env=(false,eval e X.env)::K7 es X.env:=by rfl)(hpl:(MB cpos (K7 es X.env)).any (·.1)=false:=by rfl) :
  PS X (.Raise (some (.Call (.Name c np) (e::es) [] cpos)) none pos) (GZ E C t):=by
 intro pins s σ H D I h;obtain⟨bm,N,nm,q,bs,hdct,sn,sub,ab,col,dd,k0,k1,k2,k3,k5,mN,hC,hN,hni,T⟩:=FC I.ok.mod.kin O.ex;refine wpAny_Raise_call_subU (C:=C) (nm:=nm) (q:=q) (N:=N) (bs:=bs) (bm:=bm) (hdct:=hdct) (sn:=sn) (sub:=sub) (ab:=ab) (col:=col) (dd:=dd) (k0:=k0) (k1:=k1) (k2:=k2) (k3:=k3) (k5:=k5)
  PySem.F.excBase_ValueError (by decide) PySem.F.excBase_ValueError (mN:=mN) (T.hasType PySem.F.excBase_ValueError.hasBase) (I.ok.hd hc) (by rw[he];show(false||(MB cpos (K7 es X.env)).any (·.1))=false;rw[hpl];rfl) hni
  (jW I hg O.mg ⟨rfl,?_⟩ hd)
 have ha':=ha cpos pins s σ H _ I h;rw[he]at ha'⊢;refine Oa (LJ ha' (λvs s₂ h₂=>?_) λ_ _ y=>y);obtain⟨xs,H1,I1,r,hz,ee⟩:=h₂;exact⟨rfl,by rw[<-r.length];exact hz,I1.bk _ _ hC,hN.keeps I1.bk,T.keeps I1.bk,λh' x hm=>hw pins σ H1 s₂ x C _ h' I1 hm ee⟩
end
theorem Fun.okE{P:K8}{w:K_}{K:KC}{mg:Str->Option KG}{base:Heap}{x qual:Str}{st:Stmt}{f:Addr}{fd:KY}{N ps:List Str}{k:Nat}{sp:Sp}(F:Fun K x qual st f fd)(S:aE N ps (av st))(len:∀vs H Q E,sp vs H Q E->vs.length=ps.length)
  (hbody:∀ (cdv:KG) (A:LC) (outer:List Env) (s:KJ) (H:Hp) (vs:List V) (Q:VK) (E:XK),cg k (A.deeper (MC qual (av st) s.heap.objs.size f cdv))→sp vs H Q E →
   ∃t,PSs (lP (CXe P w) P w K mg base N qual (av st) f cdv A outer s H E) (ci st) t/\t { nx:=λ_ H'=>Q .non H',rt:=Q } (i6 N vs) H):aO P w K mg base (CXe P w) (k+1) f fd ps sp:=by
 obtain⟨oc,od,kV,doc,pm,an,cdv,ct,osl,rfl,lk,hcd⟩:=F.ex;exact AG lk hcd S len λA outer s H vs Q E hr hsp=>hbody cdv A outer s H vs Q E hr hsp
theorem gR{X:Cx}{x:Str}{st:Stmt}{ps:List Str}{f:Addr}{fd:KY}{k:Nat}{sp:Sp}{e:Expr}{es:List Expr}{t:TA}{p pos:Pos}{CX:CXT}{E:XK}(hx:dR CX X E)(D:bR X.K X.mg x st ps f fd)(G:aO X.prog X.w X.K X.mg X.base CX k f fd ps sp)(hr:cg k X.A)(hg:Gl X x)(ha:PA X (e::es) t)(hd:(x==("__debug__" : Str))=false:=by decide)
  (he:K7 (e::es) X.env=(false,eval e X.env)::K7 es X.env:=by rfl)(hpl:(MB pos (K7 es X.env)).any (·.1)=false:=by rfl):PE X (.Call (.Name x p) (e::es) [] pos) (uf sp [] E t):=rQ G hr hg D.mg D.fn.kp D.bd .nil hx ha hd he hpl

abbrev Cx.marked(X:Cx)(v:KG):Cx:={ X with A:=X.A.mark (some v),calm:=false,xe:=λ_ _=>False }
theorem Inv.marked{X:Cx}{pins:List (Addr×Obj)}{σ:St}{H:Hp}{s:KJ}(I:Inv X pins σ H s)(v:KG):Inv (X.marked v) pins σ H s:=
 ⟨⟨I.ok.mod,I.ok.kind,I.ok.glob,I.ok.blt,I.ok.above,I.ok.inj,I.ok.has,I.ok.cab,(λh=>nomatch h),I.ok.frames,I.ok.stk,I.ok.exf,I.ok.bs,I.ok.bsz,I.ok.noex,I.ok.exfs,I.ok.funs,I.ok.frf⟩,I.os,I.bare,I.base,I.loc,I.cell,I.free,I.freeC,I.pin,I.hok,I.len⟩
theorem Inv.unmarked{X:Cx}{pins:List (Addr×Obj)}{σ:St}{H:Hp}{s:KJ}{v:KG}(I:Inv (X.marked v) pins σ H s)(hd:X.calm=true->X.A.handled=none):Inv X pins σ H s:=
 ⟨⟨I.ok.mod,I.ok.kind,I.ok.glob,I.ok.blt,I.ok.above,I.ok.inj,I.ok.has,I.ok.cab,hd,I.ok.frames,I.ok.stk,I.ok.exf,I.ok.bs,I.ok.bsz,I.ok.noex,I.ok.exfs,I.ok.funs,I.ok.frf⟩,I.os,I.bare,I.base,I.loc,I.cell,I.free,I.freeC,I.pin,I.hok,I.len⟩
theorem SP.unmarked{X:Cx}{pins:List (Addr×Obj)}{D:dS}{f:Flow}{s':KJ}{v:KG}(hd:X.calm=true->X.A.handled=none)(h:SP (X.marked v) pins D f s'):SP X pins D f s':=by
 cases f with
 |next=>obtain⟨σ',H',I,q⟩:=h;exact⟨σ',H',I.unmarked hd,q⟩
 |brk=>obtain⟨σ',H',I,q⟩:=h;exact⟨σ',H',I.unmarked hd,q⟩
 |cont=>obtain⟨σ',H',I,q⟩:=h;exact⟨σ',H',I.unmarked hd,q⟩
 |ret u=>obtain⟨v,σ',H',I,r,q⟩:=h;exact⟨v,σ',H',I.unmarked hd,r,q⟩
def xi(K:KC)(C T:Addr):Prop:=NP K (.ref C) (.ref T)=some true
section
variable {X:Cx}{k:Nat}{f T:Addr}{fd:KY}{ps:List Str}{sp:Sp}{fx c:Str}{st:Stmt}{e:Expr}{es:List Expr}{t:TA}{b₀:Stmt}{suite:List Stmt}{th:TS}{np pf cpos apos hpos pos:Pos}
theorem DY{W:KG->KJ->Prop}{pins:List (Addr×Obj)}{σ:St}{H:Hp}{s:KJ}{Q:VK}{E:XK}(I:Inv X pins σ H s)(D:bR X.K X.mg fx st ps f fd)(G:aO X.prog X.w X.K X.mg X.base (CXe X.prog X.w) k f fd ps sp)(hr:cg k X.A)(hg:Gl X fx)
  (ha:PA (X.wish W) (e::es) t)(h:t σ H λvs H1=>sp (vs++[]) H1 Q E)(hW:∀H1 s1 e s2,Inv X pins σ H1 s1->CXe X.prog X.w X.stack H1 s1 E e s2->W e s2)
  (hd:(fx==("__debug__" : Str))=false:=by decide)(he:K7 (e::es) X.env=(false,eval e X.env)::K7 es X.env:=by rfl)(hpl:(MB cpos (K7 es X.env)).any (·.1)=false:=by rfl) :
  Lc (Lh X.prog X.w) X.A (eval (.Call (.Name fx pf) (e::es) [] cpos) X.env) (EP X pins σ Q) W s:=by
 have I':=I.wish W;refine ME (jW I hg D.mg ?_ hd);refine NB (h₀:=X.base) I.ok.mod.kin D.fn.kp (thn (ha cpos pins s σ H _ I' h) λus s1 ⟨vs,H1,I1,r,q⟩=>⟨I1.kIn,?_⟩) he hpl;have r2:aS (vs++[]) (us++[]):=r.append .nil;have hl:(us++[]).length=ps.length:=by rw[<-r2.length];exact G.len _ _ _ _ q
 refine Pl (Nk (G.run X.A X.stack s1 H1 ⟨us,[]⟩ (us++[]) (vs++[]) Q E hr I1.env0 (D.bd s1 us I1.kIn hl) r2 q) λr s' hq=>?_);cases r with
 |error ex=>exact hW H1 s1 ex s' I1.unwish hq
 |ok fl =>
  cases fl with
  |ret u=>exact I1.unwish.after hq
  |next=>exact Mp hq
  |brk=>exact Mp hq
  |cont=>exact Mp hq
end
end L2

namespace L2
open PySem PySem.Spec PyProof.Rows Tl

def PP(X:Cx)(v:Expr)(c:St->Prop):Prop:=∀(pins:List (Addr×Obj))(s:KJ)(σ:St)(H:Hp)(Q:KG->KJ->Prop),Inv X pins σ H s->c σ->(∀(y:Str)(t:Tok)(s':KJ),y.length<=20000->Inv X pins σ H s'->Q (.str y t) s')->Lc (Lh X.prog X.w) X.A (eval v X.env) Q X.xe s
def PJ(X:Cx)(vs:List Expr)(c:St->Prop):Prop:=∀(pins:List (Addr×Obj))(s:KJ)(σ:St)(H:Hp)(acc:Str)(Q:Str->KJ->Prop),Inv X pins σ H s->c σ->acc.length+20000*vs.length<=1000000->(∀(z:Str)(s':KJ),z.length<=1000000->Inv X pins σ H s'->Q z s')->Joins (Lh X.prog X.w) X.A X.xe (evalEach vs X.env) acc Q s
section
variable {X:Cx}
theorem dh:PJ X [] (λ_=>True):=λ_ s _ _ acc _ I _ ha q=>q acc s (by simpa using ha) I
theorem aI{v:Expr}{vs:List Expr}{c d:St->Prop}(h:PP X v c)(hr:PJ X vs d)(he:evalEach (v::vs) X.env=eval v X.env::evalEach vs X.env:=by rfl):PJ X (v::vs) (λσ=>c σ/\d σ):=by
 intro pins s σ H acc Q I hc ha q;rw[he];refine h pins s σ H _ I hc.1 λy t s' hy I'=>?_;have hl:(acc++y).length=acc.length+y.length:=strLen_append _ _;rw[KH]at ha;refine⟨y,t,rfl,?_,hr pins s' σ H (acc++y) Q I' hc.2 (by rw[hl];omega) q⟩;rw[hl];exact Ln (show acc.length+y.length<=1000000 by omega) (by decide)
theorem bP{x:Str}{j pos}(hx:x.length<=20000:=by decide):PP X (.Constant (.str x) j pos) (λ_=>True):=λ_ s _ _ _ I _ q=>NA (q x _ _ hx (I.tok _))
theorem FD{pins:List (Addr×Obj)}{s:KJ}{σ:St}{H:Hp}{Q:KG->KJ->Prop}{y:Str}{t:Tok}(I:Inv X pins σ H s)(hy:y.length<=20000)(q:∀(y:Str)(t:Tok)(s':KJ),y.length<=20000->Inv X pins σ H s'->Q (.str y t) s') :
  Lc (Lh X.prog X.w) X.A (formatField (.str y t) MS) Q X.xe s:=
 formatField_str (λt' tk=>q y t' _ hy (I.tok tk)) (Ln hy (by decide))
theorem dN{i:Nat}{e:Expr}{pos:Pos}(he:PE X e (Av i)):PP X (.FormattedValue e 114 none pos) (λσ=>∃l:List Nat,σ[i]?=some (some (.str (tx l)))/\l.length<=1000/\∀c∈l,c<127):=by
 intro pins s σ H Q I hc q;obtain⟨l,hv,hl,hc⟩:=hc;refine wpAny_FormattedValue_repr (thn (he pins s σ H (λv H'=>v=.str (tx l)/\H'=H) I ⟨_,hv,rfl,rfl⟩) λu s1 ⟨x,H1,I1,r1,e1,e2⟩=>?_);subst e1 e2;obtain⟨t,rfl⟩:=r1;have hb:(reprText (tx l)).length<=20000:=by
  have:=StrLaws.reprText_len (tx l) (λc hm=>MQ (hc c (by simpa using hm)) (by decide));have e1:(reprText (tx l)).cps.toList.length=(reprText (tx l)).length:=Nq;have e2:=aZ l;have e3:(tx l).cps.toList.length=(tx l).length:=Nq;omega
 exact wpAny_pyReprObj_str (FD (I1.tok _) hb q) (Ln hb (by decide))
theorem nQ{n:Int}{e:Expr}{pos:Pos}(he:PE X e (tC (.int n)))(hn:n.natAbs.log2<1920:=by decide)(hl:(toString n:Str).length<=20000:=by decide):PP X (.FormattedValue e (-1) none pos) (λ_=>True):=by
 intro pins s σ H Q I _ q;refine wpAny_FormattedValue_plain (thn (he pins s σ H (λv H'=>v=.int n/\H'=H) I ⟨rfl,rfl⟩) λu s1 ⟨x,H1,I1,r1,e1,e2⟩=>?_);subst e1 e2;obtain⟨t,rfl⟩:=r1;exact wpAny_formatField_int hn (q _ _ _ hl (I1.tok _))
def tFs(c:St->Prop):TE:=λσ H Q=>c σ/\∀z:Str,Q (.str z) H
theorem cK{v v2:Expr}{vs:List Expr}{c:St->Prop}{pos:Pos}(h:PJ X (v::v2::vs) c)(hl:vs.length<=20:=by decide):PE X (.JoinedStr (v::v2::vs) pos) (tFs c):=by
 intro pins s σ H Q I hw;refine wpAny_JoinedStr (h pins s σ H _ _ I hw.1 (by show 0+_<=_;simp only[KH];omega) λz s' hz I'=>⟨Ln hz (by decide),.str z,H,I'.tok _,⟨_,rfl⟩,hw.2 z⟩)
end

theorem Inv.track{X:Cx}{pins:List (Addr×Obj)}{σ:St}{H:Hp}{s:KJ}{D:Addr}{o:HO}(I:Inv X pins σ H s)(hn:H D=none)(hnew:X.s₀.heap.objs.size<=D)(hL:D≠X.env.locals)(hc:∀x c,X.env.cells.lookup x=some c->c≠D)(hp:∀p∈X.pn++pins,p.1≠D)
  (ok:cm X.prog X.w (upd H D o) s.heap D o):Inv X pins σ (upd H D o) s:=by
 have ne:∀b u,H b=some u->b≠D:=λb u q=>a7 q hn;refine⟨I.ok,I.os,I.bare,⟨I.base.keep,I.base.slot,λb o q nn hx=>?_,I.base.there,λb xs q=>?_,λb o u q=>?_,λb ps q=>?_⟩,I.loc,I.cell,?_,λx c q=>?_,λp hq=>?_,λb u q=>?_,I.len⟩
 .rw[aq (KZ (K6 (KR q) hnew))];exact I.base.free b o q nn hx
 .have z:=I.base.tups b xs q;rw[aq (ne b _ z)];exact z
 .have z:=I.base.frzs b o u q;rw[aq (ne b _ z)];exact z
 .obtain⟨more,z⟩:=I.base.tbls b ps q;exact⟨more,by rw[aq (ne b _ z)];exact z⟩
 .rw[aq (Lp hL)];exact I.free
 .rw[aq (hc x c q)];exact I.freeC x c q
 .obtain⟨a1,a2,a3⟩:=I.pin p hq;exact⟨a1,by rw[aq (hp p hq)];exact a2,a3⟩
 .by_cases hb:b=D
  .subst hb;rw[ah]at q;cases q;exact ok
  .rw[aq hb]at q;exact(I.hok b u q).stay (λc v _ r=>r) (λc r=>by rw[aq (ne c _ r)];exact r) λc xs r=>by rw[aq (ne c _ r)];exact r
def Ite(K:KC)(a:Addr):It:=
 ⟨λi H=>∃xs x,SqL K H a xs/\xs[i]?=some x,λi H x H'=>∃p,H p=none/\x=.ref p/\∀xs y,SqL K H a xs->xs[i]?=some y->H'=upd H p (.tup [.int (i:Int),y]),λi H=>∃xs,SqL K H a xs/\xs.length<=i⟩
theorem Cj{P:K8}{w:K_}{K:KC}{elts:List Expr}{k1}{tp:Pos}(a e it:Addr)(hei:e≠it):mU P w K (.Tuple elts k1 tp) (Ite K a) [e,it] e (λi h=>(∃old,IsEnum h e it (i:Nat) old)/\h.IsListIter it a i) where
 mem:=by simp
 obj:=λi h st b hb=>by
  have hb':b=e\/b=it:=by simpa using hb
  rcases hb' with rfl|rfl
  .obtain⟨⟨old,h1⟩,_⟩:=st;exact⟨_,h1,λv z=>by cases z⟩
  .obtain⟨_,o,h1,c,d⟩:=st;exact⟨o,h1,λv z=>by rw[d]at z;cases z⟩
 keep:=λi h h' st k=>⟨let⟨old,h1⟩:=st.1;⟨old,k e (by simp) _ h1⟩,st.2.at λo h1=>k it (by simp) o h1⟩
 item:=by
  intro X hP hw hK hc i pins s σ H E I hf st hg;subst hP hw hK;obtain⟨xs,x,hq,hx⟩:=hg;obtain⟨its,rv,p,hz⟩:=I.list hq;obtain⟨u,hu,ru⟩:=rv.get hx;obtain⟨f0,f1,f2,f3,f4,f5⟩:=hf e (by simp);obtain⟨g0,g1,g2,g3,g4,g5⟩:=hf it (by simp);obtain⟨⟨old,he⟩,hit⟩:=st;refine wpAny_pyNext_enum_item he hit p.isList (x:=u) (by simpa using hu) hei λh' heo hit' hT hz' hk=>?_;have kk:∀b o,b∉[e,it]->s.heap.get? b=some o->h'.get? b=some o:=λb o hb q=>hk b o (λz=>hb (by simp[z])) (λz=>hb (by simp[z])) q;have nit:∀b v,H b=some v->b∉[e,it]:=λb v q z=>by
   have z':b=e\/b=it:=by simpa using z
   rcases z' with rfl|rfl
   .rw[f0]at q;cases q
   .rw[g0]at q;cases q
  have I1:Inv X pins σ H { s with heap:=h',toks:=s.toks+1 }:=by
   refine I.step (g':=s.gens) (d':=s.drawn) (ch:=[e,it]) (λb hb=>?_) (λb o _ _ hb q _=>kk b o hb q) (λb o _ _ hb q _=>⟨o.slots,kk b o hb q⟩) (λ_ _ _ _ n=>n)
    (λb o hb q=>⟨o,kk b o hb q⟩) (λ_ _ q=>q) (λ_ _ _ q=>q) (λb ps q=>⟨#[],by rw[q];simp⟩) (λm hm=>?_) (λb v q=>?_) I.bare
   .have z':b=e\/b=it:=by simpa using hb
    rcases z' with rfl|rfl
    .exact⟨f3,f1,f4,f5⟩
    .exact⟨g3,g1,g4,g5⟩
   .obtain⟨o,es,ep,ho,r⟩:=hm;exact⟨o,es,ep,kk _ o (λz=>by
     have z':X.env.locals=e\/X.env.locals=it:=by simpa using z
     rcases z' with z'|z'
     .exact f1 z'.symm
     .exact g1 z'.symm) ho,r⟩
   .refine(I.hok b v q).stay (λc o hc r=>kk c o ?_ r) (λ_ r=>r) λ_ _ r=>r;rcases hc with rfl|hc
    .exact nit _ _ q
    .exact nit _ _ hc
  have hsz:s.heap.objs.size<h'.objs.size:=by rw[hz'];exact MT _
  have hTn:H s.heap.objs.size=none:=I.fresh;have elt:e<s.heap.objs.size:=KR he;have I2:Inv X pins σ (upd H s.heap.objs.size (.tup [.int (i:Int),x])) { s with heap:=h',toks:=s.toks+1 }:=by
   refine I1.track hTn I.sz (Mx I.lt) (λy c q=>?_) (λp hp=>?_) ⟨by show 2<=KP;decide,[.int i s.toks,u],.cons ⟨_,rfl⟩ (.cons ru .nil),⟨_,hT,rfl,_,rfl⟩⟩
   .obtain⟨v,q2⟩:=I.cell y c q;exact KZ q2.lt
   .exact KZ (KR (I.pin p hp).1)
  refine⟨_,rfl,wpAny_letOwnedTupleGo_enum (s:={ s with heap:=h',toks:=s.toks+1 }) heo λh'' he'' hs''=>?_⟩;have I3:Inv X pins σ (upd H s.heap.objs.size (.tup [.int (i:Int),x])) { s with heap:=h'',toks:=s.toks+1 }:=Inv.turned (s:={ s with heap:=h',toks:=s.toks+1 }) (h':=h'') (t':=s.toks+1) (it:=e) I2 (λb o hb q=>(hs''.2 b hb).trans q) (by rw[aq (KZ elt)];exact f0) f1 f3 f4 f5;refine⟨.ref s.heap.objs.size,_,I3,rfl,⟨_,hTn,rfl,λys y hy hy2=>?_⟩,⟨⟨_,he''⟩,?_⟩,λb hb=>?_⟩
  .rw[I.list_inj hy hq,hx]at hy2;cases hy2;rfl
  .exact hit'.at λo h1=>(hs''.2 it (Lp hei)).trans h1
  .have z':b=e\/b=it:=by simpa using hb
   rcases z' with rfl|rfl
   .rw[aq (KZ elt)];exact f0
   .have ilt:b<s.heap.objs.size:=by
     obtain⟨o,h1,_⟩:=hit;exact KR h1
    rw[aq (KZ ilt)];exact g0
 done:=by
  intro X hP hw hK hc i pins s σ H E I hf st hg;subst hP hw hK;obtain⟨xs,hq,hx⟩:=hg;obtain⟨its,rv,p,hz⟩:=I.list hq;obtain⟨g0,g1,g2,g3,g4,g5⟩:=hf it (by simp);obtain⟨⟨old,he⟩,hit⟩:=st;have hl:=rv.length;exact wpAny_pyNext_enum_end (I.ok.hd hc) he hit p.isList (by simp;omega) λh' eb=>⟨rfl,I.turned (t':=s.toks) (λb o hb e=>eb b o hb e) g0 g1 g3 g4 g5⟩
 self:=λ_ _ _ _ _ st h=>by
  obtain⟨⟨old,he⟩,_⟩:=st;exact NQ he h
section
variable {X:Cx}{elts:List Expr}{k1:Nat}{tp:Pos}
def ID(K:KC)(tl:TE):TI:=λσ H R=>tl σ H λx H1=>∃a,x=.ref a/\(∃xs,SqL K H1 a xs)/\R (Ite K a) H1
theorem z8{l:Expr}{k1}{tl:TE}{p pos:Pos}(hg:Gl X "enumerate")(hm:X.mg "enumerate" = none)(hl:PE X l tl)(hs:K7 [l] X.env=[(false,eval l X.env)]:=by rfl):PI X (.Tuple elts k1 tp) (.Call (.Name "enumerate" p) [l] [] pos) (ID X.K tl):=by
 intro pins s σ H R I h;have ha:PA X [l] (ue tl qq):=aa hl ac hs;refine Call_ (lK I hg hm (by decide:MN "enumerate" = some (.type "enumerate")) (MO (thn (ha pos pins s σ H (λvs H1=>match vs with|[x]=>∃a,x=.ref a/\(∃xs,SqL X.K H1 a xs)/\R (Ite X.K a) H1|_=>False) I h) λus s1 ⟨vs,H1,I1,r1,q1⟩=>?_) hs rfl))
 match vs,r1,q1 with
 |[x],r1,q1 =>
 obtain⟨a,rfl,⟨xs,hq⟩,q⟩:=q1;obtain⟨u,rfl,ru⟩:=iq r1;cases ru;obtain⟨its,rv,p,hz⟩:=I1.list hq;refine call_enumerate_list p.isList λh' he hit hz' hk=>?_;refine NQ he ?_;refine⟨s1.heap.objs.size+1,[s1.heap.objs.size+1,s1.heap.objs.size],_,_,H1,rfl,I1.kept (t':=s1.toks) hk,Cj a _ _ (Nat.succ_ne_self _),⟨⟨_,he⟩,hit⟩,λb hb=>?_,q⟩;have z':b=s1.heap.objs.size+1\/b=s1.heap.objs.size:=by simpa using hb
 have I2:=I1.kept (h':=h') (t':=s1.toks) hk;rcases z' with rfl|rfl
 .exact I1.fpOk (Mf _) (I1.hok.fresh (Mf _))
 .exact I1.fpOk (Kz _) (I1.hok.fresh (Kz _))
end
theorem DZ{K:KC}{a:Addr}{xs:List V}{g:TG}{tb:TS}{D:dS}{σ:St}{H:Hp}(Pv:Nat->St->Hp->Prop)(h0:Pv 0 σ H)(hl:∀i σ H,i<=xs.length->Pv i σ H->SqL K H a xs)
  (hs:∀i x σ H p,xs[i]?=some x->Pv i σ H->H p=none->g (.ref p) σ (upd H p (.tup [.int (i:Int),x])) λσ2 H2=>tb { D with nx:=Pv (i+1),ct:=Pv (i+1),bk:=D.nx } σ2 H2)(hd:∀σ H,Pv xs.length σ H->D.nx σ H) :
  ∃W:Nat->Nat->St->Hp->Prop,(∃m,W 0 m σ H)/\∀i m σ H,W i m σ H->
   ((Ite K a).stop i H/\D.nx σ H)\/((Ite K a).go i H/\∃N:St->Hp->Prop,(∀σ' H',N σ' H'->∃m',m'<m/\W (i+1) m' σ' H')/\∀x H',(Ite K a).yld i H x H'->g x σ H' λσ2 H2=>tb { D with nx:=N,ct:=N,bk:=D.nx } σ2 H2):=by
 refine⟨λi m σ H=>m=xs.length-i/\i<=xs.length/\Pv i σ H,⟨xs.length,by simp,Ls _,h0⟩,?_⟩;rintro i m σ H ⟨rfl,hi,p⟩;have q:=hl i σ H hi p;by_cases hlt:i<xs.length
 .refine .inr ⟨⟨xs,xs[i],q,by simp[hlt]⟩,Pv (i+1),λσ' H' p'=>⟨xs.length-(i+1),by omega,rfl,hlt,p'⟩,λx H' y=>?_⟩;obtain⟨t,ht,e,y⟩:=y;subst e;have e2:=y xs xs[i] q (by simp[hlt]);subst e2;exact hs i xs[i] σ H t (by simp[hlt]) p ht
 .have e:i=xs.length:=by omega
  subst e;exact .inl ⟨⟨xs,q,Kz _⟩,hd σ H p⟩

section
variable {X:Cx}{tg:Expr}
end
inductive Ck(K:KC)(x:V)(y:V)(H:Hp)(Q:VK):Prop
 |mk(a b xs)(_:x=.ref a)(_:y=.ref b)(_:SqL K H a xs)(_:SqL K H b [])(_:Q (.bl xs.isEmpty) H)
theorem D0{X:Cx}(hu:X.A.units<OC):OpR X (Ml .Eq) (Ck X.K):=by
 intro pins s σ H x y v u Q I rx ry h;obtain⟨a,b,xs,rfl,rfl,ha,hb,q⟩:=h;cases rx;cases ry;obtain⟨its,r,p,z⟩:=I.list ha;obtain⟨its2,r2,p2,z2⟩:=I.list hb;have l1:=r.length;have l2:=r2.length;cases xs with
 |nil =>
  refine SeqAt.eq_listAt (e:=λ_=>true) p.isList p2.isList (by simp at l1 l2⊢;omega) hu (λj h1 h2=>absurd h1 (by simp at l1⊢;omega)) ⟨.bl _,H,I,rfl,?_⟩;have e:its.toArray.size=0:=by rw[K2];exact l1.symm
  rw[e];exact q
 |cons x r=>exact SeqAt.eq_list_lengthsAt p.isList p2.isList (by simp at l1 l2⊢;omega) hu ⟨.bl false,H,I,rfl,q⟩
end L2

namespace L2
open PySem PySem.Spec PyProof.Rows

section
variable {X:Cx}
theorem am{H:Hp}{p:Addr}(h:H p=none)(o:HO):ar H (upd H p o):=λb u q=>by rw[aq (a7 q h)];exact q
theorem ar.tup{K:KC}{H H':Hp}{a:Addr}{xs:List V}(e:ar H H')(h:SqT K H a xs):SqT K H' a xs:=by
 rcases h with(h|⟨o,h⟩)|h
 .exact .inl (.inl (e _ _ h))
 .exact .inl (.inr ⟨o,e _ _ h⟩)
 .exact .inr h
inductive Cl(K:KC)(vs:List V)(H:Hp)(Q:VK)(x_1:XK):Prop
 |mk(a:Addr)(ns:List Int)(_:vs=[.ref a])(_:SqL K H a (ns.map V.int))(_:ns.length<=63)(_:∀H',Q (.bl true) H')
theorem bj{n:Nat}(h:n<=1000):n<=KP:=Md (aF h)
theorem Cm{n:Nat}(h:n<=1000000):n<=KP:=Ln h (by decide)
theorem le1:1<=KP:=by decide
theorem le2:2<=KP:=by decide
theorem le3:3<=KP:=by decide
theorem le4:4<=KP:=by decide
theorem orG{a:Prop}{_inst:Decidable a}{X A B:Prop}(ha:a->A)(hx:¬ a->X):if a then(if true=true then A else B)else X:=by
 by_cases h:a
 .rw[if_pos h];exact ha h
 .rw[if_neg h];exact hx h
end
end L2

namespace HT
open PySem PyProof.Rows
section
open PySem.SeqAt
open PySem.AutoSeq1 (wpAny_loadPart')
open PySem.MeetsSeq PySem.MeetsSeq2 PySem.MeetsSeq3

end
end HT

namespace L2
open PySem PySem.Spec PyProof.Rows
section
variable {X:Cx}

end
end L2

namespace L2
open PySem PySem.Spec PyProof.Rows Tl
def eh(n:Nat):List Nat:=(OW 10 n).map Char.toNat
theorem D1(n:Nat):(pq (toString ((n:Nat):Int)))=tx (eh n):=by
 have e:=PySem.W.KIN.signs_num n;rw[AN (pq _),e];rfl
theorem uk:∀d:Nat,d<10->(Nat.digitChar d).toNat=d+48:=by decide
theorem oG{n:Nat}(h:n<10):eh n=[n+48]:=by
 unfold eh;rw[Nat.toDigits_of_lt_base h,Oy,uk n h]
theorem v_{n:Nat}(h:10<=n):eh n=eh (n/10)++[n%10+48]:=by
 have hm:n%10<10:=OX n (by decide);have t:OW 10 (n/10)++OW 10 (n%10)=OW 10 (10*(n/10)+n%10):=Nat.toDigits_append_toDigits (by decide) (by omega) hm;rw[Nat.div_add_mod]at t;unfold eh;rw[<-t,KQ,Nat.toDigits_of_lt_base hm,Oy,uk _ hm]
theorem yg:∀(k n:Nat),n<10^(k+1)->(eh n).length<=k+1
 |0,n,h=>by
  rw[oG (by simpa using h)];simp
 |k+1,n,h=>by
  by_cases hn:n<10
  .rw[oG hn];simp
  .rw[v_ (by omega),KI,Li];have:=yg k (n/10) (by
    rw[Nat.pow_succ]at h;omega)
   omega
theorem FE:∀(n c:Nat),c∈eh n->48<=c/\c<=57:=by
 intro n;induction n using Nat.strongRecOn with
 |_ n ih =>
  intro c hc;by_cases h:n<10
  .rw[oG h]at hc;have:c=n+48:=by simpa using hc
   omega
  .rw[v_ (by omega)]at hc;rcases List.mem_append.mp hc with hc|hc
   .exact ih (n/10) (by omega) c hc
   .have:c=n%10+48:=by simpa using hc
    omega
theorem Cn{n:Nat}(h:n<10^100):n.log2<1920:=by
 by_cases e:n=0
 .subst e;decide
 .refine(Nat.log2_lt e).mpr (MQ h ?_);decide
abbrev pl(x:Int×Int):List V:=[.int x.1,.int x.2]
abbrev fm(w h f m:Int):List V:=[.int w,.int h,.int f,.int m]
inductive Say where
 |text (l:List Nat)
 |page (k:Nat)
 |row (k:Nat)
theorem FG{α:Type}(xs:List α)(x:α):atI (xs++[x]) (-1)=some x:=by
 unfold atI ixN;rw[if_neg (by decide),if_pos (by simp;omega)];have e:(-1+((xs++[x]).length:Int)).toNat=xs.length:=by simp;omega
 show(xs++[x])[(-1+((xs++[x]).length:Int)).toNat]?=some x;rw[e];simp
section
variable {X:Cx}
theorem z9(ns:List Int):∀k,k<=ns.length->preSum (λi=>(ns[i]?).getD 0) k=(ns.take k).sum
 |0,_=>by simp[preSum]
 |k+1,h=>by
  rw[preSum,z9 ns k (by omega),Lb,KM (by omega),O2];show _+ns[k]=_+(ns[k]+0);rw[Px]
inductive Co(K:KC)(xs:List V)(H:Hp)(Q:VK):Prop
 |mk(l:Addr)(ns:List Int)(_:xs=[.ref l])(_:SqL K H l (ns.map V.int))(_:Q (.int ns.sum) H)
theorem D2(hc:X.calm=true):ip X (.builtin "sum") (Co X.K):=by
 intro pins s σ H xs us Q I r h;obtain⟨l,ns,rfl,hl,q⟩:=h;obtain⟨u,rfl,ru⟩:=iq r;cases ru;obtain⟨its,rv,p,z⟩:=I.list hl;have hlt:l<s.heap.objs.size:=by obtain⟨_,_,e,_⟩:=p;exact KR e
 have len:=rv.length;rw[KA]at len;refine call_sum_walkG (MH p.isList ?_);refine⟨s.heap.objs.size,[s.heap.objs.size,l],[s.heap.objs.size],its.toArray.size,_,_,λi=>(ns[i]?).getD 0,rfl,Walks.list (A:=X.A.in1) (I.ok.hd hc) _ l (KZ hlt) its.toArray,
  ⟨⟨_,Ld _ rfl,rfl,rfl⟩,p.isList.push _⟩,λb hb=>?_,λi v hP=>?_,λh' tk t' hk=>?_⟩
 .show b<(s.heap.push _).objs.size;rw[Nh];rcases List.mem_cons.mp hb with rfl|hb
  .exact MT _
  .rw[List.mem_singleton.mp hb];exact Nat.lt_succ_of_lt hlt
 .have hi:its[i]?=some v:=by simpa using hP
  have hlt2:i<ns.length:=by
   have:=(List.getElem?_eq_some_iff.mp hi).1;omega
  have eb:(ns.map V.int)[i]?=some (V.int ns[i]):=by rw[KS,KM hlt2];rfl
  obtain⟨w',hw,t,ht⟩:=rv.get eb;rw[hi]at hw;cases hw;refine⟨t,?_⟩;have e2:(ns[i]?).getD 0=ns[i]:=by rw[KM hlt2];rfl
  show v=NX ((ns[i]?).getD 0) t;rw[e2];exact ht
 .have e1:its.toArray.size=ns.length:=by simp;omega
  have e:preSum (λi=>(ns[i]?).getD 0) its.toArray.size=ns.sum:=by
   rw[e1,z9 ns _ (Kz _),LH]
  rw[e];exact⟨.int _,H,I.kept λb x e=>hk b x (λhm=>by rw[List.mem_singleton.mp hm]at e;exact Me _ (KR e)) (KU _ e),⟨_,rfl⟩,q⟩
end
theorem ar.put{H H2:Hp}{r:Addr}{o:HO}(s:ar H H2)(hr:H r=none):ar H (upd H2 r o):=λb u q=>by rw[aq (a7 q hr)];exact s b u q
theorem D3{α:Type}(f:α->V)(ns:List α)(lo hi:Option Int):dQ (ns.map f) lo hi=(jb ns lo hi).map f:=by
 unfold dQ jb;rw[KA,List.map_take,List.map_drop]
structure Wd where
 lead:Int
 kept:Bool
 say:Say
 foot:List Say

section
variable {prog:K8}{w:K_}{A:LC}{R:Oe->KJ->Prop}{I:Addr}{fp wr:List Addr}{P:Nat->KG->Prop}{St:Nat->Heap->Prop}
end
section
variable {prog:K8}{w:K_}{A:LC}{R:Oe->KJ->Prop}{I:Addr}{fp wr:List Addr}{P:Nat->KG->Prop}{St:Nat->Heap->Prop}
end
structure Frm where
 w:Int
 h:Int
 f:Int
 m:Int
inductive Cp(K:KC)(x:V)(y:V)(H:Hp)(Q:VK):Prop
 |mk(a b xs)(_:x=.ref a)(_:y=.ref b)(_:SqL K H a xs)(_:SqL K H b [])(_:Q (.bl (!xs.isEmpty)) H)
theorem lR{X:Cx}(hu:X.A.units<OC):OpR X (Ml .NotEq) (Cp X.K):=by
 intro pins s σ H x y v u Q I rx ry h;obtain⟨a,b,xs,rfl,rfl,ha,hb,q⟩:=h;cases rx;cases ry;obtain⟨its,r,p,z⟩:=I.list ha;obtain⟨its2,r2,p2,z2⟩:=I.list hb;have l1:=r.length;have l2:=r2.length;cases xs with
 |nil =>
  refine SeqAt.RcNeAt.lists (e:=λ_=>true) p.isList p2.isList (by simp at l1 l2⊢;omega) hu (λj h1 h2=>absurd h1 (by simp at l1⊢;omega)) _ _ _ _ ⟨.bl _,H,I,rfl,?_⟩;have e:its.toArray.size=0:=by rw[K2];exact l1.symm
  rw[e];exact q
 |cons x r=>exact SeqAt.RcNeAt.lists_lengths p.isList p2.isList (by simp at l1 l2⊢;omega) hu _ _ _ _ ⟨.bl true,H,I,rfl,q⟩
inductive CL:List Expr->List V->Prop where
 |nil:CL [] []
 |int {i:Int} {j:Nat} {pos:Pos} {es:List Expr} {vs:List V} (h:CL es vs):CL (.Constant (.int i) j pos::es) (.int i::vs)
 |str {x:Str} {j:Nat} {pos:Pos} {es:List Expr} {vs:List V} (h:CL es vs):CL (.Constant (.str x) j pos::es) (.str x::vs)
def tVs(vs:List V):TA:=λ_ H Q=>Q vs H
theorem xj{X:Cx}:∀{es:List Expr}{vs:List V},CL es vs->PA X es (tVs vs)
 |_,_,.nil=>ac
 |_,_,.int h=>aa ai (xj h)
 |_,_,.str h=>aa ak (xj h)
def kN:Str:=pq "never"
section
variable (F:Frm)(ds:List Wd)(xs:List (Int×Int))(k:Str)(i:Nat)(j:Int)
end
section
variable {F:Frm}{ds:List Wd}{xs ys:List (Int×Int)}
end
section
variable {prog:K8}{w:K_}{A:LC}{R:Oe->KJ->Prop}{I:Addr}{fp wr:List Addr}{n:Nat}{P:Nat->KG->Prop}{St:Nat->Heap->Prop}
end
section
variable {F:Frm}{ds:List Wd}{xs:List (Int×Int)}{i:Nat}
end
section
variable {F:Frm}{ds:List Wd}{xs ys:List (Int×Int)}{i:Nat}
end
theorem G0{α:Type}(x:α):∀n:Nat,(KB n [x]).flatten=KB n x
 |0=>rfl
 |n+1=>by rw[LV,Mi,G0 x n];rfl
def Itz(K:KC)(a b:Addr):It:=
 ⟨λi H=>∃xs ys x y,SqL K H a xs/\SqL K H b ys/\xs[i]?=some x/\ys[i]?=some y,λi H x H'=>∃p,H p=none/\x=.ref p/\∀xs ys u v,SqL K H a xs->SqL K H b ys->xs[i]?=some u->ys[i]?=some v->H'=upd H p (.tup [u,v]),λi H=>∃xs ys,SqL K H a xs/\SqL K H b ys/\(xs.length<=i\/ys.length<=i)⟩
theorem D4{P:K8}{w:K_}{K:KC}{elts:List Expr}{k1}{tp:Pos}(a b z TI TO i1 i2:Addr)(D:ZipApart z TI TO i1 i2 a b):mU P w K (.Tuple elts k1 tp) (Itz K a b) [z,TI,TO,i1,i2] z (λi h=>IsZip h z TI TO .none/\IsPair h TI (.ref i1) (.ref i2)/\(∃u v,IsPair h TO u v)/\h.IsListIter i1 a i/\h.IsListIter i2 b i) where
 mem:=by simp
 obj:=λi h st c hb=>by
  have hb':c=z\/c=TI\/c=TO\/c=i1\/c=i2:=by simpa using hb
  obtain⟨s1,s2,⟨u,v,s3⟩,s4,s5⟩:=st;rcases hb' with rfl|rfl|rfl|rfl|rfl
  .exact⟨_,s1,λv z=>by cases z⟩
  .exact⟨_,s2,λv z=>by cases z⟩
  .exact⟨_,s3,λv z=>by cases z⟩
  .obtain⟨o,h1,_,d⟩:=s4;exact⟨o,h1,λv z=>by rw[d]at z;cases z⟩
  .obtain⟨o,h1,_,d⟩:=s5;exact⟨o,h1,λv z=>by rw[d]at z;cases z⟩
 keep:=λi h h' st k=>by
  obtain⟨s1,s2,⟨u,v,s3⟩,s4,s5⟩:=st;exact⟨k z (by simp) _ s1,k TI (by simp) _ s2,⟨u,v,k TO (by simp) _ s3⟩,s4.at λo h1=>k i1 (by simp) o h1,s5.at λo h1=>k i2 (by simp) o h1⟩
 item:=by
  intro X hP hw hK hc i pins s σ H E I hf st hg;subst hP hw hK;obtain⟨xs,ys,x,y,hqx,hqy,hx,hy⟩:=hg;obtain⟨its,rv,p,hz⟩:=I.list hqx;obtain⟨its2,rv2,p2,hz2⟩:=I.list hqy;obtain⟨u,hu,ru⟩:=rv.get hx;obtain⟨v,hv,rv'⟩:=rv2.get hy;obtain⟨st1,st2,⟨o1,o2,st3⟩,st4,st5⟩:=st;have fz:=λc (hm:c∈[z,TI,TO,i1,i2])=>hf c hm;refine wpAny_pyNext_zip_item D st1 st2 st3 st4 st5 p.isList p2.isList (x:=u) (y:=v) (by simpa using hu) (by simpa using hv) λh' hz1 hTO1 hi1 hi2 hpair hsz1 hk=>?_;have kk:∀c o,c∉[z,TI,TO,i1,i2]->s.heap.get? c=some o->h'.get? c=some o:=λc o hb q=>hk c o (λe=>hb (by simp[e])) (λe=>hb (by simp[e])) (λe=>hb (by simp[e])) (λe=>hb (by simp[e])) q;have kTI:=hk TI _ D.TIz D.TITO D.TIi1 D.TIi2 st2;have kk2:∀c o,c∉[z,TO,i1,i2]->s.heap.get? c=some o->h'.get? c=some o:=λc o hb q=>hk c o (λe=>hb (by simp[e])) (λe=>hb (by simp[e])) (λe=>hb (by simp[e])) (λe=>hb (by simp[e])) q;have nit:∀c v,H c=some v->c∉[z,TI,TO,i1,i2]:=λc v q m=>by
   have:=(hf c m).1;rw[this]at q;cases q
  have I1:Inv X pins σ H { s with heap:=h',toks:=s.toks }:=by
   refine I.step (g':=s.gens) (d':=s.drawn) (ch:=[z,TI,TO,i1,i2]) (λc hb=>?_) (λc o _ _ hb q _=>kk c o hb q) (λc o _ _ hb q _=>⟨o.slots,kk c o hb q⟩) (λ_ _ _ _ n=>n)
    (λc o hb q=>⟨o,kk c o hb q⟩) (λ_ _ q=>q) (λ_ _ _ q=>q) (λc ps q=>⟨#[],by rw[q];simp⟩) (λm hm=>?_) (λc v q=>?_) I.bare
   .obtain⟨f0,f1,f2,f3,f4,f5⟩:=hf c hb;exact⟨f3,f1,f4,f5⟩
   .obtain⟨o,es,ep,ho,r⟩:=hm;exact⟨o,es,ep,kk _ o (λm=>(hf _ m).2.1 rfl) ho,r⟩
   .refine(I.hok c v q).stay (λd o hd r=>kk d o ?_ r) (λ_ r=>r) λ_ _ r=>r;rcases hd with rfl|hd
    .exact nit _ _ q
    .exact nit _ _ hd
  have hTn:H s.heap.objs.size=none:=I.fresh;have zlt:z<s.heap.objs.size:=KR st1;have I2:Inv X pins σ (upd H s.heap.objs.size (.tup [x,y])) { s with heap:=h',toks:=s.toks }:=by
   refine I1.track hTn I.sz (Mx I.lt) (λy c q=>?_) (λp hp=>?_) ⟨by show 2<=KP;decide,[u,v],.cons ru (.cons rv' .nil),⟨_,hpair,rfl,_,rfl⟩⟩
   .obtain⟨v,q2⟩:=I.cell y c q;exact KZ q2.lt
   .exact KZ (KR (I.pin p hp).1)
  refine⟨_,rfl,wpAny_letOwnedTupleGo_zip (s:={ s with heap:=h',toks:=s.toks }) hz1 λh'' hz2' hs''=>?_⟩;obtain⟨f0,f1,f2,f3,f4,f5⟩:=hf z (by simp);have I3:Inv X pins σ (upd H s.heap.objs.size (.tup [x,y])) { s with heap:=h'',toks:=s.toks }:=Inv.turned (s:={ s with heap:=h',toks:=s.toks }) (h':=h'') (t':=s.toks) (it:=z) I2 (λc o hb q=>(hs''.2 c hb).trans q) (by rw[aq (KZ zlt)];exact f0) f1 f3 f4 f5;refine⟨.ref s.heap.objs.size,_,I3,rfl,⟨_,hTn,rfl,λxs' ys' u' v' hx' hy' ex ey=>?_⟩,⟨hz2',(hs''.2 TI D.TIz).trans kTI,⟨u,v,(hs''.2 TO D.TOz).trans hTO1⟩,hi1.at λo h1=>(hs''.2 i1 D.i1z).trans h1,hi2.at λo h1=>(hs''.2 i2 D.i2z).trans h1⟩,λc hb=>?_⟩
  .rw[I.list_inj hx' hqx,hx]at ex;rw[I.list_inj hy' hqy,hy]at ey;cases ex;cases ey;rfl
  .have clt:c<s.heap.objs.size:=by
    have z':c=z\/c=TI\/c=TO\/c=i1\/c=i2:=by simpa using hb
    rcases z' with rfl|rfl|rfl|rfl|rfl
    .exact zlt
    .exact KR st2
    .exact KR st3
    .obtain⟨o,h1,_⟩:=st4;exact KR h1
    .obtain⟨o,h1,_⟩:=st5;exact KR h1
   rw[aq (KZ clt)];exact(hf c hb).1
 done:=by
  intro X hP hw hK hc i pins s σ H E I hf st hg;subst hP hw hK;obtain⟨xs,ys,hqx,hqy,hlen⟩:=hg;obtain⟨its,rv,p,hz⟩:=I.list hqx;obtain⟨its2,rv2,p2,hz2⟩:=I.list hqy;obtain⟨st1,st2,⟨o1,o2,st3⟩,st4,st5⟩:=st;have hl:=rv.length;have hl2:=rv2.length;have hend:its.toArray[i]?=none\/its2.toArray[i]?=none:=by
   rcases hlen with h|h
   .exact .inl (Array.getElem?_eq_none (by rw[K2];omega))
   .exact .inr (Array.getElem?_eq_none (by rw[K2];omega))
  refine wpAny_pyNext_zip_end (I.ok.hd hc) D st1 st2 st3 st4 st5 p.isList p2.isList hend λh' hk=>⟨rfl,?_⟩;have kk:∀c o,c∉[z,TI,TO,i1,i2]->s.heap.get? c=some o->h'.get? c=some o:=λc o hb q=>hk c o (λe=>hb (by simp[e])) (λe=>hb (by simp[e])) (λe=>hb (by simp[e])) (λe=>hb (by simp[e])) q;have nit:∀c v,H c=some v->c∉[z,TI,TO,i1,i2]:=λc v q m=>by
   have:=(hf c m).1;rw[this]at q;cases q
  refine I.step (t':=s.toks) (g':=s.gens) (d':=s.drawn) (ch:=[z,TI,TO,i1,i2]) (λc hb=>?_) (λc o _ _ hb q _=>kk c o hb q) (λc o _ _ hb q _=>⟨o.slots,kk c o hb q⟩) (λ_ _ _ _ n=>n)
   (λc o hb q=>⟨o,kk c o hb q⟩) (λ_ _ q=>q) (λ_ _ _ q=>q) (λc ps q=>⟨#[],by rw[q];simp⟩) (λm hm=>?_) (λc v q=>?_) I.bare
  .obtain⟨f0,f1,f2,f3,f4,f5⟩:=hf c hb;exact⟨f3,f1,f4,f5⟩
  .obtain⟨o,es,ep,ho,r⟩:=hm;exact⟨o,es,ep,kk _ o (λm=>(hf _ m).2.1 rfl) ho,r⟩
  .refine(I.hok c v q).stay (λd o hd r=>kk d o ?_ r) (λ_ r=>r) λ_ _ r=>r;rcases hd with rfl|hd
   .exact nit _ _ q
   .exact nit _ _ hd
 self:=λ_ _ _ _ _ st h=>wpAny_pyIter_zip st.1 h
section
variable {X:Cx}{elts:List Expr}{k1:Nat}{tp:Pos}
def Jx(K:KC)(tl tm:TE):TI:=λσ H R=>tl σ H λx H1=>tm σ H1 λy H2=>∃a b,x=.ref a/\y=.ref b/\(∃xs,SqL K H2 a xs)/\(∃ys,SqL K H2 b ys)/\R (Itz K a b) H2
theorem G8{l m:Expr}{k1}{tl tm:TE}{p pos:Pos}(hg:Gl X "zip")(hm:X.mg "zip" = none)(hl:PE X l tl)(hl2:PE X m tm)(hs:K7 [l,m] X.env=(false,eval l X.env)::K7 [m] X.env:=by rfl)(hs1:K7 [m] X.env=(false,eval m X.env)::K7 [] X.env:=by rfl):PI X (.Tuple elts k1 tp) (.Call (.Name "zip" p) [l,m] [] pos) (Jx X.K tl tm):=by
 intro pins s σ H R I h;have ha:PA X [l,m] (ue tl (ue tm qq)):=aa hl (aa hl2 ac hs1) hs;refine Call_ (lK I hg hm (by decide:MN "zip" = some (.type "zip")) (MO (thn (ha pos pins s σ H (λvs H1=>match vs with|[x,y]=>∃a b,x=.ref a/\y=.ref b/\(∃xs,SqL X.K H1 a xs)/\(∃ys,SqL X.K H1 b ys)/\R (Itz X.K a b) H1|_=>False) I h) λus s1 ⟨vs,H1,I1,r1,q1⟩=>?_) hs (by rw[hs1];rfl)))
 match vs,r1,q1 with
 |[x,y],r1,q1 =>
 obtain⟨a,b,rfl,rfl,⟨xs,hqx⟩,⟨ys,hqy⟩,q⟩:=q1;obtain⟨u,v,rfl,ru,rv0⟩:=Ay r1;cases ru;cases rv0;obtain⟨its,rv,p,hz⟩:=I1.list hqx;obtain⟨its2,rv2,p2,hz2⟩:=I1.list hqy;have alt:a<s1.heap.objs.size:=by obtain⟨_,_,e,_⟩:=p;exact KR e
 have blt:b<s1.heap.objs.size:=by obtain⟨_,_,e,_⟩:=p2;exact KR e
 refine call_zip_2 p.isList p2.isList λh' g1 g2 g3 g4 g5 hz' hk=>?_;refine wpAny_pyIter_zip g1 ?_;have ne:∀{m n:Nat}{N:Nat},m≠n->N+m≠N+n:=λh e=>h (Nat.add_left_cancel e);have nl:∀{c:Addr}(k:Nat),c<s1.heap.objs.size->c≠s1.heap.objs.size+k:=λk h e=>absurd h (by rw[e];exact Nat.not_lt.mpr (Mm _ _));have D:ZipApart (s1.heap.objs.size+4) (s1.heap.objs.size+2) (s1.heap.objs.size+3) s1.heap.objs.size (s1.heap.objs.size+1) a b:=
  ⟨ne (by decide),ne (by decide),ne (m:=0) (by decide),ne (by decide),ne (by decide),ne (n:=0) (by decide),ne (by decide),ne (n:=0) (by decide),ne (by decide),ne (m:=0) (by decide),nl 4 alt,nl 3 alt,nl 0 alt,nl 1 alt,nl 4 blt,nl 3 blt,nl 0 blt,nl 1 blt⟩
 refine⟨s1.heap.objs.size+4,[s1.heap.objs.size+4,s1.heap.objs.size+2,s1.heap.objs.size+3,s1.heap.objs.size,s1.heap.objs.size+1],_,_,H1,rfl,I1.kept (t':=s1.toks) hk,D4 a b _ _ _ _ _ D,⟨g1,g2,⟨_,_,g3⟩,g4,g5⟩,λc hb=>?_,q⟩;have z':c=s1.heap.objs.size+4\/c=s1.heap.objs.size+2\/c=s1.heap.objs.size+3\/c=s1.heap.objs.size\/c=s1.heap.objs.size+1:=by simpa using hb
 rcases z' with rfl|rfl|rfl|rfl|rfl
 .exact I1.fpOk (Mm _ _) (I1.hok.fresh (Mm _ _))
 .exact I1.fpOk (Mm _ _) (I1.hok.fresh (Mm _ _))
 .exact I1.fpOk (Mm _ _) (I1.hok.fresh (Mm _ _))
 .exact I1.fpOk (Kz _) (I1.hok.fresh (Kz _))
 .exact I1.fpOk (Mf _) (I1.hok.fresh (Mf _))
end
end L2

namespace PySem
section
variable {prog:K8}{w:K_}{A:LC}{E:KG->KJ->Prop}{s:KJ}
end
section
variable {prog:K8}{w:K_}{A:LC}{R:Oe->KJ->Prop}
end
namespace F
end F
section
variable {prog:K8}{w:K_}{A:LC}{s:KJ}{R:Oe->KJ->Prop}
end
section
variable {prog:K8}{w:K_}{A:LC}{E:KG->KJ->Prop}{s:KJ}
end
end PySem

namespace L2
open PySem PySem.Spec PyProof.Rows Tl
structure D5(K:KC)(x qual:Str)(st:Stmt)(f:Addr)(fd:KY):Prop where
 ex:∃(oc:KG)(od:Option Addr)(dV kV doc pm:KG)(an:Option Addr)(cdv ct:KG)(osl:Array (Option KG)),fd=L9 x qual (cJ st) (ci st) (av st) dV kV doc pm an cdv ct/\K.lookup f=some ⟨oc,od,.func fd,osl⟩/\M7 K cdv qual=true
 kp:My K (.ref f)=true
structure qy(K:KC)(mg:Str->Option KG)(x:Str)(st:Stmt)(ps:List Str)(f:Addr)(fd:KY)(dv:KG):Prop where
 fn:D5 K x x st f fd
 bd:gO K fd ps []
 bd1:gO K fd ps [dv]
 mg:mg x=some (.ref f)
section
variable {X:Cx}{x:Str}{st:Stmt}{ps:List Str}{f:Addr}{fd:KY}{dv:KG}{k:Nat}{sp:Sp}{e:Expr}{es:List Expr}{t:TA}{p pos:Pos}
theorem we{K:KC}{h:Heap}{mg:Str->Option KG}(KX:K.In h)(G:h.Ns Lr mg){od an od2:Option Addr}{sl sl2:Array (Option KG)}{oc oc2 kV dc pm cd ct:KG}{T:Addr}{n2:Nat}(a:LZ K Lr x=some (some (.ref f)))
  (l:K.lookup f=some ⟨oc,od,.func (L9 x x (cJ st) (ci st) (av st) (.ref T) kV dc pm an cd ct),sl⟩)(c:M7 K cd x=true)(k:My K (.ref f)=true)(lt:K.lookup T=some ⟨oc2,od2,.seq #[dv] n2,sl2⟩)
  (b:∀(kV doc pm:KG)(an:Option Addr)(cdv ct:KG)(us:List KG),us.length=ps.length->∃k,OM (L9 x x (cJ st) (ci st) (av st) (.ref T) kV doc pm an cdv ct) ⟨us,[]⟩=seqItems? (.ref T) >>= k/\k (some #[dv])=pure (ps.zip us))
  (b1:∀(kV doc pm:KG)(an:Option Addr)(cdv ct:KG)(us:List KG),us.length+1=ps.length->∃k,OM (L9 x x (cJ st) (ci st) (av st) (.ref T) kV doc pm an cdv ct) ⟨us,[]⟩=seqItems? (.ref T) >>= k/\k (some #[dv])=pure (ps.zip (us++[dv]))) :
  qy K mg x st ps f (L9 x x (cJ st) (ci st) (av st) (.ref T) kV dc pm an cd ct) dv:=by
 refine⟨⟨⟨oc,od,.ref T,kV,dc,pm,an,cd,ct,sl,rfl,l,c⟩,k⟩,λs us kin hl=>?_,λs us kin hl=>?_,LW KX G a⟩
 .rw[LF]at hl⊢;obtain⟨k',e1,e2⟩:=b kV dc pm an cd ct us hl;exact .of_defaults (T:=T) rfl (kin T _ lt) rfl e1 e2
 .rw[KI,Li]at hl;obtain⟨k',e1,e2⟩:=b1 kV dc pm an cd ct us hl;exact .of_defaults (T:=T) rfl (kin T _ lt) rfl e1 e2
end
section
variable {F:Frm}{ds:List Wd}{xs ys zs:List (Int×Int)}{i j:Nat}
end
section
variable {F:Frm}{ds:List Wd}{x0 xs zs:List (Int×Int)}{np i:Nat}
end
section
variable {F:Frm}{ds:List Wd}{xs:List (Int×Int)}{i j:Nat}
end
section
variable {room:Int}{brk:Nat->Bool}
end
section
variable {F:Frm}{ds:List Wd}{L room:Int}{brk:Nat->Bool}
end
section
variable {F:Frm}{ds:List Wd}{xs:List (Int×Int)}{i j:Nat}
end
section
variable {F:Frm}{ds es:List Wd}{xs ys:List (Int×Int)}{a r:Nat}
end
section
variable {a:Nat}{ds rs:List Wd}
end
section
variable {F:Frm}{ds:List Wd}{xs:List (Int×Int)}{k:Nat}
end
section
variable {F:Frm}{ds es:List Wd}{xs:List (Int×Int)}{k j:Nat}{h h' f w:Int}
end
section
variable {K:KC}{H0 H H':Hp}{as:List Addr}{ds:List Wd}
end
section
variable {X:Cx}
end
section
variable {prog:K8}{w:K_}{A:LC}{E:KG->KJ->Prop}{s:KJ}
end
section
variable {X:Cx}{pos:Pos}
end
section
variable {X:Cx}{elt iter:Expr}{ifs:List Expr}{scope:Scope}{cl:List (Str×Addr)}{pos px py tp:Pos}{k1:Nat}{x y:Str}{caps:List Str}{js:List Nat}{tc:TT}{te:TE}{wi:TI}
def g2(K:KC):TG:=Dy K 2 (rP (bN 0) (rP (bN 1) Dx))
theorem G_(hc:X.calm=true)(L:sW X scope cl [x,y] caps js)(hi:PI X (.Tuple [.Name x px,.Name y py] k1 tp) iter wi)
  (ht:∀s H C ex,PTs (X.blk (x::y::caps) s H scope cl C ex) ifs tc)(he:∀s H C ex,PE (X.blk (x::y::caps) s H scope cl C ex) elt te)
  (hN:(x::y::caps).Nodup:=by decide)(hx:(NN scope X.env).names.lookup x=some .local:=by with_unfolding_all rfl)(hy:(NN scope X.env).names.lookup y=some .local:=by with_unfolding_all rfl)
  (hs:∀x,MI iter X.env x=pure x:=by intro _;rfl):PE X (.ListComp elt [⟨.Tuple [.Name x px,.Name y py] k1 tp,iter,ifs,0⟩] scope pos) (AK wi (g2 X.K) tc te 2 js):=
 Ce (own:=[x,y]) (g:=g2 X.K) hc L hi (λs H C ex=>iX hc (bZ (bw (i:=0) hN rfl (.inl hx) (.inr hx)) (bZ (bw (i:=1) hN rfl (.inl hy) (.inr hy)) gc))) ht he hs
end
theorem Ha{K:KC}{a b:Addr}{xs ys:List V}{cv:St}{tc:TT}{te:TE}{Fin:List V->Hp->Prop}{H1:Hp}(Pv:Nat->List V->Hp->Prop)(el:xs.length=ys.length)(h0:Pv 0 [] H1)(hl:∀i zs H,i<=xs.length->Pv i zs H->SqL K H a xs/\SqL K H b ys)(hz:∀i zs H,i<xs.length->Pv i zs H->zs.length<KP)
  (hs:∀i x y zs H p,xs[i]?=some x->ys[i]?=some y->Pv i zs H->H p=none->tc (some x::some y::cv) (upd H p (.tup [x,y])) λb H3=>if b=true then te (some x::some y::cv) H3 λv H4=>Pv (i+1) (zs++[v]) H4 else Pv (i+1) zs H3)
  (hd:∀zs H,Pv xs.length zs H->Fin zs H):gLC (Itz K a b) (g2 K) tc te 2 cv Fin H1:=by
 refine⟨λi m zs H=>m=xs.length-i/\i<=xs.length/\Pv i zs H,⟨xs.length,by simp,Ls _,h0⟩,?_⟩;rintro i m zs H ⟨rfl,hi,p⟩;obtain⟨q1,q2⟩:=hl i zs H hi p;by_cases lt:i<xs.length
 .have e1:xs[i]?=some xs[i]:=KM lt;have e2:ys[i]?=some (ys[i]'(by omega)):=KM (by omega);refine .inr ⟨⟨xs,ys,_,_,q1,q2,e1,e2⟩,hz i zs H lt p,Pv (i+1),λzs' H' p'=>⟨xs.length-(i+1),by omega,rfl,lt,p'⟩,λv H' yl own ho=>?_⟩;obtain⟨pp,hp,rfl,hh⟩:=yl;have hH:=hh xs ys _ _ q1 q2 e1 e2;subst hH
  match own,ho with
  |[o1,o2],_=>exact⟨pp,_,rfl,SqT.of ah,rfl,_,_,rfl,_,_,rfl,rfl,⟨[some xs[i],some (ys[i]'(by omega))],rfl,rfl⟩,hs i _ _ zs H pp e1 e2 p hp⟩
 .have:i=xs.length:=by omega
  subst this;exact .inl ⟨⟨xs,ys,q1,q2,.inl (Kz _)⟩,hd zs H p⟩
end L2

namespace L2
open PySem PySem.W PySem.Calls PySem.Spec PyProof.Rows Builtin Builtin.ObjectAttr Builtin.Getset_descriptor
def jx(h:Heap)(x C:Addr):Prop:=∃o,h.get? x=some o/\o.cls=.ref C
section
variable {prog:K8}{w:K_}{A:LC}{E:KG->KJ->Prop}{h:Heap}{g:Array Pm}{d:Drawn}{t:Nat}{os:Mj}{K:Frag}{x C:Addr}
theorem jx.type{M:Pz}(I:jx h x C):N8 M h (PY (.ref x)) (.ref C):=by
 obtain⟨ob,hob,hobc⟩:=I;have z:N8 M h (PY (.ref x)) ob.cls:=(PySem.W.Looks.ld hob).andThen .now;rw[hobc]at z;exact z
theorem Cq{M:Pz}{nameV:KG}{Q:Unit->KJ->Prop}(X:K.In h)(I:jx h x C)(hb:subIn K (.ref C) (.type "BaseException")=some true)(hq:Q () ⟨h,g,d,t,os⟩):Lc M A (N4 "BaseException.__getattribute__" ⟨[.ref x,nameV],[]⟩) Q E ⟨h,g,d,t,os⟩:=by
 have hk:builtinKind "BaseException.__getattribute__" = some .slot:=by decide
 have hsplit:splitId "BaseException.__getattribute__" = some ("BaseException","__getattribute__"):=by decide
 have ha:=PySem.F.args_bexc_ga (.ref x) nameV;have L0:=I.type (M:=M);have L1:=looks_subIn (M:=M) X hb;have LI:N8 M h (isInstance (.ref x) (.type "BaseException")) true:=L0.andThen L1;simp only[N4,hk,hsplit];refine K3 (LI.at ?_)
 repeat (first|assumption|wp_step)
theorem FH{R:Oe->KJ->Prop}{tp:KG}(X:K.In h)(I:jx h x C)(hm:mroIn K C (.type "object")=some true)
  (hq:R (.ok (.ret (.ref C))) ⟨h,g,d,t,os⟩):Ny (Lh prog w) A (.call (.builtin "getset_descriptor.__get__") ⟨[.builtin "object.__class__",.ref x,tp],[]⟩) R ⟨h,g,d,t,os⟩:=by
 have L0:=I.type (M:=Lh prog w);have L1:=looks_mroIn (M:=Lh prog w) X hm;refine M0 KF.slot_gs.plain KF.entry_gs (KF.slot_gs.check _ _ _ _ _ _ _ _ KF.type_class (KF.args_gs _ _ _) ?_);unfold NR.«getset_descriptor.__get__» descrGet;rw[dga_obj];refine K3 (Lz ?_);unfold descrGetter descrCheckInstance descrNameAndClass isInstance;simp only[KF.owner_class]
 repeat lk
 refine⟨Code.quiet_builtin _ (by decide),Oh KF.entry_class ?_⟩;unfold NR.«object.__class__» shownTypeOf
 repeat lk
 exact hq
theorem Cr{tk:Tok}{Q:Fin->KJ->Prop}(X:K.In h)(I:jx h x C)(hcl:findIn K (.ref C) "__class__" = some (some (.builtin "object.__class__")))(hm:mroIn K C (.type "object")=some true)(hq:Q (.done (.ret (.ref C))) ⟨h,g,d,t,os⟩) :
  Lc (Lh prog w) A (NR.«object.__getattribute__» ⟨[.ref x,.str "__class__" tk],[]⟩) Q E ⟨h,g,d,t,os⟩:=by
 have hT5:(⟨h,g,d,t,os⟩:KJ).TypeIs (.builtin "object.__class__") "getset_descriptor":=PySem.F.typeOf_object_class;have f5:=PySem.F.typeOf_object_class;have f6:=PySem.F.slot_gs_get.lookup;have f7:=PySem.F.slot_gs_set.lookup;have L0:=I.type (M:=Lh prog w);have L1:=looks_findIn (M:=Lh prog w) X hcl;obtain⟨o,hx,hc⟩:=id I
 repeat (any_goals (first|assumption|(with_reducible refine wpAny_loadPart_at hx ?_;rw[hc])|with_reducible refine Looks.at L0 ?_|with_reducible refine Looks.at L1 ?_|wp_step))
 refine FH X I hm ?_
 repeat (any_goals (first|assumption|wp_step))
theorem D6{tk:Tok}{R:Oe->KJ->Prop}(X:K.In h)(I:jx h x C)(hcl:findIn K (.ref C) "__class__" = some (some (.builtin "object.__class__")))(hm:mroIn K C (.type "object")=some true)(hb:subIn K (.ref C) (.type "BaseException")=some true)(hq:R (.ok (.ret (.ref C))) ⟨h,g,d,t,os⟩) :
  Ny (Lh prog w) A (.call (.builtin "BaseException.__getattribute__") ⟨[.ref x,.str "__class__" tk],[]⟩) R ⟨h,g,d,t,os⟩:=
 M0 (by decide) PySem.F.entry_bexc_ga (Cq X I hb (Cr X I hcl hm hq))
theorem Hb{tk:Tok}{Q:KG->KJ->Prop}(X:K.In h)(I:jx h x C)(hga:findIn K (.ref C) "__getattribute__" = some (some (.builtin "BaseException.__getattribute__")))(hgt:findIn K (.ref C) "__getattr__" = some none)(hcl:findIn K (.ref C) "__class__" = some (some (.builtin "object.__class__")))(hm:mroIn K C (.type "object")=some true)(hb:subIn K (.ref C) (.type "BaseException")=some true)(hq:Q (.ref C) ⟨h,g,d,t,os⟩) :
  Lc (Lh prog w) A (getAttrBy (.ref x) (.str "__class__" tk) false false) Q E ⟨h,g,d,t,os⟩:=by
 have f3:=PySem.F.attr_ValueError.ga.bind (.ref x);have hx2:(OJ "BaseException.__getattribute__" == OJ "object.__getattribute__")=false:=by decide
 have hx1:(onTheHeap (LG C)&&OJ "BaseException.__getattribute__" == OJ "object.__getattribute__")=false:=by rw[hx2];rfl
 have L0:=I.type (M:=Lh prog w);have L1:=looks_findIn (M:=Lh prog w) X hga;have L2:=looks_findIn (M:=Lh prog w) X hgt;obtain⟨o,hx,hc⟩:=id I
 repeat (any_goals (first|assumption|(with_reducible refine wpAny_loadPart_at hx ?_;rw[hc])|with_reducible refine Looks.at L0 ?_|with_reducible refine Looks.at L1 ?_|with_reducible refine Looks.at L2 ?_|wp_step))
 refine D6 X I hcl hm hb ?_
 repeat (any_goals (first|assumption|wp_step))
theorem D7{Q:Option KG->KJ->Prop}(X:K.In h)(I:jx h x C)(hga:findIn K (.ref C) "__getattribute__" = some (some (.builtin "BaseException.__getattribute__")))(hgt:findIn K (.ref C) "__getattr__" = some none)(hcl:findIn K (.ref C) "__class__" = some (some (.builtin "object.__class__")))(hm:mroIn K C (.type "object")=some true)(hb:subIn K (.ref C) (.type "BaseException")=some true)(hq:Q (some (.ref C)) ⟨h,g,d,t+1,os⟩) :
  Lc (Lh prog w) A (P3 (.ref x) "__class__") Q E ⟨h,g,d,t,os⟩:=by
 unfold P3 getAttrBy?
 repeat (any_goals (first|assumption|with_reducible apply Hb X I hga hgt hcl hm hb|wp_step))
end
def um(K:Frag)(C:Addr):Bool:=(clsIn K C).isSome&&findIn K (.ref C) "__getattribute__" == some (some (.builtin "BaseException.__getattribute__"))&&findIn K (.ref C) "__getattr__" == some none&&findIn K (.ref C) "__class__" == some (some (.builtin "object.__class__"))&&mroIn K C (.type "object")==some true&&subIn K (.ref C) (.type "BaseException")==some true
theorem yh{K:Frag}{x C:Addr}(e:um K C=true):KitX K (.ref x) (.ref C) (λh=>jx h x C):=by
 unfold um at e;simp only[Ly,beq_iff_eq]at e;obtain⟨⟨⟨⟨⟨e0,e1⟩,e2⟩,e3⟩,e4⟩,e5⟩:=e;refine⟨λ_ _ _ I=>I.type,λ_ _ X _=>?_,λh tp dd its n sl X htp=>?_,λ{prog w A E Q s} X I k=>?_⟩
 .unfold clsIn at e0
  split at e0
  .rename_i c' d' cd' sl' ho
   intro A' Q' E' s' k q;unfold isType loadHead;exact K3 (wpAny_loadPart (k _ _ (X _ _ ho)) (Lz q))
  .cases e0
 .refine Bool.eq_false_iff.mpr λq=>?_;have e:C=tp:=Value.ref.inj (beq_iff_eq.mp q);subst e;unfold clsIn at e0
  split at e0
  .rename_i c' d' cd' sl' ho
   have z:=(X _ _ ho).symm.trans htp;cases z
  .cases e0
 .obtain⟨h,g,d,t,os⟩:=s;exact D7 X I e1 e2 e3 e4 e5 k
end L2

namespace L2
open PySem PySem.W PySem.Spec PyProof.Rows
def uZ(x C:Addr):HO:=.ext λh=>jx h x C
section
variable {X:Cx}{pins:List (Addr×Obj)}{σ:St}{H:Hp}{s:KJ}
theorem cm.there{P:K8}{w:K_}{H:Hp}{h:Heap}{a:Addr}{o:HO}(z:cm P w H h a o):∃ob,h.get? a=some ob:=by
 induction o with
 |lst xs=>obtain⟨_,_,_,_,e⟩:=z;exact⟨_,e⟩
 |tup xs=>obtain⟨_,_,_,ob,e,_⟩:=z;exact⟨_,e⟩
 |dK kvs=>obtain⟨_,_,_,_,ob,_,_,e,_⟩:=z;exact⟨_,e⟩
 |dT kvs=>obtain⟨_,_,_,_,ob,_,_,e,_⟩:=z;exact⟨_,e⟩
 |set S n=>obtain⟨ob,_,_,_,e,_⟩:=z;exact⟨_,e⟩
 |ins C dx fs=>obtain⟨_,_,_,e,_⟩:=z;exact⟨_,e⟩
 |own y=>obtain⟨_,e⟩:=z;exact⟨_,e⟩
 |xd fs=>obtain⟨_,⟨_,_,_,e,_⟩,_⟩:=z;exact⟨_,e⟩
 |rng lo hi=>obtain⟨_,_,_,e⟩:=z;exact⟨_,e⟩
 |frz ob u ih=>obtain⟨e,_⟩:=z;exact⟨_,e⟩
 |tbl ps=>exact⟨_,(show h.get? a=some _ from z)⟩
 |met f y=>exact⟨_,(show h.get? a=some _ from z)⟩
 |ext φ=>obtain⟨_,⟨_,e⟩,_⟩:=z;exact⟨_,e⟩
theorem Inv.trackX{x C:Addr}(I:Inv X pins σ H s)(ex:jx s.heap x C)(hn:H x=none)(h0:∀o,X.s₀.heap.get? x=some o->x∈X.ex)(hL:x≠X.env.locals)(hc:∀y c,X.env.cells.lookup y=some c->c≠x)(hp:∀p∈X.pn++pins,p.1≠x):Inv X pins σ (upd H x (uZ x C)) s:=by
 refine⟨I.ok,I.os,I.bare,⟨I.base.keep,I.base.slot,λb o q n hx=>?_,I.base.there,λb xs q=>?_,λb o u q=>?_,λb ps q=>?_⟩,I.loc,I.cell,?_,λy c e=>?_,λp h=>?_,λb ob q=>?_,I.len⟩
 .have nb:b≠x:=λe=>by subst e;exact hx (h0 o q)
  rw[aq nb];exact I.base.free b o q n hx
 .have z:=I.base.tups b xs q;rw[aq (λe=>by rw[e,hn]at z;cases z)];exact z
 .have z:=I.base.frzs b o u q;rw[aq (λe=>by rw[e,hn]at z;cases z)];exact z
 .obtain⟨more,z⟩:=I.base.tbls b ps q;exact⟨more,by rw[aq (λe=>by rw[e,hn]at z;cases z)];exact z⟩
 .rw[aq (Lp hL)];exact I.free
 .rw[aq (hc y c e)];exact I.freeC y c e
 .obtain⟨z1,z2,z3,z4,z5⟩:=I.pin p h;exact⟨z1,by rw[aq (hp p h)];exact z2,z3,z4,z5⟩
 .by_cases e:b=x
  .subst e;rw[ah]at q;cases q;obtain⟨o,e1,e2⟩:=id ex;exact⟨ex,⟨o,e1⟩,λh1 h2 p k=>by obtain⟨o,f1,f2⟩:=p;exact⟨o,k o f1,f2⟩⟩
  .rw[aq e]at q;refine(I.hok b ob q).stay (λc v _ z=>z) (λc z=>?_) (λc xs z=>?_)
   .rw[aq (λe=>by rw[e,hn]at z;cases z)];exact z
   .rw[aq (λe=>by rw[e,hn]at z;cases z)];exact z
theorem rX{M:Pz}{A:LC}{E:KG->KJ->Prop}{i:Nat}{x:Str}{pos:Pos}{Q:Unit->KJ->Prop}(I:Inv X pins σ H s)(hN:X.N.Nodup)(hi:X.N[i]?=some x)(hk:X.env.kindOf x=some .local)
  (h:∀s',Inv X pins (σ.set i none) H s'->Q () s'):Lc M A (do bindName X.env x .none;unbindBehindTheSuite X.env x pos) Q E s:=by
 obtain⟨m,hn,hl⟩:=id I.loc;have hcls:(X.env.scope.kind==.class||(X.env.scope.kind==.module&&X.env.locals != X.env.globals))=false:=by rw[I.ok.kind];rfl
 have hiσ:i<σ.length:=by rw[I.len];exact(List.getElem?_eq_some_iff.mp hi).1
 have cne:=I.cne;have tracked:∀{a:Addr}{h':Heap},(∃o,s.heap.get? a=some o/\H a=none)->M8 a s.heap h'->HOk X.prog X.w H h':=λ{a h'} ha hs b ob e=>by
  obtain⟨_,_,hfree⟩:=ha;refine(I.hok b ob e).stay (λc w' hc q=>(hs.2 c ?_).trans q) (λ_ q=>q) λ_ _ q=>q;rintro rfl;rcases hc with rfl|hc
  .rw[hfree]at e;cases e
  .rw[hfree]at hc;cases hc
 refine wpAny_nameGoes_keeps hk hn hcls (λh' v hn' hs=>?_);obtain⟨oL,_,_,hoL,_⟩:=id hn;refine h _ ⟨I.ok,I.os,I.bare,⟨λb o e n hb hx=>?_,λb o e n hb hx=>?_,I.base.free,λb o e hx=>?_,I.base.tups,I.base.frzs,I.base.tbls⟩,⟨_,hn',λj y v' e1 e2 e3=>?_⟩,λy c e=>?_,I.free,I.freeC,λp hp=>?_,tracked ⟨oL,hoL,I.free⟩ hs,by simpa using I.len⟩
 .exact(hs.2 b (KZ (K6 (KR e) I.ok.above))).trans (I.base.keep b o e n hb hx)
 .obtain⟨sl,e1⟩:=I.base.slot b o e n hb hx;exact⟨sl,(hs.2 b (KZ (K6 (KR e) I.ok.above))).trans e1⟩
 .obtain⟨o',e1⟩:=I.base.there b o e hx;exact⟨o',(hs.2 b (KZ (K6 (KR e) I.ok.above))).trans e1⟩
 .by_cases hj:j=i
  .subst hj;rw[NI hiσ]at e2;cases e2
  .rw[N_ (Lp hj)]at e2;obtain⟨u',r',q⟩:=hl j y v' e1 e2 e3;refine⟨u',r',?_⟩;rcases q with⟨k,e⟩|⟨k,c,e,z⟩
   .refine .inl ⟨k,?_⟩;have:y≠x:=λe=>hj (sQ hN e1 (e▸hi));simp[this,e]
   .exact .inr ⟨k,c,e,z.sameBut hs (cne y c e)⟩
 .obtain⟨w',z⟩:=I.cell y c e;exact⟨w',z.sameBut hs (cne y c e)⟩
 .obtain⟨e,n,ne,nf,d⟩:=I.pin p hp;exact⟨(hs.2 p.1 ne).trans e,n,ne,nf,d⟩
end
def D8(D:dS)(i:Nat):dS:={ nx:=λσ H=>D.nx (σ.set i none) H,rt:=D.rt,bk:=λσ H=>D.bk (σ.set i none) H,ct:=λσ H=>D.ct (σ.set i none) H }
section
variable {X:Cx}{k:Nat}{f T:Addr}{fd:KY}{ps:List Str}{sp:Sp}{fx c n:Str}{i:Nat}{st:Stmt}{e:Expr}{es:List Expr}{t:TA}{b₀:Stmt}{suite:List Stmt}{th:TS}{np pf cpos apos hpos pos:Pos}
theorem Cs{pins:List (Addr×Obj)}{σ:St}{H1 H':Hp}{s1 s2:KJ}{D:dS}{x C:Addr}{B:Heap}{a0:KG}{E2:KG->KJ->Prop}(I1:Inv X pins σ H1 s1)(hst:X.stack=X.env::X.outer/\X.env.frame=some X.env.locals)
  (os:s2.os=s1.os)(bare:N6 s2.gens)(un:Un (frs X.stack) [] H1 H' s1.heap s2.heap)(hok:HOk X.prog X.w H' B)
  (cov1:∀b o,s1.heap.get? b=some o->H1 b=none->b∉frs X.stack->B.get? b=some o)(cov2:∀b o,s1.heap.get? b=some o->b∉frs X.stack->∃o',B.get? b=some o')(fl:Om B X.stack x (.ref C) a0 s2.heap)
  (hN:X.N.Nodup)(hi:X.N[i]?=some n)(hk:X.env.kindOf n=some .local)
  (hg:Gl X c)(hm:X.mg c=some (.ref T))(tk:xi X.K C T)(hh:∀v,PSs (X.marked v) (b₀::suite) th)(q:∀x,H' x=none->th (D8 D i) (σ.set i (some (.ref x))) (upd H' x (uZ x C)))(hd:(c==("__debug__" : Str))=false:=by decide) :
  Lc (Lh X.prog X.w) X.A (noteFrame (.ref x) X.env) (λ_ s₂=>Lc (Lh X.prog X.w) X.A (setFlight (.ref x) none) (λ_ s₃=>Lc (Lh X.prog X.w) X.A (handleBy (.ref x) X.env [.ExceptHandler (some (.Name c np)) (some n) (b₀::suite) hpos]) (SP X pins D) E2 s₃) E2 s₂) E2 s2:=by
 have hfr:X.A.frames=some (X.env::X.outer):=hst.1▸I1.ok.frames;have after:∀h6:Heap,Om B X.stack x (.ref C) a0 h6->s2.heap.UpToSlots h6->Inv X pins σ H' { s2 with heap:=h6 }:=λh6 fl6 up=>by
  refine I1.call' (ch:=[]) os ⟨λb o q n hb _=>fl6.1 b o (cov1 b o q n hb),λb o q n hb hx'=>?_,un.free,λb o q _=>?_,un.tups,un.frzs,un.tbls⟩ (hok.kept fl6.1) bare (λb z=>absurd z (by simp))
  .obtain⟨sl,e1⟩:=un.slot b o q n hb hx';obtain⟨_,o3,e3,nd⟩:=fl.2.2.1.mem hb;rw[e1]at e3;cases e3;obtain⟨sl3,e4⟩:=up b _ e1 nd;exact⟨sl3,e4⟩
  .by_cases hb:b∈frs X.stack
   .obtain⟨_,o3,e3,_⟩:=fl6.2.2.1.mem hb;exact⟨o3,e3⟩
   .obtain⟨o',e⟩:=cov2 b o q hb;exact⟨o',fl6.1 b o' e⟩
 have flx:=fl;rw[hst.1]at fl;refine wpAny_looks_onW hfr hst.2 fl λh₄ held up4=>?_;refine wpAny_landsW held λh₅ fl5 up5=>?_;have fl5':Om B X.stack x (.ref C) a0 h₅:=hst.1▸fl5;have I5:=after h₅ fl5' (up4.trans up5);have I5m:=I5.marked (.ref x);refine wpAny_handleBy_cons (codeAny_handlers_test (jW (X:=X.marked (.ref x)) I5m hg hm ?_ hd)) (by intro q;cases q);obtain⟨ob,hob,hobc⟩:=fl5.there;have LT:N8 (Lh X.prog X.w) h₅ (PY (.ref x)) (.ref C):=by
  have z:N8 (Lh X.prog X.w) h₅ (PY (.ref x)) ob.cls:=(PySem.W.Looks.ld hob).andThen .now;rw[hobc]at z;exact z
 refine(PySem.W.exm_one (M:=Lh X.prog X.w) (I5.kIn) LT tk).here ?_;refine codeAny_handlers_suite_as ?_;refine lands_againW fl5 λh₆ fl6 up6=>?_;have fl6':Om B X.stack x (.ref C) a0 h₆:=hst.1▸fl6;have I6:=after h₆ fl6' ((up4.trans up5).trans up6);have hBx:B.get? x=none:=fl6'.2.1;have hx0:H' x=none:=by
  cases hq:H' x with
  |none=>rfl
  |some o =>
   obtain⟨ob2,z⟩:=(hok x o hq).there;rw[hBx]at z;cases z
 obtain⟨oe,vs,T',oT,ts,he,hcl,hdat,_⟩:=fl6'.2.2.2;have nofr:∀b,b∈frs X.stack->b≠x:=λb hb e=>by
  obtain⟨_,o3,e3,nd⟩:=fl6'.2.2.1.mem hb;rw[e,he]at e3;cases e3;exact nd _ hdat
 have I7:=(I6.trackX (x:=x) (C:=C) ⟨oe,he,hcl.1⟩ hx0 (λo z=>by
   by_cases hx':x∈X.ex
   .exact hx'
   .obtain⟨o',z'⟩:=I1.base.there x o z hx';obtain⟨o2,z2⟩:=cov2 x o' z' (λhb=>nofr x hb rfl);rw[hBx]at z2;cases z2) (λe=>by
   obtain⟨m,⟨oL,es',ep,hoL,hdL,_⟩,_⟩:=I6.loc;have hoL':h₆.get? X.env.locals=some oL:=hoL;rw[<-e,he]at hoL';cases hoL';rw[hdat]at hdL;cases hdL) (λy cc ec e=>by
   obtain⟨v,oc,z1,z2⟩:=I6.cell y cc ec;have z1':h₆.get? cc=some oc:=z1;rw[e,he]at z1';cases z1';rw[hdat]at z2;cases z2) (λp hp e=>by
   obtain⟨z1,z2,z3,z4,z5⟩:=I1.pin p hp;have nf:p.1∉frs X.stack:=λhb=>by
    rcases List.mem_cons.mp (I1.stkSub p.1 hb)with z|z
    .exact z3 z
    .exact z4 z
   obtain⟨o2,z6⟩:=cov2 p.1 p.2 z1 nf;rw[e,hBx]at z6;cases z6)).marked (.ref x)
 refine oE (X:=X.marked (.ref x)) I7 hN hi (.inl hk) (show bg (.ref x) (.ref x)from rfl) (λs8 I8=>?_) (.inr hk);refine LJ (hh (.ref x) pins _ _ _ (D8 D i) I8 (q x hx0)) (λfl s' h=>?_) λ_ _ z=>Mp z;have h':=h.unmarked I1.ok.hd;show Lc (Lh X.prog X.w) X.A (do bindName X.env n .none;unbindBehindTheSuite X.env n hpos) (λ_ s₃=>SP X pins D fl s₃) E2 s'
 cases fl with
 |next=>obtain⟨σ',H2,J,z⟩:=h';exact rX J hN hi hk λs3 J3=>⟨_,_,J3,z⟩
 |brk=>obtain⟨σ',H2,J,z⟩:=h';exact rX J hN hi hk λs3 J3=>⟨_,_,J3,z⟩
 |cont=>obtain⟨σ',H2,J,z⟩:=h';exact rX J hN hi hk λs3 J3=>⟨_,_,J3,z⟩
 |ret u=>obtain⟨v,σ',H2,J,r,z⟩:=h';exact rX J hN hi hk λs3 J3=>⟨_,_,_,J3,r,z⟩
def Hc(K:KC)(sp:Sp)(t:TA)(T:Addr)(i:Nat)(th:TS):TS:=λD σ H=>t σ H λvs H1=>sp (vs++[]) H1 (λ_ H2=>D.nx σ H2) (λcls _ H2=>∃C,cls=.ref C/\xi K C T/\∀x,H2 x=none->th (D8 D i) (σ.set i (some (.ref x))) (upd H2 x (uZ x C)))
theorem Ct(hN:X.N.Nodup)(hi:X.N[i]?=some n)(hk:X.env.kindOf n=some .local)(Df:bR X.K X.mg fx st ps f fd)(G:aO X.prog X.w X.K X.mg X.base (CXe X.prog X.w) k f fd ps sp)(hr:cg k X.A)(hgf:Gl X fx)
  (ha:∀W,PA (X.wish W) (e::es) t)(hgc:Gl X c)(O:i8 X.K X.mg c T)(hst:X.stack=X.env::X.outer/\X.env.frame=some X.env.locals)(hh:∀v,PSs (X.marked v) (b₀::suite) th)
  (hs:N0 (.Call (.Name fx pf) (e::es) [] cpos) none apos.line X.env=pure false:=by rfl)
  (hd:(fx==("__debug__" : Str))=false:=by decide)(hdc:(c==("__debug__" : Str))=false:=by decide)(he:K7 (e::es) X.env=(false,eval e X.env)::K7 es X.env:=by rfl)(hpl:(MB cpos (K7 es X.env)).any (·.1)=false:=by rfl) :
  PS X (.Try [.Expr (.Call (.Name fx pf) (e::es) [] cpos) apos] [.ExceptHandler (some (.Name c np)) (some n) (b₀::suite) hpos] [] [] pos) (Hc X.K sp t T i th):=by
 intro pins s σ H D I h;refine wpAny_Try_except (NZ (wpAny_Expr_any (thn (DY I Df G hr hgf (ha _) h (λH1 s1 ex s2 I1 hx=>?_) hd he hpl) λv s1 ⟨y,H1,I1,r1,q1⟩=>?_) I.quiet hs))
 .obtain⟨x,C,H',B,a0,rfl,os,bare,un,hok,cov1,cov2,fl,C',ec,tk,q⟩:=hx;cases ec;exact Cs I1 hst os bare un hok cov1 cov2 fl hN hi hk hgc O.mg tk hh q hdc
 .exact M_ (M_ ⟨σ,H1,I1,q1⟩)
def jy(K:KC)(xs:List V)(H:Hp)(Q:V->Hp->Prop):Prop:=∃x C T b,xs=[.ref x,T]/\H x=some (uZ x C)/\um K C=true/\((∃a,T=.ref a/\Nj K (.ref C) (.ref a)=some b)\/∃m,T=.ty m/\Nj K (.ref C) (.type m)=some b)/\Q (.bl b) H
theorem dX{X:Cx}:ip X (.builtin "isinstance") (jy X.K):=by
 intro pins s σ H xs us Q I r h;obtain⟨x,C,T,b,rfl,hx,hl,hT,q⟩:=h;obtain⟨ho,_,_⟩:=(show cm X.prog X.w H s.heap x (uZ x C)from I.hok x _ hx);rcases hT with⟨a,rfl,hb⟩|⟨m,rfl,hb⟩
 .cases r with
  |cons r1 r2 =>
   cases r2 with
   |cons r3 r4 =>
    cases r4;cases r1;cases r3;exact PySem.W.kia_one (yh hl) I.kIn ho hb (by intro z;cases z) λtk=>⟨.bl b,H,I.tok tk,rfl,q⟩
 .cases r with
  |cons r1 r2 =>
   cases r2 with
   |cons r3 r4 =>
    cases r4;cases r1;cases r3;exact PySem.W.kia_one (yh hl) I.kIn ho hb (by intro z;cases z) λtk=>⟨.bl b,H,I.tok tk,rfl,q⟩
end
end L2

namespace L2
open PySem PySem.Spec PyProof.Rows Builtin Builtin.ObjectAttr
section
variable {prog:K8}{w:K_}{A:LC}{E:KG->KJ->Prop}{h:Heap}{g:Array Pm}{d:Drawn}{t:Nat}{os:Mj}{a:Addr}{o:Obj}
theorem yi:OS (.type "list") "keys" = pure none:=by rw[typeLookup_type,builtinLookup_eq_fast];kernel_rfl
theorem sY:isSubtype (.type "AttributeError") (.type "AttributeError")=pure true:=by rw[isSubtype_type];kernel_rfl
theorem AQ{α:Type}{ov:KG}{name msg:Str}{Q:α->KJ->Prop}(hm:msg.length<=KP)(hh:A.handled=none)
  (hq:∀h' t' e,(∀b o,h.get? b=some o->h'.get? b=some o)->(∃ob,h'.get? e=some ob/\ob.cls=.type "AttributeError")->E (.ref e) ⟨h',g,d,t',os⟩) :
  Lc (Lh prog w) A (raiseAttrError ov name msg:Sem α) Q E ⟨h,g,d,t,os⟩:=by
 unfold raiseAttrError;refine K3 (wpAny_mkStr (K3 ?_) hm);unfold newExc newTuple;refine K3 (OE ?_ (by size_fits));refine K3 (m:=firstArgMember _ _) (wpAny_of_eq (a:=NY) (by unfold firstArgMember;kernel_rfl) ?_);refine OE ?_ (by size_fits);have hE:=Ld (h.push { cls:=.type "tuple",data:=.seq #[MV msg t] }) (o:={ cls:=.type "AttributeError",data:=.fields (#[LG h.objs.size,.none,.none,.none,.bool false,.none]++ownMembersOf (.type "AttributeError") [MV msg t]) }) rfl;have hT:(⟨(h.push { cls:=.type "tuple",data:=.seq #[MV msg t] }).push { cls:=.type "AttributeError",data:=.fields (#[LG h.objs.size,.none,.none,.none,.bool false,.none]++ownMembersOf (.type "AttributeError") [MV msg t]) },g,d,t+1,os⟩:KJ).TypeIs (.ref (h.push { cls:=.type "tuple",data:=.seq #[MV msg t] }).objs.size) "AttributeError":=⟨_,hE,rfl⟩;have f1:=sY;unfold noteAttr lacksNameAndObj layMembers
 repeat (any_goals (first|assumption|wp_step))
 unfold raiseNew;refine K3 (wpAny_handled ?_);rw[hh]
 first
  |refine wpAny_throw ?_
  |refine K3 (Lz (wpAny_throw ?_))
 refine hq _ _ _ (λb o hb=>?_) ⟨_,Heap.get?_update_self _ hE rfl,rfl⟩;have lt:=KR hb;refine(NL _ _ (λe=>?_)).trans (KU _ (KU _ hb));have sz:(h.push { cls:=.type "tuple",data:=.seq #[MV msg t] }).objs.size=h.objs.size+1:=Nh ..;have e':(h.push { cls:=.type "tuple",data:=.seq #[MV msg t] }).objs.size=b:=e;exact absurd lt (by rw[<-e',sz];exact Nat.not_lt.mpr (Mf _))
theorem AR{tk:Tok}{Q:Fin->KJ->Prop}{its:Array KG}{n:Nat}{sl:Array (Option KG)}(hx:h.get? a=some ⟨.type "list",none,.seq its n,sl⟩)(hh:A.handled=none)
  (hq:∀h' t' e,(∀b o,h.get? b=some o->h'.get? b=some o)->(∃ob,h'.get? e=some ob/\ob.cls=.type "AttributeError")->E (.ref e) ⟨h',g,d,t',os⟩) :
  Lc (Lh prog w) A (NR.«object.__getattribute__» ⟨[.ref a,.str "keys" tk],[]⟩) Q E ⟨h,g,d,t,os⟩:=by
 have hT:(⟨h,g,d,t,os⟩:KJ).TypeIs (.ref a) "list":=⟨_,hx,rfl⟩;have f4:=yi
 repeat (any_goals (first|assumption|wp_step))
 exact AQ (by decide) hh hq
theorem wI:OS (.type "list") "__getattr__" = pure none:=by rw[typeLookup_type,builtinLookup_eq_fast];kernel_rfl
theorem Cu{tk:Tok}{R:Oe->KJ->Prop}{its:Array KG}{n:Nat}{sl:Array (Option KG)}(hx:h.get? a=some ⟨.type "list",none,.seq its n,sl⟩)(hh:A.handled=none)
  (hq:∀h' t' e,(∀b o,h.get? b=some o->h'.get? b=some o)->(∃ob,h'.get? e=some ob/\ob.cls=.type "AttributeError")->R (.error (.ref e)) ⟨h',g,d,t',os⟩) :
  Ny (Lh prog w) A (.call (.builtin "list.__getattribute__") ⟨[.ref a,.str "keys" tk],[]⟩) R ⟨h,g,d,t,os⟩:=
 M0 F.slot_list_getattribute.plain F.entry_list_ga (F.slot_list_getattribute.check _ _ _ _ _ _ _ _ (show(⟨h,g,d,t,os⟩:KJ).TypeIs (.ref a) "list" from⟨_,hx,rfl⟩) (F.args_list_getattribute_2 _ _) (AR hx hh hq))
theorem FI{tk:Tok}{Q:KG->KJ->Prop}{its:Array KG}{n:Nat}{sl:Array (Option KG)}(hx:h.get? a=some ⟨.type "list",none,.seq its n,sl⟩)(hh:A.handled=none)
  (hq:∀h' t' e,(∀b o,h.get? b=some o->h'.get? b=some o)->(∃ob,h'.get? e=some ob/\ob.cls=.type "AttributeError")->E (.ref e) ⟨h',g,d,t',os⟩) :
  Lc (Lh prog w) A (getAttrBy (.ref a) (.str "keys" tk) false) Q E ⟨h,g,d,t,os⟩:=by
 have hT:(⟨h,g,d,t,os⟩:KJ).TypeIs (.ref a) "list":=⟨_,hx,rfl⟩;have f2:=F.slot_list_getattribute.lookup;have f3:=F.slot_list_getattribute.bind (.ref a)
 repeat (any_goals (first|assumption|wp_step))
 refine Cu hx hh λh' t' e k ex=>?_;obtain⟨ob,he,hec⟩:=id ex;have hT2:(⟨h',g,d,t',os⟩:KJ).TypeIs (.ref e) "AttributeError":=⟨_,he,hec⟩;have f5:=sY;have f6:=wI;show Lc (Lh prog w) A (getattributeRaised (LG a) (MV (pq "keys") tk) (MU "list") (.ref e) none false false) Q E ⟨h',g,d,t',os⟩;unfold getattributeRaised hookBehind
 repeat (any_goals (first|assumption|wp_step))
 exact hq _ _ _ k ex
theorem Cv{Q:Option KG->KJ->Prop}{its:Array KG}{n:Nat}{sl:Array (Option KG)}(hx:h.get? a=some ⟨.type "list",none,.seq its n,sl⟩)(hh:A.handled=none)
  (hq:∀h' t',(∀b o,h.get? b=some o->h'.get? b=some o)->Q none ⟨h',g,d,t',os⟩) :
  Lc (Lh prog w) A (P3 (.ref a) "keys") Q E ⟨h,g,d,t,os⟩:=by
 unfold P3 getAttrBy?
 repeat (any_goals (first|assumption|with_reducible apply FI hx hh|wp_step))
 rintro h' t' e k ⟨ob,he,hec⟩;have hT2:(⟨h',g,d,t',os⟩:KJ).TypeIs (.ref e) "AttributeError":=⟨_,he,hec⟩;have f5:=sY
 repeat (any_goals (first|assumption|wp_step))
 exact hq _ _ k
end
end L2

namespace L2
open PySem PySem.Spec PyProof.Rows
def laid(kvs:List (Key×KG)):List (Key×KG):=kvs.foldl (λm kv=>P0 m kv.1 kv.2) []
theorem qz(kvs:List (Key×KG))(kv:Key×KG):laid (kvs++[kv])=P0 (laid kvs) kv.1 kv.2:=by unfold laid;rw[NS];rfl
theorem AS(m:List (Key×KG))(k:Key)(v:KG):(P0 m k v).length<=m.length+1:=by
 unfold P0
 split
 .rw[KA];omega
 .rw[KI];simp
theorem nR:P4 table "dict.update.loop" = some NR.«dict.update.loop»:=entryFor_of_tree (by kernel_rfl)
theorem ir:plainId "dict.update.loop" = true:=by decide
section
variable {prog:K8}{w:K_}{A:LC}{R:Oe->KJ->Prop}{i0 l d:Addr}{its:Array KG}{kvs:List (Key×KG)}
def Prs(prog:K8)(w:K_)(h:Heap)(its:Array KG)(kvs:List (Key×KG)):Prop:=its.size=kvs.length/\∀(j:Nat) v k x,its[j]?=some v->kvs[j]?=some (k,x)->∃p key,v=.ref p/\IsTup h p #[key,x]/\(bC prog w).is k key=true
theorem D9{h h':Heap}{p a:Addr}{xs:Array KG}(t:IsTup h p xs)(s:M8 a h h')(n:p≠a):IsTup h' p xs:=by
 obtain⟨o,ho,r⟩:=t;exact⟨o,(s.2 p n).trans ho,r⟩
theorem Prs.keep{h h':Heap}{a:Addr}(t:Prs prog w h its kvs)(s:M8 a h h')(n:∀o,h.get? a=some o->o.cls≠.type "tuple"):Prs prog w h' its kvs:=⟨t.1,λj v k x e1 e2=>by
 obtain⟨p,key,e3,tp,kk⟩:=t.2 j v k x e1 e2;refine⟨p,key,e3,D9 tp s λe=>?_,kk⟩;obtain⟨o,ho,hc,_⟩:=tp;exact n o (by rw[<-e];exact ho) hc⟩
theorem wJ(ne1:i0≠d)(ne2:l≠d)(ne3:l≠i0)(hh:A.in1.handled=none)(hz:its.size<=100000) :
  ∀(k i:Nat)(s:KJ),its.size-i=k->i<=its.size->s.heap.IsListIter i0 l i->s.heap.IsList l its->s.heap.DictOf (bC prog w) d (laid (kvs.take i))->(laid (kvs.take i)).length<=i->Prs prog w s.heap its kvs->
  (∀h' tk,h'.DictOf (bC prog w) d (laid kvs)->(∀b o,b≠d->b≠i0->s.heap.get? b=some o->h'.get? b=some o)->R (.ok (.ret .none)) { s with heap:=h',toks:=tk })->
  Ny (Lh prog w) A (.builtin "dict.update.loop" ⟨[.ref d,.ref i0,rawInt (i:Int),.none],[]⟩) R s:=by
 intro k;induction k with
 |zero =>
  intro i s hk hi hit hl hd hdl hp hR;have ei:i=its.size:=by omega
  refine Oh nR ?_;rw[Around.under_plainId ir _];show Lc _ A.in1 (pyNext (.ref i0) >>= _) _ _ s;refine K3 (wpAny_pyNext_list_end hh hit hl (by simp[ei]) λh' ex=>?_);refine K3 (Lz ?_);have e1:kvs.take i=kvs:=K9 (by rw[ei,hp.1];exact Kz _);rw[e1]at hd;exact Lz (hR h' _ (hd.extBut ex (Lp ne1)) λb o _ hb e=>ex b o hb e)
 |succ k ih =>
  intro i s hk hi hit hl hd hdl hp hR;have hlt:i<its.size:=by omega
  have hkl:i<kvs.length:=by rw[<-hp.1];exact hlt
  refine Oh nR ?_;rw[Around.under_plainId ir _];show Lc _ A.in1 (pyNext (.ref i0) >>= _) _ _ s;refine K3 (wpAny_pyNext_list_item hit hl (x:=its[i]) (by simp[hlt]) λh1 it1 sb1=>?_);have hp1:Prs prog w h1 its kvs:=hp.keep sb1 λo ho hc=>by
   obtain⟨o2,ho2,hc2,_⟩:=hit;rw[ho]at ho2;cases ho2;rw[hc]at hc2;exact absurd (Value.type.inj hc2) (by decide)
  obtain⟨p,key,ev,tp,kk⟩:=hp1.2 i its[i] kvs[i].1 kvs[i].2 (by simp[hlt]) (by rw[KM hkl]);rw[ev];have hd1:=hd.sameBut sb1 (Lp ne1);have hT:({ s with heap:=h1 }:KJ).TypeIs (.ref p) "tuple":=by
   obtain⟨o,ho,hc,_⟩:=tp;exact⟨o,ho,hc⟩
  obtain⟨ot,hot,hotc,nt,hotd⟩:=id tp;show Lc _ A.in1 (Ol [LG p] _ >>= _) _ _ _;refine K3 (Nc (K3 (wpAny_tryCatch ?_)));unfold Builtin.Dict.pairItems;refine K3 (wpAny_typeOf hT ?_);rw[if_pos (by decide)];refine K3 (wpAny_seqItems hot hotd (Lz ?_));show Lc _ A.in1 (Ol [key,kvs[i].2] (dictSet d key kvs[i].2)) _ _ _;refine Nc (wpAny_dictSet_pairs kk hd1 (λh2 dd sb2=>?_) (Ln hdl (Ln hi (Ln hz (by decide)))));have tk1:kvs.take (i+1)=kvs.take i++[kvs[i]]:=by rw[Lb,KM hkl];rfl
  have dd2:h2.DictOf (bC prog w) d (laid (kvs.take (i+1))):=by rw[tk1,qz];exact dd
  have hp2:Prs prog w h2 its kvs:=hp1.keep sb2 λo ho hc=>by
   have ty:({ s with heap:=h1 }:KJ).TypeIs (.ref d) "dict":=hd1.typeIs;obtain⟨o2,ho2,hc2⟩:=ty;have ho3:h1.get? d=some o2:=ho2;rw[ho]at ho3;cases ho3;rw[hc]at hc2;exact absurd (Value.type.inj hc2) (by decide)
  have it2:h2.IsListIter i0 l (i+1):=by
   obtain⟨o2,ho2,r⟩:=it1;exact⟨o2,(sb2.2 _ ne1).trans ho2,r⟩
  have hl2:h2.IsList l its:=by
   obtain⟨o2,ho2,r⟩:=hl;exact⟨o2,(sb2.2 _ ne2).trans ((sb1.2 _ ne3).trans ho2),r⟩
  have sl:(laid (kvs.take (i+1))).length<=i+1:=by
   rw[tk1,qz];have:=AS (laid (kvs.take i)) kvs[i].1 kvs[i].2;omega
  refine Lz ⟨plainId_quiet ir _,ih (i+1) _ (by omega) hlt it2 hl2 dd2 sl hp2 λh' tk dd' kp=>hR h' tk dd' λb o n1 n2 e=>kp b o n1 n2 ?_⟩;exact(sb2.2 _ n1).trans ((sb1.2 _ n2).trans e)
end
def kz(kvs:List (Key×V)):List (Key×V):=kvs.foldl (λm kv=>fh m kv.1 kv.2) []
theorem uo(kvs:List (Key×V))(kv:Key×V):kz (kvs++[kv])=fh (kz kvs) kv.1 kv.2:=by unfold kz;rw[NS];rfl
def Jy(K:KC)(H:Hp)(ps:List V)(kvs:List (Key×V)):Prop:=ps.length=kvs.length/\∀(j:Nat) p k v,ps[j]?=some p->kvs[j]?=some (k,v)->∃a,p=.ref a/\SqT K H a [kV k,v]
section
variable {X:Cx}
inductive s_(K:KC)(xs:List V)(H:Hp)(Q:VK):Prop
 |mk(l ps kvs)(_:xs=[.ref l])(_:SqL K H l ps)(_:ps.length<=100000)(_:Jy K H ps kvs)(_:∀p,H p=none->Q (.ref p) (upd H p (.dK (kz kvs))))
theorem uq(hc:X.calm=true):ip X (.type "dict") (s_ X.K):=by
 intro pins s σ H xs us Q I r h;obtain⟨l,ps,kvs,rfl,hl,hz,hp,q⟩:=h;obtain⟨u,rfl,ru⟩:=iq r;cases ru;obtain⟨its,rv,p,z⟩:=I.list hl;have hh:=I.ok.hd hc;refine callType_codes (Q₁:=λobj s₁=>obj=.ref s.heap.objs.size/\s₁={ s with heap:=s.heap.push { cls:=.type "dict",data:=.dict #[] } }) F.kt_called_dict (F.kt_typeCall_dict_1 _) F.entry_dict_init (kt_code_dict_new _ ⟨rfl,rfl⟩) ?_;rintro obj s₁ ⟨rfl,rfl⟩;have hnew:(s.heap.push { cls:=.type "dict",data:=.dict #[] }).DictOf (bC X.prog X.w) s.heap.objs.size []:=Heap.DictOf.new s.heap;refine⟨hnew.typeIs,F.args_dict_init_2 _ _,?_⟩;unfold NR.«dict.__init__»;refine K3 ?_;unfold Builtin.Dict.selfAndRest;refine K3 (wpAny_notOrdered_dict hnew.typeIs ?_);show Lc _ _ (pure (s.heap.objs.size,[LG l])) _ _ _;refine Lz ?_;show Lc _ _ (Builtin.Dict.updateFrom "dict.__init__" s.heap.objs.size (.ref l) [] .none) _ _ _;unfold Builtin.Dict.updateFrom;have pl:=p.isList.push { cls:=.type "dict",data:=.dict #[] };refine K3 (wpAny_typeOf pl.typeIs ?_);rw[if_pos (by decide)];obtain⟨o0,n0,ho0,hcl,hdd,hdat⟩:=id p;obtain⟨c0,d0,dt0,sl0⟩:=o0;simp only at hcl hdd hdat;subst hcl hdd hdat;have hlt:l<s.heap.objs.size:=KR ho0;have hx:=KU { cls:=.type "dict",data:=.dict #[] } ho0;refine K3 (Cv hx hh λh1 t1 k1=>?_);refine K3 (wpAny_rule ?_);have pl1:h1.IsList l its.toArray:=⟨_,k1 _ _ hx,rfl,_,rfl⟩;refine K3 (MH pl1 ?_);refine Lz ⟨plainId_quiet ir _,?_⟩;have hdn:h1.DictOf (bC X.prog X.w) s.heap.objs.size []:=by
  obtain⟨o,es,ep,ho,rr⟩:=hnew;exact⟨o,es,ep,k1 _ _ ho,rr⟩
 have hdlt:s.heap.objs.size<h1.objs.size:=by
  obtain⟨o,es,ep,ho,rr⟩:=hdn;exact KR ho
 have kept:∀b o,s.heap.get? b=some o->h1.get? b=some o:=λb o e=>k1 _ _ (KU _ e);have ilen:its.length=ps.length:=rv.length.symm;have ex:∀n,n<=kvs.length->∃vs:List (Key×KG),vs.length=n/\∀j,(hj:j<n)->∃x:Key×KG,vs[j]?=some x/\x.1=(kvs[j]?.map (·.1)).getD x.1/\(∀v,(kvs[j]?.map (·.2))=some v->bg v x.2)/\∃a key,its[j]?=some (.ref a)/\IsTup s.heap a #[key,x.2]/\(bC X.prog X.w).is x.1 key=true:=by
  intro n;induction n with
  |zero=>exact λ_=>⟨[],rfl,λj hj=>absurd hj (Nat.not_lt_zero _)⟩
  |succ n ih =>
   intro hn;obtain⟨vs,vl,hv⟩:=ih (by omega);have hk:n<kvs.length:=hn;have hpn:n<ps.length:=by rw[hp.1];exact hk
   obtain⟨a,ea,ha⟩:=hp.2 n ps[n] kvs[n].1 kvs[n].2 (KM hpn) (KM hk);obtain⟨u,eu,ru⟩:=rv.get (KM hpn);rw[ea]at ru;cases ru;obtain⟨it2,r2,p2,_⟩:=I.tuple ha;obtain⟨u1,u2,rfl,r3,r4⟩:=Ay r2;refine⟨vs++[(kvs[n].1,u2)],by simp[vl],λj hj=>?_⟩;by_cases c:j<n
   .obtain⟨x,e1,e2⟩:=hv j c;exact⟨x,by rw[LO (by omega)];exact e1,e2⟩
   .have ej:j=n:=by omega
    subst ej;refine⟨(kvs[j].1,u2),by rw[LS (by omega),vl,Pu];rfl,by rw[KM hk];rfl,λv e=>?_,a,u1,eu,p2,mI r3⟩;rw[KM hk]at e;cases e;exact r4
 obtain⟨vs,vl,hv⟩:=ex kvs.length (Kz _);have rel:∀n,n<=kvs.length->KV (kz (kvs.take n)) (laid (vs.take n)):=by
  intro n;induction n with
  |zero=>exact λ_=>.nil
  |succ n ih =>
   intro hn;obtain⟨x,e1,e2,e3,_⟩:=hv n hn;have hk:n<kvs.length:=hn;have t1':kvs.take (n+1)=kvs.take n++[kvs[n]]:=by rw[Lb,KM hk];rfl
   have t2':vs.take (n+1)=vs.take n++[x]:=by rw[Lb,e1];rfl
   rw[t1',t2',uo,qz];rw[KM hk]at e2 e3;have ek:x.1=kvs[n].1:=e2;rw[ek];exact(ih (by omega)).put _ (e3 _ rfl)
 have rel':=rel kvs.length (Kz _);rw[LH,<-vl,LH]at rel';have prs:Prs X.prog X.w (h1.push { cls:=.type "list_iterator",data:=.fields #[.ref l,.int 0 0] }) its.toArray vs:=by
  refine⟨by simp[ilen,hp.1,vl],λj v k x e1 e2=>?_⟩;have hj:j<kvs.length:=by rw[<-vl];exact(List.getElem?_eq_some_iff.mp e2).1
  obtain⟨y,f1,f2,f3,a,key,f4,f5,f6⟩:=hv j hj;rw[e2]at f1;cases f1;have e1':its[j]?=some v:=by simpa using e1
  rw[f4]at e1';cases e1';obtain⟨oo,hoo,rr⟩:=f5;exact⟨a,key,rfl,⟨oo,KU _ (kept _ _ hoo),rr⟩,f6⟩
 have lz:∀n,(kz (kvs.take n)).length<=n:=by
  intro n;induction n with
  |zero=>exact Kz _
  |succ n ih =>
   by_cases hk:n<kvs.length
   .have t1':kvs.take (n+1)=kvs.take n++[kvs[n]]:=by rw[Lb,KM hk];rfl
    rw[t1',uo];have:=mV (kz (kvs.take n)) kvs[n].1 kvs[n].2;omega
   .rw[K9 (by omega)];rw[K9 (by omega)]at ih;omega
 have lz':=lz kvs.length;rw[LH]at lz';refine wJ (prog:=X.prog) (w:=X.w) (A:=X.A.in1) (i0:=h1.objs.size) (l:=l) (d:=s.heap.objs.size) (its:=its.toArray) (kvs:=vs) (Mx hdlt) (KZ hlt) (KZ (MQ hlt hdlt)) hh (by simp;omega) its.toArray.size 0 _ (by simp) (Ls _) ?_ ?_ ?_ (Kz _) ?_ ?_
 .exact⟨_,Ld _ rfl,rfl,rfl⟩
 .exact pl1.push _
 .rw[Ox];exact hdn.push _
 .exact prs
 .intro h' tk dd kp;refine⟨rfl,.ref s.heap.objs.size,_,I.laid (a:=s.heap.objs.size) (o:=.dK (kz kvs)) (t':=tk) (λb o e=>?_) (Kz _) (B_ (Ln lz' (by rw[<-hp.1];exact Ln hz (by decide))) (beq_eq_false_iff_ne.mpr (Lp (KZ I.big))) rel' dd),rfl,q _ (I.hok.fresh (Kz _))⟩;have hb:=KR e;exact kp b o (KZ hb) (KZ (MQ hb hdlt)) (KU _ (kept _ _ e))
end
end L2

namespace L2
open PySem PySem.Spec PyProof.Rows Tl
theorem D5.okE{P:K8}{w:K_}{K:KC}{mg:Str->Option KG}{base:Heap}{x qual:Str}{st:Stmt}{f:Addr}{fd:KY}{N ps:List Str}{k:Nat}{sp:Sp}(F:D5 K x qual st f fd)(S:aE N ps (av st))(len:∀vs H Q E,sp vs H Q E->vs.length=ps.length)
  (hbody:∀ (cdv:KG) (A:LC) (outer:List Env) (s:KJ) (H:Hp) (vs:List V) (Q:VK) (E:XK),cg k (A.deeper (MC qual (av st) s.heap.objs.size f cdv))→sp vs H Q E →
   ∃t,PSs (lP (CXe P w) P w K mg base N qual (av st) f cdv A outer s H E) (ci st) t/\t { nx:=λ_ H'=>Q .non H',rt:=Q } (i6 N vs) H):aO P w K mg base (CXe P w) (k+1) f fd ps sp:=by
 obtain⟨oc,od,dV,kV,doc,pm,an,cdv,ct,osl,rfl,lk,hcd⟩:=F.ex;exact AG lk hcd S len λA outer s H vs Q E hr hsp=>hbody cdv A outer s H vs Q E hr hsp
theorem wg{X:Cx}{x:Str}{st:Stmt}{ps:List Str}{f:Addr}{fd:KY}{dv:KG}{k:Nat}{sp:Sp}{e:Expr}{es:List Expr}{t:TA}{p pos:Pos}{CX:CXT}{E:XK}(hx:dR CX X E)(D:qy X.K X.mg x st ps f fd dv)(G:aO X.prog X.w X.K X.mg X.base CX k f fd ps sp)(hr:cg k X.A)(hg:Gl X x)(ha:PA X (e::es) t)(hd:(x==("__debug__" : Str))=false:=by decide)
  (he:K7 (e::es) X.env=(false,eval e X.env)::K7 es X.env:=by rfl)(hpl:(MB pos (K7 es X.env)).any (·.1)=false:=by rfl):PE X (.Call (.Name x p) (e::es) [] pos) (uf sp [] E t):=rQ G hr hg D.mg D.fn.kp D.bd .nil hx ha hd he hpl
theorem AT{X:Cx}{x:Str}{st:Stmt}{ps:List Str}{f:Addr}{fd:KY}{dv:KG}{dx:V}{k:Nat}{sp:Sp}{e:Expr}{es:List Expr}{t:TA}{p pos:Pos}{CX:CXT}{E:XK}(hx:dR CX X E)(D:qy X.K X.mg x st ps f fd dv)(hdx:bg dx dv)(G:aO X.prog X.w X.K X.mg X.base CX k f fd ps sp)(hr:cg k X.A)(hg:Gl X x)(ha:PA X (e::es) t)(hd:(x==("__debug__" : Str))=false:=by decide)
  (he:K7 (e::es) X.env=(false,eval e X.env)::K7 es X.env:=by rfl)(hpl:(MB pos (K7 es X.env)).any (·.1)=false:=by rfl):PE X (.Call (.Name x p) (e::es) [] pos) (uf sp [dx] E t):=rQ G hr hg D.mg D.fn.kp D.bd1 (.cons hdx .nil) hx ha hd he hpl
section
variable {X:Cx}{fx c:Str}{st:Stmt}{ps:List Str}{f T:Addr}{fd:KY}{dv:KG}{k i:Nat}{n:Str}{sp:Sp}{e:Expr}{es:List Expr}{t:TA}{th:TS}{pf cpos apos np hpos pos:Pos}{b₀:Stmt}{suite:List Stmt}
end
inductive di{α β:Type}(P:α->β->Prop):List α->List β->Prop
 |nil:di P [] []
 |cons {a:α} {b:β} {as:List α} {bs:List β}:P a b->di P as bs->di P (a::as) (b::bs)
section
variable {α β:Type}{P P':α->β->Prop}{as as':List α}{bs bs':List β}
theorem di.imp(f:∀a b,P a b->P' a b)(h:di P as bs):di P' as bs:=by
 induction h with
 |nil=>exact .nil
 |cons h _ ih=>exact .cons (f _ _ h) ih
theorem di.len(h:di P as bs):as.length=bs.length:=by
 induction h with
 |nil=>rfl
 |cons _ _ ih=>rw[KH,KH,ih]
theorem di.snoc{a:α}{b:β}(h:di P as bs)(hab:P a b):di P (as++[a]) (bs++[b]):=by
 induction h with
 |nil=>exact .cons hab .nil
 |cons h _ ih=>exact .cons h ih
end
abbrev Wd0:=List Nat
def bE:Wd0:=[124]
def aJ:Wd0:=[93]
def fZ(k:Nat):Wd0:=[36,48+k]
def eJ:List (List Wd0)->List Wd0
 |[]=>[]
 |[x]=>x
 |x::y::r=>x++bE::eJ (y::r)
theorem qA(x:List Wd0):∀r:List (List Wd0),eJ (r++[x])=(r.map (·++[bE])).flatten++x
 |[]=>rfl
 |[y]=>by show y++bE::x=_;simp
 |y::z::r=>by
  show y++bE::eJ ((z::r)++[x])=_;rw[qA x (z::r)];simp
abbrev Mn:=List Wd0×DD×List Addr
def mW(xs:List Mn):List Wd0:=(xs.map λx=>x.1).flatten
def mD(xs:List Mn):List DD:=xs.map λx=>x.2.1
def mF(xs:List Mn):List Addr:=(xs.map λx=>x.2.2).flatten
theorem ur(xs ys:List Mn):mD (xs++ys)=mD xs++mD ys:=by unfold mD;rw[KQ]
theorem ut(xs ys:List Mn):mF (xs++ys)=mF xs++mF ys:=by unfold mF;rw[KQ,MM]
theorem uu(x:Mn):mF [x]=x.2.2:=by unfold mF;simp
def lsM(al:Addr)(xs:List Mn):Mn:=(mW xs,.lst (mD xs),al::mF xs)
def wdM(w:Wd0):Mn:=([w],.tup [.str (pq "word"),.str (tx w)],[])
def plM(k:Nat):Mn:=([fZ k],.tup [.str (pq "place"),.int (k:Int)],[])
def clM(n:Wd0)(l:Addr)(ys:List Mn):Mn:=((91::n)::(eJ (ys.map λy=>y.1)++[aJ]),.tup [.str (pq "call"),.str (tx n),.lst (mD ys)],l::mF ys)
def LAt(P:V->Mn->Prop)(H:Hp)(al:Addr)(y:Mn):Prop:=∃(vs:List V)(xs:List Mn),H al=some (.lst vs)/\di P vs xs/\y=lsM al xs
def NdW(H:Hp):Nat->V->Mn->Prop
 |0,_,_=>False
 |d+1,v,x=>∃a:Addr,v=.ref a/\((∃w:Wd0,H a=some (.tup [.str (pq "word"),.str (tx w)])/\x=wdM w)\/(∃k:Nat,k<=9/\H a=some (.tup [.str (pq "place"),.int (k:Int)])/\x=plM k)\/
  ∃(n:Wd0)(l:Addr)(als:List Addr)(ys:List Mn),0<d/\H a=some (.tup [.str (pq "call"),.str (tx n),.ref l])/\H l=some (.lst (als.map V.ref))/\n.length<=12/\di (LAt (NdW H d) H) als ys/\x=clM n l ys)
theorem NdW.out{H:Hp}{d:Nat}{v:V}{x:Mn}(h:NdW H (d+1) v x):∃a:Addr,v=.ref a/\((∃w:Wd0,H a=some (.tup [.str (pq "word"),.str (tx w)])/\x=wdM w)\/(∃k:Nat,k<=9/\H a=some (.tup [.str (pq "place"),.int (k:Int)])/\x=plM k)\/
  ∃(n:Wd0)(l:Addr)(als:List Addr)(ys:List Mn),0<d/\H a=some (.tup [.str (pq "call"),.str (tx n),.ref l])/\H l=some (.lst (als.map V.ref))/\n.length<=12/\di (LAt (NdW H d) H) als ys/\x=clM n l ys):=h
theorem LAt.mono{P P':V->Mn->Prop}{H H':Hp}(s:∀b o,H b=some o->H' b=some o)(f:∀v x,P v x->P' v x){al:Addr}{y:Mn}(h:LAt P H al y):LAt P' H' al y:=by
 obtain⟨vs,wn,h1,h2,h3⟩:=h;exact⟨vs,wn,s _ _ h1,h2.imp f,h3⟩
theorem NdW.mono{H H':Hp}(s:∀b o,H b=some o->H' b=some o):∀{d:Nat}{v:V}{x:Mn},NdW H d v x->NdW H' d v x
 |d+1,v,x,h=>by
  obtain⟨a,rfl,h⟩:=h;refine⟨a,rfl,?_⟩;rcases h with⟨w,h1,h2⟩|⟨k,h0,h1,h2⟩|⟨n,l,als,wss,h0,h1,h2,h3,h4,h5⟩
  .exact .inl ⟨w,s _ _ h1,h2⟩
  .exact .inr (.inl ⟨k,h0,s _ _ h1,h2⟩)
  .exact .inr (.inr ⟨n,l,als,wss,h0,s _ _ h1,s _ _ h2,h3,h4.imp λal ws h=>h.mono s λv ws h=>NdW.mono s h,h5⟩)
def erL(H:Hp)(os:List Addr):Hp:=λb=>if b∈os then none else H b
theorem jz{H:Hp}{os:List Addr}{b:Addr}{o:HO}(h:erL H os b=some o):b∉os/\H b=some o:=by
 unfold erL at h
 split at h
 .cases h
 .exact⟨by assumption,h⟩
theorem gg{H:Hp}{os:List Addr}{b:Addr}{o:HO}(h1:b∉os)(h:H b=some o):erL H os b=some o:=by
 unfold erL;rw[if_neg h1];exact h
theorem jY{H H':Hp}{os os':List Addr}(h1:∀b o,b∉os->H b=some o->H' b=some o)(h2:∀b∈os',b∈os\/H b=none):∀b o,erL H os b=some o->erL H' os' b=some o:=λb o h=>by
 obtain⟨a1,a2⟩:=jz h;refine gg (λz=>?_) (h1 b o a1 a2);rcases h2 b z with z|z
 .exact a1 z
 .rw[a2]at z;cases z
structure Fr where
 t:Addr
 A:Addr
 N:Addr
 n:Wd0
 als:List Addr
 wss:List Mn
 vs:List V
 wn:List Mn
def frO(f:Fr):List Addr:=[f.A,f.N]
def a8(pl cur:Addr)(fs:List Fr):List Addr:=pl::cur::(fs.map frO).flatten
structure yj(E H:Hp)(d:Nat)(f:Fr):Prop where
 tup:E f.t=some (.tup [.str (tx f.n),.ref f.A,.ref f.N])
 hA:H f.A=some (.lst (f.als.map V.ref))
 hN:H f.N=some (.lst f.vs)
 nl:f.n.length<=12
 aw:di (LAt (NdW E d) E) f.als f.wss
 nw:di (NdW E (d+1)) f.vs f.wn
def nS(f:Fr):List Wd0:=mW f.wn++(91::f.n)::(f.wss.map λy=>y.1++[bE]).flatten
def frF(f:Fr):List Addr:=mF f.wn++mF f.wss
def fpT(fs:List Fr)(wn:List Mn):List Addr:=(fs.map frF).flatten++mF wn
def et(pl cur:Addr)(fs:List Fr)(wn:List Mn):List Addr:=a8 pl cur fs++fpT fs wn
theorem D_{α:Type}{pl cur A N:α}{X Y a b c:List α}(h:((pl::cur::(X++[A,N]))++((Y++(a++b))++c)).Nodup):((pl::N::X)++(Y++(a++(A::(b++(cur::c)))))).Nodup:=by
 simp only[NT,Nz,MA,Ll]at h⊢
 grind
theorem Cw{α:Type}{pl cur A N:α}{X Y a:List α}(h:((pl::cur::(X++[A,N]))++((Y++(a++[]))++[])).Nodup):((pl::N::X)++(Y++(a++[A]))).Nodup:=by
 simp only[NT,Nz,MA,Ll]at h⊢
 grind
theorem Hd{α:Type}{pl cur A N c2:α}{X Y a b c:List α}(h:((pl::cur::(X++[A,N]))++((Y++(a++b))++c)).Nodup)(h2:c2∉(pl::cur::(X++[A,N]))++((Y++(a++b))++c)):((pl::c2::(X++[A,N]))++((Y++(a++(b++(cur::c))))++[])).Nodup:=by
 simp only[NT,Nz,MA,Ll]at h h2⊢
 grind
theorem FJ{α:Type}{pl cur A c2:α}{X Y c:List α}(h:((pl::cur::X)++(Y++c)).Nodup)(h2:c2∉(pl::cur::X)++(Y++c))(h3:A∉(pl::cur::X)++(Y++c))(n:A≠c2):((pl::c2::(X++[A,cur]))++((Y++(c++[]))++[])).Nodup:=by
 simp only[NT,Nz,MA,Ll]at h h2 h3⊢
 grind
structure cp(H0 H:Hp)(pl cur:Addr)(fs:List Fr)(vs:List V)(wn:List Mn):Prop where
 same:ar H0 H
 few:fs.length<=20
 ndA:(et pl cur fs wn).Nodup
 frA:∀b∈et pl cur fs wn,H0 b=none
 top:H pl=some (.lst (fs.map λf=>V.ref f.t))
 now:H cur=some (.lst vs)
 fr:∀(j:Nat)(f:Fr),fs[j]?=some f->yj (erL H (a8 pl cur fs)) H (20-j) f
 nw:di (NdW (erL H (a8 pl cur fs)) (21-fs.length)) vs wn
def cy(fs:List Fr)(wn:List Mn):List Wd0:=(fs.map nS).flatten++mW wn
theorem yj.step{E E' H H':Hp}{d:Nat}{f:Fr}(h:yj E H d f)(s:∀b o,E b=some o->E' b=some o)(hA:H' f.A=H f.A)(hN:H' f.N=H f.N):yj E' H' d f:=
 ⟨s _ _ h.tup,hA.trans h.hA,hN.trans h.hN,h.nl,h.aw.imp λal ws q=>q.mono s λv ws z=>z.mono s,h.nw.imp λv ws z=>z.mono s⟩
theorem eO{pl cur:Addr}{fs:List Fr}{b:Addr}:b∈a8 pl cur fs↔b=pl\/b=cur\/∃f∈fs,b=f.A\/b=f.N:=by
 unfold a8;rw[Ll,Ll,List.mem_flatten];refine or_congr Iff.rfl (or_congr Iff.rfl ⟨λ⟨l,h1,h2⟩=>?_,λ⟨f,h1,h2⟩=>⟨frO f,List.mem_map.mpr ⟨f,h1,rfl⟩,?_⟩⟩)
 .obtain⟨f,hf,rfl⟩:=List.mem_map.mp h1;unfold frO at h2;simp only[Ll,Lj,or_false]at h2;exact⟨f,hf,h2⟩
 .unfold frO;simp only[Ll,Lj,or_false];exact h2
theorem iu(pl cur:Addr)(fs:List Fr)(f:Fr):a8 pl cur (fs++[f])=pl::cur::((fs.map frO).flatten++[f.A,f.N]):=by
 unfold a8;rw[KQ,MM];simp[frO]
section
variable {H0 H H':Hp}{pl cur c2 A t p:Addr}{fs:List Fr}{f:Fr}{vs:List V}{wn:List Mn}
theorem NdW.has{H:Hp}:∀{d:Nat}{v:V}{x:Mn},NdW H d v x->∀b∈x.2.2,∃o,H b=KD (.lst o)
 |d+1,v,x,h=>by
  obtain⟨a,rfl,h⟩:=h;rcases h with⟨w,h1,rfl⟩|⟨k,h0,h1,rfl⟩|⟨n,l,als,ys,h0,h1,h2,h3,h4,rfl⟩
  .intro b hb;cases hb
  .intro b hb;cases hb
  .intro b hb;rcases List.mem_cons.mp hb with rfl|hb
   .exact⟨_,h2⟩
   .have key:∀{als:List Addr}{ys:List Mn},di (LAt (NdW H d) H) als ys->b∈mF ys->∃o,H b=KD (.lst o):=by
     intro als ys h4;induction h4 with
     |nil=>intro hb;cases hb
     |cons q _ ih =>
      intro hb;have hb:=List.mem_append.mp (show b∈_++mF _ from hb);rcases hb with hb|hb
      .obtain⟨vs,xs,k1,k2,rfl⟩:=q;rcases List.mem_cons.mp hb with rfl|hb
       .exact⟨_,k1⟩
       .have k3:∀{vs:List V}{xs:List Mn},di (NdW H d) vs xs->b∈mF xs->∃o,H b=KD (.lst o):=by
         intro vs xs k2;induction k2 with
         |nil=>intro hb;cases hb
         |cons q2 _ ih2 =>
          intro hb;rcases List.mem_append.mp (show b∈_++mF _ from hb)with hb|hb
          .exact NdW.has q2 b hb
          .exact ih2 hb
        exact k3 k2 hb
      .exact ih hb
    exact key h4 hb
theorem di.hasL{H:Hp}{d:Nat}{vs:List V}{xs:List Mn}(h:di (NdW H d) vs xs){b:Addr}(hb:b∈mF xs):∃o,H b=KD (.lst o):=by
 induction h with
 |nil=>cases hb
 |cons q2 _ ih2 =>
  rcases List.mem_append.mp (show b∈_++mF _ from hb)with hb|hb
  .exact NdW.has q2 b hb
  .exact ih2 hb
theorem di.hasA{H:Hp}{d:Nat}{als:List Addr}{ys:List Mn}(h:di (LAt (NdW H d) H) als ys){b:Addr}(hb:b∈mF ys):∃o,H b=KD (.lst o):=by
 induction h with
 |nil=>cases hb
 |cons q _ ih =>
  rcases List.mem_append.mp (show b∈_++mF _ from hb)with hb|hb
  .obtain⟨vs,xs,k1,k2,rfl⟩:=q;rcases List.mem_cons.mp hb with rfl|hb
   .exact⟨_,k1⟩
   .exact k2.hasL hb
  .exact ih hb
theorem cp.nd(S:cp H0 H pl cur fs vs wn):(a8 pl cur fs).Nodup:=(List.nodup_append.mp S.ndA).1
theorem cp.fresh(S:cp H0 H pl cur fs vs wn):∀b∈a8 pl cur fs,H0 b=none:=λb hb=>S.frA b (N9 _ hb)
theorem cp.some(S:cp H0 H pl cur fs vs wn):∀b∈a8 pl cur fs,∃o,H b=KD (.lst o):=λb hb=>by
 rcases eO.mp hb with rfl|rfl|⟨f,hf,h⟩
 .exact⟨_,S.top⟩
 .exact⟨_,S.now⟩
 .obtain⟨j,hj⟩:=Mv hf;have q:=S.fr j f hj;rcases h with rfl|rfl
  .exact⟨_,q.hA⟩
  .exact⟨_,q.hN⟩
theorem cp.not(S:cp H0 H pl cur fs vs wn){b:Addr}(hb:H b=none):b∉a8 pl cur fs:=λz=>by
 obtain⟨o,h⟩:=S.some b z;rw[hb]at h;cases h
theorem cp.someF(S:cp H0 H pl cur fs vs wn):∀b∈fpT fs wn,∃o,H b=KD (.lst o):=λb hb=>by
 have up:∀{o:List V},erL H (a8 pl cur fs) b=KD (.lst o)->∃o,H b=KD (.lst o):=λh=>⟨_,(jz h).2⟩;rcases List.mem_append.mp hb with hb|hb
 .obtain⟨l,h1,h2⟩:=List.mem_flatten.mp hb;obtain⟨f,hf,rfl⟩:=List.mem_map.mp h1;obtain⟨j,hj⟩:=Mv hf;have q:=S.fr j f hj;rcases List.mem_append.mp h2 with h2|h2
  .obtain⟨o,h⟩:=q.nw.hasL h2;exact up h
  .obtain⟨o,h⟩:=q.aw.hasA h2;exact up h
 .obtain⟨o,h⟩:=S.nw.hasL hb;exact up h
theorem cp.notA(S:cp H0 H pl cur fs vs wn){b:Addr}(hb:H b=none):b∉et pl cur fs wn:=λz=>by
 rcases List.mem_append.mp z with z|z
 .exact S.not hb z
 .obtain⟨o,h⟩:=S.someF b z;rw[hb]at h;cases h
theorem rY(fs:List Fr)(f:Fr)(wn:List Mn):fpT (fs++[f]) wn=((fs.map frF).flatten++(mF f.wn++mF f.wss))++mF wn:=by
 unfold fpT;rw[KQ,MM];simp[frF]
theorem cp.zero(s:ar H0 H)(h1:H0 pl=none)(h2:H0 cur=none)(n:pl≠cur)(h3:H pl=KD (.lst []))(h4:H cur=KD (.lst [])):cp H0 H pl cur [] [] []:=by
 refine⟨s,Ls _,by unfold et a8 fpT mF;simp[n],λb hb=>?_,h3,h4,λj f e=>by simp at e,.nil⟩;have hb:b∈a8 pl cur []:=by
  rcases List.mem_append.mp hb with hb|hb
  .exact hb
  .cases hb
 rcases eO.mp hb with rfl|rfl|⟨f,hf,_⟩
 .exact h1
 .exact h2
 .cases hf
theorem cp.ext(S:cp H0 H pl cur fs vs wn)(s:ar H H'):cp H0 H' pl cur fs vs wn:=by
 have st:=jY (os:=a8 pl cur fs) (os':=a8 pl cur fs) (λb o _ h=>s b o h) λb hb=>.inl hb;refine⟨S.same.trans s,S.few,S.ndA,S.frA,s _ _ S.top,s _ _ S.now,λj f e=>?_,S.nw.imp λv ws z=>z.mono st⟩;have q:=S.fr j f e;exact q.step st ((s _ _ q.hA).trans q.hA.symm) ((s _ _ q.hN).trans q.hN.symm)
theorem cp.push{v:V}{x:Mn}(S:cp H0 H pl cur fs vs wn)(h:NdW (erL H (a8 pl cur fs)) (21-fs.length) v x)(hx:x.2.2=[]):cp H0 (upd H cur (.lst (vs++[v]))) pl cur fs (vs++[v]) (wn++[x]):=by
 have hc:cur∈a8 pl cur fs:=eO.mpr (.inr (.inl rfl));have st:=jY (H:=H) (H':=upd H cur (.lst (vs++[v]))) (os:=a8 pl cur fs) (os':=a8 pl cur fs) (λb o nb h=>by rw[aq (show b≠cur from λe=>nb (by rw[e];exact hc))];exact h) λb hb=>.inl hb;have nd:=S.nd;have eA:et pl cur fs (wn++[x])=et pl cur fs wn:=by unfold et fpT;rw[ut,uu,hx,LF]
 refine⟨λb o hb=>?_,S.few,by rw[eA];exact S.ndA,by rw[eA];exact S.frA,?_,ah,λj f e=>?_,(S.nw.imp λv ws z=>z.mono st).snoc (h.mono st)⟩
 .rw[aq (a7 hb (S.fresh cur hc))];exact S.same b o hb
 .rw[aq (by unfold a8 at nd;grind)];exact S.top
 .have q:=S.fr j f e;have hm:f.A∈(fs.map frO).flatten/\f.N∈(fs.map frO).flatten:=by
   have:=(List.mem_map (f:=frO)).mpr ⟨f,KL e,rfl⟩;exact⟨List.mem_flatten.mpr ⟨_,this,by simp[frO]⟩,List.mem_flatten.mpr ⟨_,this,by simp[frO]⟩⟩
  refine q.step st (aq ?_) (aq ?_)
  .unfold a8 at nd;grind
  .unfold a8 at nd;grind
theorem yk{j:Nat}(e:fs[j]?=KD f):f.A∈(fs.map frO).flatten/\f.N∈(fs.map frO).flatten:=by
 have:=(List.mem_map (f:=frO)).mpr ⟨f,KL e,rfl⟩;exact⟨List.mem_flatten.mpr ⟨_,this,by simp[frO]⟩,List.mem_flatten.mpr ⟨_,this,by simp[frO]⟩⟩
theorem z_{j:Nat}{g:Fr}(e:(fs++[f])[j]?=KD g):(j<fs.length/\fs[j]?=KD g)\/(j=fs.length/\g=f):=by
 by_cases h:j<fs.length
 .rw[LO h]at e;exact .inl ⟨h,e⟩
 .rw[LS (by omega)]at e;have hz:j-fs.length=0:=by
   have:=(List.getElem?_eq_some_iff.mp e).1;simp at this;omega
  rw[hz]at e;exact .inr ⟨by omega,by simpa using e.symm⟩
theorem cp.open{n:Wd0}(S:cp H0 H pl cur fs vs wn)(few:fs.length<20)(same':ar H0 H')(keep:∀b o,b≠pl->H b=KD o->H' b=KD o)(hA0:H A=none)(ht0:H t=none)(hc0:H c2=none)(fA:H0 A=none)(fc:H0 c2=none)(n2:A≠c2)(n1:t≠A)(n3:t≠c2)
  (hA:H' A=KD (.lst []))(ht:H' t=KD (.tup [.str (tx n),.ref A,.ref cur]))(hc:H' c2=KD (.lst []))(hpl:H' pl=KD (.lst ((fs.map λf=>V.ref f.t)++[V.ref t])))(nl:n.length<=12):cp H0 H' pl c2 (fs++[⟨t,A,cur,n,[],[],vs,wn⟩]) [] []:=by
 have nA:=S.not hA0;have nt:=S.not ht0;have nc:=S.not hc0;have nd:=S.nd;have eo:=iu pl c2 fs ⟨t,A,cur,n,[],[],vs,wn⟩;have eA:et pl c2 (fs++[⟨t,A,cur,n,[],[],vs,wn⟩]) []=(pl::c2::((fs.map frO).flatten++[A,cur]))++(((fs.map frF).flatten++(mF wn++[]))++[]):=by
  unfold et;rw[eo,rY];rfl
 have nd':(et pl c2 (fs++[⟨t,A,cur,n,[],[],vs,wn⟩]) []).Nodup:=by
  rw[eA];exact FJ S.ndA (S.notA hc0) (S.notA hA0) n2
 have st:=jY (H:=H) (H':=H') (os:=a8 pl cur fs) (os':=a8 pl c2 (fs++[⟨t,A,cur,n,[],[],vs,wn⟩])) (λb o nb h=>keep b o (λe=>nb (e▸eO.mpr (.inl rfl))) h) (λb hb=>by
  rw[eo]at hb;unfold a8
  grind)
 refine⟨same',by rw[KI,Li];omega,nd',λb hb=>?_,?_,hc,λj g e=>?_,.nil⟩
 .rw[eA]at hb;have fr:=S.frA;unfold et a8 fpT at fr;simp only[MA,Ll,Lj,or_false]at hb fr
  grind
 .rw[hpl,KQ];rfl
 .rcases z_ e with⟨h1,h2⟩|⟨h1,rfl⟩
  .have q:=S.fr j g h2;have hm:=yk h2;refine q.step st ((keep _ _ ?_ q.hA).trans q.hA.symm) ((keep _ _ ?_ q.hN).trans q.hN.symm)
   .unfold a8 at nd;grind
   .unfold a8 at nd;grind
  .subst h1;refine⟨gg ?_ ht,hA,(keep _ _ ?_ S.now),nl,.nil,?_⟩
   .rw[eo];unfold a8 at nt
    grind
   .unfold a8 at nd;grind
   .have:=S.nw.imp λv ws z=>NdW.mono st z;rw[show 20-fs.length+1=21-fs.length by omega];exact this
theorem cp.last(S:cp H0 H pl cur (fs++[f]) vs wn):yj (erL H (a8 pl cur (fs++[f]))) H (20-fs.length) f:=S.fr _ _ (by rw[LS (Kz _),Pu];rfl)
theorem cp.bar(S:cp H0 H pl cur (fs++[f]) vs wn)(same':ar H0 H')(keep:∀b o,b≠f.A->H b=KD o->H' b=KD o)(hc0:H c2=none)(fc:H0 c2=none)(hA:H' f.A=KD (.lst ((f.als++[cur]).map V.ref)))(hc:H' c2=KD (.lst [])) :
  cp H0 H' pl c2 (fs++[{ f with als:=f.als++[cur],wss:=f.wss++[lsM cur wn] }]) [] []:=by
 have nc:=S.not hc0;have nd:=S.nd;have few:=S.few;rw[KI,Li]at few;have eo:=iu pl c2 fs { f with als:=f.als++[cur],wss:=f.wss++[lsM cur wn] };have eo1:=iu pl cur fs f;have L:=S.last;rw[eo1]at nd nc;have st:=jY (H:=H) (H':=H') (os:=a8 pl cur (fs++[f])) (os':=a8 pl c2 (fs++[{ f with als:=f.als++[cur],wss:=f.wss++[lsM cur wn] }])) (λb o nb h=>keep b o (λe=>nb (by rw[eo1];grind)) h) (λb hb=>by
  rw[eo]at hb;rw[eo1]
  grind)
 have eA1:et pl cur (fs++[f]) wn=(pl::cur::((fs.map frO).flatten++[f.A,f.N]))++(((fs.map frF).flatten++(mF f.wn++mF f.wss))++mF wn):=by
  unfold et;rw[eo1,rY]
 have eA:et pl c2 (fs++[{ f with als:=f.als++[cur],wss:=f.wss++[lsM cur wn] }]) []=(pl::c2::((fs.map frO).flatten++[f.A,f.N]))++(((fs.map frF).flatten++(mF f.wn++(mF f.wss++(cur::mF wn))))++[]):=by
  unfold et;rw[eo,rY,ut,uu];rfl
 have ndA:=S.ndA;have frA:=S.frA;have ncA:=S.notA hc0;rw[eA1]at ndA frA ncA;refine⟨same',by rw[KI,Li];omega,by rw[eA];exact Hd ndA ncA,λb hb=>?_,?_,hc,λj g e=>?_,.nil⟩
 .rw[eA]at hb;simp only[MA,Ll,Lj,or_false]at hb frA
  grind
 .have:=keep pl _ (by grind) S.top;rw[this,KQ,KQ];rfl
 .rcases z_ e with⟨h1,h2⟩|⟨h1,rfl⟩
  .have q:=S.fr j g (by rw[LO h1];exact h2);have hm:=yk h2;exact q.step st ((keep _ _ (by grind) q.hA).trans q.hA.symm) ((keep _ _ (by grind) q.hN).trans q.hN.symm)
  .subst h1;refine⟨st _ _ L.tup,hA,keep _ _ (by grind) L.hN,L.nl,(L.aw.imp λal ws q=>q.mono st λv ws z=>z.mono st).snoc ⟨vs,wn,gg ?_ (keep _ _ (by grind) S.now),?_,rfl⟩,L.nw.imp λv ws z=>z.mono st⟩
   .rw[eo]
    grind
   .have:=S.nw.imp λv ws z=>NdW.mono st z;rw[KI,Li,show 21-(fs.length+1)=20-fs.length by omega]at this;exact this
theorem cp.close{als':List Addr}{wss':List Mn}(S:cp H0 H pl cur (fs++[f]) vs wn)(same':ar H0 H')(keep:∀b o,b≠pl->b≠f.A->b≠f.N->H b=KD o->H' b=KD o)
  (hpl:H' pl=KD (.lst (fs.map λf=>V.ref f.t)))(hA:H' f.A=KD (.lst (als'.map V.ref)))(hw:(als'=f.als++[cur]/\wss'=f.wss++[lsM cur wn])\/(als'=[]/\wss'=[]/\f.als=[]/\vs=[]))(hp0:H p=none)(hp:H' p=KD (.tup [.str (pq "call"),.str (tx f.n),.ref f.A]))(hN:H' f.N=KD (.lst (f.vs++[V.ref p]))) :
  cp H0 H' pl f.N fs (f.vs++[V.ref p]) (f.wn++[clM f.n f.A wss']):=by
 have nd:=S.nd;have few:=S.few;rw[KI,Li]at few;have eo1:=iu pl cur fs f;have L:=S.last;have np:=S.not hp0;rw[eo1]at nd np;have nCur:cur∉a8 pl f.N fs:=by unfold a8;grind
 have nAA:f.A∉a8 pl f.N fs:=by unfold a8;grind
 have npp:p∉a8 pl f.N fs:=by unfold a8;grind
 have hT:=(jz L.tup).1;rw[eo1]at hT;have st:=jY (H:=H) (H':=H') (os:=a8 pl cur (fs++[f])) (os':=a8 pl f.N fs) (λb o nb h=>keep b o (λe=>nb (by rw[eo1];grind)) (λe=>nb (by rw[eo1];grind)) (λe=>nb (by rw[eo1];grind)) h) (λb hb=>by
  unfold a8 at hb;rw[eo1]
  grind)
 have sub:∀b∈a8 pl f.N fs,b∈a8 pl cur (fs++[f]):=λb hb=>by
  unfold a8 at hb;rw[eo1]
  grind
 have hcN:H' cur=KD (.lst vs):=keep _ _ (by grind) (by grind) (by grind) S.now;have eA1:et pl cur (fs++[f]) wn=(pl::cur::((fs.map frO).flatten++[f.A,f.N]))++(((fs.map frF).flatten++(mF f.wn++mF f.wss))++mF wn):=by
  unfold et;rw[eo1,rY]
 have ndA:=S.ndA;have frA:=S.frA;rw[eA1]at ndA frA;have eA:et pl f.N fs (f.wn++[clM f.n f.A wss'])=(pl::f.N::(fs.map frO).flatten)++((fs.map frF).flatten++(mF f.wn++(f.A::mF wss'))):=by
  unfold et a8 fpT;rw[ut,uu];rfl
 have nds:(et pl f.N fs (f.wn++[clM f.n f.A wss'])).Nodup/\∀b∈et pl f.N fs (f.wn++[clM f.n f.A wss']),H0 b=none:=by
  rw[eA];rcases hw with⟨h1,h2⟩|⟨h1,h2,h3,h4⟩
  .rw[h2,ut,uu];refine⟨D_ ndA,λb hb=>frA b ?_⟩;simp only[MA,Ll,Lj,or_false,lsM]at hb⊢
   grind
  .have e1:f.wss=[]:=List.length_eq_zero_iff.mp (by have:=L.aw.len;rw[h3]at this;exact this.symm);have e2:wn=[]:=List.length_eq_zero_iff.mp (by have:=S.nw.len;rw[h4]at this;exact this.symm);rw[h2];rw[e1,e2]at ndA frA;refine⟨Cw ndA,λb hb=>frA b ?_⟩;simp only[MA,Ll,Lj,or_false,show mF []=[]from rfl]at hb⊢
   grind
 refine⟨same',by omega,nds.1,nds.2,hpl,hN,λj g e=>?_,(L.nw.imp λv ws z=>z.mono st:di _ _ _) |> λq=>?_⟩
 .have hj:j<fs.length:=(List.getElem?_eq_some_iff.mp e).1;have q:=S.fr j g (by rw[LO hj];exact e);have hm:=yk e;exact q.step st ((keep _ _ (by grind) (by grind) (by grind) q.hA).trans q.hA.symm) ((keep _ _ (by grind) (by grind) (by grind) q.hN).trans q.hN.symm)
 .rw[show 21-fs.length=20-fs.length+1 by omega];refine q.snoc ⟨p,rfl,.inr (.inr ⟨f.n,f.A,als',wss',by omega,gg npp hp,gg nAA hA,L.nl,?_,rfl⟩)⟩;rcases hw with⟨rfl,rfl⟩|⟨rfl,rfl,_,_⟩
  .refine(L.aw.imp λal ws q=>q.mono st λv ws z=>z.mono st).snoc ⟨vs,wn,gg nCur hcN,?_,rfl⟩;have:=S.nw.imp λv ws z=>NdW.mono st z;rw[KI,Li,show 21-(fs.length+1)=20-fs.length by omega]at this;exact this
  .exact .nil
end
theorem NdW.ne{H:Hp}:∀{d:Nat}{v:V}{x:Mn},NdW H d v x->x.1≠[]
 |d+1,v,x,h=>by
  obtain⟨a,rfl,h⟩:=h;rcases h with⟨w,h1,rfl⟩|⟨k,h0,h1,rfl⟩|⟨n,l,als,wss,h0,h1,h2,h3,h4,rfl⟩<;>simp[wdM,plM,clM]
theorem oH{P:V->Mn->Prop}(hP:∀v x,P v x->x.1≠[]){vs:List V}{wn:List Mn}(h:di P vs wn):vs.length<=(mW wn).length:=by
 induction h with
 |nil=>exact Ls _
 |cons h1 h2 ih =>
  have:=List.length_pos_iff.mpr (hP _ _ h1);unfold mW at ih⊢;rw[KW,Mi,KI,KH];omega
theorem Ea(wss:List Mn):wss.length<=(wss.map λy=>y.1++[bE]).flatten.length:=by
 induction wss with
 |nil=>exact Ls _
 |cons x r ih =>
  rw[KW,Mi,KI,KI,KH,Li];omega
theorem cp.len{H0 H:Hp}{pl cur:Addr}{fs:List Fr}{vs:List V}{wn:List Mn}(S:cp H0 H pl cur fs vs wn):vs.length<=(cy fs wn).length:=by
 have:=oH (λ_ _ h=>NdW.ne h) S.nw;unfold cy;rw[KI];omega
theorem cp.lenF{H0 H:Hp}{pl cur:Addr}{fs:List Fr}{f:Fr}{vs:List V}{wn:List Mn}(S:cp H0 H pl cur (fs++[f]) vs wn):f.als.length<=(cy (fs++[f]) wn).length/\f.vs.length<=(cy (fs++[f]) wn).length:=by
 have L:=S.last;have h1:=oH (λ_ _ h=>NdW.ne h) L.nw;have h2:=Ea f.wss;have h3:=L.aw.len;unfold cy nS;rw[KI,KQ,MM,KI];simp only[KW,MZ,Mi,OO,LF,KI,KH];omega
theorem ym(fs:List Fr)(t A cur:Addr)(n:Wd0)(vs:List V)(wn:List Mn):cy (fs++[⟨t,A,cur,n,[],[],vs,wn⟩]) []=cy fs wn++[91::n]:=by
 unfold cy nS;simp[mW]
theorem zz(fs:List Fr)(f:Fr)(cur:Addr)(wn:List Mn):cy (fs++[{ f with als:=f.als++[cur],wss:=f.wss++[lsM cur wn] }]) []=cy (fs++[f]) wn++[bE]:=by
 unfold cy nS;simp[mW,lsM]
theorem jA(fs:List Fr)(wn:List Mn)(x:Mn):cy fs (wn++[x])=cy fs wn++x.1:=by
 unfold cy mW;simp
theorem wK{fs:List Fr}{f:Fr}{A cur:Addr}{wn wss':List Mn}(h:wss'=f.wss++[lsM cur wn]\/(wss'=[]/\f.wss=[]/\wn=[])):cy fs (f.wn++[clM f.n A wss'])=cy (fs++[f]) wn++[aJ]:=by
 rw[jA];unfold cy nS clM;rcases h with rfl|⟨rfl,e1,rfl⟩
 .rw[KQ,KW,MZ,qA,Mt];simp[lsM,Function.comp_def]
 .simp[eJ,mW,e1]
end L2

namespace PySem
open Sem (wp)
open AutoSeq1 (wpAny_loadPart')
section
variable {prog:K8}{w:K_}{A:LC}{E:KG->KJ->Prop}{s:KJ}
theorem uv{T newId initId:String}{Bn Bi:NR}{args:List KG}{kw:List (Str×KG)}{S:Spec}{Q Q₁:KG->KJ->Prop}(ft:TypeCalled T newId initId)
  (hct:checkTypeCall T ⟨args,kw⟩=pure ())(hcn:N4 newId ⟨.type T::args,kw⟩=pure ())
  (entryN:P4 table newId=some Bn)(entryI:P4 table initId=some Bi)(g:Meets (Bn ⟨.type T::args,kw⟩) S)
  (h:S A.in1 (wants Q₁ E) s)
  (hnext:∀obj s₁,Q₁ obj s₁->s₁.TypeIs obj T/\argsOk initId ⟨obj::args,kw⟩/\∃Si,Meets (Bi ⟨obj::args,kw⟩) Si/\Si A.in1 (wants (λr s₂=>r=.none/\Q obj s₂) E) s₁) :
  Lc (Lh prog w) A (call (.type T) args kw) Q E s:=by
 obtain⟨c,tl,hmro⟩:=ft.mro;have hmade:=ft.made;have hsub:=ft.sub;refine Pl (codeAny_of_tree ?_);show Lc _ _ (callAny (.type T) _) _ _ _;refine Lz ⟨Code.quiet_builtin _ (by decide),Oh F.entry_type_call ?_⟩;rw[Around.under_plain (weight_type_call_type T args kw) (units_type_call_type T args kw)];have h1:=ft.notType;have h2:=ft.canCreate
 repeat (any_goals (first|assumption|wp_step))
 refine Nk (M0 ft.plain entryN (wpAny_of_eq hcn (g prog w A.in1 _ s h))) λr s₁ hr=>?_;cases r with
 |error e=>exact hr
 |ok fl =>
  cases fl with
  |ret obj =>
   obtain⟨hT,hok,Si,gi,hsi⟩:=hnext _ _ hr;have hli:=ft.init.lookup;have hbi:=ft.init.bind obj
   repeat (any_goals (first|assumption|wp_step))
   refine Nk (M0 ft.init.plain entryI (ft.init.check _ _ _ _ _ _ _ _ hT hok (gi prog w A.in1 _ s₁ hsi))) λr₂ s₂ hr₂=>?_;cases r₂ with
   |error e=>exact hr₂
   |ok fl₂ =>
    cases fl₂ with
    |ret r =>
     obtain⟨rfl,hq⟩:=hr₂
     repeat (any_goals (first|assumption|wp_step))
    |_=>exact hr₂.elim
  |_=>exact hr.elim
theorem qC{T newId:String}{self:KG}{cU:List KG}{kw:List (Str×KG)}(hl:OS (.type T) "__init__" = pure (some (.builtin "object.__init__")))
  (hm:Bind.madeBy (.type T)=pure (some newId))(hne:(some newId != some "object.__new__")=true) :
  Meets (NR.«object.__init__» ⟨self::cU,kw⟩) (λ_ R s=>s.TypeIs self T/\R (.ok (.ret .none)) s):=by
 refine Meets.of_wp λprog w A R s hs=>?_;obtain⟨hT,hq⟩:=hs;cases cU with
 |nil =>
  cases kw with
  |nil=>exact Lz ⟨_,rfl,hq⟩
  |cons k kw =>
   repeat (any_goals (first|assumption|wp_step))
   exact⟨_,rfl,hq⟩
 |cons a cU =>
  repeat (any_goals (first|assumption|wp_step))
  exact⟨_,rfl,hq⟩
set_option maxHeartbeats 4000000 in
theorem nU(l:Addr)(items:Array KG)(n:Nat)(dct:Option Addr)(sl:Array (Option KG))(t:Tok) :
  Meets (NR.«enumerate.__new__» ⟨[.type "enumerate",.ref l],[(pq "start",.int 1 t)]⟩) (λ_ R s=>s.heap.get? l=some { cls:=.type "list",dict:=dct,data:=.seq items n,slots:=sl }/\
   R (.ok (.ret (.ref (s.heap.push { cls:=.type "list_iterator",data:=.fields #[.ref l,.int 0 0] }).objs.size)))
    { s with heap:=(s.heap.push { cls:=.type "list_iterator",data:=.fields #[.ref l,.int 0 0] }).push { cls:=.type "enumerate",data:=.fields #[.none,.bool false,.ref s.heap.objs.size,rawInt 1,.none,.none] } }):=
 .of_wp λprog w A R s h=>by
  obtain⟨hp,g,d,tk,os⟩:=s;obtain⟨hl,h⟩:=h;have hsub:=sub_enumerate;have hL:Heap.IsList (Shared.heap ⟨hp,g,d,tk,os⟩) l items:=⟨_,hl,rfl,n,rfl⟩
  wp_walk using MW hl
  refine wpAny_stack_any λst=>Lz ?_
  split
  .rename_i c _ _ _ _ _
   cases (c==MU "enumerate")
   .wp_walk using MW hl,MH hL
    exact⟨_,rfl,h⟩
   .wp_walk using MW hl,MH hL
    exact⟨_,rfl,h⟩
  .wp_walk using MW hl,MH hL
   exact⟨_,rfl,h⟩
theorem oI(a:KG)(t:Tok):checkTypeCall "enumerate" ⟨[a],[(pq "start",.int 1 t)]⟩=pure ():=by kernel_rfl
theorem pS(a:KG)(t:Tok):N4 "enumerate.__new__" ⟨[.type "enumerate",a],[(pq "start",.int 1 t)]⟩=pure ():=by kernel_rfl
theorem qE(a b:KG)(t:Tok):argsOk "object.__init__" ⟨[a,b],[(pq "start",.int 1 t)]⟩:=by
 unfold argsOk;rw[signature?_of (id := "object.__init__") (n:=['_','_','t','i','n','i','_','_']) (o:=['t','c','e','j','b','o']) (by kernel_rfl) F.owner_object];kernel_rfl
theorem sE{l:Addr}{items:Array KG}{t:Tok}{Q:KG->KJ->Prop}(hL:s.heap.IsList l items)
  (h:∀h',IsEnum h' (s.heap.objs.size+1) s.heap.objs.size 1 .none->h'.IsListIter s.heap.objs.size l 0->(∀b o,s.heap.get? b=some o->h'.get? b=some o)->Q (.ref (s.heap.objs.size+1)) { s with heap:=h' }) :
  Lc (Lh prog w) A (call (.type "enumerate") [.ref l] [(pq "start",.int 1 t)]) Q E s:=by
 obtain⟨⟨c,dct,dt,sl⟩,hl,hc,n,hd⟩:=hL;have e1:c=.type "list":=hc;have e2:dt=.seq items n:=hd;subst e1 e2;generalize ho:({ cls:=.type "list_iterator",data:=.fields #[.ref l,.int 0 0] }:Obj)=o1;have hz:(s.heap.push o1).objs.size=s.heap.objs.size+1:=Nh ..;have g:=nU l items n dct sl t;rw[ho]at g;generalize ho2:({ cls:=.type "enumerate",data:=.fields #[.none,.bool false,.ref s.heap.objs.size,rawInt 1,.none,.none] }:Obj)=o2;have he:((s.heap.push o1).push o2).get? (s.heap.objs.size+1)=some o2:=by
  have:=Ld (s.heap.push o1) (o:=o2) (by rw[<-ho2];rfl);rw[hz]at this;exact this
 refine uv (Q₁:=λobj s₁=>s₁.TypeIs obj "enumerate"/\Q obj s₁) F.called_enumerate (oI _ t) (pS _ t) F.entry_enumerate_new F.entry_object_init g ⟨hl,?_⟩ λobj s₁ hq=>⟨hq.1,qE _ _ _,_,qC F.called_enumerate.init.lookup F.called_enumerate.made (by decide),hq.1,rfl,hq.2⟩;show _/\_;rw[hz,ho2];exact⟨⟨_,he,by rw[<-ho2]⟩,h _ (by rw[<-ho2]at he⊢;exact he) ⟨_,KU _ (Ld _ (by rw[<-ho];rfl)),by rw[<-ho],by rw[<-ho];rfl⟩ λb o x=>KU _ (KU _ x)⟩
theorem u0{M:Pz}{env:Env}{pos:Pos}{T:String}{e:Expr}{nm:Str}{v:Expr}{kp:Pos}{Q:KG->KJ->Prop}
  (h:Lc M A (spliced (MB pos (K7 [e] env))) (λvs s₁=>Lc M A (eval v env) (λu s₂=>Lc M A (call (.type T) vs [(nm,u)]) Q E s₂) E s₁) E s)
  (he:K7 [e] env=[(false,eval e env)]:=by rfl):Lc M A (O5 pos (.type T) [] (MB pos (K7 [e] env)) (Ou pos (Ni [⟨some nm,v,kp⟩] env))) Q E s:=by
 rw[he]at h⊢;have hq:Lc M A (evalArgs (.type T) true (MB pos [(false,eval e env)]) (Ou pos (Ni [⟨some nm,v,kp⟩] env))) (λa s₁=>Lc M A (call (.type T) a.pos a.kw) Q E s₁) E s:=
  PyProof.Rows.evalArgs_kwB (by rfl) (LJ h (λvs s₁ h₁=>PyProof.Rows.kws_cons (LJ h₁ (λu s₂ h₂=>PyProof.Rows.kws_nil h₂) λ_ _ x=>x)) λ_ _ x=>x)
 unfold O5;refine K3 (Nc (LJ hq (λa s₁ h₁=>K3 (OH (K3 (Lz ?_)))) λ_ _ x=>x));exact K3 (LJ h₁ (λr s₂ hr=>K3 (Nc (wpAny_point (Lz hr)))) λ_ _ x=>x)
end
end PySem
namespace L2
open PySem PySem.Spec PyProof.Rows Tl
theorem drs{prog:K8}{w:K_}{A:LC}{it:Addr}{fp:List Addr}{n:Nat}{P:Nat->KG->Prop}{St:Nat->Heap->Prop}(D:Draws prog w A it fp n P St):Draws prog w A it fp (n+1) (λi x=>∃j,i=j+1/\P j x) (λi h=>∃j,i=j+1/\St j h) where
 live:=λ_ _ ⟨j,_,st⟩=>D.live j _ st
 frame:=λ_ _ _ ⟨j,e,st⟩ k=>⟨j,e,D.frame _ _ _ st k⟩
 item:=λi s Q E hi ⟨j,e,st⟩ hQ=>D.item j s Q E (by omega) st λx h' tk hP hS hs=>hQ x h' tk ⟨j,e,hP⟩ ⟨j+1,by omega,hS⟩ hs
 done:=λs Q E ⟨j,e,st⟩ hE=>by
  have:j=n:=by omega
  subst this;exact D.done s Q E st hE
def u3(K:KC)(a:Addr):It:=
 ⟨λi H=>∃xs x,SqL K H a xs/\xs[i]?=some x,λi H x H'=>∃p,H p=none/\x=.ref p/\∀xs y,SqL K H a xs->xs[i]?=some y->H'=upd H p (.tup [.int ((i+1:Nat):Int),y]),λi H=>∃xs,SqL K H a xs/\xs.length=i⟩
theorem AU{P:K8}{w:K_}{K:KC}{elts:List Expr}{k1}{tp:Pos}(a e it:Addr)(hei:e≠it):mU P w K (.Tuple elts k1 tp) (u3 K a) [e,it] e (λi h=>(∃old,IsEnum h e it ((i+1:Nat):Int) old)/\h.IsListIter it a i) where
 mem:=by simp
 obj:=λi h st b hb=>by
  have hb':b=e\/b=it:=by simpa using hb
  rcases hb' with rfl|rfl
  .obtain⟨⟨old,h1⟩,_⟩:=st;exact⟨_,h1,λv z=>by cases z⟩
  .obtain⟨_,o,h1,c,d⟩:=st;exact⟨o,h1,λv z=>by rw[d]at z;cases z⟩
 keep:=λi h h' st k=>⟨let⟨old,h1⟩:=st.1;⟨old,k e (by simp) _ h1⟩,st.2.at λo h1=>k it (by simp) o h1⟩
 item:=by
  intro X hP hw hK hc i pins s σ H E I hf st hg;subst hP hw hK;obtain⟨xs,x,hq,hx⟩:=hg;obtain⟨its,rv,p,hz⟩:=I.list hq;obtain⟨u,hu,ru⟩:=rv.get hx;obtain⟨f0,f1,f2,f3,f4,f5⟩:=hf e (by simp);obtain⟨g0,g1,g2,g3,g4,g5⟩:=hf it (by simp);obtain⟨⟨old,he⟩,hit⟩:=st;have nea:a≠it/\e∉[it,a]:=by
   obtain⟨o,h1,h2,h3⟩:=p.isList;obtain⟨o',h1',h2',h3'⟩:=hit;refine⟨λz=>?_,λz=>?_⟩
   .rw[z,h1']at h1;cases h1;rw[h2']at h2;exact absurd h2 (by decide)
   .rcases List.mem_cons.mp z with z|z
    .exact hei z
    .rw[List.mem_singleton.mp z]at he;have he2:s.heap.get? a=_:=he;rw[h1]at he2;have h2:=h2;rw[Lm he2]at h2;exact absurd (show MU "enumerate" = MU "list" from h2) (by decide)
  have hlt:i<its.length:=(List.getElem?_eq_some_iff.mp hu).1;refine wpAny_pyNext_enum_itemD (drs (Draws.list (A:=X.A.in1) (I.ok.hd hc) it a nea.1 its.toArray)) he ⟨i,rfl,hit,p.isList⟩ (by simp;omega) hei nea.2 λu' h' tk hP heo hst' hT hz' hk=>?_;obtain⟨j,ej,hP⟩:=hP;obtain⟨j2,ej2,hit',_⟩:=hst';have ej:i=j:=by omega
  have ej2:i+1=j2:=by omega
  subst ej ej2;have eu:u=u':=by
   have h5:its[i]?=some u':=by simpa using hP
   rw[hu]at h5;exact Lm h5
  subst eu;have kk:∀b o,b∉[e,it]->s.heap.get? b=some o->h'.get? b=some o:=λb o hb q=>hk b o (λz=>hb (by simp[z])) (λz=>hb (by simp[z])) q;have nit:∀b v,H b=some v->b∉[e,it]:=λb v q z=>by
   have z':b=e\/b=it:=by simpa using z
   rcases z' with rfl|rfl
   .rw[f0]at q;cases q
   .rw[g0]at q;cases q
  have I1:Inv X pins σ H { s with heap:=h',toks:=tk+1 }:=by
   refine I.step (g':=s.gens) (d':=s.drawn) (ch:=[e,it]) (λb hb=>?_) (λb o _ _ hb q _=>kk b o hb q) (λb o _ _ hb q _=>⟨o.slots,kk b o hb q⟩) (λ_ _ _ _ n=>n)
    (λb o hb q=>⟨o,kk b o hb q⟩) (λ_ _ q=>q) (λ_ _ _ q=>q) (λb ps q=>⟨#[],by rw[q];simp⟩) (λm hm=>?_) (λb v q=>?_) I.bare
   .have z':b=e\/b=it:=by simpa using hb
    rcases z' with rfl|rfl
    .exact⟨f3,f1,f4,f5⟩
    .exact⟨g3,g1,g4,g5⟩
   .obtain⟨o,es,ep,ho,r⟩:=hm;exact⟨o,es,ep,kk _ o (λz=>by
     have z':X.env.locals=e\/X.env.locals=it:=by simpa using z
     rcases z' with z'|z'
     .exact f1 z'.symm
     .exact g1 z'.symm) ho,r⟩
   .refine(I.hok b v q).stay (λc o hc r=>kk c o ?_ r) (λ_ r=>r) λ_ _ r=>r;rcases hc with rfl|hc
    .exact nit _ _ q
    .exact nit _ _ hc
  have hsz:s.heap.objs.size<h'.objs.size:=by rw[hz'];exact MT _
  have hTn:H s.heap.objs.size=none:=I.fresh;have elt:e<s.heap.objs.size:=KR he;have I2:Inv X pins σ (upd H s.heap.objs.size (.tup [.int ((i+1:Nat):Int),x])) { s with heap:=h',toks:=tk+1 }:=by
   refine I1.track hTn I.sz (Mx I.lt) (λy c q=>?_) (λp hp=>?_) ⟨by show 2<=KP;decide,[.int ((i+1:Nat):Int) tk,u],.cons ⟨_,rfl⟩ (.cons ru .nil),⟨_,hT,rfl,_,rfl⟩⟩
   .obtain⟨v,q2⟩:=I.cell y c q;exact KZ q2.lt
   .exact KZ (KR (I.pin p hp).1)
  refine⟨_,rfl,wpAny_letOwnedTupleGo_enum (s:={ s with heap:=h',toks:=tk+1 }) heo λh'' he'' hs''=>?_⟩;have I3:Inv X pins σ (upd H s.heap.objs.size (.tup [.int ((i+1:Nat):Int),x])) { s with heap:=h'',toks:=tk+1 }:=Inv.turned (s:={ s with heap:=h',toks:=tk+1 }) (h':=h'') (t':=tk+1) (it:=e) I2 (λb o hb q=>(hs''.2 b hb).trans q) (by rw[aq (KZ elt)];exact f0) f1 f3 f4 f5;refine⟨.ref s.heap.objs.size,_,I3,rfl,⟨_,hTn,rfl,λys y hy hy2=>?_⟩,⟨⟨_,he''⟩,?_⟩,λb hb=>?_⟩
  .rw[I.list_inj hy hq,hx]at hy2;cases hy2;rfl
  .exact hit'.at λo h1=>(hs''.2 it (Lp hei)).trans h1
  .have z':b=e\/b=it:=by simpa using hb
   rcases z' with rfl|rfl
   .rw[aq (KZ elt)];exact f0
   .have ilt:b<s.heap.objs.size:=by
     obtain⟨o,h1,_⟩:=hit;exact KR h1
    rw[aq (KZ ilt)];exact g0
 done:=by
  intro X hP hw hK hc i pins s σ H E I hf st hg;subst hP hw hK;obtain⟨xs,hq,hx⟩:=hg;obtain⟨its,rv,p,hz⟩:=I.list hq;obtain⟨g0,g1,g2,g3,g4,g5⟩:=hf it (by simp);obtain⟨⟨old,he⟩,hit⟩:=st;have hl:=rv.length;have nea:a≠it:=by
   obtain⟨o,h1,h2,h3⟩:=p.isList;obtain⟨o',h1',h2',h3'⟩:=hit;exact λz=>by rw[z,h1']at h1;cases h1;rw[h2']at h2;exact absurd h2 (by decide)
  exact wpAny_pyNext_enum_endD (drs (Draws.list (A:=X.A.in1) (I.ok.hd hc) it a nea its.toArray)) he ⟨i,by simp;omega,hit,p.isList⟩ λh' eb=>⟨rfl,I.turned (t':=s.toks) (λb o hb e=>eb b o hb e) g0 g1 g3 g4 g5⟩
 self:=λ_ _ _ _ _ st h=>by
  obtain⟨⟨old,he⟩,_⟩:=st;exact NQ he h
def He(K:KC)(tl:TE):TI:=λσ H R=>tl σ H λx H1=>∃a,x=.ref a/\(∃xs,SqL K H1 a xs)/\R (u3 K a) H1
theorem Cy{K:KC}{a:Addr}{xs:List V}{g:TG}{tb:TS}{D:dS}{σ:St}{H:Hp}(Pv:Nat->St->Hp->Prop)(h0:Pv 0 σ H)(hl:∀i σ H,i<=xs.length->Pv i σ H->SqL K H a xs)
  (hs:∀i x σ H p,xs[i]?=some x->Pv i σ H->H p=none->g (.ref p) σ (upd H p (.tup [.int ((i+1:Nat):Int),x])) λσ2 H2=>tb { D with nx:=Pv (i+1),ct:=Pv (i+1),bk:=D.nx } σ2 H2)(hd:∀σ H,Pv xs.length σ H->D.nx σ H) :
  ∃W:Nat->Nat->St->Hp->Prop,(∃m,W 0 m σ H)/\∀i m σ H,W i m σ H->
   ((u3 K a).stop i H/\D.nx σ H)\/((u3 K a).go i H/\∃N:St->Hp->Prop,(∀σ' H',N σ' H'->∃m',m'<m/\W (i+1) m' σ' H')/\∀x H',(u3 K a).yld i H x H'->g x σ H' λσ2 H2=>tb { D with nx:=N,ct:=N,bk:=D.nx } σ2 H2):=by
 refine⟨λi m σ H=>m=xs.length-i/\i<=xs.length/\Pv i σ H,⟨xs.length,by simp,Ls _,h0⟩,?_⟩;rintro i m σ H ⟨rfl,hi,p⟩;have q:=hl i σ H hi p;by_cases hlt:i<xs.length
 .refine .inr ⟨⟨xs,xs[i],q,by simp[hlt]⟩,Pv (i+1),λσ' H' p'=>⟨xs.length-(i+1),by omega,rfl,hlt,p'⟩,λx H' y=>?_⟩;obtain⟨t,ht,e,y⟩:=y;subst e;have e2:=y xs xs[i] q (by simp[hlt]);subst e2;exact hs i xs[i] σ H t (by simp[hlt]) p ht
 .have e:i=xs.length:=by omega
  subst e;exact .inl ⟨⟨xs,q,rfl⟩,hd σ H p⟩
section
variable {X:Cx}{elts:List Expr}{k1:Nat}{tp:Pos}
theorem Eb{l v:Expr}{k1}{tl:TE}{p pos kp:Pos}(hg:Gl X "enumerate")(hm:X.mg "enumerate" = none)(hl:PE X l tl)(hv:PE X v (tC (.int 1)))(hs:K7 [l] X.env=[(false,eval l X.env)]:=by rfl):PI X (.Tuple elts k1 tp) (.Call (.Name "enumerate" p) [l] [⟨some (pq "start"),v,kp⟩] pos) (He X.K tl):=by
 intro pins s σ H R I h;have ha:PA X [l] (ue tl qq):=aa hl ac hs;refine ME (lK I hg hm (by decide:MN "enumerate" = some (.type "enumerate")) (u0 (thn (ha pos pins s σ H (λvs H1=>match vs with|[x]=>∃a,x=.ref a/\(∃xs,SqL X.K H1 a xs)/\R (u3 X.K a) H1|_=>False) I h) λus s0 ⟨vs,H0,I0,r1,q1⟩=>?_) hs))
 refine thn (hv pins s0 σ H0 (λy H1=>y=.int 1/\H1=H0) I0 ⟨rfl,rfl⟩) λu1 s1 ⟨y,H1,I1,ry,ey,eH⟩=>?_;subst ey eH;obtain⟨tk,rfl⟩:=ry
 match vs,r1,q1 with
 |[x],r1,q1 =>
 obtain⟨a,rfl,⟨xs,hq⟩,q⟩:=q1;obtain⟨u,rfl,ru⟩:=iq r1;cases ru;obtain⟨its,rv,p,hz⟩:=I1.list hq;refine sE p.isList λh' he hit hk=>?_;refine NQ he ?_;refine⟨s1.heap.objs.size+1,[s1.heap.objs.size+1,s1.heap.objs.size],_,_,H1,rfl,I1.kept (t':=s1.toks) hk,AU a _ _ (Nat.succ_ne_self _),⟨⟨_,he⟩,hit⟩,λb hb=>?_,q⟩;rcases List.mem_cons.mp hb with rfl|hb
 .exact I1.fpOk (Mf _) (I1.hok.fresh (Mf _))
 .rw[List.mem_singleton.mp hb];exact I1.fpOk (Kz _) (I1.hok.fresh (Kz _))
end
mutual
theorem Rep.mono{K:KC}{H H':Hp}(s:ar H H'):∀{d:DD}{v:V},Rep K H d v->Rep K H' d v
 |.bl _,v,h=>by unfold Rep at h⊢;exact h
 |.int _,v,h=>by unfold Rep at h⊢;exact h
 |.str _,v,h=>by unfold Rep at h⊢;exact h
 |.tup l,v,h=>by
  unfold Rep at h⊢;obtain⟨a,xs,h1,h2,h3,h4⟩:=h;exact⟨a,xs,h1,s.tup h2,h3,aB.mono s h4⟩
 |.lst l,v,h=>by
  unfold Rep at h⊢;obtain⟨a,xs,h1,h2,h3,h4⟩:=h;exact⟨a,xs,h1,s.seq h2,h3,aB.mono s h4⟩
theorem aB.mono{K:KC}{H H':Hp}(s:ar H H'):∀{l:List DD}{xs:List V},aB K H l xs->aB K H' l xs
 |[],xs,h=>by unfold aB at h⊢;exact h
 |d::l,xs,h=>by
  unfold aB at h⊢;obtain⟨x,r,h1,h2,h3⟩:=h;exact⟨x,r,h1,Rep.mono s h2,aB.mono s h3⟩
end
section
variable {K:KC}{H:Hp}
theorem aB.nil:aB K H [] []:=by unfold aB;rfl
theorem aB.cons{d:DD}{l:List DD}{x:V}{xs:List V}(h1:Rep K H d x)(h2:aB K H l xs):aB K H (d::l) (x::xs):=by unfold aB;exact⟨x,xs,rfl,h1,h2⟩
theorem aB.app:∀{l l2:List DD}{xs ys:List V},aB K H l xs->aB K H l2 ys->aB K H (l++l2) (xs++ys)
 |[],l2,xs,ys,h,h2=>by unfold aB at h;rw[h];exact h2
 |d::l,l2,xs,ys,h,h2=>by
  unfold aB at h;obtain⟨x,r,rfl,h3,h4⟩:=h;exact aB.cons h3 (aB.app h4 h2)
theorem aB.snoc{d:DD}{l:List DD}{x:V}{xs:List V}(h1:aB K H l xs)(h2:Rep K H d x):aB K H (l++[d]) (xs++[x]):=h1.app (aB.cons h2 aB.nil)
theorem aB.getR:∀{l:List DD}{xs:List V}{i:Nat}{x:V},aB K H l xs->xs[i]?=some x->∃d,l[i]?=some d/\Rep K H d x
 |[],xs,i,x,h,e=>by unfold aB at h;rw[h]at e;simp at e
 |d::l,xs,0,x,h,e=>by
  unfold aB at h;obtain⟨y,r,rfl,h3,h4⟩:=h;have e:y=x:=Lm e;exact⟨d,rfl,e▸h3⟩
 |d::l,xs,i+1,x,h,e=>by
  unfold aB at h;obtain⟨y,r,rfl,h3,h4⟩:=h;show ∃d',l[i]?=some d'/\_;exact aB.getR h4 (by simpa using e)
theorem rZ(i:Int):Rep K H (.int i) (.int i):=by unfold Rep;rfl
theorem lF(s:Str):Rep K H (.str s) (.str s):=by unfold Rep;rfl
theorem lG{a:Addr}{vs:List V}{l:List DD}(h:SqL K H a vs)(hl:l.length<=1000)(r:aB K H l vs):Rep K H (.lst l) (.ref a):=by
 unfold Rep;exact⟨a,vs,rfl,h,hl,r⟩
theorem r6{a:Addr}{vs:List V}{l:List DD}(h:SqT K H a vs)(hl:l.length<=1000)(r:aB K H l vs):Rep K H (.tup l) (.ref a):=by
 unfold Rep;exact⟨a,vs,rfl,h,hl,r⟩
theorem Rep.lstO{l:List DD}{v:V}(h:Rep K H (.lst l) v):∃a xs,v=.ref a/\SqL K H a xs/\l.length<=1000/\aB K H l xs:=by unfold Rep at h;exact h
theorem Rep.tupO{l:List DD}{v:V}(h:Rep K H (.tup l) v):∃a xs,v=.ref a/\SqT K H a xs/\l.length<=1000/\aB K H l xs:=by unfold Rep at h;exact h
theorem aB.two{d e:DD}{xs:List V}(h:aB K H [d,e] xs):∃x y,xs=[x,y]/\Rep K H d x/\Rep K H e y:=by
 unfold aB at h;obtain⟨x,r,rfl,h1,h⟩:=h;unfold aB at h;obtain⟨y,r,rfl,h2,h⟩:=h;unfold aB at h;exact⟨x,y,by rw[h],h1,h2⟩
theorem aB.three{d e f:DD}{xs:List V}(h:aB K H [d,e,f] xs):∃x y z,xs=[x,y,z]/\Rep K H d x/\Rep K H e y/\Rep K H f z:=by
 unfold aB at h;obtain⟨x,r,rfl,h1,h⟩:=h;obtain⟨y,z,rfl,h2,h3⟩:=aB.two h;exact⟨x,y,z,rfl,h1,h2,h3⟩
theorem wm:∀ns:List Int,aB K H (ns.map DD.int) (ns.map V.int)
 |[]=>aB.nil
 |n::r=>aB.cons (rZ n) (wm r)
theorem Rep.strO{s:Str}{v:V}(h:Rep K H (.str s) v):v=.str s:=by unfold Rep at h;exact h
theorem Rep.intO{i:Int}{v:V}(h:Rep K H (.int i) v):v=.int i:=by unfold Rep at h;exact h
theorem aB.intsO:∀{ns:List Int}{xs:List V},aB K H (ns.map DD.int) xs->xs=ns.map V.int
 |[],xs,h=>by unfold aB at h;exact h
 |n::r,xs,h=>by
  have h:aB K H (DD.int n::r.map DD.int) xs:=h;unfold aB at h;obtain⟨x,r2,rfl,h1,h2⟩:=h;rw[h1.intO,h2.intsO];rfl
end
def wdD(w:Wd0):DD:=.tup [.str (pq "word"),.str (tx w)]
def plD(k:Nat):DD:=.tup [.str (pq "place"),.int (k:Int)]
def clD(n:Wd0)(as:List (List DD)):DD:=.tup [.str (pq "call"),.str (tx n),.lst (as.map DD.lst)]
def Nd(M:List (Wd0×Nat))(c:Nat):Nat->DD->Prop
 |0,_=>False
 |d+1,x=>(∃w,x=wdD w)\/(∃k,1<=k/\k<=c/\x=plD k)\/∃n as,x=clD n as/\(n,as.length)∈M/\∀a∈as,a.length<=90+d/\∀y∈a,Nd M c d y
theorem Nd.out{M:List (Wd0×Nat)}{c d:Nat}{x:DD}(h:Nd M c (d+1) x):(∃w,x=wdD w)\/(∃k,1<=k/\k<=c/\x=plD k)\/∃n as,x=clD n as/\(n,as.length)∈M/\∀a∈as,a.length<=90+d/\∀y∈a,Nd M c d y:=h
theorem Nd.pos{M:List (Wd0×Nat)}{c d:Nat}{x:DD}(h:Nd M c d x):∃e,d=e+1:=by
 cases d with
 |zero=>exact h.elim
 |succ e=>exact⟨e,rfl⟩
structure Sh where
 n:Wd0
 c:Nat
 ns:List DD
 r:List Int
 k:Int
def shD(s:Sh):DD:=.tup [.str (tx s.n),.int (s.c:Int),.lst s.ns,.lst (s.r.map DD.int),.int s.k]
def shF(S:List Sh)(x:Str):Option Sh:=S.find? λs=>decide (tx s.n=x)
def ddL:DD->List DD
 |.lst l=>l
 |_=>[]
def bB:List Nat->Nat
 |[]=>0
 |x::r=>if x=0 then bB r else x
theorem tf:∀(l r:List Nat),bB (l++r)=if bB l=0 then bB r else bB l
 |[],r=>rfl
 |x::l,r=>by
  show(if x=0 then bB (l++r)else x)=if(if x=0 then bB l else x)=0 then bB r else(if x=0 then bB l else x);by_cases h:x=0
  .rw[if_pos h,if_pos h,tf l r]
  .rw[if_neg h,if_neg h,if_neg h]
theorem oJ{l:List Nat}(h:bB l=0):∀x∈l,x=0:=by
 induction l with
 |nil=>intro x hx;cases hx
 |cons y r ih =>
  intro x hx;have h:(if y=0 then bB r else y)=0:=h;by_cases e:y=0
  .rw[if_pos e]at h;rcases List.mem_cons.mp hx with rfl|hx
   .exact e
   .exact ih h x hx
  .rw[if_neg e]at h;exact absurd h e
def bG(r:List Int):Nat->List Int->Int
 |_,[]=>0
 |i,y::ys=>r.getD i 0*y+bG r (i+1) ys
theorem qF(r:List Int)(y:Int):∀(i:Nat)(ys:List Int),bG r i (ys++[y])=bG r i ys+r.getD (i+ys.length) 0*y
 |i,[]=>by simp[bG]
 |i,x::ys=>by
  show r.getD i 0*x+bG r (i+1) (ys++[y])=r.getD i 0*x+bG r (i+1) ys+r.getD (i+(ys.length+1)) 0*y;rw[qF r y (i+1) ys,show i+1+ys.length=i+(ys.length+1) by omega];omega
def wrD(S:List Sh):Nat->DD->Nat
 |d+1,.tup [_,.str x,.lst as]=>match shF S x with
  |none=>1
  |some s=>if as.length=s.c then bB (as.map λa=>bB ((ddL a).map (wrD S d)))else 2
 |_,_=>0
def szR(S:List Sh)(j:Nat):Nat->DD->Int
 |_+1,.tup [_,.str _]=>if j=0 then 1 else 0
 |_+1,.tup [_,.int k]=>if k=(j:Int)then 1 else 0
 |d+1,.tup [_,.str x,.lst as]=>match shF S x with
  |none=>0
  |some s=>(if j=0 then s.r.getD 0 0 else 0)+bG s.r 1 (as.map λa=>((ddL a).map (szR S j d)).sum)
 |_,_=>0
def szC(S:List Sh):Nat->DD->Int
 |d+1,.tup [_,.str x,.lst as]=>match shF S x with
  |none=>0
  |some s=>1+s.k+(as.map λa=>((ddL a).map (szC S d)).sum).sum
 |_,_=>0
def wrL(S:List Sh)(d:Nat)(xs:List DD):Nat:=bB (xs.map (wrD S d))
def rwL(f:Nat->Int)(c:Nat):List Int:=(Mh (c+1)).map f
def cL(S:List Sh)(c d:Nat)(xs:List DD):List Int:=rwL (λj=>(xs.map (szR S j d)).sum) c
def bo(S:List Sh)(d:Nat)(xs:List DD):Int:=(xs.map (szC S d)).sum
section
variable {S:List Sh}{d j:Nat}{n:Wd0}{as:List (List DD)}{w:Wd0}{k:Nat}{s:Sh}
theorem IE:wrD S (d+1) (wdD w)=0:=rfl
theorem IF:wrD S (d+1) (plD k)=0:=rfl
theorem r9{α:Type}(f:List DD->α):(as.map DD.lst).map (λa=>f (ddL a))=as.map f:=by
 rw[Mt];rfl
theorem u4(h:shF S (tx n)=none):wrD S (d+1) (clD n as)=1:=by
 show(match shF S (tx n)with|none=>1|some s=>_)=1
 rw[h]
theorem yn(h:shF S (tx n)=some s)(hl:as.length≠s.c):wrD S (d+1) (clD n as)=2:=by
 show(match shF S (tx n)with|none=>1|some s=>if(as.map DD.lst).length=s.c then _ else 2)=2
 rw[h];show(if(as.map DD.lst).length=s.c then _ else 2)=2;rw[KA,if_neg hl]
theorem Cz(h:shF S (tx n)=some s)(hl:as.length=s.c):wrD S (d+1) (clD n as)=bB (as.map (wrL S d)):=by
 show(match shF S (tx n)with|none=>1|some s=>if(as.map DD.lst).length=s.c then bB ((as.map DD.lst).map λa=>bB ((ddL a).map (wrD S d)))else 2)=_
 rw[h];show(if(as.map DD.lst).length=s.c then bB ((as.map DD.lst).map λa=>bB ((ddL a).map (wrD S d)))else 2)=_;rw[KA,if_pos hl];exact congrArg bB (r9 λa=>bB (a.map (wrD S d)))
theorem AV:szR S j (d+1) (wdD w)=if j=0 then 1 else 0:=rfl
theorem AW:szR S j (d+1) (plD k)=if k=j then 1 else 0:=by
 show(if(k:Int)=(j:Int)then(1:Int)else 0)=_;by_cases h:k=j
 .rw[if_pos h,if_pos (by omega)]
 .rw[if_neg h,if_neg (by omega)]
theorem AX(h:shF S (tx n)=some s):szR S j (d+1) (clD n as)=(if j=0 then s.r.getD 0 0 else 0)+bG s.r 1 (as.map λa=>(a.map (szR S j d)).sum):=by
 show(match shF S (tx n)with|none=>0|some s=>(if j=0 then s.r.getD 0 0 else 0)+bG s.r 1 ((as.map DD.lst).map λa=>((ddL a).map (szR S j d)).sum))=_
 rw[h,r9 λa=>(a.map (szR S j d)).sum]
theorem IG:szC S (d+1) (wdD w)=0:=rfl
theorem IH:szC S (d+1) (plD k)=0:=rfl
theorem II(h:shF S (tx n)=some s):szC S (d+1) (clD n as)=1+s.k+(as.map (bo S d)).sum:=by
 show(match shF S (tx n)with|none=>0|some s=>1+s.k+((as.map DD.lst).map λa=>((ddL a).map (szC S d)).sum).sum)=_
 rw[h,r9 λa=>(a.map (szC S d)).sum];rfl
end
theorem iy(f:Nat->Int)(c:Nat):(rwL f c).length=c+1:=by unfold rwL;rw[KA,LQ]
theorem jl(f:Nat->Int){c j:Nat}(h:j<=c):(rwL f c)[j]?=some (f j):=by
 unfold rwL;rw[KS,Nr (by omega)];rfl
theorem kO{f g:Nat->Int}{c:Nat}(h:∀j,j<=c->f j=g j):rwL f c=rwL g c:=Mg λj hj=>h j (by have:=List.mem_range.mp hj;omega)
theorem uw(f:Nat->Int){c j:Nat}(h:j<=c):atI ((rwL f c).map V.int) (j:Int)=some (V.int (f j)):=a_ (by rw[KS,jl f h];rfl)
theorem u5(f:Nat->Int){c j:Nat}(y:Int)(h:j<=c):((rwL f c).map V.int).set j (V.int y)=(rwL (λi=>if i=j then y else f i) c).map V.int:=by
 refine List.ext_getElem? λi=>?_;rw[List.getElem?_set,KS,KS,KA,iy];by_cases e:j=i
 .subst e;rw[if_pos rfl,if_pos (by omega),jl _ h];simp
 .rw[if_neg e];by_cases hi:i<=c
  .rw[jl _ hi,jl _ hi,if_neg (Lp e)]
  .rw[MD (by rw[iy];omega),MD (by rw[iy];omega)]
theorem u6{l j:Nat}(h:j<l):ixN l (j:Int)=some j:=by
 have:=a_ (xs:=Mh l) (j:=j) (v:=j) (by rw[Nr h]);unfold atI at this;rw[LQ]at this;cases e:ixN l (j:Int)with
 |none=>rw[e]at this;cases this
 |some i =>
  rw[e]at this;have h2:(Mh l)[i]?=some j:=this;have h3:i<l:=by have:=(List.getElem?_eq_some_iff.mp h2).1;rwa[LQ]at this
  rw[Nr h3]at h2;rw[Lm h2]
theorem jZ(f:DD->Int){xs:List DD}{k:Nat}{x:DD}(h:xs[k]?=some x):((xs.take (k+1)).map f).sum=((xs.take k).map f).sum+f x:=by
 rw[Lb,h,KQ,O2];simp
theorem CA{α:Type}(f:α->Int){xs:List α}{k:Nat}{x:α}(h:xs[k]?=some x):((xs.take (k+1)).map f).sum=((xs.take k).map f).sum+f x:=by
 rw[Lb,h,KQ,O2];simp
structure Gf where
 t:Addr
 D:Addr
 N:Addr
 n:Wd0
 m:Nat
 Dv:List V
 ds:List (List DD)
 vs:List V
 xs:List DD
section
variable {K:KC}{H0 H H':Hp}{pf t D N:Addr}{gs r:List Gf}{g:Gf}{v:V}{x:DD}{n:Wd0}{m:Nat}
end
def iz(S:List Sh):List (Wd0×Nat):=S.map λs=>(s.n,s.c)
structure ShX(S:List Sh):Prop where
 nd:(S.map Sh.n).Nodup
 len:S.length<=4
 ord:∀(i:Nat) s,S[i]?=some s->∀x∈s.ns,Nd (iz (S.take i)) s.c 12 x
 eqr:∀s∈S,s.r=cL S s.c 12 s.ns
 pos:∀s∈S,∀k,1<=k->k<=s.c->1<=s.r.getD k 0
 nn:∀s∈S,∀y∈s.r,0<=y
 sum:∀s∈S,s.r.sum<=400
def ex{α:Type}(wd:Str->α)(S:List Sh):Nat->List (List α)->DD->List α
 |_+1,_,.tup [_,.str x]=>[wd x]
 |_+1,A,.tup [_,.int k]=>A.getD (k-1).toNat []
 |n+1,A,.tup [_,.str x,.lst as]=>match shF S x with
  |none=>[]
  |some s=>(s.ns.map (ex wd S n (as.map λa=>((ddL a).map (ex wd S n A)).flatten))).flatten
 |_,_,_=>[]
def exL{α:Type}(wd:Str->α)(S:List Sh)(n:Nat)(A:List (List α))(xs:List DD):List α:=(xs.map (ex wd S n A)).flatten
section
variable {α β:Type}{wd:Str->α}{S:List Sh}{n:Nat}{A:List (List α)}{w nm:Wd0}{k:Nat}{as:List (List DD)}{s:Sh}
theorem IJ:ex wd S (n+1) A (wdD w)=[wd (tx w)]:=rfl
theorem xk:ex wd S (n+1) A (plD k)=A.getD (k-1) []:=by
 show A.getD ((k:Int)-1).toNat []=_;rw[show((k:Int)-1).toNat=k-1 by omega]
theorem xm(hF:shF S (tx nm)=some s):ex wd S (n+1) A (clD nm as)=exL wd S n (as.map (exL wd S n A)) s.ns:=by
 show(match shF S (tx nm)with|none=>[]|some s=>(s.ns.map (ex wd S n ((as.map DD.lst).map λa=>((ddL a).map (ex wd S n A)).flatten))).flatten)=_
 rw[hF,r9 λa=>(a.map (ex wd S n A)).flatten];rfl
theorem Ec{xs:List DD}{i:Nat}{x:DD}(h:xs[i]?=some x):exL wd S n A (xs.take (i+1))=exL wd S n A (xs.take i)++ex wd S n A x:=by
 unfold exL;rw[Lb,h,KQ,MM];simp
end
def En(S:List Sh):Nat->Nat->DD->Prop
 |0,_,_=>False
 |n+1,c,x=>(∃w,x=wdD w)\/(∃k,1<=k/\k<=c/\x=plD k)\/∃nm as s,x=clD nm as/\shF S (tx nm)=some s/\as.length=s.c/\s∈S/\(∀a∈as,∀y∈a,En S n c y)/\∀y∈s.ns,En S n s.c y
theorem En.out{S:List Sh}{n c:Nat}{x:DD}(h:En S (n+1) c x):(∃w,x=wdD w)\/(∃k,1<=k/\k<=c/\x=plD k)\/∃nm as s,x=clD nm as/\shF S (tx nm)=some s/\as.length=s.c/\s∈S/\(∀a∈as,∀y∈a,En S n c y)/\∀y∈s.ns,En S n s.c y:=h
theorem En.up{S:List Sh}:∀{n m c:Nat}{x:DD},n<=m->En S n c x->En S m c x
 |n+1,m,c,x,hm,h=>by
  obtain⟨m,rfl⟩:∃e,m=e+1:=⟨m-1,by omega⟩;rcases h.out with⟨w,rfl⟩|⟨k,h1,h2,rfl⟩|⟨nm,as,s,rfl,h1,h2,h3,h4,h5⟩
  .exact .inl ⟨w,rfl⟩
  .exact .inr (.inl ⟨k,h1,h2,rfl⟩)
  .exact .inr (.inr ⟨nm,as,s,rfl,h1,h2,h3,λa ha y hy=>En.up (by omega) (h4 a ha y hy),λy hy=>En.up (by omega) (h5 y hy)⟩)
theorem mJ{α:Type}{wd:Str->α}{S:List Sh}{n m:Nat}{A B:List (List α)}{xs:List DD}(h:∀x∈xs,ex wd S n A x=ex wd S m B x):exL wd S n A xs=exL wd S m B xs:=by
 unfold exL;rw[Mg h]
theorem xo{α:Type}{wd:Str->α}{S:List Sh}:∀{n m c:Nat}{A:List (List α)}{x:DD},n<=m->En S n c x->ex wd S m A x=ex wd S n A x
 |n+1,m,c,A,x,hm,h=>by
  obtain⟨m,rfl⟩:∃e,m=e+1:=⟨m-1,by omega⟩;rcases h.out with⟨w,rfl⟩|⟨k,h1,h2,rfl⟩|⟨nm,as,s,rfl,h1,h2,h3,h4,h5⟩
  .rfl
  .rw[xk,xk]
  .rw[xm h1,xm h1];have e:as.map (exL wd S m A)=as.map (exL wd S n A):=Mg λa ha=>mJ λy hy=>xo (by omega) (h4 a ha y hy);rw[e];exact mJ λy hy=>xo (by omega) (h5 y hy)
theorem Hg{S:List Sh}(nd:(S.map Sh.n).Nodup){s:Sh}(hs:s∈S):shF S (tx s.n)=some s:=by
 cases hq:shF S (tx s.n)with
 |none =>
  unfold shF at hq;exact absurd (decide_eq_true (rfl:tx s.n=tx s.n)) (List.find?_eq_none.mp hq s hs)
 |some t =>
  unfold shF at hq;have t1:=No hq;have t2:tx t.n=tx s.n:=by simpa using O3 hq
  have e3:=eN t2;obtain⟨i,hi⟩:=Mv hs;obtain⟨j,hj⟩:=Mv t1;have:i=j:=(List.getElem?_inj (by rw[KA];exact(List.getElem?_eq_some_iff.mp hi).1) nd).mp (by rw[KS,KS,hi,hj];show some s.n=some t.n;rw[e3]);rw[this,hj]at hi;exact hi
theorem u7{S:List Sh}(nd:(S.map Sh.n).Nodup){i m:Nat}{nm:Wd0}(hM:(nm,m)∈iz (S.take i)):∃(j:Nat)(s:Sh),j<i/\S[j]?=some s/\s∈S/\s.n=nm/\s.c=m/\shF S (tx nm)=some s:=by
 unfold iz at hM;obtain⟨s,hs,e⟩:=List.mem_map.mp hM;obtain⟨e1,e2⟩:=Prod.mk.inj e;obtain⟨j,hj⟩:=Mv hs;have hl:=(List.getElem?_eq_some_iff.mp hj).1;rw[La]at hl;rw[List.getElem?_take_of_lt (by omega)]at hj;have hm:=KL hj;exact⟨j,s,by omega,hj,hm,e1,e2,by rw[<-e1];exact Hg nd hm⟩
theorem IK{S:List Sh}(h:ShX S):∀(i d c:Nat)(x:DD),Nd (iz (S.take i)) c d x->En S (d+12*i) c x:=by
 intro i;induction i using Nat.strongRecOn with
 |ind i ih =>
  intro d;induction d with
  |zero=>intro c x hx;exact hx.elim
  |succ d ihd =>
   intro c x hx;rw[show d+1+12*i=(d+12*i)+1 by omega];rcases hx.out with⟨w,rfl⟩|⟨k,h1,h2,rfl⟩|⟨nm,as,rfl,h1,h2⟩
   .exact .inl ⟨w,rfl⟩
   .exact .inr (.inl ⟨k,h1,h2,rfl⟩)
   .obtain⟨j,s,hj,ej,hs,e1,e2,hF⟩:=u7 h.nd h1;exact .inr (.inr ⟨nm,as,s,rfl,hF,e2.symm,hs,λa ha y hy=>ihd c y ((h2 a ha).2 y hy),λy hy=>(ih j hj 12 s.c y (h.ord j s ej y hy)).up (by omega)⟩)
theorem AY{S:List Sh}(h:ShX S){i d c:Nat}{x:DD}(hx:Nd (iz (S.take i)) c d x)(hd:d+12*i<=63):En S 63 c x:=(IK h i d c x hx).up hd
theorem Jz{α:Type}{wd:Str->α}{S:List Sh}(h:ShX S){i d c j:Nat}{nm:Wd0}{as:List (List DD)}{s:Sh}{A:List (List α)}(hF:shF S (tx nm)=some s)(hj:S[j]?=some s)(has:∀a∈as,∀y∈a,Nd (iz (S.take i)) c d y)(hd:d+12*i<=63):ex wd S 64 A (clD nm as)=exL wd S 64 (as.map (exL wd S 64 A)) s.ns:=by
 rw[xm hF];have e:as.map (exL wd S 63 A)=as.map (exL wd S 64 A):=Mg λa ha=>mJ λy hy=>(xo (by decide) (AY h (has a ha y hy) hd)).symm;rw[e];have hl:=(List.getElem?_eq_some_iff.mp hj).1;have:=h.len;exact mJ λy hy=>(xo (by decide) (AY h (h.ord j s hj y hy) (by omega))).symm
def dot(f W:Nat->Int):Nat->Int
 |0=>f 0*W 0
 |c+1=>dot f W c+f (c+1)*W (c+1)
section
variable {W:Nat->Int}
theorem gS{f g:Nat->Int}:∀{c:Nat},(∀j,j<=c->f j=g j)->dot f W c=dot g W c
 |0,h=>by show f 0*W 0=g 0*W 0;rw[h 0 (Kz _)]
 |c+1,h=>by
  show dot f W c+f (c+1)*W (c+1)=dot g W c+g (c+1)*W (c+1);rw[gS (λj hj=>h j (by omega)),h (c+1) (Kz _)]
theorem r_(f g:Nat->Int):∀c,dot (λj=>f j+g j) W c=dot f W c+dot g W c
 |0=>by show(f 0+g 0)*W 0=f 0*W 0+g 0*W 0;rw[Int.add_mul]
 |c+1=>by
  show dot _ W c+(f (c+1)+g (c+1))*W (c+1)=dot f W c+f (c+1)*W (c+1)+(dot g W c+g (c+1)*W (c+1));rw[r_ f g c,Int.add_mul];omega
theorem Aa(t:Int)(f:Nat->Int):∀c,dot (λj=>t*f j) W c=t*dot f W c
 |0=>by show t*f 0*W 0=t*(f 0*W 0);rw[Ph]
 |c+1=>by
  show dot _ W c+t*f (c+1)*W (c+1)=t*(dot f W c+f (c+1)*W (c+1));rw[Aa t f c,Int.mul_add,Ph]
theorem tj:∀c,dot (λ_=>0) W c=0
 |0=>On _
 |c+1=>by
  show dot _ W c+0*W (c+1)=0;rw[tj c,On];rfl
theorem se{β:Type}(F:Nat->β->Int)(c:Nat):∀xs:List β,dot (λj=>(xs.map (F j)).sum) W c=(xs.map λx=>dot (λj=>F j x) W c).sum
 |[]=>tj c
 |x::xs=>by
  rw[KW,MR,<-se F c xs,<-r_];exact gS λj _=>by rw[KW,MR]
theorem Ab{β:Type}(r:List Int)(F:Nat->β->Int)(c:Nat):∀(i:Nat)(as:List β),dot (λj=>bG r i (as.map (F j))) W c=bG r i (as.map λa=>dot (λj=>F j a) W c)
 |i,[]=>tj c
 |i,a::as=>by
  show dot (λj=>r.getD i 0*F j a+bG r (i+1) (as.map (F j))) W c=r.getD i 0*dot (λj=>F j a) W c+bG r (i+1) (as.map λa=>dot (λj=>F j a) W c);rw[r_,Aa,Ab r F c (i+1) as]
theorem u8(t:Int):∀c,dot (λj=>if j=0 then t else 0) W c=t*W 0
 |0=>rfl
 |c+1=>by
  show dot _ W c+(if c+1=0 then t else 0)*W (c+1)=_;rw[u8 t c,if_neg (by omega),On,Px]
theorem CC(k:Nat):∀c,dot (λj=>if k=j then 1 else 0) W c=if k<=c then W k else 0
 |0=>by
  show(if k=0 then(1:Int)else 0)*W 0=_;by_cases h:k=0
  .rw[if_pos h,if_pos (by omega),h,Int.one_mul]
  .rw[if_neg h,if_neg (by omega),On]
 |c+1=>by
  show dot _ W c+(if k=c+1 then(1:Int)else 0)*W (c+1)=_;rw[CC k c];by_cases h:k=c+1
  .rw[if_pos h,if_neg (by omega),if_pos (by omega),h];omega
  .rw[if_neg h,On,Px];by_cases h2:k<=c
   .rw[if_pos h2,if_pos (by omega)]
   .rw[if_neg h2,if_neg (by omega)]
end
def wt{α:Type}(A:List (List α)):Nat->Int
 |0=>1
 |k+1=>((A.getD k []).length:Int)
theorem AZ{α:Type}(r:List Int)(G:List (List α)):∀c,c<=G.length->dot (λj=>r.getD j 0) (wt G) c=r.getD 0 0+bG r 1 ((G.take c).map λg=>(g.length:Int))
 |0,_=>by show r.getD 0 0*1=r.getD 0 0+0;omega
 |c+1,h=>by
  have e:G[c]?=some G[c]:=KM (by omega);show dot _ (wt G) c+r.getD (c+1) 0*((G.getD c []).length:Int)=_;rw[AZ r G c (by omega),Lb,e,KQ];show _=r.getD 0 0+bG r 1 (_++[(G[c].length:Int)]);have eg:G.getD c []=G[c]:=by rw[Lk,e];rfl
  rw[qF,KA,La,Na (by omega),eg,show 1+c=c+1 by omega];omega
theorem oK{α β:Type}(f:β->List α):∀xs:List β,(((xs.map f).flatten.length:Nat):Int)=(xs.map λx=>((f x).length:Int)).sum
 |[]=>rfl
 |x::xs=>by
  rw[KW,Mi,KI,KW,MR,<-oK f xs];omega
theorem Ac{S:List Sh}(h:ShX S){s:Sh}(hs:s∈S){j:Nat}(hj:j<=s.c):s.r.getD j 0=(s.ns.map (szR S j 12)).sum:=by
 rw[h.eqr s hs,Lk];unfold cL;rw[jl _ hj];rfl
theorem yo{α:Type}{wd:Str->α}{S:List Sh}(h:ShX S):∀{n c d:Nat}{M:List (Wd0×Nat)}{A:List (List α)}{x:DD},En S n c x->Nd M c d x->((ex wd S n A x).length:Int)=dot (λj=>szR S j d x) (wt A) c
 |n+1,c,d,M,A,x,he,hx=>by
  obtain⟨d,rfl⟩:=hx.pos;rcases he.out with⟨w,rfl⟩|⟨k,h1,h2,rfl⟩|⟨nm,as,s,rfl,hF,h2,h3,h4,h5⟩
  .have:=u8 (W:=wt A) 1 c;rw[IJ];show(1:Int)=_;have e:dot (λj=>szR S j (d+1) (wdD w)) (wt A) c=dot (λj=>if j=0 then 1 else 0) (wt A) c:=gS λj _=>AV;rw[e,this];rfl
  .rw[xk];have e:dot (λj=>szR S j (d+1) (plD k)) (wt A) c=dot (λj=>if k=j then 1 else 0) (wt A) c:=gS λj _=>AW;rw[e,CC,if_pos h2];obtain⟨k,rfl⟩:∃e,k=e+1:=⟨k-1,by omega⟩;rfl
  .have hn:∀a∈as,∀y∈a,Nd M c d y:=by
    rcases hx.out with⟨w,e⟩|⟨k,_,_,e⟩|⟨n',as',e,_,h'⟩
    .exact absurd (congrArg (λz=>match z with|DD.tup l=>l.length|_=>0) e) (by simp[clD,wdD])
    .exact absurd (congrArg (λz=>match z with|DD.tup l=>l.length|_=>0) e) (by simp[clD,plD])
    .unfold clD at e;injection e with e;injection e with _ e;injection e with _ e;injection e with e _;injection e with e;have:as=as':=by
      have e:=congrArg (λz=>z.map ddL) e;simp only[Mt]at e;have q:∀l:List (List DD),l.map (ddL∘DD.lst)=l:=λl=>by
       have:(ddL∘DD.lst)=(id:List DD->List DD):=rfl;rw[this,PF]
      rw[q,q]at e;exact e
     rw[this];exact λa ha y hy=>(h' a ha).2 y hy
   obtain⟨j,hj⟩:=Mv h3;rw[xm hF];have e1:((exL wd S n (as.map (exL wd S n A)) s.ns).length:Int)=(s.ns.map λy=>dot (λj=>szR S j 12 y) (wt (as.map (exL wd S n A))) s.c).sum:=by
    unfold exL;rw[oK];refine congrArg List.sum (Mg λy hy=>?_);exact yo h (h5 y hy) (h.ord j s hj y hy)
   have e2:dot (λj=>(s.ns.map (szR S j 12)).sum) (wt (as.map (exL wd S n A))) s.c=dot (λj=>s.r.getD j 0) (wt (as.map (exL wd S n A))) s.c:=gS λj hj=>(Ac h h3 hj).symm;have e3:(as.map (exL wd S n A)).map (λg=>(g.length:Int))=as.map λa=>dot (λj=>(a.map (szR S j d)).sum) (wt A) c:=by
    rw[Mt];refine Mg λa ha=>?_;show((exL wd S n A a).length:Int)=_;unfold exL;rw[oK,se];refine congrArg List.sum (Mg λy hy=>?_);exact yo h (h4 a ha y hy) (hn a ha y hy)
   rw[e1,<-se,e2,AZ _ _ _ (by rw[KA,h2];exact Kz _),K9 (by rw[KA,h2];exact Kz _),e3];have e4:dot (λj=>szR S j (d+1) (clD nm as)) (wt A) c=dot (λj=>(if j=0 then s.r.getD 0 0 else 0)+bG s.r 1 (as.map λa=>(a.map (szR S j d)).sum)) (wt A) c:=gS λj _=>AX hF;rw[e4,r_,u8,Ab s.r (λj (a:List DD)=>(a.map (szR S j d)).sum)];show _=s.r.getD 0 0*1+_;omega
theorem Ad{α:Type}{wd:Str->α}{S:List Sh}(h:ShX S){n c d:Nat}{M:List (Wd0×Nat)}{A:List (List α)}{xs:List DD}(he:∀x∈xs,En S n c x)(hx:∀x∈xs,Nd M c d x):((exL wd S n A xs).length:Int)=dot (λj=>(xs.map (szR S j d)).sum) (wt A) c:=by
 unfold exL;rw[oK,se];exact congrArg List.sum (Mg λy hy=>yo h (he y hy) (hx y hy))
theorem Hh{α:Type}{wd:Str->α}{S:List Sh}(h:ShX S){n:Nat}{G:List (List α)}{s:Sh}(hs:s∈S)(hG:G.length=s.c)(h5:∀y∈s.ns,En S n s.c y):((exL wd S n G s.ns).length:Int)=s.r.getD 0 0+bG s.r 1 (G.map λg=>(g.length:Int)):=by
 obtain⟨j,hj⟩:=Mv hs;rw[Ad h h5 (h.ord j s hj)];have e2:dot (λj=>(s.ns.map (szR S j 12)).sum) (wt G) s.c=dot (λj=>s.r.getD j 0) (wt G) s.c:=gS λj hj=>(Ac h hs hj).symm;rw[e2,AZ _ _ _ (by omega),K9 (by omega)]
theorem yp(r:List Int):∀(l:List Int)(i:Nat),(∀j,i<=j->j<i+l.length->1<=r.getD j 0)->(∀y∈l,0<=y)->0<=bG r i l/\∀y∈l,y<=bG r i l
 |[],i,_,_=>⟨O8 _,λy hy=>by cases hy⟩
 |z::l,i,hr,hl=>by
  obtain⟨q1,q2⟩:=yp r l (i+1) (λj h1 h2=>hr j (by omega) (by rw[KH];omega)) λy hy=>hl y (KN _ hy);have hz:=hl z KO;have hi:=hr i (Kz _) (by rw[KH];omega);have hm:z<=r.getD i 0*z:=by
   have:=Int.mul_le_mul_of_nonneg_right hi hz;omega
  show 0<=r.getD i 0*z+bG r (i+1) l/\∀y∈z::l,y<=r.getD i 0*z+bG r (i+1) l;refine⟨by omega,λy hy=>?_⟩;rcases List.mem_cons.mp hy with rfl|hy
  .omega
  .have:=q2 y hy;omega
theorem Hj{α:Type}{wd:Str->α}{S:List Sh}(h:ShX S){n:Nat}{G:List (List α)}{s:Sh}(hs:s∈S)(hG:G.length=s.c)(h5:∀y∈s.ns,En S n s.c y){g:List α}(hg:g∈G):g.length<=(exL wd S n G s.ns).length:=by
 have e:=Hh (wd:=wd) h hs hG h5;obtain⟨_,q⟩:=yp s.r (G.map λg=>(g.length:Int)) 1 (λj h1 h2=>h.pos s hs j h1 (by rw[KA]at h2;omega)) λy hy=>by
  obtain⟨g,_,rfl⟩:=List.mem_map.mp hy;omega
 have:=q (g.length:Int) (List.mem_map.mpr ⟨g,hg,rfl⟩);have h0:0<=s.r.getD 0 0:=by
  rw[Lk];cases e:s.r[0]? with
  |none=>exact O8 _
  |some y=>exact h.nn s hs y (KL e)
 omega
def sbv{β:Type}(wd:Str->β)(G:List (List β)):Str ⊕ Nat->List β
 |.inl x=>[wd x]
 |.inr k=>G.getD (k-1) []
def sb{β:Type}(wd:Str->β)(G:List (List β))(l:List (Str ⊕ Nat)):List β:=(l.map (sbv wd G)).flatten
section
variable {β:Type}{wd:Str->β}{G:List (List β)}
end
theorem tq{S:List Sh}{M:List (Wd0×Nat)}{c:Nat}:∀{d:Nat}{x:DD},Nd M c d x->wrD S d x=0->Nd (iz S) c d x
 |d+1,x,hx,hw=>by
  rcases hx.out with⟨w,rfl⟩|⟨k,h1,h2,rfl⟩|⟨nm,as,rfl,h1,h2⟩
  .exact .inl ⟨w,rfl⟩
  .exact .inr (.inl ⟨k,h1,h2,rfl⟩)
  .cases hF:shF S (tx nm)with
   |none=>rw[u4 hF]at hw;exact absurd hw (by decide)
   |some s =>
    by_cases hl:as.length=s.c
    .rw[Cz hF hl]at hw;have hs:s∈S/\tx s.n=tx nm:=by
      unfold shF at hF;exact⟨No hF,by simpa using O3 hF⟩
     refine .inr (.inr ⟨nm,as,rfl,List.mem_map.mpr ⟨s,hs.1,by rw[eN hs.2,hl]⟩,λa ha=>⟨(h2 a ha).1,λy hy=>?_⟩⟩);have q:=oJ hw (wrL S d a) (List.mem_map.mpr ⟨a,ha,rfl⟩);exact tq ((h2 a ha).2 y hy) (oJ q _ (List.mem_map.mpr ⟨y,hy,rfl⟩))
    .rw[yn hF hl]at hw;exact absurd hw (by decide)
theorem FK{α:Type}{wd:Str->α}{S:List Sh}{n:Nat}{A:List (List α)}(xs ys:List DD):exL wd S n A (xs++ys)=exL wd S n A xs++exL wd S n A ys:=by
 unfold exL;rw[KQ,MM]
theorem Ed{α:Type}{wd:Str->α}{S:List Sh}{n:Nat}{A:List (List α)}(xs:List DD)(k:Nat):(exL wd S n A (xs.take k)).length<=(exL wd S n A xs).length:=by
 conv=>rhs;rw[<-NU k xs]
 rw[FK,KI];omega
def ux(H:Hp)(ga:Addr)(A:List (List Str)):Prop:=∃bs:List Addr,H ga=some (.lst (bs.map V.ref))/\bs.length=A.length/\∀(i:Nat) b,bs[i]?=some b->H b=some (.lst ((A.getD i []).map V.str))
theorem ux.mono{H H':Hp}{ga:Addr}{A:List (List Str)}(s:ar H H')(h:ux H ga A):ux H' ga A:=by
 obtain⟨bs,h1,h2,h3⟩:=h;exact⟨bs,s _ _ h1,h2,λi b e=>s _ _ (h3 i b e)⟩
theorem Hk{α:Type}{f:Nat->Int}:dot f (wt ([]:List (List α))) 0=f 0:=by show f 0*1=_;omega
section
variable {X:Cx}
end
def Cat{α:Type}(R:α->V->List Addr->Prop):List α->List V->List Addr->Prop
 |[],vs,l=>vs=[]/\l=[]
 |x::xs,vs,l=>∃v vr l1 l2,vs=v::vr/\l=l1++l2/\R x v l1/\Cat R xs vr l2
section
variable {α:Type}{R R':α->V->List Addr->Prop}
theorem Cat.nil:Cat R [] [] []:=⟨rfl,rfl⟩
theorem Cat.snoc:∀{xs:List α}{vs:List V}{l:List Addr}{x:α}{v:V}{l1:List Addr},Cat R xs vs l->R x v l1->Cat R (xs++[x]) (vs++[v]) (l++l1)
 |[],vs,l,x,v,l1,h,hx=>by
  obtain⟨rfl,rfl⟩:=h;exact⟨v,[],l1,[],rfl,(LF _).symm,hx,rfl,rfl⟩
 |y::xs,vs,l,x,v,l1,h,hx=>by
  obtain⟨w,vr,a,b,rfl,rfl,h1,h2⟩:=h;exact⟨w,vr++[v],a,b++l1,rfl,Ma _ _ _,h1,Cat.snoc h2 hx⟩
theorem Cat.imp:∀{xs:List α}{vs:List V}{l:List Addr},(∀x∈xs,∀v l,R x v l->R' x v l)->Cat R xs vs l->Cat R' xs vs l
 |[],_,_,_,h=>h
 |y::xs,vs,l,hi,h=>by
  obtain⟨w,vr,a,b,h0,h0',h1,h2⟩:=h;exact⟨w,vr,a,b,h0,h0',hi y KO _ _ h1,Cat.imp (λx hx=>hi x (KN _ hx)) h2⟩
theorem Cat.len:∀{xs:List α}{vs:List V}{l:List Addr},Cat R xs vs l->vs.length=xs.length
 |[],_,_,h=>by rw[h.1];rfl
 |y::xs,vs,l,h=>by
  obtain⟨w,vr,a,b,rfl,_,_,h2⟩:=h;rw[KH,KH,h2.len]
end
def ApG(H:Hp)(N:DD->V->List Addr->Prop)(a:List DD)(y:V)(l:List Addr):Prop:=∃b vs l',y=.ref b/\H b=some (.lst vs)/\l=b::l'/\a.length<=900/\Cat N a vs l'
def ApN(K:KC)(H:Hp):Nat->DD->V->List Addr->Prop
 |0,_,_,_=>False
 |d+1,x,v,l=>(Rep K H x v/\l=[]/\((∃w,x=wdD w)\/∃k,x=plD k))\/∃n as t b ys l',x=clD n as/\v=.ref t/\H t=some (.tup [.str (pq "call"),.str (tx n),.ref b])/\H b=some (.lst ys)/\l=b::l'/\as.length<=10/\Cat (ApG H (ApN K H d)) as ys l'
theorem ApN.out{K:KC}{H:Hp}{d:Nat}{x:DD}{v:V}{l:List Addr}(h:ApN K H (d+1) x v l):(Rep K H x v/\l=[]/\((∃w,x=wdD w)\/∃k,x=plD k))\/∃n as t b ys l',x=clD n as/\v=.ref t/\H t=some (.tup [.str (pq "call"),.str (tx n),.ref b])/\H b=some (.lst ys)/\l=b::l'/\as.length<=10/\Cat (ApG H (ApN K H d)) as ys l':=h
theorem ApG.mono{H H':Hp}{N N':DD->V->List Addr->Prop}(s:ar H H'){a:List DD}{y:V}{l:List Addr}(hN:∀x∈a,∀v l,N x v l->N' x v l)(h:ApG H N a y l):ApG H' N' a y l:=by
 obtain⟨b,vs,l',h1,h2,h3,h4,h5⟩:=h;exact⟨b,vs,l',h1,s _ _ h2,h3,h4,h5.imp hN⟩
theorem ApN.mono{K:KC}{H H':Hp}(s:ar H H'):∀{d:Nat}{x:DD}{v:V}{l:List Addr},ApN K H d x v l->ApN K H' d x v l
 |d+1,x,v,l,h=>by
  rcases h.out with⟨h1,h2,h3⟩|⟨n,as,t,b,ys,l',h1,h2,h3,h4,h5,h6,h7⟩
  .exact .inl ⟨h1.mono s,h2,h3⟩
  .exact .inr ⟨n,as,t,b,ys,l',h1,h2,s _ _ h3,s _ _ h4,h5,h6,h7.imp λa _ y l z=>z.mono s λx _ v l z=>ApN.mono s z⟩
theorem Cat.mono{K:KC}{H H':Hp}(s:ar H H'){d:Nat}{xs:List DD}{vs:List V}{l:List Addr}(h:Cat (ApN K H d) xs vs l):Cat (ApN K H' d) xs vs l:=h.imp λ_ _ _ _ z=>z.mono s
theorem Cat.reps{K:KC}{H:Hp}{α:Type}{R:α->V->List Addr->Prop}{f:α->DD}:∀{xs:List α}{vs:List V}{l:List Addr},(∀x∈xs,∀v l,R x v l->Rep K H (f x) v)->Cat R xs vs l->aB K H (xs.map f) vs
 |[],vs,l,_,h=>by rw[h.1];exact aB.nil
 |x::xs,vs,l,hi,h=>by
  obtain⟨w,vr,a,b,rfl,_,h1,h2⟩:=h;exact aB.cons (hi x KO _ _ h1) (Cat.reps (λx hx=>hi x (KN _ hx)) h2)
theorem ApN.rep{K:KC}{H:Hp}:∀{d:Nat}{x:DD}{v:V}{l:List Addr},ApN K H d x v l->Rep K H x v
 |d+1,x,v,l,h=>by
  rcases h.out with⟨h1,h2,h3⟩|⟨n,as,t,b,ys,l',rfl,rfl,h3,h4,h5,h6,h7⟩
  .exact h1
  .refine r6 (SqT.of h3) (by simp) (aB.cons (lF _) (aB.cons (lF _) (aB.cons (lG (SqL.of h4) (by rw[KA];omega) ?_) aB.nil)));refine h7.reps λa _ y l z=>?_;obtain⟨b,vs,l',rfl,z2,z3,z4,z5⟩:=z;have:=z5.reps (f:=id) λx _ v l z=>ApN.rep z;rw[PF]at this;exact lG (SqL.of z2) (by omega) this
theorem Cat.rep{K:KC}{H:Hp}{d:Nat}{xs:List DD}{vs:List V}{l:List Addr}(h:Cat (ApN K H d) xs vs l):aB K H xs vs:=by
 have:=h.reps (f:=id) λx _ v l z=>ApN.rep z;rw[PF]at this;exact this
structure fK(H H':Hp)(l:List Addr):Prop where
 nd:l.Nodup
 new:∀b∈l,H b=none
 at':∀b∈l,∃o,H' b=some (.lst o)/\o.length<=900
theorem fK.nil{H H':Hp}:fK H H' []:=⟨List.nodup_nil,λb hb=>(by cases hb),λb hb=>(by cases hb)⟩
theorem fK.up{H H' H2:Hp}{l:List Addr}(h:fK H H' l)(s:ar H' H2):fK H H2 l:=⟨h.nd,h.new,λb hb=>by obtain⟨o,h1,h2⟩:=h.at' b hb;exact⟨o,s _ _ h1,h2⟩⟩
theorem fK.app{H G G':Hp}{l l2:List Addr}(h:fK H G l)(s:ar H G)(s2:ar G G')(h2:fK G G' l2):fK H G' (l++l2):=by
 refine⟨List.nodup_append.mpr ⟨h.nd,h2.nd,λa ha b hb e=>?_⟩,λb hb=>?_,λb hb=>?_⟩
 .subst e;obtain⟨o,h3,_⟩:=h.at' a ha;rw[h2.new a hb]at h3;cases h3
 .rcases List.mem_append.mp hb with hb|hb
  .exact h.new b hb
  .exact s.free (h2.new b hb)
 .rcases List.mem_append.mp hb with hb|hb
  .exact(h.up s2).at' b hb
  .exact h2.at' b hb
theorem fK.one{H G G':Hp}{l:List Addr}{p:Addr}{o:List V}(h:fK H G l)(s:ar H G)(s2:ar G G')(hp:G p=none)(hk:G' p=some (.lst o))(ho:o.length<=900):fK H G' (p::l):=by
 refine⟨List.nodup_cons.mpr ⟨λz=>?_,h.nd⟩,λb hb=>?_,λb hb=>?_⟩
 .obtain⟨o,h3,_⟩:=h.at' p z;rw[hp]at h3;cases h3
 .rcases List.mem_cons.mp hb with rfl|hb
  .exact s.free hp
  .exact h.new b hb
 .rcases List.mem_cons.mp hb with rfl|hb
  .exact⟨o,hk,ho⟩
  .exact(h.up s2).at' b hb
def mxE(B H G:Hp)(os:List Addr):Hp:=λb=>if b∈os then none else match H b with
 |none=>G b
 |some _=>B b
section
variable {B H G G' G2:Hp}{os:List Addr}{pt:Addr}
theorem j0{b:Addr}{o:HO}(h0:H b=none)(h1:b∉os)(h:G b=some o):mxE B H G os b=some o:=by
 unfold mxE;rw[if_neg h1,h0];exact h
theorem qG{b:Addr}{o:HO}(h:mxE B H G os b=some o):b∉os/\((H b=none/\G b=some o)\/B b=some o):=by
 unfold mxE at h
 split at h
 .cases h
 .rename_i z
  cases e:H b with
  |none=>rw[e]at h;exact⟨z,.inl ⟨rfl,h⟩⟩
  |some q=>rw[e]at h;exact⟨z,.inr h⟩
theorem nW(sB:ar B H){b:Addr}{o:HO}(h1:b∉os)(h:B b=some o):mxE B H G os b=some o:=by
 unfold mxE;rw[if_neg h1,sB b o h];exact h
theorem yq(sB:ar B H)(ho:∀b∈os,B b=none):ar B (mxE B H G os):=λb o h=>nW sB (λz=>by rw[ho b z]at h;cases h) h
theorem yr(sB:ar B H)(h:∀b o,b∉os->G b=some o->G2 b=some o):ar (mxE B H G os) (mxE B H G2 os):=λb o hb=>by
 obtain⟨h1,h2|h2⟩:=qG hb
 .exact j0 h2.1 h1 (h b o h1 h2.2)
 .exact nW sB h1 h2
theorem Hl(sB:ar B H)(s1:ar H G){x:HO}(hpt:H pt=none)(hp:G pt=some x)(h:∀b o,b≠pt->G' b=some o->G2 b=some o):ar (mxE B G G' []) (mxE B H G2 [pt]):=λb o hb=>by
 obtain⟨_,h2|h2⟩:=qG hb
 .have nb:b≠pt:=λz=>by rw[z,hp]at h2;cases h2.1
  exact j0 (s1.free h2.1) (by simpa using nb) (h b o nb h2.2)
 .have nb:b≠pt:=λz=>by rw[z]at h2;rw[sB _ _ h2]at hpt;cases hpt
  exact nW sB (by simpa using nb) h2
theorem FL(sB:ar B H):ar (mxE B H G os) (mxE B H G []):=λb o hb=>by
 obtain⟨h1,h2|h2⟩:=qG hb
 .exact j0 h2.1 (by simp) h2.2
 .exact nW sB (by simp) h2
theorem FM(sB:ar B H)(s1:ar H G):ar (mxE B H G os) G:=λb o hb=>by
 obtain⟨h1,h2|h2⟩:=qG hb
 .exact h2.2
 .exact s1 _ _ (sB _ _ h2)
end
def thD(k:Nat):Nat->DD->Bool
 |_+1,.tup [_,.int j]=>decide (j=(k:Int))
 |d+1,.tup [_,.str _,.lst as]=>as.any λa=>(ddL a).any (thD k d)
 |_,_=>false
theorem IL{k d:Nat}{w:Wd0}:thD k (d+1) (wdD w)=false:=rfl
theorem IM{k d j:Nat}:thD k (d+1) (plD j)=decide (j=k):=by
 show decide ((j:Int)=(k:Int))=_;by_cases h:j=k
 .rw[decide_eq_true h,decide_eq_true (by omega)]
 .rw[decide_eq_false h,decide_eq_false (by omega)]
theorem IN{k d:Nat}{n:Wd0}{as:List (List DD)}:thD k (d+1) (clD n as)=as.any λa=>a.any (thD k d):=by
 show(as.map DD.lst).any (λa=>(ddL a).any (thD k d))=_;rw[List.any_map];rfl
theorem yt(r:List Int):∀(l:List Int)(i:Nat),(∀y∈l,y=0)->bG r i l=0
 |[],i,_=>rfl
 |z::l,i,h=>by
  show r.getD i 0*z+bG r (i+1) l=0;rw[h z KO,Int.mul_zero,yt r l (i+1) λy hy=>h y (KN _ hy)];rfl
theorem Ee{f:DD->Int}{t:DD->Bool}:∀{l:List DD},(∀y∈l,(t y=true->1<=f y)/\(t y=false->f y=0))->0<=(l.map f).sum/\(l.any t=true->1<=(l.map f).sum)/\(l.any t=false->(l.map f).sum=0)
 |[],_=>⟨O8 _,λh=>(by cases h),λ_=>rfl⟩
 |y::l,h=>by
  obtain⟨q0,q1,q2⟩:=Ee (f:=f) (t:=t) (l:=l) λz hz=>h z (KN _ hz);obtain⟨r1,r2⟩:=h y KO;rw[KW,MR,MG];cases e:t y with
  |true =>
   have:=r1 e;exact⟨by omega,λ_=>by omega,λz=>by cases z⟩
  |false =>
   have:=r2 e;rw[Pf];exact⟨by omega,λz=>by have:=q1 z;omega,λz=>by have:=q2 z;omega⟩
theorem E6{S:List Sh}(h:ShX S){c k:Nat}(hk:1<=k):∀{d:Nat}{x:DD},Nd (iz S) c d x->(thD k d x=true->1<=szR S k d x)/\(thD k d x=false->szR S k d x=0)
 |d+1,x,hx=>by
  rcases hx.out with⟨w,rfl⟩|⟨j,h1,h2,rfl⟩|⟨nm,as,rfl,h1,h2⟩
  .rw[IL,AV,if_neg (by omega)];exact⟨λz=>(by cases z),λ_=>rfl⟩
  .rw[IM,AW];by_cases e:j=k
   .rw[decide_eq_true e,if_pos e];exact⟨λ_=>O8 _,λz=>by cases z⟩
   .rw[decide_eq_false e,if_neg e];exact⟨λz=>(by cases z),λ_=>rfl⟩
  .obtain⟨j,s,_,_,hs,e1,e2,hF⟩:=u7 (i:=S.length) h.nd (by rw[K9 (Kz _)];exact h1);rw[IN,AX hF,if_neg (by omega)];have q:∀a∈as,0<=(a.map (szR S k d)).sum/\(a.any (thD k d)=true->1<=(a.map (szR S k d)).sum)/\(a.any (thD k d)=false->(a.map (szR S k d)).sum=0):=λa ha=>Ee λy hy=>E6 h hk ((h2 a ha).2 y hy);obtain⟨g0,g1⟩:=yp s.r (as.map λa=>(a.map (szR S k d)).sum) 1 (λj h1 h2=>h.pos s hs j h1 (by rw[KA]at h2;omega)) λy hy=>by
    obtain⟨a,ha,rfl⟩:=List.mem_map.mp hy;exact(q a ha).1
   refine⟨λz=>?_,λz=>?_⟩
   .obtain⟨a,ha,hz⟩:=List.any_eq_true.mp z;have:=g1 _ (List.mem_map.mpr ⟨a,ha,rfl⟩);have:=(q a ha).2.1 hz;omega
   .rw[yt]
    .rfl
    .intro y hy;obtain⟨a,ha,rfl⟩:=List.mem_map.mp hy;refine(q a ha).2.2 ?_;have:=List.any_eq_false.mp z a ha;simpa using this
theorem Hm{S:List Sh}(h:ShX S){c d k:Nat}(hk:1<=k){xs:List DD}(hx:∀x∈xs,Nd (iz S) c d x):decide ((xs.map (szR S k d)).sum=0) = !(xs.any (thD k d)):=by
 obtain⟨_,q1,q2⟩:=Ee (f:=szR S k d) (t:=thD k d) (l:=xs) λy hy=>E6 h hk (hx y hy);cases e:xs.any (thD k d)with
 |true=>have:=q1 e;rw[decide_eq_false (by omega)];rfl
 |false=>rw[decide_eq_true (q2 e)];rfl
def mis(c d:Nat)(xs:List DD):Bool:=(Mh c).any λk=>!(xs.any (thD (k+1) d))
theorem Ho{f:Nat->Int}{c:Nat}:rwL f c=f 0::(Mh c).map λk=>f (k+1):=by
 unfold rwL;rw[List.range_succ_eq_map,KW,Mt];rfl
theorem FN{S:List Sh}(h:ShX S){c d:Nat}{xs:List DD}(hx:∀x∈xs,Nd (iz S) c d x):((Mh c).any λk=>decide ((xs.map (szR S (k+1) d)).sum=0))=mis c d xs:=by
 unfold mis;refine congrArg (λf=>(Mh c).any f) (funext λk=>?_);exact Hm h (by omega) hx
end L2

namespace L2
open PySem PySem.Spec PyProof.Rows

structure cO(K:KC)(C:Addr)(m qual:Str)(st:Stmt)(ps:List Str)(f:Addr)(fd:KY):Prop where
 fn:Fun K m qual st f fd
 bd:gO K fd ps []
 me:AB K C m f
structure mK(K:KC)(mg:Str->Option KG)(c:Str)(C:Addr):Prop where
 mg:mg c=some (.ref C)
 cl:Cls K C
 mks:OZ K C=true
 kp:My K (.ref C)=true
theorem mK.made{K:KC}{mg:Str->Option KG}{c qual:Str}{C f:Addr}{st:Stmt}{ps:List Str}{fd:KY}(L:mK K mg c C)(D:cO K C "__init__" qual st ps f fd):Mk K C f:=⟨L.mks,D.me.at_,D.me.fn,L.kp⟩
theorem Ef{K:KC}{C f:Addr}{x q:Str}{st:Stmt}{ps:List Str}{od an:Option Addr}{sl:Array (Option KG)}{oc kV dc pm cd ct:KG}(a:Ms K (.ref C) x=some (some (.ref f)))(fn:OR K (.ref f)=true)
  (l:K.lookup f=some ⟨oc,od,.func (L9 x q (cJ st) (ci st) (av st) .none kV dc pm an cd ct),sl⟩)(c:M7 K cd q=true)(k:My K (.ref f)=true)
  (b:∀(kV doc pm:KG)(an:Option Addr)(cdv ct:KG)(us:List KG),us.length=ps.length->OM (L9 x q (cJ st) (ci st) (av st) .none kV doc pm an cdv ct) ⟨us,[]⟩=pure (ps.zip us)) :
  cO K C x q st ps f (L9 x q (cJ st) (ci st) (av st) .none kV dc pm an cd ct):=
 ⟨uh l c k,(uh l c k).binds b,a,fn,k⟩
section
variable {X:Cx}{CX:CXT}{E:XK}{c m qual:Str}{st:Stmt}{ps:List Str}{C f:Addr}{fd:KY}{k:Nat}{sp:Sp}{o e:Expr}{es:List Expr}{ta:TE}{t:TA}{p pos apos:Pos}
theorem dk{pl:Sem Bool}(hx:dR CX X E)(L:mK X.K X.mg c C)(D:cO X.K C m qual st ps f fd)(G:aO X.prog X.w X.K X.mg X.base CX k f fd ps sp)(hr:cg k X.A)(he:PE X o ta)(ha:PA X (e::es) t)
  (hst:K7 (e::es) X.env=(false,eval e X.env)::K7 es X.env:=by rfl)(hpl:(MB pos (K7 es X.env)).any (·.1)=false:=by rfl)
  (ht:eval (.Call (.Attribute o m apos) (e :: es) [] pos) X.env=(do
   let ov<-eval o X.env
   Po apos.atName
   let(f,first)<-Ol [ov] (OL ov m pl)
   O5 pos f first (MB pos (K7 (e::es) X.env)) (Ou pos (Ni [] X.env))):=by rfl) :
  PE X (.Call (.Attribute o m apos) (e::es) [] pos) (xg C m sp [] E ta t):=Fq he L.cl D.me G hr D.bd .nil hx ha hst hpl ht
theorem yu{pl:Sem Bool}(hx:dR CX X E)(L:mK X.K X.mg c C)(D:cO X.K C m qual st ps f fd)(G:aO X.prog X.w X.K X.mg X.base CX k f fd ps sp)(hr:cg k X.A)(he:PE X o ta)
  (ht:eval (.Call (.Attribute o m apos) [] [] pos) X.env=(do
   let ov<-eval o X.env
   Po apos.atName
   let(f,first)<-Ol [ov] (OL ov m pl)
   O5 pos f first (MB pos (K7 [] X.env)) (Ou pos (Ni [] X.env))):=by rfl) :
  PE X (.Call (.Attribute o m apos) [] [] pos) (xg C m sp [] E ta qq):=DI he L.cl D.me G hr D.bd .nil hx ht
theorem Hq(hx:dR CX X E)(L:mK X.K X.mg c C)(D:cO X.K C "__init__" qual st ps f fd)(G:aO X.prog X.w X.K X.mg X.base CX k f fd ps sp)(hr:cg (k+1) X.A)(hg:Gl X c)(ha:PA X (e::es) t)(hd:(c==("__debug__" : Str))=false:=by decide)
  (he:K7 (e::es) X.env=(false,eval e X.env)::K7 es X.env:=by rfl)(hpl:(MB pos (K7 es X.env)).any (·.1)=false:=by rfl) :
  PE X (.Call (.Name c p) (e::es) [] pos) (xh C sp [] E t):=Ft (L.made D) G hr hg L.mg D.bd .nil hx ha hd he hpl
theorem FO(hx:dR CX X E)(L:mK X.K X.mg c C)(D:cO X.K C "__init__" qual st ps f fd)(G:aO X.prog X.w X.K X.mg X.base CX k f fd ps sp)(hr:cg (k+1) X.A)(hg:Gl X c)(hd:(c==("__debug__" : Str))=false:=by decide) :
  PE X (.Call (.Name c p) [] [] pos) (xh C sp [] E qq):=DJ (L.made D) G hr hg L.mg D.bd .nil hx hd
end

section
variable {X:Cx}{k:Nat}{f T C:Addr}{fd:KY}{ps:List Str}{sp:Sp}{cn qual c:Str}{st:Stmt}{e:Expr}{es:List Expr}{t:TA}{b₀:Stmt}{suite:List Stmt}{th:TS}{np pf cpos apos hpos pos:Pos}
end
end L2

namespace L2
open PySem PySem.Spec PyProof.Rows PySem.W

theorem FP{P:K8}{w:K_}{k:Key}{v:KG}(h:(bC P w).is k v=true):bg (kV k) v:=by
 rcases db (show mG k v=true from h)with⟨i,t,rfl,rfl⟩|⟨x,t,rfl,rfl⟩
 .exact⟨t,rfl⟩
 .exact⟨t,rfl⟩
section
variable {X:Cx}
end
section
variable {prog:K8}{w:K_}{A:LC}{E:KG->KJ->Prop}{s:KJ}{T:String}{r d:Addr}{n:Nat}{P:Nat->KG->Prop}{OK:Heap->Prop}
end
section
variable {X:Cx}
end

def Hz(X:Cx)(a:Addr):Prop:=∀o u,X.H₀ a≠some (.frz o u)
section
variable {X:Cx}{pins:List (Addr×Obj)}{σ:St}{H:Hp}{s:KJ}{a:Addr}{kvs:List (Key×V)}
theorem Inv.hz(I:Inv X pins σ H s)(e:H a=some (.dK kvs)):Hz X a:=λo u z=>by
 have:=I.base.frzs a o u z;rw[e]at this;cases this
theorem sM{P:K8}{w:K_}{h:Heap}{u v:HO}(ok:HOk P w H h)(e:H a=some u)(hu:∀b,u≠.own b)(ht:∀xs,u≠.tup xs)(new:cm P w (upd H a v) h a v):HOk P w (upd H a v) h:=λb o q=>by
 by_cases eb:b=a
 .rw[eb,ah]at q;cases q;rw[eb];exact new
 .rw[aq eb]at q;refine(ok b o q).stay (λ_ _ _ z=>z) (λc z=>?_) λc xs z=>?_
  .rw[aq (λy=>hu b (by rw[y,e]at z;exact Lm z))];exact z
  .rw[aq (λy=>ht xs (by rw[y,e]at z;exact Lm z))];exact z
theorem uy{P:K8}{w:K_}{h:Heap}{H':Hp}(x:cm P w H h a (.dK kvs)):cm P w H' h a (.dK kvs):=x
theorem Inv.freeze(I:Inv X pins σ H s)(e:H a=some (.dK kvs)):∃o,s.heap.get? a=some o/\Inv X pins σ (upd H a (.frz o (.dK kvs))) s:=by
 have x:cm X.prog X.w H s.heap a (.dK kvs):=I.hok a _ e;obtain⟨_,_,vs,_,o,es,ep,ho,_⟩:=id x;refine⟨o,ho,?_⟩;have:=I.step (h':=s.heap) (H':=upd H a (.frz o (.dK kvs))) (g':=s.gens) (d':=s.drawn) (t':=s.toks) (ch:=[]) (λ_ z=>nomatch z) (λb o _ _ _ z _=>z) (λb o _ _ _ z _=>⟨o.slots,z⟩)
  (λb o' _ _ n=>by rw[aq (λy=>by rw[y,e]at n;cases n)];exact n) (λb o _ z=>⟨o,z⟩) (λb xs z=>by rw[aq (λy=>by rw[y,e]at z;cases z)];exact z)
  (λb o u z=>by rw[aq (λy=>by rw[y,e]at z;cases z)];exact z) (λb ps z=>⟨#[],by rw[aq (λy=>by rw[y,e]at z;cases z),z];simp⟩) (λm hm=>hm)
  (sM I.hok e (λb z=>by cases z) (λxs z=>by cases z) ⟨ho,uy x⟩) I.bare
 exact this
theorem Inv.thaw{o:Obj}(I:Inv X pins σ H s)(hz:Hz X a)(e:H a=some (.frz o (.dK kvs))):Inv X pins σ (upd H a (.dK kvs)) s:=by
 have x:cm X.prog X.w H s.heap a (.frz o (.dK kvs)):=I.hok a _ e;have free:∀b,H b=none->upd H a (.dK kvs) b=none:=λb n=>by rw[aq (λy=>by rw[y,e]at n;cases n)];exact n
 refine⟨I.ok,I.os,I.bare,⟨I.base.keep,I.base.slot,λb o' q n hx=>free b (I.base.free b o' q n hx),I.base.there,λb xs q=>?_,λb o' u q=>?_,λb ps q=>?_⟩,I.loc,I.cell,free _ I.free,λy c q=>free _ (I.freeC y c q),λp hp=>?_,?_,I.len⟩
 .have z:=I.base.tups b xs q;rw[aq (λy=>by rw[y,e]at z;cases z)];exact z
 .have z:=I.base.frzs b o' u q;rw[aq (λy=>hz o' u (by rw[<-y];exact q))];exact z
 .obtain⟨m1,z⟩:=I.base.tbls b ps q;exact⟨m1,by rw[aq (λy=>by rw[y,e]at z;cases z)];exact z⟩
 .obtain⟨z1,z2,z3⟩:=I.pin p hp;exact⟨z1,free _ z2,z3⟩
 .exact sM I.hok e (λb z=>by cases z) (λxs z=>by cases z) (uy x.2)
end
def epO(o:Obj):Nat:=match o.data with
 |.dict _ ep=>ep
 |_=>0
theorem j6{P:K8}{w:K_}{H:Hp}{h:Heap}{a:Addr}{o:Obj}{kvs:List (Key×V)}(ok:HOk P w H h)(e:H a=some (.frz o (.dK kvs))):(a==Mw)=false/\∃vs,KV kvs vs/\h.DictAt (bC P w) a vs (epO o):=by
 obtain⟨ho,_,hs,vs,rel,o',es,ep,ho',hx,hd,r⟩:=(show cm P w H h a (.frz o (.dK kvs))from ok a _ e);rw[ho]at ho';cases ho';refine⟨hs,vs,rel,o,es,ho,hx,?_,r⟩;unfold epO;rw[hd]
inductive xp(X:Cx)(P:Hp->Prop)(H:Hp):Prop
 |mk(a kvs o)(_:Hz X a)(_:H a=some (.frz o (.dK kvs)))(_:P (upd H a (.dK kvs)))
def fz(X:Cx)(D:dS):dS:={ nx:=λσ=>xp X (D.nx σ),bk:=λσ=>xp X (D.bk σ),ct:=λσ=>xp X (D.ct σ),rt:=λv=>xp X (D.rt v) }
section
variable {X:Cx}{tg:Expr}
theorem SP.thaw{pins:List (Addr×Obj)}{D:dS}{f:Flow}{s':KJ}(h:SP X pins (fz X D) f s'):SP X pins D f s':=by
 cases f with
 |next=>obtain⟨σ',H',I,a,kvs,o,hz,e,q⟩:=h;exact⟨σ',_,I.thaw hz e,q⟩
 |brk=>obtain⟨σ',H',I,a,kvs,o,hz,e,q⟩:=h;exact⟨σ',_,I.thaw hz e,q⟩
 |cont=>obtain⟨σ',H',I,a,kvs,o,hz,e,q⟩:=h;exact⟨σ',_,I.thaw hz e,q⟩
 |ret u=>obtain⟨v,σ',H',I,r,a,kvs,o,hz,e,q⟩:=h;exact⟨v,σ',_,I.thaw hz e,r,q⟩
end
def Eg(K:KC)(C T:Addr):Prop:=NP K (.ref C) (.ref T)=some false
def HT(K:KC):List (Addr×TS)->Addr->dS->St->Hp->Prop
 |[],_,_,_,_=>False
 |(T,th)::r,C,D,σ,H=>(xi K C T/\th D σ H)\/(Eg K C T/\HT K r C D σ H)
section
variable {X:Cx}
section
variable {k:Nat}{f C:Addr}{fd:KY}{ps:List Str}{sp:Sp}{m qual cn:Str}{st:Stmt}{o e:Expr}{es:List Expr}{ta:TE}{t:TA}{apos pos:Pos}{W:KG->KJ->Prop}{pins:List (Addr×Obj)}{σ:St}{H:Hp}{s:KJ}{Q:VK}{E:XK}
end
end


section
variable {X:Cx}{e:Expr}
end
theorem Ae{kvs:List (Key×V)}{vs:List (Key×KG)}(r:KV kvs vs):∀{i:Nat}{p:Key×V},kvs[i]?=some p->∃x,vs[i]?=some (p.1,x)/\bg p.2 x:=by
 unfold KV at r;induction r with
 |nil=>intro i p h;cases h
 |@cons p q ps qs hq t ih =>
  intro i p' h;cases i with
  |zero=>cases h;exact⟨q.2,(by show some q=_;rw[hq.1]),hq.2⟩
  |succ i=>exact ih h
def Itv(a:Addr)(o:Obj)(kvs:List (Key×V)):It:=
 ⟨λi H=>H a=some (.frz o (.dK kvs))/\i<kvs.length,λi H x H'=>H'=H/\∃p,kvs[i]?=some p/\x=p.2,λi H=>H a=some (.frz o (.dK kvs))/\kvs.length<=i⟩
theorem CF{P:K8}{w:K_}{K:KC}{tg:Expr}(a it:Addr)(o:Obj)(kvs:List (Key×V))(hne:a≠it):mU P w K tg (Itv a o kvs) [it] it (λi h=>h.IsValIter it a i kvs.length (epO o)) where
 mem:=by simp
 obj:=λi h st b hb=>by
  have e:b=it:=by simpa using hb
  subst e;obtain⟨o,e,c,d⟩:=st;exact⟨o,e,λv z=>by rw[d]at z;cases z⟩
 keep:=λi h h' st k=>st.at λo e=>k it (by simp) o e
 item:=by
  intro X hP hw hK hc i pins s σ H E I hf st hg;subst hP hw hK;obtain⟨he,hi⟩:=hg;obtain⟨hs,vs,rel,da⟩:=j6 I.hok he;obtain⟨x,hx,rx⟩:=Ae rel (KM hi);obtain⟨f0,f1,f2,f3,f4,f5⟩:=hf it (by simp);rw[show kvs.length=vs.length from rel.length]at st;refine wpAny_pyNext_values_item st da hx λh' st' sb=>?_;have I1:Inv X pins σ H { s with heap:=h' }:=I.turned (t':=s.toks) (λb o hb e=>(sb.2 b hb).trans e) f0 f1 f3 f4 f5;rw[<-show kvs.length=vs.length from rel.length]at st';obtain⟨oi,e,c,d⟩:=id st';exact⟨x,rfl,xb (s:={ s with heap:=h' }) e c d (by decide) ⟨kvs[i].2,H,I1,rx,⟨rfl,kvs[i],KM hi,rfl⟩,st',λb hb=>(hf b hb).1⟩⟩
 done:=by
  intro X hP hw hK hc i pins s σ H E I hf st hg;subst hP hw hK;obtain⟨he,hi⟩:=hg;obtain⟨hs,vs,rel,da⟩:=j6 I.hok he;obtain⟨f0,f1,f2,f3,f4,f5⟩:=hf it (by simp);rw[show kvs.length=vs.length from rel.length]at st;exact wpAny_pyNext_values_end (I.ok.hd hc) st da (MD (by rw[<-rel.length];exact hi)) λh' eb=>⟨rfl,I.turned (t':=s.toks) (λb o hb e=>eb b o hb e) f0 f1 f3 f4 f5⟩
 self:=λ_ _ _ _ _ st h=>wpAny_pyIter_valiter st h
theorem yv:P4 table "dict_itemiterator.__iter__" = some NR.«dict_keyiterator.__iter__»:=entryFor_alias (id' := "dict_keyiterator.__iter__") (id (Eq.refl (fastTable "dict_itemiterator.__iter__"))) rfl (by
  show Manifest.canonical (String.map _ "dict_itemiterator.__iter__")++"" = _;decide) (id (Eq.refl (fastTable "dict_keyiterator.__iter__")))
theorem pT{prog:K8}{w:K_}{A:LC}{E:KG->KJ->Prop}{s:KJ}{it d:Addr}{i n ep:Nat}{ok ov:KG}{Q:KG->KJ->Prop}(st:IsItemIter s.heap it d i n ep ok ov)(h:Q (.ref it) s):Lc (Lh prog w) A (PN (.ref it)) Q E s:=by
 have hT:s.TypeIs (.ref it) "dict_itemiterator":=⟨_,st,rfl⟩;refine wpAny_pyIter_slot hT F.slot_dict_itemiterator_iter (wpAny_call_entry F.slot_dict_itemiterator_iter hT yv ?_ (F.args_dict_itemiterator_iter_1 _));show Lc _ _ (pure _) _ _ _;exact Lz ⟨.ref it,rfl,"dict_itemiterator",.builtin "dict_itemiterator.__next__",hT,F.slot_dict_itemiterator_next.lookup,h⟩
def Itp(a:Addr)(o:Obj)(kvs:List (Key×V)):It:=
 ⟨λi H=>H a=some (.frz o (.dK kvs))/\i<kvs.length,λi H x H'=>∃p q,H p=none/\x=.ref p/\kvs[i]?=some q/\H'=upd H p (.tup [kV q.1,q.2]),λi H=>H a=some (.frz o (.dK kvs))/\kvs.length<=i⟩
theorem A1{P:K8}{w:K_}{K:KC}{elts:List Expr}{k1}{tp:Pos}(a it:Addr)(o:Obj)(kvs:List (Key×V))(hne:a≠it):mU P w K (.Tuple elts k1 tp) (Itp a o kvs) [it] it (λi h=>∃ok ov,IsItemIter h it a i kvs.length (epO o) ok ov) where
 mem:=by simp
 obj:=λi h st b hb=>by
  have e:b=it:=by simpa using hb
  subst e;obtain⟨ok,ov,e⟩:=st;exact⟨_,e,λv z=>by cases z⟩
 keep:=λi h h' st k=>by
  obtain⟨ok,ov,e⟩:=st;exact⟨ok,ov,k it (by simp) _ e⟩
 item:=by
  intro X hP hw hK hc i pins s σ H E I hf st hg;subst hP hw hK;obtain⟨he,hi⟩:=hg;obtain⟨hs,vs,rel,da⟩:=j6 I.hok he;obtain⟨x,hx,rx⟩:=Ae rel (KM hi);obtain⟨f0,f1,f2,f3,f4,f5⟩:=hf it (by simp);obtain⟨ok,ov,st⟩:=st;rw[show kvs.length=vs.length from rel.length]at st;refine wpAny_pyNext_items_item st da hx λkey h' hk st' hpair hsz hkeep=>?_;have I1:Inv X pins σ H { s with heap:=h' }:=I.turned (t':=s.toks) (λb o hb e=>hkeep b o hb e) f0 f1 f3 f4 f5;rw[<-show kvs.length=vs.length from rel.length]at st';have hTn:H s.heap.objs.size=none:=I.fresh;have zlt:it<s.heap.objs.size:=KR st;have I2:Inv X pins σ (upd H s.heap.objs.size (.tup [kV kvs[i].1,kvs[i].2])) { s with heap:=h',toks:=s.toks }:=by
   refine I1.track hTn I.sz (Mx I.lt) (λy c q=>?_) (λp hp=>?_) ⟨by show 2<=KP;decide,[key,x],.cons (FP hk) (.cons rx .nil),⟨_,hpair,rfl,_,rfl⟩⟩
   .obtain⟨v,q2⟩:=I.cell y c q;exact KZ q2.lt
   .exact KZ (KR (I.pin p hp).1)
  refine⟨_,rfl,wpAny_letOwnedTupleGo_items (s:={ s with heap:=h',toks:=s.toks }) st' λh'' st'' hs''=>?_⟩;have I3:Inv X pins σ (upd H s.heap.objs.size (.tup [kV kvs[i].1,kvs[i].2])) { s with heap:=h'',toks:=s.toks }:=Inv.turned (s:={ s with heap:=h',toks:=s.toks }) (h':=h'') (t':=s.toks) (it:=it) I2 (λc o hb q=>(hs''.2 c hb).trans q) (by rw[aq (KZ zlt)];exact f0) f1 f3 f4 f5;refine⟨.ref s.heap.objs.size,_,I3,rfl,⟨_,kvs[i],hTn,rfl,KM hi,rfl⟩,⟨_,_,st''⟩,λb hb=>?_⟩;have e:b=it:=by simpa using hb
  subst e;rw[aq (KZ zlt)];exact f0
 done:=by
  intro X hP hw hK hc i pins s σ H E I hf st hg;subst hP hw hK;obtain⟨he,hi⟩:=hg;obtain⟨hs,vs,rel,da⟩:=j6 I.hok he;obtain⟨f0,f1,f2,f3,f4,f5⟩:=hf it (by simp);obtain⟨ok,ov,st⟩:=st;rw[show kvs.length=vs.length from rel.length]at st;exact wpAny_pyNext_items_end (I.ok.hd hc) st da (MD (by rw[<-rel.length];exact hi)) λh' eb=>⟨rfl,I.turned (t':=s.toks) (λb o hb e=>eb b o hb e) f0 f1 f3 f4 f5⟩
 self:=λ_ _ _ _ _ st h=>by
  obtain⟨ok,ov,st⟩:=st;exact pT st h
inductive JA(J:Addr->Obj->List (Key×V)->It)(X:Cx)(R:It->Hp->Prop)(x:V)(H1:Hp):Prop
 |mk(a kvs)(_:x=.ref a)(_:H1 a=some (.dK kvs))(_:Hz X a->∀o,R (J a o kvs) (upd H1 a (.frz o (.dK kvs))))
def iVw(J:Addr->Obj->List (Key×V)->It)(X:Cx)(tl:TE):TI:=λσ H R=>tl σ H (JA J X R)
section
variable {X:Cx}{tg:Expr}
theorem FQ{l:Expr}{tl:TE}{apos cpos:Pos}(hl:PE X l tl)(hbase:Nf l "values" X.env (eval l X.env)=eval l X.env:=by rfl)(hline:(apos.endLine==cpos.line)=true:=by rfl):PI X tg (.Call (.Attribute l "values" apos) [] [] cpos) (iVw Itv X tl):=by
 intro pins s σ H R I h;refine NH hbase hline (thn (hl pins s σ H _ I h) λv s1 ⟨x,H1,I1,r1,q1⟩=>?_);obtain⟨a,kvs,e,ha,q⟩:=q1;subst e;cases r1;have ad:H1 a=some (.dK kvs):=ha;obtain⟨t1,t2,_⟩:=Cb I1 (.inl ⟨kvs,.inl ha⟩);refine⟨"dict","dict.values",PySem.F.plainAttrs_dict,PySem.F.slot_dict_values,PySem.F.type_dict_values,t1,t2,MP rfl (Oj ?_)⟩;obtain⟨o,ho,I2⟩:=I1.freeze ha;have hf:=q (I1.hz ha) o;have he:upd H1 a (.frz o (.dK kvs)) a=some (.frz o (.dK kvs)):=ah;generalize upd H1 a (.frz o (.dK kvs))=H2 at I2 hf he;obtain⟨hs,vs,rel,da⟩:=j6 I2.hok he;have dof:s1.heap.DictOf (bC X.prog X.w) a vs:=by obtain⟨o,es,r⟩:=da;exact⟨o,es,_,r⟩
 refine call_meetsIn PySem.F.slot_dict_values dof.typeIs PySem.F.entry_dict_values (PySem.F.args_dict_values_1 _) (meets_dict_values (bC X.prog X.w) a hs) ⟨⟨vs,dof⟩,?_⟩;refine wpAny_pyIter_values (knd:=bC X.prog X.w) (d:=a) (kvs:=vs) (ep:=epO o) ⟨_,Ld _ rfl,rfl,rfl⟩ (da.at' λo e=>KU _ e) ?_;have I3:=I2.kept (t':=s1.toks) (h':=s1.heap.push { cls:=MU "dict_values",data:=NE #[LG a] }) λb o e=>KU _ e;refine⟨_,[_],_,_,H2,rfl,I3.kept (t':=s1.toks) λb o e=>KU _ e,CF a _ o kvs (λz=>?_),⟨_,Ld _ rfl,rfl,?_⟩,λb hb=>?_,hf⟩
 .have:=KR ho;rw[z,size_push']at this;exact absurd this (Nat.not_lt.mpr (Mf _))
 .rw[rel.length];rfl
 .have e:b=(s1.heap.push { cls:=MU "dict_values",data:=NE #[LG a] }).objs.size:=by simpa using hb
  subst e;exact I3.fpOk (Kz _) (I3.hok.fresh (Kz _))
theorem Eh{l:Expr}{tl:TE}{apos cpos:Pos}{elts:List Expr}{k1}{tp:Pos}(hl:PE X l tl)(hbase:Nf l "items" X.env (eval l X.env)=eval l X.env:=by rfl)(hline:(apos.endLine==cpos.line)=true:=by rfl):PI X (.Tuple elts k1 tp) (.Call (.Attribute l "items" apos) [] [] cpos) (iVw Itp X tl):=by
 intro pins s σ H R I h;refine NH hbase hline (thn (hl pins s σ H _ I h) λv s1 ⟨x,H1,I1,r1,q1⟩=>?_);obtain⟨a,kvs,e,ha,q⟩:=q1;subst e;cases r1;obtain⟨t1,t2,_⟩:=Cb I1 (.inl ⟨kvs,.inl ha⟩);refine⟨"dict","dict.items",PySem.F.plainAttrs_dict,PySem.F.slot_dict_items,PySem.F.type_dict_items,t1,t2,MP rfl (Oj ?_)⟩;obtain⟨o,ho,I2⟩:=I1.freeze ha;have hf:=q (I1.hz ha) o;have he:upd H1 a (.frz o (.dK kvs)) a=some (.frz o (.dK kvs)):=ah;generalize upd H1 a (.frz o (.dK kvs))=H2 at I2 hf he;obtain⟨hs,vs,rel,da⟩:=j6 I2.hok he;have dof:s1.heap.DictOf (bC X.prog X.w) a vs:=by obtain⟨o,es,r⟩:=da;exact⟨o,es,_,r⟩
 refine call_meetsIn PySem.F.slot_dict_items dof.typeIs PySem.F.entry_dict_items (PySem.F.args_dict_items_1 _) (meets_dict_items (bC X.prog X.w) a hs) ⟨⟨vs,dof⟩,?_⟩;refine wpAny_pyIter_items (knd:=bC X.prog X.w) (d:=a) (kvs:=vs) (ep:=epO o) ⟨_,Ld _ rfl,rfl,rfl⟩ (da.at' λo e=>KU _ e) ?_;have I3:=I2.kept (t':=s1.toks) (h':=s1.heap.push { cls:=MU "dict_items",data:=NE #[LG a] }) λb o e=>KU _ e;refine⟨_,[_],_,_,H2,rfl,I3.kept (t':=s1.toks) λb o e=>KU _ e,A1 a _ o kvs (λz=>?_),⟨.none,.none,?_⟩,λb hb=>?_,hf⟩
 .have:=KR ho;rw[z,size_push']at this;exact absurd this (Nat.not_lt.mpr (Mf _))
 .have:=Ld (s1.heap.push { cls:=MU "dict_items",data:=NE #[LG a] }) (o:={ cls:=MU "dict_itemiterator",data:=NE #[NY,Pj false,LG a,NX 0 0,NX (↑vs.length) 0,NX (↑(epO o)) 0,NY,NY] }) rfl;rw[rel.length];exact this
 .have e:b=(s1.heap.push { cls:=MU "dict_items",data:=NE #[LG a] }).objs.size:=by simpa using hb
  subst e;exact I3.fpOk (Kz _) (I3.hok.fresh (Kz _))
def IO(J:Addr->Obj->List (Key×V)->It)(X:Cx)(tl:TE)(g:TG)(tb:TS):TS:=λD σ H=>GC (iVw J X tl) g tb (fz X D) σ H
theorem Af{iter:Expr}{J:Addr->Obj->List (Key×V)->It}{body:List Stmt}{tl:TE}{g:TG}{tb:TS}{pos:Pos}(hp:PassesOwn (Lh X.prog X.w) X.A X.env X.xe)(hc:X.calm=true)(hi:PI X tg iter (iVw J X tl))(hg:PG X tg g)(hb:PSs X body tb)
  (hs:∀x,MI iter X.env x=pure x:=by intro _;rfl):PS X (.For tg iter body [] pos) (IO J X tl g tb):=by
 intro pins s σ H D I h;exact LJ (dF hp hc hi hg hb hs pins s σ H (fz X D) I h) (λ_ _ z=>z.thaw) λ_ _ z=>z
end
theorem Ei{X:Cx}{a:Addr}{o:Obj}{kvs:List (Key×V)}{g:TG}{tb:TS}{D:dS}{σ:St}{H:Hp}(hz:Hz X a)(Pv:Nat->St->Hp->Prop)(fr:∀i σ H,Pv i σ H->H a=some (.frz o (.dK kvs)))(h0:Pv 0 σ H)
  (hs:∀i p σ H,kvs[i]?=some p->Pv i σ H->g p.2 σ H λσ2 H2=>tb { fz X D with nx:=Pv (i+1),ct:=Pv (i+1),bk:=(fz X D).nx } σ2 H2)(hd:∀σ H,Pv kvs.length σ H->D.nx σ (upd H a (.dK kvs))) :
  ∃W:Nat->Nat->St->Hp->Prop,(∃m,W 0 m σ H)/\∀i m σ H,W i m σ H->
   ((Itv a o kvs).stop i H/\(fz X D).nx σ H)\/((Itv a o kvs).go i H/\∃N:St->Hp->Prop,(∀σ' H',N σ' H'->∃m',m'<m/\W (i+1) m' σ' H')/\∀x H',(Itv a o kvs).yld i H x H'->g x σ H' λσ2 H2=>tb { fz X D with nx:=N,ct:=N,bk:=(fz X D).nx } σ2 H2):=by
 refine⟨λi m σ H'=>m=kvs.length-i/\i<=kvs.length/\Pv i σ H',⟨kvs.length,by simp,Ls _,h0⟩,?_⟩;rintro i m σ H' ⟨rfl,hi,p⟩;by_cases hlt:i<kvs.length
 .refine .inr ⟨⟨fr i σ H' p,hlt⟩,Pv (i+1),λσ' H' p'=>⟨kvs.length-(i+1),by omega,rfl,hlt,p'⟩,λx H'' y=>?_⟩;obtain⟨rfl,p',hp',rfl⟩:=y;exact hs i p' σ _ hp' p
 .have e:i=kvs.length:=by omega
  subst e;exact .inl ⟨⟨fr _ σ H' p,Kz _⟩,a,kvs,o,hz,fr _ σ H' p,hd σ H' p⟩
theorem CG{X:Cx}{a:Addr}{o:Obj}{kvs:List (Key×V)}{g:TG}{tb:TS}{D:dS}{σ:St}{H:Hp}(hz:Hz X a)(Pv:Nat->St->Hp->Prop)(fr:∀i σ H,Pv i σ H->H a=some (.frz o (.dK kvs)))(h0:Pv 0 σ H)
  (hs:∀i q p σ H,kvs[i]?=some q->Pv i σ H->H p=none->g (.ref p) σ (upd H p (.tup [kV q.1,q.2])) λσ2 H2=>tb { fz X D with nx:=Pv (i+1),ct:=Pv (i+1),bk:=(fz X D).nx } σ2 H2)(hd:∀σ H,Pv kvs.length σ H->D.nx σ (upd H a (.dK kvs))) :
  ∃W:Nat->Nat->St->Hp->Prop,(∃m,W 0 m σ H)/\∀i m σ H,W i m σ H->
   ((Itp a o kvs).stop i H/\(fz X D).nx σ H)\/((Itp a o kvs).go i H/\∃N:St->Hp->Prop,(∀σ' H',N σ' H'->∃m',m'<m/\W (i+1) m' σ' H')/\∀x H',(Itp a o kvs).yld i H x H'->g x σ H' λσ2 H2=>tb { fz X D with nx:=N,ct:=N,bk:=(fz X D).nx } σ2 H2):=by
 refine⟨λi m σ H'=>m=kvs.length-i/\i<=kvs.length/\Pv i σ H',⟨kvs.length,by simp,Ls _,h0⟩,?_⟩;rintro i m σ H' ⟨rfl,hi,p⟩;by_cases hlt:i<kvs.length
 .refine .inr ⟨⟨fr i σ H' p,hlt⟩,Pv (i+1),λσ' H' p'=>⟨kvs.length-(i+1),by omega,rfl,hlt,p'⟩,λx H'' y=>?_⟩;obtain⟨p1,q,hp1,rfl,hq,rfl⟩:=y;exact hs i q p1 σ _ hq p hp1
 .have e:i=kvs.length:=by omega
  subst e;exact .inl ⟨⟨fr _ σ H' p,Kz _⟩,a,kvs,o,hz,fr _ σ H' p,hd σ H' p⟩
section
variable {X:Cx}{o:Expr}
end
section
variable {X:Cx}{a b c o:Expr}{cU:List Expr}{ta tb to:TE}{tA tB':TT}{pos:Pos}
def PT1(X:Cx)(e:Expr)(t:TT):Prop:=
 ∀(pins:List (Addr×Obj))(s:KJ)(σ:St)(H:Hp)(Q:Bool->Hp->Prop),Inv X pins σ H s->t σ H Q->Lc (Lh X.prog X.w) X.A (isTrue e X.env (eval e X.env)) (λd s'=>1<=s'.toks/\TP X pins σ Q d s') X.xe s
def PE1(X:Cx)(e:Expr)(t:TE):Prop:=
 ∀(pins:List (Addr×Obj))(s:KJ)(σ:St)(H:Hp)(Q:VK),1<=s.toks->Inv X pins σ H s->t σ H Q->Lc (Lh X.prog X.w) X.A (eval e X.env) (EP X pins σ Q) X.xe s
def Hr(X:Cx)(st:List Stmt)(t:TS):Prop:=
 ∀(pins:List (Addr×Obj))(s:KJ)(σ:St)(H:Hp)(D:dS),1<=s.toks->Inv X pins σ H s->t D σ H->Lc (Lh X.prog X.w) X.A (execs st X.env) (SP X pins D) X.xe s
theorem A2{α:Type}{M:Pz}{A:LC}{s:KJ}{t:Sem α}{Q:α->KJ->Prop}{E:KG->KJ->Prop}(h:1<=s.toks)(w:Lc M A t Q E s):Lc M A t (λa s'=>1<=s'.toks/\Q a s') E s:=
 wpAny_with_toks h (LJ w (λ_ _ q z=>⟨z,q⟩) λ_ _ q _=>q)
theorem FR{op:CmpOp}{r:R2}{i:Int}{j:Nat}{p2:Pos}(ho:OpR X (Ml op) r)(ha:PE X a ta)(hm:N7 op (.Constant (.int i) j p2)=false):PT1 X (.Compare a [op] [.Constant (.int i) j p2] pos) (E3 (tOp r ta (tC (.int i)))):=by
 intro pins s σ H Q I h;refine wpAny_isTrue_Compare1 (thn (ha pins s σ H _ I h) λv s1 ⟨x,H1,I1,r1,q1⟩=>wpAny_Constant_int ?_) hm;refine thn (A2 (OP (Ls _)) (ho pins _ σ H1 x (.int i) v _ _ (I1.tok _) r1 ⟨_,rfl⟩ q1)) λc s3 ⟨tk,z,H3,I3,r3,k,e,q3⟩=>?_;subst e;cases r3;exact MY ⟨tk,H3,I3,q3⟩
theorem FS(ha:PT1 X a tA)(hb:PW X (.BoolOp .And (b::cU) pos) tB'):PT1 X (.BoolOp .And (a::b::cU) pos) (Gv tA tB'):=by
 intro pins s σ H Q I h;refine PM (thn (ha pins s σ H _ I h) λc s1 ⟨tk,H1,I1,q1⟩=>?_);cases c with
 |true=>exact A2 tk (hb _ pins s1 σ H1 Q I1 q1)
 |false=>exact⟨tk,H1,I1,q1⟩
theorem Hs{a b:List Stmt}{tc:TT}{t u:TS}(hc:PT1 X c tc)(ha:Hr X a t)(hb:PSs X b u):PS X (.If c a b pos) (Gy tc t u):=by
 intro pins s σ H D I h;refine wpAny_If (thn (hc pins s σ H _ I h) λd s1 ⟨tk,H1,I1,q1⟩=>?_);cases d with
 |true=>exact ha pins s1 σ H1 D tk I1 q1
 |false=>exact hb pins s1 σ H1 D I1 q1
theorem Ej{i:Nat}{x:Str}{e:Expr}{te:TE}{pos':Pos}(hN:X.N.Nodup)(hi:X.N[i]?=some x)(hx:Loc X.env.scope x)(he:PE1 X e te)(hs:N0 e (some (.Name x pos')) pos.line X.env=pure false:=by rfl)(hf:X.fn x=true\/X.env.scope.names.lookup x=some .local:=by first|exact .inl rfl|exact .inr rfl|assumption) :
  Hr X [.Assign [.Name x pos'] e pos] (xP te (bN i)):=by
 intro pins s σ H D tk I h;refine NZ (wpAny_Assign_Name (thn (he pins s σ H _ tk I h) λv s1 ⟨y,H1,I1,r1,q1⟩=>?_) hs);exact oE I1 hN hi hx r1 (λs2 I2=>M_ ⟨_,H1,I2,q1⟩) hf
inductive Hu(y:Str)(z:Str)(Q:VK)(x:V)(H1:Hp):Prop
 |mk(u:Str)(_:x=.str u)(_:u.length<=1048576)(_:Q (.str (Txt.replace u y z)) H1)
def IP(y z:Str)(to:TE):TE:=λσ H Q=>to σ H (Hu y z Q)
theorem zA{y z:Str}{j1 j2:Nat}{p1 p2 apos cpos:Pos}(ho:PE X o to)(hyz:(y==z)=false)(hz:z.length<=14)
  (hbase:Nf o "replace" X.env (eval o X.env)=eval o X.env:=by rfl)
  (hfew:((MB cpos (K7 [.Constant (.str y) j1 p1,.Constant (.str z) j2 p2] X.env)).all (fun x=>!x.1) && (Ou cpos (Ni [] X.env)).all (fun x=>x.1.isSome)
   && decide (([.Constant (.str y) j1 p1,.Constant (.str z) j2 p2]:List Expr).length+([]:List PH).length+(if([]:List PH).isEmpty then 0 else 1)<30))=true:=by rfl)
  (hline:(apos.endLine==cpos.line)=true:=by rfl) (ht:MB cpos (K7 [.Constant (.str y) j1 p1,.Constant (.str z) j2 p2] X.env)=[(false,eval (.Constant (.str y) j1 p1) X.env),(false,eval (.Constant (.str z) j2 p2) X.env)]:=by rfl) :
  PE1 X (.Call (.Attribute o "replace" apos) [.Constant (.str y) j1 p1,.Constant (.str z) j2 p2] [] cpos) (IP y z to):=by
 intro pins s σ H Q tk I h;refine wpAny_Call_method_late hbase hfew hline ht (thn (A2 tk (ho pins s σ H _ I h)) λv s1 ⟨tk1,x,H1,I1,r1,u,e,hu,q⟩=>?_);subst e;obtain⟨t,rfl⟩:=(show ∃t,v=MV u t from r1);refine⟨"str","str.replace",M9,PySem.F.slot_str_replace,PySem.F.type_str_replace,rfl,(λb z=>by cases z),MP rfl (Oa (Ot (NA (Ot (NA (Calls.spliced_nil ?_))))))⟩;refine SC.replaceW (Mx tk1) (Mx (Nat.succ_pos _)) (KZ (MT _)) hyz hu hz λt' k=>⟨.str _,H1,I1.tok _,⟨_,rfl⟩,q⟩
end
end L2


namespace Tl
open PySem PySem.Spec L2
inductive Kw where
 |plain|mark|number|page|row|foot|entry
 deriving DecidableEq
def Kw.s:Kw->Str
 |.plain=>"plain" | .mark=>"mark" | .number=>"number" | .page=>"page" | .row=>"row" | .foot=>"foot" | .entry=>"entry"
theorem Kw.inj:∀{a b:Kw},a.s=b.s->a=b:=by
 intro a b h;cases a<;>cases b<;>first|rfl|exact absurd h (by decide)
theorem Kw.beq(a b:Kw):(a.s==b.s)=decide (a=b):=by
 cases a<;>cases b<;>decide
abbrev Wk:=Kw×V
inductive Tg where
 |page|odd|lst|head (n:Nat) (ws:List Wk)|par (ws:List Wk)
def WkA(F:Hp)(v:V)(w:Wk):Prop:=∃a,v=.ref a/\F a=some (.tup [.str w.1.s,w.2])
def cS{α:Type}(P:V->α->Prop):List V->List α->Prop
 |[],[]=>True
 |v::r,w::s=>P v w/\cS P r s
 |_,_=>False
section
variable {α:Type}{P Q:V->α->Prop}
theorem cS.len:∀{vs:List V}{ws:List α},cS P vs ws->vs.length=ws.length
 |[],[],_=>rfl
 |_::_,_::_,h=>congrArg (·+1) (cS.len h.2)
theorem cS.imp(m:∀v w,P v w->Q v w):∀{vs:List V}{ws:List α},cS P vs ws->cS Q vs ws
 |[],[],_=>trivial
 |_::_,_::_,h=>⟨m _ _ h.1,h.2.imp m⟩
theorem cS.app:∀{vs vs':List V}{ws ws':List α},cS P vs ws->cS P vs' ws'->cS P (vs++vs') (ws++ws')
 |[],_,[],_,_,h=>h
 |_::_,_,_::_,_,h,h'=>⟨h.1,h.2.app h'⟩
theorem cS.one{v:V}{w:α}(h:P v w):cS P [v] [w]:=⟨h,trivial⟩
theorem cS.snoc{v:V}{w:α}{vs:List V}{ws:List α}(h:cS P vs ws)(h':P v w):cS P (vs++[v]) (ws++[w]):=h.app (.one h')
theorem cS.getL:∀{vs:List V}{ws:List α}{i:Nat}{v:V},cS P vs ws->vs[i]?=some v->∃w,ws[i]?=some w/\P v w
 |v::_,w::_,0,x,h,e=>by cases e;exact⟨w,rfl,h.1⟩
 |_::_,_::_,i+1,x,h,e=>cS.getL (i:=i) h.2 (by simpa using e)
 |[],[],_,_,_,e=>by simp at e
theorem cS.getR:∀{vs:List V}{ws:List α}{i:Nat}{w:α},cS P vs ws->ws[i]?=some w->∃v,vs[i]?=some v/\P v w
 |v::_,w::_,0,x,h,e=>by cases e;exact⟨v,rfl,h.1⟩
 |_::_,_::_,i+1,x,h,e=>cS.getR (i:=i) h.2 (by simpa using e)
 |[],[],_,_,_,e=>by simp at e
end
abbrev du(F:Hp):List V->List Wk->Prop:=cS (WkA F)
theorem WkA.mono{F F':Hp}(s:ar F F'){v:V}{w:Wk}(h:WkA F v w):WkA F' v w:=by
 obtain⟨a,e,h⟩:=h;exact⟨a,e,s _ _ h⟩
theorem du.mono{F F':Hp}(s:ar F F'){vs:List V}{ws:List Wk}(h:du F vs ws):du F' vs ws:=h.imp λ_ _=>WkA.mono s
def eV(F:Hp)(l:Addr)(ws:List Wk):Prop:=∃vs,F l=some (.lst vs)/\du F vs ws
theorem eV.mono{F F':Hp}(s:ar F F'){l:Addr}{ws:List Wk}(h:eV F l ws):eV F' l ws:=by
 obtain⟨vs,e,h⟩:=h;exact⟨vs,s _ _ e,du.mono s h⟩
def TgA(F:Hp)(v:V):Tg->Prop
 |.page=>∃a,v=.ref a/\F a=some (.tup [.str "page"])
 |.odd=>∃a,v=.ref a/\F a=some (.tup [.str "odd"])
 |.lst=>∃a,v=.ref a/\F a=some (.tup [.str "list"])
 |.head n ws=>∃a l,v=.ref a/\F a=some (.tup [.str "head",.int n,.ref l])/\eV F l ws
 |.par ws=>∃a l,v=.ref a/\F a=some (.tup [.str "paragraph",.ref l])/\eV F l ws
theorem TgA.mono{F F':Hp}(s:ar F F'){v:V}{t:Tg}(h:TgA F v t):TgA F' v t:=by
 cases t with
 |page=>obtain⟨a,e,h⟩:=h;exact⟨a,e,s _ _ h⟩
 |odd=>obtain⟨a,e,h⟩:=h;exact⟨a,e,s _ _ h⟩
 |lst=>obtain⟨a,e,h⟩:=h;exact⟨a,e,s _ _ h⟩
 |head n ws=>obtain⟨a,l,e,h,h2⟩:=h;exact⟨a,l,e,s _ _ h,h2.mono s⟩
 |par ws=>obtain⟨a,l,e,h,h2⟩:=h;exact⟨a,l,e,s _ _ h,h2.mono s⟩
abbrev jd(F:Hp):List V->List Tg->Prop:=cS (TgA F)
theorem jd.mono{F F':Hp}(s:ar F F'){vs:List V}{ws:List Tg}(h:jd F vs ws):jd F' vs ws:=h.imp λ_ _=>TgA.mono s
def FtE(F:Hp)(p:Key×V)(q:Str×List Wk):Prop:=p.1=.inr q.1/\∃l,p.2=.ref l/\eV F l q.2
def FtA(F:Hp):List (Key×V)->List (Str×List Wk)->Prop
 |[],[]=>True
 |v::r,w::s=>FtE F v w/\FtA F r s
 |_,_=>False
theorem FtA.mono{F F':Hp}(s:ar F F'):∀{vs:List (Key×V)}{ws:List (Str×List Wk)},FtA F vs ws->FtA F' vs ws
 |[],[],_=>trivial
 |_::_,_::_,⟨⟨h1,l,h2,h3⟩,h⟩=>⟨⟨h1,l,h2,h3.mono s⟩,h.mono s⟩
theorem FtA.len{F:Hp}:∀{vs:List (Key×V)}{ws:List (Str×List Wk)},FtA F vs ws->vs.length=ws.length
 |[],[],_=>rfl
 |_::_,_::_,h=>congrArg (·+1) (FtA.len h.2)
theorem FtA.app{F:Hp}{p:Key×V}{q:Str×List Wk}(e:FtE F p q):∀{vs:List (Key×V)}{ws:List (Str×List Wk)},FtA F vs ws->FtA F (vs++[p]) (ws++[q])
 |[],[],_=>⟨e,trivial⟩
 |_::_,_::_,h=>⟨h.1,h.2.app e⟩
def lkS{β:Type}(n:Str):List (Str×β)->Option β
 |[]=>none
 |p::r=>if p.1=n then some p.2 else lkS n r
theorem FtA.val{F:Hp}{n:Str}:∀{vs:List (Key×V)}{ws:List (Str×List Wk)},FtA F vs ws->(lkS n ws=none->b8 vs (.inr n)=none)/\∀f,lkS n ws=some f->∃l,b8 vs (.inr n)=some (.ref l)/\eV F l f
 |[],[],_=>⟨λ_=>rfl,λf h=>by cases h⟩
 |(k,v)::r,(m,g)::s,⟨⟨h1,l,h2,h3⟩,h⟩=>by
  have ih:=FtA.val (n:=n) h;obtain rfl:k=.inr m:=h1;obtain rfl:v=.ref l:=h2;by_cases c:m=n
  .subst c;have e:b8 ((Nv m,V.ref l)::r) (.inr m)=some (.ref l):=by unfold b8;simp
   refine⟨λz=>?_,λf z=>?_⟩
   .unfold lkS at z;simp at z
   .unfold lkS at z;simp at z;subst z;exact⟨l,e,h3⟩
  .have e:b8 ((Nv m,V.ref l)::r) (.inr n)=b8 r (.inr n):=by
    unfold b8;have:¬ ((Nv m:Key)=.inr n):=λz=>c (by cases z;rfl);simp[this]
   have e2:lkS n ((m,g)::s)=lkS n s:=by unfold lkS;rw[if_neg c];cases s<;>rfl
   rw[e,e2];exact ih
def hid(os:List Addr)(H:Hp):Hp:=λb=>if b∈os then none else H b
theorem uz{os:List Addr}{H:Hp}{b:Addr}{o:HO}:hid os H b=some o↔b∉os/\H b=some o:=by
 unfold hid;by_cases c:b∈os
 .rw[if_pos c];exact⟨(λz=>by cases z),λz=>absurd c z.1⟩
 .rw[if_neg c];exact⟨λz=>⟨c,z⟩,λz=>z.2⟩
theorem cT{os:List Addr}{H:Hp}{b:Addr}{o:HO}(c:b∉os)(h:H b=some o):hid os H b=some o:=uz.mpr ⟨c,h⟩
theorem cR{os:List Addr}{H:Hp}:ar (hid os H) H:=λ_ _ h=>(uz.mp h).2
theorem d8{os:List Addr}{H:Hp}{p:Addr}{o:HO}(h:p∈os):hid os (upd H p o)=hid os H:=by
 funext b
 unfold hid;by_cases c:b∈os
 .rw[if_pos c,if_pos c]
 .have n:b≠p:=λe=>c (by rw[e];exact h);rw[if_neg c,if_neg c,aq n]
theorem oM{os:List Addr}{H H':Hp}(s:ar H H'):ar (hid os H) (hid os H'):=λb u z=>by
 obtain⟨c,z⟩:=uz.mp z;exact cT c (s _ _ z)
theorem u9{os:List Addr}{G H:Hp}(s:ar G H)(n:∀b∈os,G b=none):ar G (hid os H):=λb u z=>cT (λc=>by rw[n b c]at z;cases z) (s _ _ z)
theorem cC{G H:Hp}{p:Addr}{o:HO}(s:ar G H)(h:G p=none):ar G (upd H p o):=λb u z=>by
 rw[aq (λe=>by rw[e,h]at z;cases z)];exact s _ _ z
structure Rs where
 things:List Tg
 feet:List (Str×List Wk)
 g:Bool
inductive Rw where
 |empty|foot (n:Str) (ws:List Wk)|page|odd|lst|head (n:Nat) (ws:List Wk)|par (ws:List Wk)
def b9(ws:List Wk):List Tg->List Tg
 |[]=>[.par ws]
 |[.par vs]=>[.par (vs++ws)]
 |t::r=>t::b9 ws r
theorem sN(ws vs:List Wk):∀l:List Tg,b9 ws (l++[.par vs])=l++[.par (vs++ws)]
 |[]=>rfl
 |[t]=>by cases t<;>rfl
 |t::u::r=>by
  have:=sN ws vs (u::r);cases t<;>exact congrArg _ this
def jB(s:Rs):Rw->Rs
 |.empty=>{ s with g:=false }
 |.foot n ws=>{ s with feet:=s.feet++[(n,ws)] }
 |.page=>{ s with things:=s.things++[.page],g:=false }
 |.odd=>{ s with things:=s.things++[.odd],g:=false }
 |.lst=>{ s with things:=s.things++[.lst],g:=false }
 |.head n ws=>{ s with things:=s.things++[.head n ws],g:=false }
 |.par ws=>if s.g then{ s with things:=b9 ws s.things }else{ s with things:=s.things++[.par ws],g:=true }
inductive Xc where
 |twice|nofoot|toolong|nomark
 deriving DecidableEq
structure Sc where
 nums:List Str
 titles:List (List Wk)
 feet:List (Str×List Wk)
structure Wt where
 lead:Int
 kept:Bool
 w:Wk
 foot:List Wk
structure Ss where
 fs:Nat
 ws:List Wt
 ms:List (Str×Nat)
 hs:List (Str×Nat)
 lp:Int
 bh:Bool
def cU:V->Str
 |.str n=>n
 |_=>MS
def f8(s:Ss)(n:Str):Except Xc Ss:=if(lkS n s.ms).isSome then .error .twice else .ok { s with ms:=s.ms++[(n,s.ws.length)] }
def kA(s:Ss)(lead:Int)(w:Wk)(foot:List Wk):Except Xc Ss:=
 if s.ws.length=400 then .error .toolong
 else .ok { s with lp:=if 0<s.lp then 0 else s.lp,ws:=s.ws++[⟨if 0<s.lp then s.lp else lead,s.bh&&decide ((if 0<s.lp then s.lp else lead)<=2),w,foot⟩] }
def Ek(k:Nat):Str := "("++tx (eh k)++")"
def yw(c:Sc)(s:Ss)(n:Str):Except Xc (Ss×List Wk):=
 match lkS n c.feet with
 |none=>.error .nofoot
 |some f=>.ok ({ s with fs:=s.fs+1 },(.plain,.str (Ek (s.fs+1)))::f)
def dG(c:Sc)(s:Ss)(lead:Int)(w:Wk):Except Xc Ss:=
 if w.1=.foot then
  match yw c s (cU w.2)with
  |.error x=>.error x
  |.ok (s',f)=>kA s' lead (f.headD w) f
 else kA s lead w []
def cr(c:Sc)(s:Ss)(lead:Int)(byh:Bool):List Wk->Except Xc Ss
 |[]=>.ok s
 |w::r =>
  if w.1=.mark then
   match f8 s (cU w.2)with
   |.error x=>.error x
   |.ok s'=>cr c s' lead byh r
  else
   match dG c s lead w with
   |.error x=>.error x
   |.ok s'=>cr c { s' with bh:=byh } 0 byh r
def qH(c:Sc)(s:Ss)(k:Nat):Except Xc Ss:=
 cr c { s with hs:=s.hs++[(c.nums.getD k MS,s.ws.length)] } 2 true ((.plain,.str (c.nums.getD k MS))::c.titles.getD k [])
def JB(ws:List Wk):List Wk:=ws.filter λw=>!decide (w.1=.mark)
def lH(c:Sc)(k:Nat)(n:Str):List Wk:=(.plain,.str n)::(JB (c.titles.getD k [])++[(.entry,.int k)])
def uA(c:Sc)(s:Ss)(lead:Int)(k:Nat):List Str->Except Xc Ss
 |[]=>.ok s
 |n::r =>
  match cr c s lead false (lH c k n)with
  |.error x=>.error x
  |.ok s'=>uA c s' 1 (k+1) r
def iA(c:Sc)(s:Ss):Tg->Except Xc Ss
 |.page=>.ok { s with lp:=if s.lp<3 then 3 else s.lp }
 |.odd=>.ok { s with lp:=if s.lp<4 then 4 else s.lp }
 |.head _ _=>qH c s s.hs.length
 |.lst=>uA c s 2 0 c.nums
 |.par ws=>cr c s (if s.bh then 1 else 2) false ws
def i9(c:Sc):Ss->List Tg->Except Xc Ss
 |s,[]=>.ok s
 |s,t::r =>
  match iA c s t with
  |.error x=>.error x
  |.ok s'=>i9 c s' r
def lA(k:Kw):Bool:=k=.number||k=.page||k=.row
def kB(s:Ss)(w:Wk):Bool:=lA w.1&&(lkS (cU w.2) s.ms).isNone
def fj(c:Sc)(s:Ss):Option Xc:=
 if s.ms.any (λm=>m.2=s.ws.length)then some .nomark
 else if(s.ws.map (·.w)++c.feet.flatMap (·.2)).any (kB s)then some .nomark
 else none
def aV:List Tg->List (Nat×List Wk)
 |[]=>[]
 |.head n ws::r=>(n,ws)::aV r
 |_::r=>aV r
def ss0:Ss:=⟨0,[],[],[],0,false⟩

def fsR(sa fa ta:Addr)(g:Bool):List (Str×V):=[("shorts",.ref sa),("feet",.ref fa),("things",.ref ta),("going_on",.bl g)]
section
variable {sa fa ta:Addr}{g:Bool}
theorem mL:Lw ("shorts" : Str) (fsR sa fa ta g)=some (.ref sa):=rfl
theorem u_:Lw ("feet" : Str) (fsR sa fa ta g)=some (.ref fa):=by
 have e:(("feet" : Str) == "shorts")=false:=by decide
 simp[fsR,Lw,e]
theorem qI:Lw ("things" : Str) (fsR sa fa ta g)=some (.ref ta):=by
 have e:(("things" : Str) == "shorts")=false:=by decide
 have e2:(("things" : Str) == "feet")=false:=by decide
 simp[fsR,Lw,e,e2]
theorem zB:Lw ("going_on" : Str) (fsR sa fa ta g)=some (.bl g):=by
 have e:(("going_on" : Str) == "shorts")=false:=by decide
 have e2:(("going_on" : Str) == "feet")=false:=by decide
 have e3:(("going_on" : Str) == "things")=false:=by decide
 simp[fsR,Lw,e,e2,e3]
theorem je{m:Str}(h:((m == "shorts")||(m == "feet")||(m == "things")||(m == "going_on"))=false):(fsR sa fa ta g).lookup m=none:=by
 simp only[Bool.or_eq_false_iff]at h;simp[fsR,Lw,h.1.1.1,h.1.1.2,h.1.2,h.2]
theorem qJ{b:Bool}:bY "going_on" (.bl b) (fsR sa fa ta g)=fsR sa fa ta b:=by
 have e:¬ (("shorts" : Str) = "going_on"):=by decide
 have e2:¬ (("feet" : Str) = "going_on"):=by decide
 have e3:¬ (("things" : Str) = "going_on"):=by decide
 simp[fsR,bY,e,e2,e3]
theorem va:(fsR sa fa ta g).length<1000:=by show 4<1000;decide
end
theorem nX{os:List Addr}{H:Hp}(n:∀b∈os,∀us,H b≠some (.tup us)){vs:List V}{ws:List Wk}(h:du H vs ws):du (hid os H) vs ws:=h.imp λv w ⟨a,e,h⟩=>⟨a,e,cT (λc=>n a c _ h) h⟩
theorem iY{H:Hp}{a:Addr}{o:HO}(h:H a=some o)(n:∀us,o≠.tup us):∀us,H a≠some (.tup us):=λus z=>by
 rw[h]at z;exact n us (Lm z)
theorem nY{H:Hp}{a:Addr}{o:HO}(h:H a=some o):H a≠none:=λz=>by rw[h]at z;cases z
def tgN:Tg->Nat
 |.head _ ws=>ws.length
 |.par ws=>ws.length
 |_=>0
def tgS(l:List Tg):Nat:=(l.map tgN).sum
theorem yx(ws:List Wk):∀l:List Tg,tgS (b9 ws l)=tgS l+ws.length/\(b9 ws l).length<=l.length+1
 |[]=>by simp[b9,tgS,tgN]
 |[t]=>by
  cases t<;>simp[b9,tgS,tgN]
 |t::u::r=>by
  have ih:=yx ws (u::r);have e:b9 ws (t::u::r)=t::b9 ws (u::r):=by cases t<;>rfl
  rw[e];unfold tgS at ih⊢;simp only[KW,MR,KH]at ih⊢;omega
def rs0:Rs:=⟨[],[],false⟩
theorem FT{ini:List Tg}{ws:List Wk}:ws.length<=tgS (ini++[.par ws]):=by simp[tgS,tgN]
def FrX(H H':Hp)(x:Addr):Prop:=∀b u,b≠x->H b=some u->H' b=some u
theorem FrX.refl{H:Hp}{x:Addr}:FrX H H x:=λ_ _ _ h=>h
theorem FrX.same{H H1 H':Hp}{x:Addr}(f:FrX H H1 x)(s:ar H1 H'):FrX H H' x:=λb u n h=>s _ _ (f b u n h)
theorem FrX.at{H H':Hp}{x:Addr}{o:HO}(f:FrX H H' x):FrX H (upd H' x o) x:=λb u n h=>by
 rw[aq n];exact f b u n h
theorem FrX.free{H H':Hp}{x p:Addr}{o:HO}(f:FrX H H' x)(hx:H' x=some o)(hp:H' p=none):H p=none:=by
 cases z:H p with
 |none=>rfl
 |some u =>
  by_cases e:p=x
  .rw[e,hx]at hp;cases hp
  .rw[f p u e z]at hp;cases hp
theorem FrX.old{G H H':Hp}{x:Addr}(f:FrX H H' x)(s:ar G H)(hx:G x=none):ar G H':=λb u h=>f b u (λz=>by rw[z,hx]at h;cases h) (s _ _ h)
end Tl


namespace Tl
open PySem PySem.Spec L2
structure Sad where
 x:Addr
 dx:Addr
 na:Addr
 ta:Addr
 fa:Addr
 wa:Addr
 ma:Addr
 ha:Addr
def Sad.os(A:Sad):List Addr:=[A.x,A.wa,A.ma,A.ha]
def fsS(A:Sad)(fs lp:Int)(bh:Bool):List (Str×V):=[("numbers",.ref A.na),("titles",.ref A.ta),("feet",.ref A.fa),("feet_set",.int fs),("words",.ref A.wa),("marks",.ref A.ma),("heads",.ref A.ha),("leap",.int lp),("behind_head",.bl bh)]
section
variable {A:Sad}{fs lp:Int}{bh:Bool}
theorem A3:Lw ("numbers" : Str) (fsS A fs lp bh)=some (.ref A.na):=by
 rfl
theorem CI:Lw ("titles" : Str) (fsS A fs lp bh)=some (.ref A.ta):=by
 have e0:(("titles" : Str) == "numbers")=false:=by decide
 simp[fsS,Lw,e0]
theorem FU:Lw ("feet" : Str) (fsS A fs lp bh)=some (.ref A.fa):=by
 have e0:(("feet" : Str) == "numbers")=false:=by decide
 have e1:(("feet" : Str) == "titles")=false:=by decide
 simp[fsS,Lw,e0,e1]
theorem jf:Lw ("words" : Str) (fsS A fs lp bh)=some (.ref A.wa):=by
 have e0:(("words" : Str) == "numbers")=false:=by decide
 have e1:(("words" : Str) == "titles")=false:=by decide
 have e2:(("words" : Str) == "feet")=false:=by decide
 have e3:(("words" : Str) == "feet_set")=false:=by decide
 simp[fsS,Lw,e0,e1,e2,e3]
theorem lS:Lw ("marks" : Str) (fsS A fs lp bh)=some (.ref A.ma):=by
 have e0:(("marks" : Str) == "numbers")=false:=by decide
 have e1:(("marks" : Str) == "titles")=false:=by decide
 have e2:(("marks" : Str) == "feet")=false:=by decide
 have e3:(("marks" : Str) == "feet_set")=false:=by decide
 have e4:(("marks" : Str) == "words")=false:=by decide
 simp[fsS,Lw,e0,e1,e2,e3,e4]
theorem tu:Lw ("heads" : Str) (fsS A fs lp bh)=some (.ref A.ha):=by
 have e0:(("heads" : Str) == "numbers")=false:=by decide
 have e1:(("heads" : Str) == "titles")=false:=by decide
 have e2:(("heads" : Str) == "feet")=false:=by decide
 have e3:(("heads" : Str) == "feet_set")=false:=by decide
 have e4:(("heads" : Str) == "words")=false:=by decide
 have e5:(("heads" : Str) == "marks")=false:=by decide
 simp[fsS,Lw,e0,e1,e2,e3,e4,e5]
theorem si:Lw ("leap" : Str) (fsS A fs lp bh)=some (.int lp):=by
 have e0:(("leap" : Str) == "numbers")=false:=by decide
 have e1:(("leap" : Str) == "titles")=false:=by decide
 have e2:(("leap" : Str) == "feet")=false:=by decide
 have e3:(("leap" : Str) == "feet_set")=false:=by decide
 have e4:(("leap" : Str) == "words")=false:=by decide
 have e5:(("leap" : Str) == "marks")=false:=by decide
 have e6:(("leap" : Str) == "heads")=false:=by decide
 simp[fsS,Lw,e0,e1,e2,e3,e4,e5,e6]
theorem nZ:Lw ("behind_head" : Str) (fsS A fs lp bh)=some (.bl bh):=by
 have e0:(("behind_head" : Str) == "numbers")=false:=by decide
 have e1:(("behind_head" : Str) == "titles")=false:=by decide
 have e2:(("behind_head" : Str) == "feet")=false:=by decide
 have e3:(("behind_head" : Str) == "feet_set")=false:=by decide
 have e4:(("behind_head" : Str) == "words")=false:=by decide
 have e5:(("behind_head" : Str) == "marks")=false:=by decide
 have e6:(("behind_head" : Str) == "heads")=false:=by decide
 have e7:(("behind_head" : Str) == "leap")=false:=by decide
 simp[fsS,Lw,e0,e1,e2,e3,e4,e5,e6,e7]
theorem qK{lp':Int}:bY "leap" (.int lp') (fsS A fs lp bh)=fsS A fs lp' bh:=by
 have e0:¬ (("numbers" : Str) = "leap"):=by decide
 have e1:¬ (("titles" : Str) = "leap"):=by decide
 have e2:¬ (("feet" : Str) = "leap"):=by decide
 have e3:¬ (("feet_set" : Str) = "leap"):=by decide
 have e4:¬ (("words" : Str) = "leap"):=by decide
 have e5:¬ (("marks" : Str) = "leap"):=by decide
 have e6:¬ (("heads" : Str) = "leap"):=by decide
 simp[fsS,bY,e0,e1,e2,e3,e4,e5,e6]
theorem tz{bh':Bool}:bY "behind_head" (.bl bh') (fsS A fs lp bh)=fsS A fs lp bh':=by
 have e0:¬ (("numbers" : Str) = "behind_head"):=by decide
 have e1:¬ (("titles" : Str) = "behind_head"):=by decide
 have e2:¬ (("feet" : Str) = "behind_head"):=by decide
 have e3:¬ (("feet_set" : Str) = "behind_head"):=by decide
 have e4:¬ (("words" : Str) = "behind_head"):=by decide
 have e5:¬ (("marks" : Str) = "behind_head"):=by decide
 have e6:¬ (("heads" : Str) = "behind_head"):=by decide
 have e7:¬ (("leap" : Str) = "behind_head"):=by decide
 simp[fsS,bY,e0,e1,e2,e3,e4,e5,e6,e7]

theorem mX{m:Str}(h:[("numbers" : Str),("titles" : Str),("feet" : Str),("feet_set" : Str),("words" : Str),("marks" : Str),("heads" : Str),("leap" : Str),("behind_head" : Str)].all (λn=>!(m==n))=true):(fsS A fs lp bh).lookup m=none:=by
 simp only[MF,List.all_nil,Bool.and_true,Ly,Bool.not_eq_true']at h;obtain⟨h1,h2,h3,h4,h5,h6,h7,h8,h9⟩:=h;simp[fsS,Lw,h1,h2,h3,h4,h5,h6,h7,h8,h9]
theorem sj:(fsS A fs lp bh).length<1000:=by show 9<1000;decide
end
theorem yy{n:Str}{v:V}:∀{l:List (Str×V)},(bY n v l).length<=l.length+1
 |[]=>Kz _
 |(m,x)::r=>by
  by_cases e:m=n
  .simp[bY,e]
  .have:=yy (n:=n) (v:=v) (l:=r);simp[bY,e];exact this
theorem iB{n:Str}{v:V}:∀{l:List (Str×V)},(l.map O9).all (λm=>m != n)=true->bY n v l=l++[(n,v)]
 |[],_=>rfl
 |(m,x)::r,h=>by
  rw[KW,MF,Ly]at h;have e:¬ (m=n):=by simpa using h.1
  have ih:=iB (n:=n) (v:=v) h.2;simp[bY,e]at ih⊢;exact ih
theorem FV(A:Sad):(bY "behind_head" (.bl false) (bY "leap" (.int 0) (bY "heads" (.ref A.ha) (bY "marks" (.ref A.ma) (bY "words" (.ref A.wa) (bY "feet_set" (.int 0) (bY "feet" (.ref A.fa) (bY "titles" (.ref A.ta) (bY "numbers" (.ref A.na) [])))))))))=fsS A 0 0 false:=by
 rw[show bY "numbers" (.ref A.na) []=([("numbers",.ref A.na)]:List (Str×V))from rfl];rw[iB (n := "titles") (by show(["numbers"]:List Str).all (λm=>m != "titles")=true;decide)];rw[iB (n := "feet") (by show(["numbers","titles"]:List Str).all (λm=>m != "feet")=true;decide)];rw[iB (n := "feet_set") (by show(["numbers","titles","feet"]:List Str).all (λm=>m != "feet_set")=true;decide)];rw[iB (n := "words") (by show(["numbers","titles","feet","feet_set"]:List Str).all (λm=>m != "words")=true;decide)];rw[iB (n := "marks") (by show(["numbers","titles","feet","feet_set","words"]:List Str).all (λm=>m != "marks")=true;decide)];rw[iB (n := "heads") (by show(["numbers","titles","feet","feet_set","words","marks"]:List Str).all (λm=>m != "heads")=true;decide)];rw[iB (n := "leap") (by show(["numbers","titles","feet","feet_set","words","marks","heads"]:List Str).all (λm=>m != "leap")=true;decide)];rw[iB (n := "behind_head") (by show(["numbers","titles","feet","feet_set","words","marks","heads","leap"]:List Str).all (λm=>m != "behind_head")=true;decide)];rfl
def WtA(F:Hp)(v:V)(t:Wt):Prop:=∃a w f,v=.ref a/\F a=some (.tup [.int t.lead,.bl t.kept,.ref w,.ref f])/\WkA F (.ref w) t.w/\eV F f t.foot
def HdA(F:Hp)(v:V)(h:Str×Nat):Prop:=∃a,v=.ref a/\F a=some (.tup [.str h.1,.int (h.2:Int)])
def TlA(F:Hp)(v:V)(ws:List Wk):Prop:=∃l,v=.ref l/\eV F l ws
def mkV(ms:List (Str×Nat)):List (Key×V):=ms.map λm=>(.inr m.1,.int (m.2:Int))
theorem sk{n:Str}:∀ms:List (Str×Nat),b8 (mkV ms) (.inr n)=(lkS n ms).map λ(k:Nat)=>V.int (k:Int)
 |[]=>rfl
 |(m,k)::r=>by
  have ih:=sk (n:=n) r;by_cases c:m=n
  .subst c;have e:lkS m ((m,k)::r)=some k:=by unfold lkS;simp
   rw[e];unfold mkV;rw[KW,dz rfl];rfl
  .have e:lkS n ((m,k)::r)=lkS n r:=by
    show(if m=n then some k else lkS n r)=lkS n r;exact if_neg c
   rw[e,<-ih];unfold mkV;rw[KW,b_ (λz=>c (by injection z))]
theorem El(ms:List (Str×Nat))(n:Str)(k:Nat):mkV (ms++[(n,k)])=mkV ms++[(.inr n,.int (k:Int))]:=by simp[mkV]
theorem Ag(ms:List (Str×Nat)):(mkV ms).length=ms.length:=by unfold mkV;rw[KA]
theorem WtA.mono{F F':Hp}(s:ar F F'){v:V}{t:Wt}(h:WtA F v t):WtA F' v t:=by
 obtain⟨a,w,f,e,h1,h2,h3⟩:=h;exact⟨a,w,f,e,s _ _ h1,h2.mono s,h3.mono s⟩
theorem HdA.mono{F F':Hp}(s:ar F F'){v:V}{h:Str×Nat}(z:HdA F v h):HdA F' v h:=by
 obtain⟨a,e,h1⟩:=z;exact⟨a,e,s _ _ h1⟩
theorem TlA.mono{F F':Hp}(s:ar F F'){v:V}{ws:List Wk}(z:TlA F v ws):TlA F' v ws:=by
 obtain⟨a,e,h1⟩:=z;exact⟨a,e,h1.mono s⟩
structure ScA(G:Hp)(A:Sad)(c:Sc):Prop where
 nums:G A.na=some (.lst (c.nums.map V.str))
 titles:∃tvs,G A.ta=some (.lst tvs)/\cS (TlA G) tvs c.titles
 feet:∃kvs,G A.fa=some (.dK kvs)/\FtA G kvs c.feet
theorem ScA.mono{G G':Hp}(s:ar G G'){A:Sad}{c:Sc}(S:ScA G A c):ScA G' A c:=by
 obtain⟨h1,⟨tvs,h2,h3⟩,⟨kvs,h4,h5⟩⟩:=S;exact⟨s _ _ h1,⟨tvs,s _ _ h2,h3.imp λ_ _=>TlA.mono s⟩,⟨kvs,s _ _ h4,h5.mono s⟩⟩
structure StA(C:Addr)(G H:Hp)(A:Sad)(c:Sc)(σ:Ss):Prop where
 old:ar G H
 ins:H A.x=some (.ins C A.dx (fsS A (σ.fs:Int) σ.lp σ.bh))
 cl:ScA G A c
 fr:∀b∈A.os,G b=none
 ne:A.wa≠A.ha
 words:∃wvs,H A.wa=some (.lst wvs)/\cS (WtA (hid A.os H)) wvs σ.ws
 marks:H A.ma=some (.dK (mkV σ.ms))
 heads:∃hvs,H A.ha=some (.lst hvs)/\cS (HdA (hid A.os H)) hvs σ.hs
section
variable {C:Addr}{G H H':Hp}{A:Sad}{c:Sc}{σ:Ss}
theorem StA.same(S:StA C G H A c σ)(m:ar H H'):StA C G H' A c σ:=by
 obtain⟨w1,w2,w3⟩:=S.words;obtain⟨h1,h2,h3⟩:=S.heads;exact⟨S.old.trans m,m _ _ S.ins,S.cl,S.fr,S.ne,⟨w1,m _ _ w2,w3.imp λ_ _=>WtA.mono (oM m)⟩,m _ _ S.marks,⟨h1,m _ _ h2,h3.imp λ_ _=>HdA.mono (oM m)⟩⟩
theorem StA.nt(S:StA C G H A c σ):∀b∈A.os,∀us,H b≠some (.tup us):=λb hb=>by
 obtain⟨w1,w2,w3⟩:=S.words;obtain⟨h1,h2,h3⟩:=S.heads;simp only[Sad.os,Ll,Lj,or_false]at hb;rcases hb with rfl|rfl|rfl|rfl
 .exact iY S.ins (λus z=>by cases z)
 .exact iY w2 (λus z=>by cases z)
 .exact iY S.marks (λus z=>by cases z)
 .exact iY h2 (λus z=>by cases z)
theorem StA.nes(S:StA C G H A c σ):A.x≠A.wa/\A.x≠A.ma/\A.x≠A.ha/\A.wa≠A.ma/\A.ma≠A.ha:=by
 obtain⟨w1,w2,w3⟩:=S.words;obtain⟨h1,h2,h3⟩:=S.heads;have i:=S.ins;have k:=S.marks;refine⟨λz=>?_,λz=>?_,λz=>?_,λz=>?_,λz=>?_⟩
 .rw[z,w2]at i;cases i
 .rw[z,k]at i;cases i
 .rw[z,h2]at i;cases i
 .rw[z,k]at w2;cases w2
 .rw[z,h2]at k;cases k
theorem Em:A.x∈A.os:=by simp[Sad.os]
theorem E7:A.wa∈A.os:=by simp[Sad.os]
theorem A4:A.ma∈A.os:=by simp[Sad.os]
theorem E8:A.ha∈A.os:=by simp[Sad.os]
theorem StA.flds(S:StA C G H A c σ)(fs':Nat)(lp':Int)(bh':Bool):StA C G (upd H A.x (.ins C A.dx (fsS A (fs':Int) lp' bh'))) A c { σ with fs:=fs',lp:=lp',bh:=bh' }:=by
 obtain⟨w1,w2,w3⟩:=S.words;obtain⟨h1,h2,h3⟩:=S.heads;obtain⟨n1,n2,n3,n4,n5⟩:=S.nes;have e:hid A.os (upd H A.x (.ins C A.dx (fsS A (fs':Int) lp' bh')))=hid A.os H:=d8 Em;refine⟨cC S.old (S.fr _ Em),ah,S.cl,S.fr,S.ne,⟨w1,?_,?_⟩,?_,⟨h1,?_,?_⟩⟩
 .rw[aq (Lp n1)];exact w2
 .rw[e];exact w3
 .rw[aq (Lp n2)];exact S.marks
 .rw[aq (Lp n3)];exact h2
 .rw[e];exact h3
theorem StA.mark(S:StA C G H A c σ)(n:Str)(k:Nat):StA C G (upd H A.ma (.dK (mkV (σ.ms++[(n,k)])))) A c { σ with ms:=σ.ms++[(n,k)] }:=by
 obtain⟨w1,w2,w3⟩:=S.words;obtain⟨h1,h2,h3⟩:=S.heads;obtain⟨n1,n2,n3,n4,n5⟩:=S.nes;have e:hid A.os (upd H A.ma (.dK (mkV (σ.ms++[(n,k)]))))=hid A.os H:=d8 A4;refine⟨cC S.old (S.fr _ A4),?_,S.cl,S.fr,S.ne,⟨w1,?_,?_⟩,ah,⟨h1,?_,?_⟩⟩
 .rw[aq n2];exact S.ins
 .rw[aq n4];exact w2
 .rw[e];exact w3
 .rw[aq (Lp n5)];exact h2
 .rw[e];exact h3
theorem Ah{os:List Addr}(nt:∀b∈os,∀us,H b≠some (.tup us)){l:Addr}{ws:List Wk}(n:l∉os)(h:eV H l ws):eV (hid os H) l ws:=by
 obtain⟨vs,h1,h2⟩:=h;exact⟨vs,cT n h1,nX nt h2⟩
theorem vb{os:List Addr}(nt:∀b∈os,∀us,H b≠some (.tup us)){a:Addr}{us:List V}(h:H a=some (.tup us)):hid os H a=some (.tup us):=cT (λz=>nt a z us h) h
theorem StA.word(S:StA C G H A c σ){wvs:List V}(hw:H A.wa=some (.lst wvs)){v:V}{t:Wt}{a w f:Addr}(e1:v=.ref a)(h1:H a=some (.tup [.int t.lead,.bl t.kept,.ref w,.ref f]))(h2:WkA H (.ref w) t.w)(h3:eV H f t.foot)(n1:f≠A.wa)(n2:f≠A.ha):StA C G (upd H A.wa (.lst (wvs++[v]))) A c { σ with ws:=σ.ws++[t] }:=by
 obtain⟨w1,w2,w3⟩:=S.words;obtain⟨hv,hh2,hh3⟩:=S.heads;obtain⟨m1,m2,m3,m4,m5⟩:=S.nes;rw[hw]at w2;injection w2 with w2;injection w2 with w2;subst w2;have e:hid A.os (upd H A.wa (.lst (wvs++[v])))=hid A.os H:=d8 E7;have nf:f∉A.os:=λz=>by
  obtain⟨fv,hf,_⟩:=h3;simp only[Sad.os,Ll,Lj,or_false]at z;rcases z with z|z|z|z
  .rw[z,S.ins]at hf;cases hf
  .exact n1 z
  .rw[z,S.marks]at hf;cases hf
  .exact n2 z
 refine⟨cC S.old (S.fr _ E7),?_,S.cl,S.fr,S.ne,⟨wvs++[v],ah,?_⟩,?_,⟨hv,?_,?_⟩⟩
 .rw[aq m1];exact S.ins
 .rw[e];obtain⟨b,z1,z2⟩:=h2;exact w3.snoc ⟨a,w,f,e1,vb S.nt h1,⟨b,z1,vb S.nt z2⟩,Ah S.nt nf h3⟩
 .rw[aq (Lp m4)];exact S.marks
 .rw[aq (Lp S.ne)];exact hh2
 .rw[e];exact hh3
theorem StA.headp(S:StA C G H A c σ){hvs:List V}(hw:H A.ha=some (.lst hvs)){a:Addr}{n:Str}{k:Nat}(h1:H a=some (.tup [.str n,.int (k:Int)])):StA C G (upd H A.ha (.lst (hvs++[.ref a]))) A c { σ with hs:=σ.hs++[(n,k)] }:=by
 obtain⟨w1,w2,w3⟩:=S.words;obtain⟨hv,hh2,hh3⟩:=S.heads;obtain⟨m1,m2,m3,m4,m5⟩:=S.nes;rw[hw]at hh2;injection hh2 with hh2;injection hh2 with hh2;subst hh2;have e:hid A.os (upd H A.ha (.lst (hvs++[.ref a])))=hid A.os H:=d8 E8;refine⟨cC S.old (S.fr _ E8),?_,S.cl,S.fr,S.ne,⟨w1,?_,?_⟩,?_,⟨hvs++[.ref a],ah,?_⟩⟩
 .rw[aq m3];exact S.ins
 .rw[aq S.ne];exact w2
 .rw[e];exact w3
 .rw[aq m5];exact S.marks
 .rw[e];exact hh3.snoc ⟨a,rfl,vb S.nt h1⟩
theorem StA.re(S:StA C G H A c σ):StA C (hid A.os H) H A c σ:=
 ⟨cR,S.ins,S.cl.mono (u9 S.old S.fr),(λb hb=>by unfold hid;rw[if_pos hb]),S.ne,S.words,S.marks,S.heads⟩
theorem StA.base{G':Hp}(S:StA C G' H A c σ)(m:ar G G')(cl:ScA G A c):StA C G H A c σ:=
 ⟨m.trans S.old,S.ins,cl,(λb hb=>m.free (S.fr b hb)),S.ne,S.words,S.marks,S.heads⟩
theorem StA.fresh(S:StA C G H A c σ){p:Addr}(hp:H p=none):p∉A.os:=λz=>by
 obtain⟨w1,w2,w3⟩:=S.words;obtain⟨h1,h2,h3⟩:=S.heads;simp only[Sad.os,Ll,Lj,or_false]at z;rcases z with rfl|rfl|rfl|rfl
 .rw[S.ins]at hp;cases hp
 .rw[w2]at hp;cases hp
 .rw[S.marks]at hp;cases hp
 .rw[h2]at hp;cases hp
theorem StA.out(S:StA C G H A c σ):ar G (hid A.os H):=u9 S.old S.fr
end
theorem vd{β:Type}{n:Str}{v:β}:∀{l:List (Str×β)},lkS n l=some v->(n,v)∈l
 |[],h=>by cases h
 |(m,k)::r,h=>by
  by_cases c:m=n
  .have e:lkS n ((m,k)::r)=some k:=if_pos c;rw[e]at h;cases h;rw[c];exact KO
  .have e:lkS n ((m,k)::r)=lkS n r:=if_neg c;rw[e]at h;exact KN _ (vd h)
def tD(tw nf tl nm:Addr):Xc->Addr
 |.twice=>tw
 |.nofoot=>nf
 |.toolong=>tl
 |.nomark=>nm
structure Bd(σ:Ss)(n:Nat):Prop where
 ws:σ.ws.length<=400
 fs:σ.fs<=σ.ws.length
 ms:σ.ms.length+n<=1000000
theorem yz{σ σ':Ss}{ld:Int}{w:Wk}{f:List Wk}(h:kA σ ld w f=.ok σ'):σ.ws.length≠400/\σ'.ws.length=σ.ws.length+1/\σ'.fs=σ.fs/\σ'.ms=σ.ms/\σ'.hs=σ.hs:=by
 unfold kA at h;by_cases c:σ.ws.length=400
 .rw[if_pos c]at h;cases h
 .rw[if_neg c]at h;cases h;exact⟨c,by simp,rfl,rfl,rfl⟩
theorem wq{c:Sc}{σ σ':Ss}{ld:Int}{w:Wk}(h:dG c σ ld w=.ok σ'):σ.ws.length≠400/\σ'.ws.length=σ.ws.length+1/\σ'.fs<=σ.fs+1/\σ'.ms=σ.ms:=by
 unfold dG at h;by_cases k:w.1=.foot
 .rw[if_pos k]at h;unfold yw at h;cases hv:lkS (cU w.2) c.feet with
  |none=>rw[hv]at h;cases h
  |some g =>
   rw[hv]at h;obtain⟨h1,h2,h3,h4,h5⟩:=yz h;exact⟨h1,h2,by rw[h3];exact Kz _,h4⟩
 .rw[if_neg k]at h;obtain⟨h1,h2,h3,h4,h5⟩:=yz h;exact⟨h1,h2,by rw[h3];exact Mf _,h4⟩
theorem yA{c:Sc}{byh:Bool}:∀{ws:List Wk}{σ σ':Ss}{ld:Int}(hm:∀w∈ws,w.1≠.mark),cr c σ ld byh ws=.ok σ'->(σ.ws.length<=400->σ'.ws.length<=400)/\(σ.fs<=σ.ws.length->σ'.fs<=σ'.ws.length)/\σ'.ms=σ.ms
 |[],σ,σ',ld,_,h=>by cases h;exact⟨id,id,rfl⟩
 |w::r,σ,σ',ld,hm,h=>by
  have h:(if w.1=.mark then(match f8 σ (cU w.2)with|.error x=>.error x|.ok s'=>cr c s' ld byh r)else(match dG c σ ld w with|.error x=>.error x|.ok s'=>cr c { s' with bh:=byh } 0 byh r))=Except.ok σ':=h
  rw[if_neg (hm w KO)]at h;cases e:dG c σ ld w with
  |error x=>rw[e]at h;cases h
  |ok s' =>
   rw[e]at h;obtain⟨b1,b2,b3,b4⟩:=wq e;obtain⟨i1,i2,i3⟩:=yA (λw hw=>hm w (KN _ hw)) h;exact⟨λz=>i1 (by show s'.ws.length<=400;omega),λz=>i2 (by show s'.fs<=s'.ws.length;omega),i3.trans b4⟩
def GWk(w:Wk):Prop:=(w.1≠.entry/\∃n:List Nat,n.length<=200/\(∀d∈n,d<127)/\w.2=.str (tx n))\/(w.1=.entry/\∃k:Nat,w.2=.int (k:Int))
structure mY(c:Sc):Prop where
 few:c.nums.length<=200
 tl:c.titles.length=c.nums.length
 tw:∀t∈c.titles,t.length<=130/\∀w∈t,GWk w
 fl:c.feet.length<=200
 fw:∀p∈c.feet,p.2.length<=39/\∀w∈p.2,GWk w/\w.1≠.mark/\w.1≠.foot
 nl:∀n∈c.nums,∃l:List Nat,n=tx l/\l.length<=100
 nc:∀l:List Nat,tx l∈c.nums->∀d∈l,d<127
def tE(c:Sc)(w:Wk):Prop:=(w.1=.plain/\∃n:List Nat,w.2=.str (tx n))\/(w.1=.entry/\∃k:Nat,w.2=.int (k:Int)/\k<c.nums.length)\/(lA w.1=true/\∃n:List Nat,n.length<=200/\(∀d∈n,d<127)/\w.2=.str (tx n))
structure vf(c:Sc)(σ:Ss):Prop where
 ws:∀t∈σ.ws,tE c t.w/\t.foot.length<=40/\∀w∈t.foot,tE c w/\(w.1=.plain\/∃p∈c.feet,w∈p.2)
 ms:∀m∈σ.ms,∃l:List Nat,m.1=tx l/\l.length<=200/\∀d∈l,d<127
theorem FtA.get{F:Hp}:∀{vs:List (Key×V)}{ws:List (Str×List Wk)}{i:Nat}{p:Key×V},FtA F vs ws->vs[i]?=some p->∃q,ws[i]?=some q/\FtE F p q
 |v::_,w::_,0,x,h,e=>by cases e;exact⟨w,rfl,h.1⟩
 |_::_,_::_,i+1,x,h,e=>FtA.get (i:=i) h.2 (by simpa using e)
 |[],[],_,_,_,e=>by simp at e
theorem CJ{H:Hp}{a:Addr}{o o':HO}:upd (upd H a o) a o'=upd H a o':=by
 funext b
 by_cases e:b=a
 .subst e;rw[ah,ah]
 .rw[aq e,aq e,aq e]
theorem Eo{H:Hp}{a:Addr}{o:HO}(h:H a=some o):upd H a o=H:=by
 funext b
 by_cases e:b=a
 .subst e;rw[ah,h]
 .rw[aq e]
theorem CK{H H2:Hp}{a:Addr}{o:Obj}{kvs:List (Key×V)}(h:H a=some (.dK kvs))(s:ar (upd H a (.frz o (.dK kvs))) H2):ar H (upd H2 a (.dK kvs)):=λb u z=>by
 by_cases e:b=a
 .subst e;rw[ah];rw[h]at z;exact z
 .rw[aq e];exact s _ _ (by rw[aq e];exact z)
theorem IQ(k:Kw):inV (.str k.s) [.str (pq "number"),.str (pq "page"),.str (pq "row")]=lA k:=by
 cases k<;>decide
theorem ftX{F F':Hp}(m:∀l ws,eV F l ws->eV F' l ws):∀{vs:List (Key×V)}{ws:List (Str×List Wk)},FtA F vs ws->FtA F' vs ws
 |[],[],_=>trivial
 |_::_,_::_,⟨⟨h1,l,h2,h3⟩,h⟩=>⟨⟨h1,l,h2,m _ _ h3⟩,ftX m h⟩
theorem FrX.get{H H':Hp}{x b:Addr}{u:HO}(f:FrX H H' x)(h:H b=some u)(n:b≠x):H' b=some u:=f b u n h
def RnW(c:Sc)(w:Wk):Prop:=GWk w/\(w.1=.entry->∃k:Nat,w.2=.int (k:Int)/\k<c.nums.length)
theorem RnW.ws{c:Sc}{w:Wk}(h:RnW c w)(n1:w.1≠.mark)(n2:w.1≠.foot):tE c w:=by
 obtain⟨g,en⟩:=h;rcases g with⟨ne,n,l1,l2,e⟩|⟨e,_⟩
 .cases hk:w.1 with
  |plain=>exact .inl ⟨hk,n,e⟩
  |entry=>exact absurd hk ne
  |mark=>exact absurd hk n1
  |foot=>exact absurd hk n2
  |number=>exact .inr (.inr ⟨by rw[hk];rfl,n,l1,l2,e⟩)
  |page=>exact .inr (.inr ⟨by rw[hk];rfl,n,l1,l2,e⟩)
  |row=>exact .inr (.inr ⟨by rw[hk];rfl,n,l1,l2,e⟩)
 .exact .inr (.inl ⟨e,en e⟩)
structure yB(c:Sc):Prop where
 fw:∀p∈c.feet,p.2.length<=39/\∀w∈p.2,tE c w
structure StB(c:Sc)(σ σ':Ss)(n:Nat):Prop where
 ok:vf c σ->vf c σ'
 ms:σ'.ms.length<=σ.ms.length+n
 ws:σ.ws.length<=400->σ'.ws.length<=400
 fs:σ.fs<=σ.ws.length->σ'.fs<=σ'.ws.length
theorem StB.refl{c:Sc}{σ:Ss}{n:Nat}:StB c σ σ n:=⟨id,Mm _ _,id,id⟩
theorem StB.trans{c:Sc}{σ σ1 σ2:Ss}{n m:Nat}(a:StB c σ σ1 n)(b:StB c σ1 σ2 m):StB c σ σ2 (n+m):=⟨λh=>b.ok (a.ok h),by have:=a.ms;have:=b.ms;omega,λh=>b.ws (a.ws h),λh=>b.fs (a.fs h)⟩
theorem StB.more{c:Sc}{σ σ1:Ss}{n m:Nat}(a:StB c σ σ1 n)(h:n<=m):StB c σ σ1 m:=⟨a.ok,by have:=a.ms;omega,a.ws,a.fs⟩
theorem Ai{c:Sc}{σ σ':Ss}{ld:Int}{w:Wk}{f:List Wk}(h:kA σ ld w f=.ok σ')(hw:tE c w)(hf:f.length<=40/\∀w∈f,tE c w/\(w.1=.plain\/∃p∈c.feet,w∈p.2)):(vf c σ->vf c σ')/\σ'.ms=σ.ms/\σ'.hs=σ.hs/\σ'.fs=σ.fs/\σ'.ws.length=σ.ws.length+1/\σ.ws.length≠400:=by
 unfold kA at h;by_cases e:σ.ws.length=400
 .rw[if_pos e]at h;cases h
 .rw[if_neg e]at h;cases h;refine⟨λs=>⟨?_,s.ms⟩,rfl,rfl,rfl,by simp,e⟩;intro t ht;rcases List.mem_append.mp ht with ht|ht
  .exact s.ws t ht
  .rw[List.mem_singleton.mp ht];exact⟨hw,hf⟩
theorem Ep{c:Sc}(fo:yB c){σ σ':Ss}{ld:Int}{w:Wk}(h:dG c σ ld w=.ok σ')(hw:RnW c w)(nm:w.1≠.mark):StB c σ σ' 0/\σ'.hs=σ.hs:=by
 unfold dG at h;by_cases k:w.1=.foot
 .rw[if_pos k]at h;unfold yw at h;cases hv:lkS (cU w.2) c.feet with
  |none=>rw[hv]at h;cases h
  |some g =>
   rw[hv]at h;have gm:=fo.fw _ (vd hv);have pl:tE c (.plain,.str (Ek (σ.fs+1))):=.inl ⟨rfl,(Ek (σ.fs+1)).cps.toList,by rw[<-AN]⟩;obtain⟨h1,h2,h3,h4,h5,h6⟩:=Ai (c:=c) h pl ⟨by simp only[KH];have:=gm.1;dsimp only at this;omega,λx hx=>by
    rcases List.mem_cons.mp hx with rfl|hx
    .exact⟨pl,.inl rfl⟩
    .exact⟨gm.2 x hx,.inr ⟨_,vd hv,hx⟩⟩⟩
   refine⟨⟨λs=>h1 ⟨s.ws,s.ms⟩,by rw[h2];exact Kz _,λz=>?_,λz=>?_⟩,h3⟩
   .have:σ.ws.length≠400:=h6;have:σ'.ws.length=σ.ws.length+1:=h5;omega
   .have:σ'.ws.length=σ.ws.length+1:=h5;have:σ'.fs=σ.fs+1:=h4;omega
 .rw[if_neg k]at h;obtain⟨h1,h2,h3,h4,h5,h6⟩:=Ai (c:=c) h (hw.ws nm k) ⟨by simp,by simp⟩;exact⟨⟨h1,by rw[h2];exact Kz _,λz=>by omega,λz=>by omega⟩,h3⟩
theorem oN{c:Sc}{σ:Ss}{ld:Int}{byh:Bool}{w:Wk}{r:List Wk}:cr c σ ld byh (w::r)=(if w.1=.mark then(match f8 σ (cU w.2)with|.error x=>.error x|.ok s'=>cr c s' ld byh r)else(match dG c σ ld w with|.error x=>.error x|.ok s'=>cr c { s' with bh:=byh } 0 byh r)):=rfl
theorem n9{c:Sc}(fo:yB c){byh:Bool}:∀{ws:List Wk}{σ σ':Ss}{ld:Int},(∀w∈ws,RnW c w)->cr c σ ld byh ws=.ok σ'->StB c σ σ' ws.length/\σ'.hs=σ.hs
 |[],σ,σ',ld,_,h=>by cases h;exact⟨.refl,rfl⟩
 |w::r,σ,σ',ld,hw,h=>by
  rw[oN]at h;have hr:∀x∈r,RnW c x:=λx hx=>hw x (KN _ hx);have h0:=hw w KO;by_cases k:w.1=.mark
  .rw[if_pos k]at h;cases e:f8 σ (cU w.2)with
   |error x=>rw[e]at h;cases h
   |ok s' =>
    rw[e]at h;obtain⟨b,hs⟩:=n9 fo hr h;unfold f8 at e;by_cases z:(lkS (cU w.2) σ.ms).isSome=true
    .rw[if_pos z]at e;cases e
    .rw[if_neg z]at e;cases e;have b0:StB c σ { σ with ms:=σ.ms++[(cU w.2,σ.ws.length)] } 1:=⟨λs=>⟨s.ws,λm hm=>by
      rcases List.mem_append.mp hm with hm|hm
      .exact s.ms m hm
      .rw[List.mem_singleton.mp hm];rcases h0.1 with⟨_,n,l1,l2,e⟩|⟨e,_⟩
       .exact⟨n,by rw[e];rfl,l1,l2⟩
       .rw[k]at e;cases e⟩,by simp,id,id⟩
     exact⟨(b0.trans b).more (by simp only[KH];omega),hs⟩
  .rw[if_neg k]at h;cases e:dG c σ ld w with
   |error x=>rw[e]at h;cases h
   |ok s' =>
    rw[e]at h;obtain⟨b1,h1⟩:=Ep fo e h0 k;obtain⟨b2,h2⟩:=n9 fo hr h;have b3:StB c s' { s' with bh:=byh } 0:=⟨λs=>⟨s.ws,s.ms⟩,Kz _,id,id⟩;exact⟨((b1.trans b3).trans b2).more (by simp only[KH];omega),h2.trans h1⟩
def RdW(w:Wk):Prop:=GWk w/\w.1≠.entry
def TgG:Tg->Prop
 |.head n ws=>1<=n/\n<=3/\ws.length<=130/\∀w∈ws,RdW w
 |.par ws=>ws.length<=600/\∀w∈ws,RdW w
 |_=>True
def FtG(feet:List (Str×List Wk)):Prop:=feet.length<=200/\∀p∈feet,p.2.length<=39/\∀w∈p.2,RdW w/\w.1≠.mark/\w.1≠.foot
def gT(c:Sc)(things:List Tg):Except Xc Ss:=
 match i9 c ss0 things with
 |.error e=>.error e
 |.ok σ=>match fj c σ with
  |some e=>.error e
  |none=>.ok σ
theorem RdW.run{c:Sc}{w:Wk}(h:RdW w):RnW c w:=⟨h.1,λz=>absurd z h.2⟩
theorem mY.run{c:Sc}(so:mY c)(st:∀t∈c.titles,∀w∈t,RdW w){k:Nat}(hk:k<c.nums.length):(∀w∈((.plain,.str (c.nums.getD k MS))::c.titles.getD k []:List Wk),RnW c w)/\(∀w∈lH c k (c.nums.getD k MS),RnW c w)/\(c.titles.getD k []).length<=130:=by
 have hn:c.nums[k]?=some (c.nums.getD k MS):=by rw[Lk,KM hk];rfl
 have ht:c.titles[k]?=some (c.titles.getD k []):=by rw[Lk,KM (by rw[so.tl];exact hk)];rfl
 obtain⟨l,e,ll⟩:=so.nl _ (KL hn);have p:RnW c (.plain,.str (c.nums.getD k MS)):=⟨.inl ⟨by show Kw.plain≠Kw.entry;decide,l,by omega,so.nc l (by rw[<-e];exact KL hn),by rw[e]⟩,λz=>by cases z⟩;have tw:=so.tw _ (KL ht);have tr:=st _ (KL ht);refine⟨λw hw=>?_,λw hw=>?_,tw.1⟩
 .rcases List.mem_cons.mp hw with rfl|hw
  .exact p
  .exact(tr w hw).run
 .unfold lH at hw;rcases List.mem_cons.mp hw with rfl|hw
  .exact p
  .rcases List.mem_append.mp hw with hw|hw
   .exact(tr w (List.mem_filter.mp hw).1).run
   .rw[List.mem_singleton.mp hw];exact⟨.inr ⟨rfl,k,rfl⟩,λ_=>⟨k,rfl,hk⟩⟩
theorem yC{c:Sc}(so:mY c)(fo:yB c)(st:∀t∈c.titles,∀w∈t,RdW w):∀{ns:List Str}{σ σ':Ss}{ld:Int}{k:Nat},c.nums.drop k=ns->uA c σ ld k ns=.ok σ'->StB c σ σ' 0/\σ'.hs=σ.hs
 |[],σ,σ',ld,k,_,h=>by cases h;exact⟨.refl,rfl⟩
 |n::r,σ,σ',ld,k,hd,h=>by
  have hk:k<c.nums.length:=by
   by_cases z:k<c.nums.length
   .exact z
   .rw[NO (by omega)]at hd;cases hd
  have e0:c.nums.getD k MS=n:=by
   rw[Mc hk]at hd;injection hd with hd _;rw[Lk,KM hk,hd];rfl
  have hd2:c.nums.drop (k+1)=r:=by
   rw[Mc hk]at hd;injection hd
  have h:(match cr c σ ld false (lH c k n)with|.error x=>.error x|.ok s'=>uA c s' 1 (k+1) r)=Except.ok σ':=h
  cases e:cr c σ ld false (lH c k n)with
  |error x=>rw[e]at h;cases h
  |ok s' =>
   rw[e]at h;have rn:=(so.run st hk).2.1;rw[e0]at rn;obtain⟨b1,h1⟩:=n9 fo rn e;obtain⟨b2,h2⟩:=yC so fo st hd2 h;have nm:=yA (λw hw=>?_) e
   .exact⟨⟨λs=>b2.ok (b1.ok s),by have:=b2.ms;rw[nm.2.2]at this;exact this,λz=>b2.ws (b1.ws z),λz=>b2.fs (b1.fs z)⟩,h2.trans h1⟩
   .unfold lH at hw;rcases List.mem_cons.mp hw with rfl|hw
    .show Kw.plain≠Kw.mark;decide
    .rcases List.mem_append.mp hw with hw|hw
     .simpa using(List.mem_filter.mp hw).2
     .rw[List.mem_singleton.mp hw];show Kw.entry≠Kw.mark;decide
def n_:Tg->Nat
 |.head _ _=>1
 |_=>0
theorem CM{c:Sc}(so:mY c)(fo:yB c)(st:∀t∈c.titles,∀w∈t,RdW w){σ σ':Ss}{t:Tg}(h:iA c σ t=.ok σ')(tg:TgG t)(hk:n_ t=1->σ.hs.length<c.nums.length):StB c σ σ' 600/\σ'.hs.length=σ.hs.length+n_ t:=by
 cases t with
 |page=>cases h;exact⟨⟨λs=>⟨s.ws,s.ms⟩,Mm _ _,id,id⟩,rfl⟩
 |odd=>cases h;exact⟨⟨λs=>⟨s.ws,s.ms⟩,Mm _ _,id,id⟩,rfl⟩
 |lst =>
  obtain⟨b,e⟩:=yC so fo st (k:=0) rfl h;exact⟨b.more (by omega),by rw[e];rfl⟩
 |par ws =>
  obtain⟨b,e⟩:=n9 fo (λw hw=>(tg.2 w hw).run) h;exact⟨b.more tg.1,by rw[e];rfl⟩
 |head n ws =>
  have hk:=hk rfl;obtain⟨r1,r2,r3⟩:=so.run st hk;obtain⟨b,e⟩:=n9 fo r1 h;have b0:StB c σ { σ with hs:=σ.hs++[(c.nums.getD σ.hs.length MS,σ.ws.length)] } 0:=⟨λs=>⟨s.ws,s.ms⟩,Kz _,id,id⟩;exact⟨(b0.trans b).more (by simp only[KH];omega),by rw[e];simp[n_]⟩
end Tl

namespace L2
open PySem PySem.Spec PyProof.Rows Tl
section
variable {X:Cx}{elt iter:Expr}{ifs:List Expr}{scope:Scope}{cl:List (Str×Addr)}{pos px py pz' tp:Pos}{k1:Nat}{x y z:Str}{caps:List Str}{js:List Nat}{tc:TT}{te:TE}{wi:TI}
def g3(K:KC):TG:=Dy K 3 (rP (bN 0) (rP (bN 1) (rP (bN 2) Dx)))
end
end L2

local macro_rules | `(tactic| omega)=>`(tactic| lia)
namespace L2
open PySem PySem.Spec PyProof.Rows
theorem FW{X:Cx}{i:Nat}{e:Expr}{pos:Pos}(he:PE X e (Av i)):PP X (.FormattedValue e (-1) none pos) (λσ=>∃x:Str,σ[i]?=some (some (.str x))/\x.length<=20000):=by
 intro pins s σ H Q I hc q;obtain⟨n,hv,hl⟩:=hc;refine wpAny_FormattedValue_plain (thn (he pins s σ H (λv H'=>v=.str n/\H'=H) I ⟨_,hv,rfl,rfl⟩) λu s1 ⟨x,H1,I1,r1,e1,e2⟩=>?_);subst e1 e2;obtain⟨t,rfl⟩:=r1;exact wpAny_formatField_str (q _ _ _ hl I1) (q _ _ _ hl (I1.tok _))
end L2
namespace Tl
open PySem PySem.Spec L2
structure Ro where
 (dx sa fa ta la:Addr)
abbrev Ro.os(o:Ro)(r:Addr):List Addr:=[r,o.sa,o.fa,o.ta,o.la]
abbrev Ro.shut(o:Ro):Ro:={ o with la:=o.ta }
abbrev Ro.ins(o:Ro)(C:Addr)(g:Bool):HO:=.ins C o.dx (fsR o.sa o.fa o.ta g)
theorem CO{os os':List Addr}{H H':Hp}(m:ar H H')(sub:∀b∈os',b∈os\/H b=none):ar (hid os H) (hid os' H'):=λb o z=>by
 obtain⟨c,z⟩:=uz.mp z;exact cT (λw=>(sub b w).elim c λn=>by rw[n]at z;cases z) (m _ _ z)
inductive RdG(F:Hp)(H:Hp)(s:Rs)(la ta:Addr)(vs:List V):Prop
 |no (g:s.g=false) (e:la=ta) (t:jd F vs s.things)
 |go (g:s.g=true) (n:la≠ta) (vi:List V) (a:Addr) (wvs:List V) (ini:List Tg) (ws:List Wk) (e1:vs=vi++[.ref a]) (e2:s.things=ini++[.par ws]) (h1:F a=some (.tup [.str "paragraph",.ref la])) (h2:H la=some (.lst wvs)) (h3:du F wvs ws) (h4:jd F vi ini)
structure RdB(C:Addr)(K:KC)(H0 H:Hp)(r:Addr)(s:Rs)(S:List Sh)(o:Ro)(kvs:List (Key×V))(vs svs:List V):Prop where
 old:ar H0 H
 nw:∀b∈o.os r,H0 b=none
 h1:H r=some (o.ins C s.g)
 h2:H o.sa=some (.lst svs)
 h3:H o.fa=some (.dK kvs)
 h4:H o.ta=some (.lst vs)
 ns:o.sa≠o.ta
 nl:o.sa≠o.la
 hs:aB K (hid (o.os r) H) (S.map shD) svs
 h6:FtA (hid (o.os r) H) kvs s.feet
 h7:RdG (hid (o.os r) H) H s o.la o.ta vs
section
variable {C:Addr}{K:KC}{H0 H H':Hp}{r:Addr}{s:Rs}{S:List Sh}{o:Ro}{kvs:List (Key×V)}{vs svs:List V}
theorem RdB.ext(R:RdB C K H0 H r s S o kvs vs svs)(m:ar H H'):RdB C K H0 H' r s S o kvs vs svs:=by
 have hm:=oM (os:=o.os r) m;refine⟨R.old.trans m,R.nw,m _ _ R.h1,m _ _ R.h2,m _ _ R.h3,m _ _ R.h4,R.ns,R.nl,R.hs.mono hm,R.h6.mono hm,?_⟩;rcases R.h7 with⟨g,e,t⟩|⟨g,n,vi,a,wvs,ini,ws,e1,e2,q1,q2,q3,q4⟩
 .exact .no g e (jd.mono hm t)
 .exact .go g n vi a wvs ini ws e1 e2 (hm _ _ q1) (m _ _ q2) (du.mono hm q3) (jd.mono hm q4)
theorem RdB.lal(R:RdB C K H0 H r s S o kvs vs svs):∃us,H o.la=some (.lst us):=by
 rcases R.h7 with⟨_,e,_⟩|⟨_,_,_,_,wvs,_,_,_,_,_,q2,_⟩
 .rw[e];exact⟨_,R.h4⟩
 .exact⟨_,q2⟩
theorem RdB.ne(R:RdB C K H0 H r s S o kvs vs svs):r≠o.sa/\r≠o.fa/\r≠o.ta/\r≠o.la/\o.fa≠o.sa/\o.fa≠o.ta/\o.fa≠o.la:=by
 obtain⟨us,hl⟩:=R.lal;have d:∀{a b:Addr}{x y:HO},H a=some x->H b=some y->x≠y->a≠b:=λha hb n z=>n (by rw[z,hb]at ha;exact(Lm ha).symm);exact⟨d R.h1 R.h2 (by intro z;cases z),d R.h1 R.h3 (by intro z;cases z),d R.h1 R.h4 (by intro z;cases z),d R.h1 hl (by intro z;cases z),d R.h3 R.h2 (by intro z;cases z),d R.h3 R.h4 (by intro z;cases z),d R.h3 hl (by intro z;cases z)⟩
theorem RdB.nn(R:RdB C K H0 H r s S o kvs vs svs):∀b∈o.os r,H b≠none:=λb hb=>by
 obtain⟨us,hl⟩:=R.lal;simp only[Ll,Lj,or_false]at hb;rcases hb with rfl|rfl|rfl|rfl|rfl
 .exact nY R.h1
 .exact nY R.h2
 .exact nY R.h3
 .exact nY R.h4
 .exact nY hl
theorem RdB.nt(R:RdB C K H0 H r s S o kvs vs svs):∀b∈o.os r,∀us,H b≠some (.tup us):=λb hb=>by
 obtain⟨us,hl⟩:=R.lal;simp only[Ll,Lj,or_false]at hb;rcases hb with rfl|rfl|rfl|rfl|rfl
 .exact iY R.h1 (λus z=>by cases z)
 .exact iY R.h2 (λus z=>by cases z)
 .exact iY R.h3 (λus z=>by cases z)
 .exact iY R.h4 (λus z=>by cases z)
 .exact iY hl (λus z=>by cases z)
theorem RdB.nz(R:RdB C K H0 H r s S o kvs vs svs):∀b∈o.os r,∀u v,H b≠some (.frz u v):=λb hb u v z=>by
 obtain⟨us,hl⟩:=R.lal;simp only[Ll,Lj,or_false]at hb;rcases hb with rfl|rfl|rfl|rfl|rfl
 .rw[R.h1]at z;cases z
 .rw[R.h2]at z;cases z
 .rw[R.h3]at z;cases z
 .rw[R.h4]at z;cases z
 .rw[hl]at z;cases z
theorem RdB.sqt(R:RdB C K H0 H r s S o kvs vs svs){p:Addr}{xs:List V}(h:SqT K H p xs):SqT K (hid (o.os r) H) p xs:=by
 rcases h with(h|⟨u,h⟩)|h
 .exact .inl (.inl (cT (λz=>R.nt p z _ h) h))
 .exact .inl (.inr ⟨u,cT (λz=>R.nz p z _ _ h) h⟩)
 .exact .inr h
theorem Ro.sub(o:Ro)(r:Addr):∀b∈o.shut.os r,b∈o.os r:=λb hb=>by
 simp only[Ll,Lj,or_false]at hb⊢;rcases hb with h|h|h|h|h<;>simp[h]
theorem RdB.sm(R:RdB C K H0 H r s S o kvs vs svs):ar (hid (o.os r) H) (hid (o.shut.os r) H):=CO (ar.refl _) λb hb=>.inl (o.sub r b hb)
theorem RdB.cl(R:RdB C K H0 H r s S o kvs vs svs):jd (hid (o.shut.os r) H) vs s.things:=by
 obtain⟨_,_,_,n4,_,_,n7⟩:=R.ne;rcases R.h7 with⟨_,e,t⟩|⟨_,n,vi,a,wvs,ini,ws,rfl,e2,q1,q2,q3,q4⟩
 .exact jd.mono R.sm t
 .rw[e2];refine(jd.mono R.sm q4).snoc ⟨a,o.la,rfl,R.sm _ _ q1,wvs,cT ?_ q2,du.mono R.sm q3⟩;simp only[Ll,Lj,or_false];rintro(z|z|z|z|z)
  .exact n4 z.symm
  .exact R.nl z.symm
  .exact n7 z.symm
  .exact n z
  .exact n z
theorem RdB.shut(R:RdB C K H0 H r s S o kvs vs svs):RdB C K H0 (upd H r (o.ins C false)) r { s with g:=false } S o.shut kvs vs svs:=by
 obtain⟨n1,n2,n3,_⟩:=R.ne;have e:hid (o.shut.os r) (upd H r (o.ins C false))=hid (o.shut.os r) H:=d8 (by simp);refine⟨cC R.old (R.nw r (by simp)),λb hb=>R.nw b (o.sub r b hb),ah,?_,?_,?_,R.ns,R.ns,?_,?_,.no rfl rfl ?_⟩
 .rw[aq (Lp n1)];exact R.h2
 .rw[aq (Lp n2)];exact R.h3
 .rw[aq (Lp n3)];exact R.h4
 .rw[e];exact R.hs.mono R.sm
 .rw[e];exact R.h6.mono R.sm
 .rw[e];exact R.cl
theorem RdB.thing(R:RdB C K H0 H r s S o kvs vs svs){v:V}{t:Tg}(tn:TgA (hid (o.shut.os r) H) v t):RdB C K H0 (upd (upd H o.ta (.lst (vs++[v]))) r (o.ins C false)) r { s with things:=s.things++[t],g:=false } S o.shut kvs (vs++[v]) svs:=by
 obtain⟨n1,n2,n3,_,_,n6,_⟩:=R.ne;have e:hid (o.shut.os r) (upd (upd H o.ta (.lst (vs++[v]))) r (o.ins C false))=hid (o.shut.os r) H:=by rw[d8 (by simp),d8 (by simp)]
 refine⟨cC (cC R.old (R.nw _ (by simp))) (R.nw r (by simp)),λb hb=>R.nw b (o.sub r b hb),ah,?_,?_,?_,R.ns,R.ns,?_,?_,.no rfl rfl ?_⟩
 .rw[aq (Lp n1),aq R.ns];exact R.h2
 .rw[aq (Lp n2),aq n6];exact R.h3
 .rw[aq (Lp n3)];exact ah
 .rw[e];exact R.hs.mono R.sm
 .rw[e];exact R.h6.mono R.sm
 .rw[e];exact R.cl.snoc tn
theorem RdB.foot(R:RdB C K H0 H r s S o kvs vs svs){n:Str}{l:Addr}{ws:List Wk}(lw:eV (hid (o.os r) H) l ws):RdB C K H0 (upd H o.fa (.dK (kvs++[(.inr n,.ref l)]))) r { s with feet:=s.feet++[(n,ws)] } S o (kvs++[(.inr n,.ref l)]) vs svs:=by
 obtain⟨_,n2,_,_,n5,n6,n7⟩:=R.ne;have e:hid (o.os r) (upd H o.fa (.dK (kvs++[(.inr n,.ref l)])))=hid (o.os r) H:=d8 (by simp);refine⟨cC R.old (R.nw _ (by simp)),R.nw,?_,?_,ah,?_,R.ns,R.nl,?_,?_,?_⟩
 .rw[aq n2];exact R.h1
 .rw[aq (Lp n5)];exact R.h2
 .rw[aq (Lp n6)];exact R.h4
 .rw[e];exact R.hs
 .rw[e];exact R.h6.app ⟨rfl,l,rfl,lw⟩
 .rw[e];rcases R.h7 with⟨g,e,t⟩|⟨g,n,vi,a,wvs,ini,ws,e1,e2,q1,q2,q3,q4⟩
  .exact .no g e t
  .exact .go g n vi a wvs ini ws e1 e2 q1 (by rw[aq (Lp n7)];exact q2) q3 q4
theorem RdB.short(R:RdB C K H0 H r s S o kvs vs svs){v:V}{sh:Sh}(hv:Rep K (hid (o.os r) H) (shD sh) v):RdB C K H0 (upd H o.sa (.lst (svs++[v]))) r s (S++[sh]) o kvs vs (svs++[v]):=by
 obtain⟨n1,_,_,_,n5,_⟩:=R.ne;have e:hid (o.os r) (upd H o.sa (.lst (svs++[v])))=hid (o.os r) H:=d8 (by simp);refine⟨cC R.old (R.nw _ (by simp)),R.nw,?_,ah,?_,?_,R.ns,R.nl,?_,?_,?_⟩
 .rw[aq n1];exact R.h1
 .rw[aq n5];exact R.h3
 .rw[aq (Lp R.ns)];exact R.h4
 .rw[e,KQ];exact R.hs.snoc hv
 .rw[e];exact R.h6
 .rw[e];rcases R.h7 with⟨g,e,t⟩|⟨g,n,vi,a,wvs,ini,ws,e1,e2,q1,q2,q3,q4⟩
  .exact .no g e t
  .exact .go g n vi a wvs ini ws e1 e2 q1 (by rw[aq (Lp R.nl)];exact q2) q3 q4
theorem RdB.more(R:RdB C K H0 H r s S o kvs vs svs)(hg:s.g=true):∃(vi:List V)(a:Addr)(wvs:List V)(ini:List Tg)(ws:List Wk),vs=vi++[.ref a]/\H a=some (.tup [.str "paragraph",.ref o.la])/\H o.la=some (.lst wvs)/\s.things=ini++[.par ws]/\wvs.length=ws.length/\∀(us:List V)(ws':List Wk),du (hid (o.os r) H) us ws'->RdB C K H0 (upd H o.la (.lst (wvs++us))) r { s with things:=b9 ws' s.things } S o kvs vs svs:=by
 obtain⟨_,_,_,n4,_,_,n7⟩:=R.ne;rcases R.h7 with⟨g,_,_⟩|⟨g,n,vi,a,wvs,ini,ws,e1,e2,q1,q2,q3,q4⟩
 .rw[hg]at g;cases g
 refine⟨vi,a,wvs,ini,ws,e1,cR _ _ q1,q2,e2,q3.len,λus ws' al=>?_⟩;have e:hid (o.os r) (upd H o.la (.lst (wvs++us)))=hid (o.os r) H:=d8 (by simp);refine⟨cC R.old (R.nw _ (by simp)),R.nw,?_,?_,?_,?_,R.ns,R.nl,?_,?_,?_⟩
 .rw[aq n4];exact R.h1
 .rw[aq R.nl];exact R.h2
 .rw[aq n7];exact R.h3
 .rw[aq (Lp n)];exact R.h4
 .rw[e];exact R.hs
 .rw[e];exact R.h6
 .rw[e];exact .go g n vi a (wvs++us) ini (ws++ws') e1 (by show b9 ws' s.things=_;rw[e2,sN]) q1 ah (q3.app al) q4
theorem RdB.par(R:RdB C K H0 H r s S o kvs vs svs)(m:ar H H'){a l:Addr}{us:List V}{ws:List Wk}(ha:H' a=some (.tup [.str "paragraph",.ref l]))(hl:H l=none)(k:H' l=some (.lst us))(w:du H' us ws):RdB C K H0 (upd (upd (upd H' o.ta (.lst (vs++[.ref a]))) r (o.ins C false)) r (o.ins C true)) r { s with things:=s.things++[.par ws],g:=true } S { o with la:=l } kvs (vs++[.ref a]) svs:=by
 obtain⟨n1,n2,n3,_,_,n6,_⟩:=R.ne;have nl:∀b∈o.os r,l≠b:=λb hb z=>R.nn b hb (z▸hl);have lr:l≠r:=nl r (by simp);have lt:l≠o.ta:=nl _ (by simp);have e:hid (Ro.os { o with la:=l } r) (upd (upd (upd H' o.ta (.lst (vs++[.ref a]))) r (o.ins C false)) r (o.ins C true))=hid (Ro.os { o with la:=l } r) H':=by rw[d8 (by simp),d8 (by simp),d8 (by simp)]
 have mm:ar (hid (o.shut.os r) H) (hid (Ro.os { o with la:=l } r) H'):=CO m λb hb=>by
  simp only[Ll,Lj,or_false]at hb⊢;rcases hb with h|h|h|h|h
  .simp[h]
  .simp[h]
  .simp[h]
  .simp[h]
  .exact .inr (h▸hl)
 have nt:∀b∈Ro.os { o with la:=l } r,∀us,H' b≠some (.tup us):=λb hb=>by
  simp only[Ll,Lj,or_false]at hb;rcases hb with rfl|rfl|rfl|rfl|rfl
  .exact(R.ext m).nt _ (by simp)
  .exact(R.ext m).nt _ (by simp)
  .exact(R.ext m).nt _ (by simp)
  .exact(R.ext m).nt _ (by simp)
  .exact iY k (λus z=>by cases z)
 refine⟨cC (cC (cC (R.old.trans m) (R.nw _ (by simp))) (R.nw r (by simp))) (R.nw r (by simp)),λb hb=>?_,ah,?_,?_,?_,R.ns,Lp (nl _ (by simp)),?_,?_,.go rfl lt vs a us s.things ws rfl rfl ?_ ?_ ?_ ?_⟩
 .simp only[Ll,Lj,or_false]at hb;rcases hb with rfl|rfl|rfl|rfl|rfl
  .exact R.nw _ (by simp)
  .exact R.nw _ (by simp)
  .exact R.nw _ (by simp)
  .exact R.nw _ (by simp)
  .exact R.old.free hl
 .rw[aq (Lp n1),aq (Lp n1),aq R.ns];exact m _ _ R.h2
 .rw[aq (Lp n2),aq (Lp n2),aq n6];exact m _ _ R.h3
 .rw[aq (Lp n3),aq (Lp n3)];exact ah
 .rw[e];exact R.hs.mono (R.sm.trans mm)
 .rw[e];exact R.h6.mono (R.sm.trans mm)
 .rw[e];exact cT (λc=>nt a c _ ha) ha
 .rw[aq lr,aq lr,aq lt];exact k
 .rw[e];exact nX nt w
 .rw[e];exact jd.mono mm R.cl
end
end Tl

namespace K56
open PySem PySem.Spec L2 Tl

def neW(ps:List (List Nat)):List (List Nat):=ps.filter λw=>!w.isEmpty
def aQ(l:List Nat):List (List Nat):=neW (bv 32 l)
theorem uB(c:Nat):∀l:List Nat,((bv c l).map (·.length)).sum+(bv c l).length=l.length+1
 |[]=>rfl
 |x::r=>by
  have ih:=uB c r;rw[ge];by_cases hx:x=c
  .rw[if_pos hx,KW,MR,KH,KH];simp only[L_];omega
  .rw[if_neg hx];cases e:bv c r with
   |nil=>exact absurd e (vX c r)
   |cons q qs =>
    rw[e]at ih;simp only[KW,MR,KH]at ih⊢;omega
theorem lT{ls:List (List Nat)}{i:Nat}{y:V}(h:((ls.map tx).map V.str)[i]?=some y):∃w,ls[i]?=some w/\y=V.str (tx w):=by
 rw[KS,KS]at h;cases e:ls[i]? with
 |none=>rw[e]at h;cases h
 |some w=>rw[e]at h;exact⟨w,rfl,(Lm h).symm⟩
theorem Es(ps:List (List Nat))(w:List Nat):neW (ps++[w])=if w=[]then neW ps else neW ps++[w]:=by
 unfold neW;rw[List.filter_append];cases w with
 |nil=>simp
 |cons a r=>simp

def isL(c:Nat):Bool:=decide (97<=c/\c<=122)
def isF(c:Nat):Bool:=decide (48<=c/\c<=57)
def LL:List Nat:=[97,98,99,100,101,102,103,104,105,106,107,108,109,110,111,112,113,114,115,116,117,118,119,120,121,122]
def FF:List Nat:=[48,49,50,51,52,53,54,55,56,57]
theorem JC:(pq "abcdefghijklmnopqrstuvwxyz")=tx LL:=by decide
theorem JD:(pq "0123456789")=tx FF:=by decide
theorem Hv(c:Nat):decide (c∈LL)=isL c:=by
 by_cases h:c<123
 .have:∀c<123,decide (c∈LL)=isL c:=by decide
  exact this c h
 .have h1:c∉LL:=λhm=>h ((show ∀x∈LL,x<123 by decide) c hm);unfold isL;rw[decide_eq_false h1,decide_eq_false (by omega)]
theorem Hw(c:Nat):decide (c∈FF)=isF c:=by
 by_cases h:c<123
 .have:∀c<123,decide (c∈FF)=isF c:=by decide
  exact this c h
 .have h1:c∉FF:=λhm=>h ((show ∀x∈FF,x<123 by decide) c hm);unfold isF;rw[decide_eq_false h1,decide_eq_false (by omega)]
theorem CP(c:Nat):(!(Mu (pq "abcdefghijklmnopqrstuvwxyz") ⟨#[c]⟩ 0 (pq "abcdefghijklmnopqrstuvwxyz").length 1).isEmpty)=isL c:=by rw[JC,E5,Hv]
theorem yD(c:Nat):(!(Mu (pq "0123456789") ⟨#[c]⟩ 0 (pq "0123456789").length 1).isEmpty)=isF c:=by rw[JD,E5,Hw]
def aR:List Nat->Bool
 |[]=>false
 |c::r=>decide ((c::r).length<=12)&&(isL c&&(c::r).all λd=>isL d||isF d)
theorem CQ{c:Nat}{r:List Nat}(h:¬ (c::r).length<=12):aR (c::r)=false:=by
 show(decide _&&_)=false;rw[decide_eq_false h,NJ]
theorem uC{c:Nat}{r:List Nat}(h:(c::r).length<=12):aR (c::r)=(isL c&&(c::r).all λd=>isL d||isF d):=by
 show(decide _&&_)=_;rw[decide_eq_true h,Nu]
theorem ce:(pq "")=tx []:=by decide
theorem yE(c:Nat)(r:List Nat):decide (V.str (tx (c::r))=V.str (pq ""))=false:=by
 refine decide_eq_false λh=>?_;have h2:=V.str.inj h;rw[ce]at h2;have h3:=eN h2;cases h3
theorem yF:decide (V.str (tx [])=V.str (pq ""))=true:=decide_eq_true (by rw[ce])
theorem JE(c:Nat)(r:List Nat):Txt.slice (tx (c::r)) none (some 1)=tx [c]:=by
 rw[show(some (1:Int))=some ((1:Nat):Int)from rfl,fJ,cut_to];rfl
theorem JF(c:Nat)(r:List Nat):Txt.slice (tx (c::r)) (some 1) none=tx r:=by
 rw[show(some (1:Int))=some ((1:Nat):Int)from rfl,fJ,cut_from];rfl
theorem c33:(pq "!")=tx [33]:=by decide
theorem IR(c:Nat):decide (V.str (tx [c])=V.str (pq "!"))=decide (c=33):=by
 rw[c33];by_cases h:c=33
 .subst h;rw[decide_eq_true rfl,decide_eq_true rfl]
 .rw[decide_eq_false h];refine decide_eq_false λe=>h ?_;have:=eN (V.str.inj e);simpa using this
theorem Hx(l:List Nat)(f:Nat->Bool):((l.map f).all id)=l.all f:=by rw[Pw];rfl

theorem yG{l:List Nat}(h:aR l=true):l.length<=12/\l≠[]/\∀c∈l,c<127:=by
 cases l with
 |nil=>cases h
 |cons c r =>
  unfold aR at h;rw[Ly,Ly]at h;refine⟨of_decide_eq_true h.1,by simp,λd hd=>?_⟩;have:=List.all_eq_true.mp h.2.2 d hd;rcases Bool.or_eq_true_iff.mp this with q|q
  .unfold isL at q;have:=of_decide_eq_true q;omega
  .unfold isF at q;have:=of_decide_eq_true q;omega
def opn:List Nat->Bool
 |c::r=>decide (c=91)&&aR r
 |[]=>false
def aP:List Nat->Bool
 |[c,d]=>decide (c=36)&&isF d
 |_=>false
def Et:Option Nat->V
 |none=>.non
 |some n=>.int (n:Int)
def bV(cn:Option Nat)(w:List Nat):Bool:=match cn with
 |none=>false
 |some n=>aP w && !(decide (1<=w.getD 1 0-48)&&decide (w.getD 1 0-48<=n))
def a9(cn:Option Nat):List (List Nat)->Nat->Option Bool
 |[],m=>if 0<m then some false else none
 |w::t,m=>if opn w=true then(if m=20 then some true else a9 cn t (m+1))else if 0<m/\w=aJ then a9 cn t (m-1)else if bV cn w=true then some false else a9 cn t m
section
variable {cn:Option Nat}{w:List Nat}{t:List (List Nat)}{m:Nat}
theorem yH(h:opn w=true)(h2:m=20):a9 cn (w::t) m=some true:=by simp only[a9,h,h2,if_true]
theorem yI(h:opn w=true)(h2:m≠20):a9 cn (w::t) m=a9 cn t (m+1):=by simp only[a9,h,h2,if_true,if_false]
theorem CS(h:opn w=false)(h2:0<m)(h3:w=aJ):a9 cn (w::t) m=a9 cn t (m-1):=by rw[a9,if_neg (by rw[h];decide),if_pos ⟨h2,h3⟩]
theorem vg(h:opn w=false)(h2:¬ (0<m/\w=aJ))(h3:bV cn w=true):a9 cn (w::t) m=some false:=by rw[a9,if_neg (by rw[h];decide),if_neg h2,if_pos h3]
theorem oO(h:opn w=false)(h2:¬ (0<m/\w=aJ))(h3:bV cn w=false):a9 cn (w::t) m=a9 cn t m:=by rw[a9,if_neg (by rw[h];decide),if_neg h2,if_neg (by rw[h3];decide)]
end
theorem Eu{cn:Option Nat}{w:List Nat}(h:w.length≠2):bV cn w=false:=by
 unfold bV;cases cn with
 |none=>rfl
 |some n =>
  match w,h with
  |[],_=>rfl
  |[_],_=>rfl
  |[_,_],h=>exact absurd rfl h
  |_::_::_::_,_=>rfl
theorem E9{α:Type}(l:List α):l=[]\/∃l0 x,l=l0++[x]:=by
 rcases List.eq_nil_or_concat l with h|⟨l0,x,h⟩
 .exact .inl h
 .exact .inr ⟨l0,x,by rw[h,List.concat_eq_append]⟩
structure WOk(w:List Nat):Prop where
 ne:w≠[]
 len:w.length<=100
 lt:∀c∈w,c<127
theorem IS{s:Str}{d:Nat}(h:s=tx [d])(c:Nat):decide (V.str ⟨#[c]⟩=V.str s)=decide (c=d):=by
 rw[h];by_cases e:c=d
 .rw[decide_eq_true e,e];exact decide_eq_true rfl
 .rw[decide_eq_false e];refine decide_eq_false λz=>e ?_;have:=eN (a:=[c]) (b:=[d]) (V.str.inj z);simpa using this
theorem dw{s:Str}{l:List Nat}(h:s=tx l)(w:List Nat):decide (V.str (tx w)=V.str s)=decide (w=l):=by
 rw[h];by_cases e:w=l
 .rw[decide_eq_true e,e];exact decide_eq_true rfl
 .rw[decide_eq_false e];exact decide_eq_false λz=>e (eN (V.str.inj z))
theorem c91:(pq "[")=tx [91]:=by decide
theorem c36:(pq "$")=tx [36]:=by decide
theorem JG:(pq "|")=tx bE:=by decide
theorem Hy:(pq "]")=tx aJ:=by decide
theorem Aj:∀k:Nat,k<10->PySem.intText? (tx [48+k])=some (k:Int):=by decide
theorem yJ{d:Nat}(h:isF d=true):∃k,k<10/\d=48+k:=by
 unfold isF at h;have:=of_decide_eq_true h;exact⟨d-48,by omega,by omega⟩

theorem cP{α:Type}{l:List α}{i:Nat}{x:α}(h:l[i]?=some x):l.take (i+1)=l.take i++[x]:=by
 obtain⟨hi,e⟩:=List.getElem?_eq_some_iff.mp h;rw[Lb,h];rfl

def lB:List (Key×V):=[(.inr (pq "#"),.str (pq "mark")),(.inr (pq "@"),.str (pq "number")),(.inr (pq "&"),.str (pq "page")),(.inr (pq "^"),.str (pq "row")),(.inr (pq "~"),.str (pq "foot"))]
inductive og(w:K_):List LD->List (Key×V)->Prop
 |nil:og w [] []
 |cons {e:LD} {k:Key} {v:V} {es:List LD} {kvs:List (Key×V)}:mG k e.key=true->e.hash=Gm w k->bg v e.val->og w es kvs->og w (e::es) ((k,v)::kvs)
def yK(w:K_)(es:Array LD)(kvs:List (Key×V)):Prop:=og w es.toList kvs/\(kvs.map (·.1)).Nodup
theorem CU{P:K8}{w:K_}{es:List LD}{kvs:List (Key×V)}(h:og w es kvs):∃vs,KV kvs vs/\Pairs (bC P w) es vs/\vs.map (·.1)=kvs.map (·.1)/\∀e∈es,∃k,(bC P w).is k e.key=true/\e.hash=(bC P w).hash k:=by
 induction h with
 |nil=>exact⟨[],.nil,.nil,rfl,λe he=>nomatch he⟩
 |@cons e k v es kvs h1 h2 h3 _ ih =>
  obtain⟨vs,a,b,c,d⟩:=ih;refine⟨(k,e.val)::vs,.cons ⟨rfl,h3⟩ a,.cons h1 rfl b,by rw[KW,KW,c],λx hx=>?_⟩;rcases List.mem_cons.mp hx with rfl|hx
  .exact⟨k,h1,h2⟩
  .exact d x hx
theorem Ak{P:K8}{w:K_}{K:KC}{a:Addr}{oc:KG}{od:Option Addr}{es:Array LD}{ep:Nat}{sl:Array (Option KG)}{kvs:List (Key×V)}(b:(a==Mw)=false)
  (l:K.lookup a=some ⟨oc,od,.dict es ep,sl⟩)(c:(⟨oc,od,.dict es ep,sl⟩:Obj).ExactDict)(e:yK w es kvs):uY P w K a kvs:=by
 obtain⟨vs,h1,h2,h3,h4⟩:=CU (P:=P) e.1;exact⟨b,_,vs,l,h1,es,ep,c,rfl,λx hx=>h4 x (by simpa using hx),h2,by rw[h3];exact e.2⟩
def mk(c:Nat):Option String:=if c=35 then some "mark" else if c=64 then some "number" else if c=38 then some "page" else if c=94 then some "row" else if c=126 then some "foot" else none
def lC:List Nat->String×List Nat
 |[]=>("plain",[])
 |c::r=>match mk c,aR r with
  |some s,true=>(s,r)
  |_,_=>if c=33/\r≠[]then("plain",r)else("plain",c::r)
theorem Ev(c:Nat)(h:mk c=none):b8 lB (.inr ⟨#[c]⟩)=none:=by
 unfold mk at h
 split at h
 .cases h
 split at h
 .cases h
 split at h
 .cases h
 split at h
 .cases h
 split at h
 .cases h
 rename_i h1 h2 h3 h4 h5
 have key:∀d:Nat,c≠d->¬ ((Nv (tx [d]):Key)=Nv (tx [c])):=λd hd e=>hd (by
  have e2:=eN (O4 e);have e3:d=c:=by simpa using e2
  exact e3.symm)
 unfold lB;rw[show(pq "#")=tx [35] by decide,show(pq "@")=tx [64] by decide,show(pq "&")=tx [38] by decide,show(pq "^")=tx [94] by decide,show(pq "~")=tx [126] by decide];show b8 _ (Nv (tx [c]))=none;rw[b_ (key 35 h1),b_ (key 64 h2),b_ (key 38 h3),b_ (key 94 h4),b_ (key 126 h5)];rfl
theorem Ew(c:Nat)(s:String)(h:mk c=some s):b8 lB (.inr ⟨#[c]⟩)=some (.str (pq s)):=by
 have hc:c=35\/c=64\/c=38\/c=94\/c=126:=by
  unfold mk at h
  split at h
  .omega
  split at h
  .omega
  split at h
  .omega
  split at h
  .omega
  split at h
  .omega
  cases h
 rcases hc with rfl|rfl|rfl|rfl|rfl
 all_goals
  have e:=Lm h;subst e;decide

def plL(c:Nat)(r:List Nat):Kw×List Nat:=if c=33/\r≠[]then(.plain,r)else(.plain,c::r)
def kwC(c:Nat)(r:List Nat):Kw×List Nat:=if aR r=true then(if c=35 then(.mark,r)else if c=64 then(.number,r)else if c=38 then(.page,r)else if c=94 then(.row,r)else if c=126 then(.foot,r)else plL c r)else plL c r
def kwL:List Nat->Kw×List Nat
 |[]=>(.plain,[])
 |c::r=>kwC c r
theorem FX:∀t:List Nat,pq (lC t).1=(kwL t).1.s/\(lC t).2=(kwL t).2
 |[]=>⟨rfl,rfl⟩
 |c::r=>by
  have pl:∀q:String×List Nat,q=(if c=33/\r≠[]then("plain",r)else("plain",c::r))->pq q.1=(plL c r).1.s/\q.2=(plL c r).2:=λq e=>by
   rw[e];unfold plL;by_cases h:c=33/\r≠[]
   .rw[if_pos h,if_pos h];exact⟨rfl,rfl⟩
   .rw[if_neg h,if_neg h];exact⟨rfl,rfl⟩
  have hk:lC (c::r)=match mk c,aR r with
   |some s,true=>(s,r)
   |_,_=>if c=33/\r≠[]then("plain",r)else("plain",c::r):=rfl
  show pq (lC (c::r)).1=(kwC c r).1.s/\(lC (c::r)).2=(kwC c r).2;rw[hk];unfold kwC mk;cases hn:aR r with
  |false =>
   rw[if_neg (show ¬ (false=true) by decide)];refine pl _ ?_
   split
   .rename_i h;cases h
   .rfl
  |true =>
   rw[if_pos rfl];by_cases h1:c=35
   .simp[h1,Kw.s]
   by_cases h2:c=64
   .simp[h2,Kw.s]
   by_cases h3:c=38
   .simp[h3,Kw.s]
   by_cases h4:c=94
   .simp[h4,Kw.s]
   by_cases h5:c=126
   .simp[h5,Kw.s]
   simp only[h1,h2,h3,h4,h5,if_false];exact pl _ rfl
def wkL(t:List Nat):Wk:=((kwL t).1,.str (tx (kwL t).2))
theorem FY(t:List Nat):(kwL t).2.length<=t.length:=by
 cases t with
 |nil=>exact Kz _
 |cons c r =>
  have p:(plL c r).2.length<=(c::r).length:=by
   unfold plL
   split
   .exact Mf _
   .exact Kz _
  show(kwC c r).2.length<=(c::r).length;unfold kwC;by_cases hn:aR r=true
  .rw[if_pos hn];by_cases h1:c=35
   .rw[if_pos h1];exact Mf _
   rw[if_neg h1];by_cases h2:c=64
   .rw[if_pos h2];exact Mf _
   rw[if_neg h2];by_cases h3:c=38
   .rw[if_pos h3];exact Mf _
   rw[if_neg h3];by_cases h4:c=94
   .rw[if_pos h4];exact Mf _
   rw[if_neg h4];by_cases h5:c=126
   .rw[if_pos h5];exact Mf _
   rw[if_neg h5];exact p
  .rw[if_neg hn];exact p
def iC:List (Key×V):=[(.inr (pq "page"),.int 3),(.inr (pq "odd"),.int 4)]
def kwV(k:Kw):V:=.str k.s
theorem sO{k:Kw}:∀{bs:List Kw},k∉bs->inV (kwV k) (bs.map kwV)=false
 |[],_=>rfl
 |b::r,h=>by
  have e:¬ (b=k):=λz=>h (by rw[z];exact KO);have ih:=sO (bs:=r) λz=>h (KN _ z);unfold inV at ih⊢;rw[KW,MG,ih,Pe];show(b.s==k.s)=false;rw[Kw.beq,decide_eq_false e]
theorem yL:∀bs:List Kw,(bs.map kwV).all dU=true
 |[]=>rfl
 |_::r=>by rw[KW,MF,yL r];rfl

theorem c32:(pq " ")=tx [32]:=by decide
def jC:List Nat:=[46,102,111,111,116]
def iD:List Nat:=[46,112,97,103,101]
def j7:List Nat:=[46,111,100,100]
def jD:List Nat:=[46,108,105,115,116]
def lU:List Nat:=[46,108,101,116]
theorem oP:(pq ".foot")=tx jC:=by decide
theorem qL:(pq ".let")=tx lU:=by decide
theorem IT:(pq ".page")=tx iD:=by decide
theorem JH:(pq ".odd")=tx j7:=by decide
theorem IU:(pq ".list")=tx jD:=by decide
theorem cH1:(pq "=")=tx [61]:=by decide
theorem cH2:(pq "==")=tx [61,61]:=by decide
theorem cH3:(pq "===")=tx [61,61,61]:=by decide
theorem Ex:(pq ".")=tx [46]:=by decide
theorem yM{w:List Nat}:∀(ls:List (List Nat)),inV (.str (tx w)) (ls.map λl=>.str (tx l))=decide (w∈ls)
 |[]=>rfl
 |l::r=>by
  have ih:=yM (w:=w) r;unfold inV at ih⊢;rw[KW,MG,ih];show((tx l==tx w)||_)=_;by_cases e:w=l
  .subst e;simp
  .have:(tx l==tx w)=false:=by
    rw[beq_eq_false_iff_ne];exact λz=>e (eN z.symm)
   rw[this,Pf];simp[e]
theorem oQ{n:Str}{v:V}:∀{l:List (Str×V)},(l.map O9).all (λm=>m != n)=true->bY n v l=l++[(n,v)]
 |[],_=>rfl
 |(m,x)::r,h=>by
  rw[KW,MF,Ly]at h;have e:¬ (m=n):=by simpa using h.1
  have ih:=oQ (n:=n) (v:=v) h.2;simp[bY,e]at ih⊢;exact ih

def al(b:Nat):Nat:=(LL++FF).getD b 0
theorem FZ:∀k:Nat,k<36->atI (pq "abcdefghijklmnopqrstuvwxyz0123456789").cps.toList (k:Int)=some (al k):=by decide
theorem HA:∀b:Nat,b<36->∀c:Nat,c<36->al b=al c->b=c:=by decide
theorem HB:∀b:Nat,b<26->isL (al b)=true:=by decide
theorem HC:∀b:Nat,b<36->(isL (al b)||isF (al b))=true:=by decide
structure Ix(xs:List Nat):Prop where
 ne:xs≠[]
 len:xs.length<=12
 fst:∀b,xs.head?=some b->b<26
 all:∀b∈xs,b<36
theorem Ix.name{xs:List Nat}(h:Ix xs):aR (xs.map al)=true:=by
 cases xs with
 |nil=>exact absurd rfl h.ne
 |cons b r =>
  have hl:(al b::r.map al).length<=12:=by have:=h.len;simp at this⊢;omega
  show aR (al b::r.map al)=true;rw[uC hl,HB b (h.fst b rfl),Nu];refine List.all_eq_true.mpr λd hd=>?_;obtain⟨b',hb',rfl⟩:=List.mem_map.mp (show d∈(b::r).map al from hd);exact HC b' (h.all b' hb')
theorem yN:∀cs:List Nat,c_ [] (cs.map λc=>[c])=cs
 |[]=>rfl
 |[c]=>rfl
 |c::d::r=>by
  show[c]++[]++c_ [] ((d::r).map λc=>[c])=_;rw[yN (d::r)];rfl
theorem Al:∀cs:List Nat,((cs.map λc=>tx [c]).map (·.length)).sum=cs.length
 |[]=>rfl
 |c::r=>by
  rw[KW,KW,MR,Al r,aZ];simp only[KH,L_];omega

theorem JI:(pq "")=tx []:=by decide
theorem ej1(cs:List Nat):Txt.join (pq "") (cs.map λd=>tx [d])=tx cs:=by
 rw[JI,show(cs.map λd=>tx [d])=((cs.map λd=>[d]).map tx) by rw[Mt];rfl,uW,yN]
def nmB(bs:List Nat)(a j:Nat):List Nat:=bs.take a++[j/36%36]++[j%36]++bs.drop a
structure tF(bs:List Nat)(a:Nat):Prop where
 len:bs.length<=10
 fst:∀b,bs.head?=some b->b<26
 all:∀b∈bs,b<36
 lo:1<=a
 hi:a<=bs.length
theorem tF.ix{bs:List Nat}{a:Nat}(h:tF bs a)(j:Nat):Ix (nmB bs a j):=by
 have l1:=h.lo;have l2:=h.hi;have l3:=h.len
 match bs,h with
 |[],h=>simp at l2;omega
 |b::r,h =>
 obtain⟨a',rfl⟩:∃a',a=a'+1:=⟨a-1,by omega⟩;refine⟨by simp[nmB],?_,?_,?_⟩
 .have e1:(List.take (a'+1) (b::r)).length=a'+1:=by rw[La];omega
  have e2:(List.drop (a'+1) (b::r)).length=(b::r).length-(a'+1):=by rw[Nl]
  unfold nmB;simp only[KI,e1,e2,KH,L_]at l2 l3⊢;omega
 .intro x hx;have:x=b:=by simpa[nmB]using hx.symm
  rw[this];exact h.fst b rfl
 .intro x hx;simp only[nmB,MA,List.mem_singleton]at hx;rcases hx with((hx|hx)|hx)|hx
  .exact h.all x (List.mem_of_mem_take hx)
  .rw[hx];exact OX _ (by decide)
  .rw[hx];exact OX _ (by decide)
  .exact h.all x (List.mem_of_mem_drop hx)
theorem uD:∀{xs ys:List Nat},(∀x∈xs,x<36)->(∀y∈ys,y<36)->xs.map al=ys.map al->xs=ys
 |[],[],_,_,_=>rfl
 |x::xs,y::ys,h1,h2,e=>by
  rw[KW,KW]at e;injection e with e1 e2;rw[HA x (h1 x KO) y (h2 y KO) e1,uD (λz hz=>h1 z (KN _ hz)) (λz hz=>h2 z (KN _ hz)) e2]
theorem tF.inj{bs:List Nat}{a:Nat}(h:tF bs a){i j:Nat}(hi:i<1296)(hj:j<1296)(e:(nmB bs a i).map al=(nmB bs a j).map al):i=j:=by
 have e:=uD (h.ix i).all (h.ix j).all e;unfold nmB at e;rw[Ma,Ma,Ma,Ma]at e;have e:=List.append_cancel_left e;simp only[List.singleton_append,List.cons.injEq]at e;omega
structure NmF(nm:Nat->List Nat):Prop where
 name:∀j,aR (nm j)=true
 len:∀j,(nm j).length<=12
 sg:∀j,∀d∈nm j,33<=d/\d<127
 inj:∀i j,i<1296->j<1296->nm i=nm j->i=j
theorem IV:∀b:Nat,b<36->33<=al b/\al b<127:=by decide
theorem tF.nmF{bs:List Nat}{a:Nat}(h:tF bs a):NmF λj=>(nmB bs a j).map al:=
 ⟨fun j=>(h.ix j).name,fun j=>by rw [KA]; exact (h.ix j).len,fun j d hd=>by
  obtain⟨b,hb,rfl⟩:=List.mem_map.mp hd;exact IV b ((h.ix j).all b hb),λi j hi hj e=>h.inj hi hj e⟩
abbrev mZ(l:List Nat):List Nat:=LR 32 l
def oR(a b:Nat)(d:Bool)(l:List Nat):List Nat:=KB a 32++(if d then mZ l else l)++KB b 32
theorem yO(c:Nat):∀n:Nat,c3 [c] n=KB n c
 |0=>rfl
 |n+1=>by
  rw[kM,yO c n,LV];rfl
theorem uE(n:Nat):Txt.mul (pq " ") (n:Int)=tx (KB n 32):=by
 rw[show(pq " ")=tx [32] by decide,fY,yO]
theorem Am{n:Nat}(h:n<=10):MulOk (pq " ") (n:Int):=by
 rw[show(pq " ")=tx [32] by decide];exact sK (by omega) (by simp)
def m6:List (List Nat)->List (List Nat)->Prop
 |[],[]=>True
 |r::rs,s::ss=>(∃a b d,a<=10/\b<=10/\s=oR a b d r)/\m6 rs ss
 |_,_=>False
theorem Ey(l:List Nat):∃h r,bv 32 l=h::r:=by
 cases e:bv 32 l with
 |nil=>exact absurd e (vX 32 l)
 |cons h r=>exact⟨h,r,rfl⟩
theorem sr{c:Nat}{l h:List Nat}{r:List (List Nat)}(e:bv 32 l=h::r)(n:c≠32):bv 32 (c::l)=(c::h)::r:=by
 rw[ge,if_neg n,e]
theorem lI(l:List Nat):bv 32 (32::l)=[]::bv 32 l:=by rw[ge,if_pos rfl]
theorem An(r:List (List Nat)):neW ([]::r)=neW r:=rfl
theorem CV(l:List Nat):aQ (mZ l)=aQ l:=by
 have key:∀l:List Nat,∃h r r',bv 32 l=h::r/\bv 32 (mZ l)=h::r'/\neW r=neW r':=λl=>by
  induction l with
  |nil=>exact⟨[],[],[],rfl,rfl,rfl⟩
  |cons c l ih =>
   obtain⟨h,r,r',e1,e2,e3⟩:=ih;by_cases hc:c=32
   .subst hc;refine⟨[],h::r,[]::h::r',by rw[lI,e1],?_,?_⟩
    .show bv 32 (LR 32 (32::l))=_;rw[show LR 32 (32::l)=32::32::mZ l from by simp[LR],lI,lI,e2]
    .rw[An];unfold neW at e3⊢;rw[N5,N5,e3]
   .refine⟨c::h,r,r',sr e1 hc,?_,e3⟩;show bv 32 (LR 32 (c::l))=_;rw[show LR 32 (c::l)=c::mZ l from by simp[LR,hc]];exact sr e2 hc
 obtain⟨h,r,r',e1,e2,e3⟩:=key l;unfold aQ;rw[e1,e2];unfold neW at e3⊢;rw[N5,N5,e3]
theorem uF(l:List Nat):∀a:Nat,aQ (KB a 32++l)=aQ l
 |0=>rfl
 |a+1=>by
  rw[LV,Lu];unfold aQ;rw[lI,An];exact uF l a
theorem A5(l:List Nat):aQ (l++[32])=aQ l:=by
 have key:∀l:List Nat,bv 32 (l++[32])=bv 32 l++[[]]:=λl=>by
  induction l with
  |nil=>rfl
  |cons c l ih =>
   rw[Lu];by_cases hc:c=32
   .subst hc;rw[lI,lI,ih];rfl
   .obtain⟨h,r,e⟩:=Ey l;rw[sr (by rw[ih,e];rfl) hc,sr e hc];rfl
 unfold aQ;rw[key];unfold neW;rw[List.filter_append];simp
theorem ww(l:List Nat):∀b:Nat,aQ (l++KB b 32)=aQ l
 |0=>by rw[List.replicate_zero,LF]
 |b+1=>by
  rw[List.replicate_succ',<-Ma,A5];exact ww l b
theorem yP{ws:List (List Nat)}(h:∀t∈ws,32∉t/\t≠[]):aQ (c_ [32] ws)=ws:=by
 by_cases e:ws=[]
 .subst e;rfl
 .unfold aQ;rw[sL 32 ws e λp hp=>(h p hp).1];unfold neW;refine List.filter_eq_self.mpr λw hw=>?_;have:=(h w hw).2;cases w with
  |nil=>exact absurd rfl this
  |cons _ _=>rfl
abbrev JJ:=@oR
theorem wx(a b:Nat)(d:Bool)(l:List Nat):aQ (JJ a b d l)=aQ l:=by
 show aQ (oR a b d l)=_;unfold oR;rw[ww,uF];cases d with
 |true=>exact CV l
 |false=>rfl
theorem Ao(l:List Nat):(mZ l).length<=2*l.length:=by
 induction l with
 |nil=>exact Kz _
 |cons c l ih =>
  by_cases hc:c=32
  .subst hc;show(LR 32 (32::l)).length<=_;rw[show LR 32 (32::l)=32::32::mZ l from by simp[LR]];simp only[KH];omega
  .show(LR 32 (c::l)).length<=_;rw[show LR 32 (c::l)=c::mZ l from by simp[LR,hc]];simp only[KH];omega
theorem m6.snoc{r s:List Nat}(h:∃a b d,a<=10/\b<=10/\s=oR a b d r):∀{rs ss:List (List Nat)},m6 rs ss->m6 (rs++[r]) (ss++[s])
 |[],[],_=>⟨h,trivial⟩
 |_::_,_::_,z=>⟨z.1,z.2.snoc h⟩
def b1(b:Bool):Nat:=if b then 1 else 0
def hB(b:Bool):Nat:=if b then 1 else 0
def e_(c:Nat×Nat×Nat)(l:Int):Nat×Nat×Nat:=if l=1 then(c.1+1,0,0)else if l=2 then(c.1,c.2.1+1,0)else(c.1,c.2.1,c.2.2+1)
def ctr(ls:List Int):Nat×Nat×Nat:=ls.foldl e_ (0,0,0)
def vh(c:Nat×Nat×Nat):List V:=[V.int (c.1:Int),V.int (c.2.1:Int),V.int (c.2.2:Int)]
def vj(c:Nat×Nat×Nat)(l:Int):List Nat:=if l=1 then eh c.1 else if l=2 then eh c.1++[46]++eh c.2.1 else eh c.1++[46]++(eh c.2.1++[46]++eh c.2.2)
def gU(ls:List Int)(i:Nat):List (List Nat):=(Mh i).map λk=>vj (ctr (ls.take (k+1))) (ls.getD k 0)
def nV(n:Nat):V:=V.int (n:Int)
def Ez(ls:List Int):Prop:=∀l∈ls,l=1\/l=2\/l=3
theorem F0{c:Nat×Nat×Nat}{n:Nat}(l:Int)(a:c.1<=n)(b:c.2.1<=n)(d:c.2.2<=n):(e_ c l).1<=n+1/\(e_ c l).2.1<=n+1/\(e_ c l).2.2<=n+1:=by
 obtain⟨x,y,z⟩:=c;dsimp only at a b d;unfold e_;by_cases h:l=1
 .rw[if_pos h];refine⟨?_,?_,?_⟩<;>dsimp only<;>omega
 .rw[if_neg h];by_cases h:l=2
  .rw[if_pos h];refine⟨?_,?_,?_⟩<;>dsimp only<;>omega
  .rw[if_neg h];refine⟨?_,?_,?_⟩<;>dsimp only<;>omega
theorem Ap:∀(ls:List Int)(c:Nat×Nat×Nat)(n:Nat),c.1<=n->c.2.1<=n->c.2.2<=n->(ls.foldl e_ c).1<=n+ls.length/\(ls.foldl e_ c).2.1<=n+ls.length/\(ls.foldl e_ c).2.2<=n+ls.length
 |[],c,n,a,b,d=>⟨a,b,d⟩
 |l::r,c,n,a,b,d=>by
  obtain⟨s1,s2,s3⟩:=F0 l a b d;have:=Ap r (e_ c l) (n+1) s1 s2 s3;rw[O1,KH];omega
theorem lev{z:Int}(h:z=1\/z=2\/z=3)(c:Nat×Nat×Nat){m:Nat}(b1:(e_ c z).1<=m)(b2:(e_ c z).2.1<=m)(b3:(e_ c z).2.2<=m):∃(pre:List V)(k:Int)(cs:List Nat),dQ (vh c) none (some (z-1))=pre/\atI (vh c) (z-1)=some (V.int k)/\pre++[V.int (k+1)]++(KB (3-z).toNat [V.int 0]).flatten=vh (e_ c z)/\pre.length<=2/\(3-z).toNat<=2/\0<=3-z/\3-z<=2/\dQ (vh (e_ c z)) none (some z)=cs.map nV/\cs.length<=3/\(∀n∈cs,n<=m)/\c_ [46] (cs.map eh)=vj (e_ c z) z:=by
 obtain⟨x,y,w⟩:=c;rcases h with rfl|rfl|rfl
 .refine⟨[],x,[x+1],rfl,rfl,rfl,by simp,by decide,by decide,by decide,rfl,by simp,?_,rfl⟩;intro n hn;simp at hn;subst hn;exact b1
 .refine⟨[nV x],y,[x,y+1],rfl,rfl,rfl,by simp,by decide,by decide,by decide,rfl,by simp,?_,rfl⟩;intro n hn;simp at hn;rcases hn with rfl|rfl
  .exact b1
  .exact b2
 .refine⟨[nV x,nV y],w,[x,y,w+1],rfl,rfl,rfl,by simp,by decide,by decide,by decide,rfl,by simp,?_,rfl⟩;intro n hn;simp at hn;rcases hn with rfl|rfl|rfl
  .exact b1
  .exact b2
  .exact b3
theorem CW(ls:List Int):(ctr ls).1<=ls.length/\(ctr ls).2.1<=ls.length/\(ctr ls).2.2<=ls.length:=by
 have:=Ap ls (0,0,0) 0 (Kz _) (Kz _) (Kz _);rw[Nat.zero_add]at this;exact this
theorem EA{ls:List Int}{i:Nat}{z:Int}(h:ls[i]?=some z):ctr (ls.take (i+1))=e_ (ctr (ls.take i)) z:=by
 unfold ctr;rw[cP h,NS];rfl
theorem CY{ls:List Int}{i:Nat}{z:Int}(h:ls[i]?=some z):gU ls (i+1)=gU ls i++[vj (ctr (ls.take (i+1))) z]:=by
 unfold gU;rw[Nb,KQ,Oy,Lk,h];rfl
theorem oS(ls:List Int)(i:Nat):(gU ls i).length=i:=by unfold gU;rw[KA,LQ]
theorem JK:(pq ".")=tx [46]:=by decide
theorem xq{n:Nat}(h:n<=63):(eh n).length<=3:=yg 2 n (by omega)
theorem JL{n:Nat}(h:n<=63):n<10^100:=Le h (by decide)
theorem F3{cs:List Int}{i:Nat}{y:V}(h:(cs.map V.int)[i]?=some y):∃n,y=V.int n/\cs[i]?=some n:=by
 rw[KS]at h;cases e:cs[i]? with
 |none=>rw[e]at h;cases h
 |some w=>rw[e]at h;exact⟨w,(Lm h).symm,rfl⟩
theorem HD{cs:List Nat}{i:Nat}{y:V}(h:(cs.map nV)[i]?=some y):∃n:Nat,y=V.int (n:Int)/\cs[i]?=some n:=by
 rw[KS]at h;cases e:cs[i]? with
 |none=>rw[e]at h;cases h
 |some w=>rw[e]at h;exact⟨w,(Lm h).symm,rfl⟩
theorem yQ:∀(cs:List Nat),(∀n∈cs,n<=63)->(((cs.map eh).map tx).map (·.length)).sum<=3*cs.length
 |[],_=>Kz _
 |n::r,h=>by
  have h1:=yQ r (λm hm=>h m (KN _ hm));have h2:=xq (h n KO);rw[KW,KW,KW,MR,aZ,KH];omega
end K56

namespace K56
open PySem PySem.Spec L2 Tl

def br(cn:Option Nat)(w:List Nat):Mn:=if(cn.isSome&&aP w)=true then plM (w.getD 1 0-48)else wdM w
theorem IW{w:List Nat}(h:aP w=true):∃k,k<10/\w=fZ k:=by
 match w,h with
 |[c,d],h =>
  have h:(decide (c=36)&&isF d)=true:=h;rw[Ly]at h;obtain⟨k,h1,h2⟩:=yJ h.2;have:=of_decide_eq_true h.1;exact⟨k,h1,by rw[this,h2];rfl⟩
theorem yR{cn:Option Nat}{k:Nat}(h:(cn.isSome&&aP (fZ k))=true):br cn (fZ k)=plM k:=by
 unfold br;rw[if_pos h];show plM (48+k-48)=plM k;rw[show 48+k-48=k by omega]
theorem vk(cn:Option Nat)(w:List Nat):(br cn w).1=[w]:=by
 by_cases h:(cn.isSome&&aP w)=true
 .obtain⟨k,hk,rfl⟩:=IW (Bool.and_eq_true_iff.mp h).2;rw[yR h];rfl
 .unfold br;rw[if_neg h];rfl
theorem vm(cn:Option Nat)(w:List Nat):(br cn w).2.2=[]:=by
 unfold br
 split<;>rfl
def yS(H:Hp)(p:Addr)(x:Mn):Prop:=(∃w:List Nat,H p=some (.tup [.str (pq "word"),.str (tx w)])/\x=wdM w)\/∃k:Nat,k<=9/\H p=some (.tup [.str (pq "place"),.int (k:Int)])/\x=plM k
theorem yS.nd{H:Hp}{os:List Addr}{p:Addr}{x:Mn}(h:yS H p x)(hp:p∉os)(d:Nat):NdW (erL H os) (d+1) (.ref p) x:=by
 rcases h with⟨w,h,rfl⟩|⟨k,h0,h1,rfl⟩
 .exact⟨p,rfl,.inl ⟨w,gg hp h,rfl⟩⟩
 .exact⟨p,rfl,.inr (.inl ⟨k,h0,gg hp h1,rfl⟩)⟩
abbrev PSt:=List (Wd0×List DD×List DD)×List DD
def bW(n:Wd0)(xs:List DD):DD:=.tup [.str (pq "call"),.str (tx n),.lst xs]
def bu(cn:Option Nat)(st:PSt)(w:Wd0):PSt:=if opn w=true then((w.tail,[],st.2)::st.1,[])else match st.1 with
 |[]=>([],st.2++[(br cn w).2.1])
 |f::r=>if w=bE then((f.1,f.2.1++[.lst st.2],f.2.2)::r,[])else if w=aJ then(r,f.2.2++[bW f.1 (if(f.2.1.isEmpty&&st.2.isEmpty)=true then[]else f.2.1++[.lst st.2])])else(f::r,st.2++[(br cn w).2.1])
def bM(cn:Option Nat)(ws:List Wd0):PSt:=ws.foldl (bu cn) ([],[])
theorem A6(cn:Option Nat)(ws:List Wd0)(w:Wd0):bM cn (ws++[w])=bu cn (bM cn ws) w:=by
 unfold bM;rw[NS];rfl
theorem fL{cn:Option Nat}{ws:List Wd0}{k:Nat}{w:Wd0}(h:ws[k]?=some w):bM cn (ws.take (k+1))=bu cn (bM cn (ws.take k)) w:=by
 rw[Lb,h];exact A6 cn _ w
section
variable {cn:Option Nat}{s:List (Wd0×List DD×List DD)}{f:Wd0×List DD×List DD}{cur:List DD}{w n:Wd0}
theorem A8(h:opn (91::n)=true):bu cn (s,cur) (91::n)=((n,[],cur)::s,[]):=by
 unfold bu;rw[if_pos h];rfl
theorem CZ(h:opn bE=false):bu cn (f::s,cur) bE=((f.1,f.2.1++[.lst cur],f.2.2)::s,[]):=by
 unfold bu;rw[if_neg (by rw[h];decide)];show(if bE=bE then _ else _)=_;rw[if_pos rfl]
theorem C0(h:opn aJ=false):bu cn (f::s,cur) aJ=(s,f.2.2++[bW f.1 (if(f.2.1.isEmpty&&cur.isEmpty)=true then[]else f.2.1++[.lst cur])]):=by
 unfold bu;rw[if_neg (by rw[h];decide)];show(if aJ=bE then _ else if aJ=aJ then _ else _)=_;rw[if_neg (by decide),if_pos rfl]
theorem A9(h:opn w=false)(h2:s=[]\/(w≠bE/\w≠aJ)):bu cn (s,cur) w=(s,cur++[(br cn w).2.1]):=by
 unfold bu;rw[if_neg (by rw[h];decide)];rcases h2 with rfl|⟨h2,h3⟩
 .rfl
 .cases s with
  |nil=>rfl
  |cons f r =>
   show(if w=bE then _ else if w=aJ then _ else _)=_;rw[if_neg h2,if_neg h3]
end
def frP(f:Fr):Wd0×List DD×List DD:=(f.n,mD f.wss,mD f.wn)
def pst(fs:List Fr)(wn:List Mn):PSt:=((fs.map frP).reverse,mD wn)
theorem oU(fs:List Fr)(f:Fr)(wn:List Mn):pst (fs++[f]) wn=(frP f::(fs.map frP).reverse,mD wn):=by
 unfold pst;rw[KQ,List.reverse_append];rfl
theorem EB{cn:Option Nat}{fs:List Fr}{wn:List Mn}{n:Wd0}(h:opn (91::n)=true)(t A cur:Addr)(vs:List V):bu cn (pst fs wn) (91::n)=pst (fs++[⟨t,A,cur,n,[],[],vs,wn⟩]) []:=by
 rw[oU];exact A8 h
theorem F4{cn:Option Nat}{fs:List Fr}{f:Fr}{wn:List Mn}(h:opn bE=false)(cur:Addr):bu cn (pst (fs++[f]) wn) bE=pst (fs++[{ f with als:=f.als++[cur],wss:=f.wss++[lsM cur wn] }]) []:=by
 rw[oU,oU,CZ h];unfold frP;rw[ur];rfl
theorem C1{xs:List Mn}:(mD xs).isEmpty=xs.isEmpty:=by cases xs<;>rfl
theorem wy{cn:Option Nat}{fs:List Fr}{f:Fr}{wn wss':List Mn}(h:opn aJ=false)(A cur:Addr)(hw:(wss'=f.wss++[lsM cur wn]/\¬ (f.wss=[]/\wn=[]))\/(wss'=[]/\f.wss=[]/\wn=[])):bu cn (pst (fs++[f]) wn) aJ=pst fs (f.wn++[clM f.n A wss']):=by
 rw[oU,C0 h];unfold pst;rw[ur];refine congrArg (λz=>((fs.map frP).reverse,mD f.wn++[bW f.n z])) ?_;show(if((mD f.wss).isEmpty&&(mD wn).isEmpty)=true then[]else mD f.wss++[.lst (mD wn)])=mD wss';rw[C1,C1];rcases hw with⟨rfl,h2⟩|⟨rfl,h2,h3⟩
 .rw[if_neg,ur]
  .rfl
  .intro z;rw[Ly]at z;exact h2 ⟨List.isEmpty_iff.mp z.1,List.isEmpty_iff.mp z.2⟩
 .rw[h2,h3];rfl
theorem tG{cn:Option Nat}{fs:List Fr}{wn:List Mn}{w:Wd0}(h:opn w=false)(h2:fs=[]\/(w≠bE/\w≠aJ)):bu cn (pst fs wn) w=pst fs (wn++[br cn w]):=by
 unfold pst;rw[A9 h (by
  rcases h2 with rfl|h2
  .exact .inl rfl
  .exact .inr h2),ur]
 rfl

def Wf(P:Wd0->Prop):Nat->DD->Prop
 |0,_=>False
 |d+1,x=>(∃w,P w/\x=wdD w)\/(∃k,x=plD k)\/∃n as,x=clD n as/\(∀a,as=[a]->a≠[])/\∀a∈as,∀y∈a,Wf P d y
mutual
def muD:DD->Nat
 |.bl _=>0
 |.int _=>0
 |.str _=>0
 |.tup l=>1+muL l
 |.lst l=>1+muL l
def muL:List DD->Nat
 |[]=>0
 |d::l=>muD d+muL l
end
def PlW(w:Wd0):Prop:=WOk w/\∀c∈w,c≠36/\c≠91/\c≠93/\c≠124
def nm(ns:List (List Nat))(i:Nat):List Nat:=ns.getD i []

theorem md(x k:Nat):x%(if 0<k then 36 else 26)<36:=by
 by_cases h:0<k
 .rw[if_pos h];omega
 .rw[if_neg h];omega
def MOk(M:List (Wd0×Nat)):Prop:=M.length<=40/\∀x∈M,x.1.length<=12/\(∀c∈x.1,c<127)/\x.2<=10
structure jE(S:List Sh):Prop where
 nd:(S.map Sh.n).Nodup
 len:S.length<=4
 row:∀s∈S,s.r.length=s.c+1
 c9:∀s∈S,s.c<=9
 nam:∀s∈S,s.n.length<=12/\∀c∈s.n,c<127
 r4:∀s∈S,∀y∈s.r,0<=y/\y<=400
 nod:∀s∈S,s.ns.length<=200/\∃M,∀x∈s.ns,Nd M s.c 12 x
 x:ShX S
 k6:∀s∈S,0<=s.k/\s.k<=60
 isn:∀s∈S,aR s.n=true
 eqk:∀s∈S,s.k=bo S 12 s.ns
 wf:∀s∈S,∀x∈s.ns,Wf PlW 12 x
 mu:∀s∈S,muL s.ns<=780
theorem F5{S:List Sh}{x:Str}{s:Sh}(h:shF S x=some s):s∈S/\tx s.n=x:=by
 unfold shF at h;exact⟨No h,by simpa using O3 h⟩
def tH(K:KC)(H:Hp)(na:Addr)(S:List Sh):Prop:=∃kvs:List (Key×V),H na=some (.dK kvs)/\∀x:Str,(shF S x=none->b8 kvs (.inr x)=none)/\∀s,shF S x=some s->∃v,b8 kvs (.inr x)=some v/\Rep K H (shD s) v
theorem tH.mono{K:KC}{H H':Hp}{na:Addr}{S:List Sh}(s:ar H H')(h:tH K H na S):tH K H' na S:=by
 obtain⟨kvs,h1,h2⟩:=h;exact⟨kvs,s _ _ h1,λx=>⟨(h2 x).1,λt e=>by obtain⟨v,a1,a2⟩:=(h2 x).2 t e;exact⟨v,a1,a2.mono s⟩⟩⟩
theorem uG{α:Type}(f:α->Nat){l:List α}{k:Nat}{x:α}(e:l[k]?=some x)(h:bB ((l.take k).map f)=0)(hx:f x≠0):bB (l.map f)=f x:=by
 have h1:l=l.take k++(x::l.drop (k+1)):=by
  conv=>lhs;rw[<-NU k l]
  rw[Mc (List.getElem?_eq_some_iff.mp e).1,(List.getElem?_eq_some_iff.mp e).2]
 rw[h1,KQ,tf,h,if_pos rfl,KW];show(if f x=0 then _ else f x)=f x;rw[if_neg hx]
theorem oV{α:Type}(f:α->Nat){l:List α}{k:Nat}{x:α}(e:l[k]?=some x)(h:bB ((l.take k).map f)=0)(hx:f x=0):bB ((l.take (k+1)).map f)=0:=by
 rw[Lb,e,KQ,tf,h,if_pos rfl];show(if f x=0 then 0 else f x)=0;rw[if_pos hx]
theorem EC(c:Nat):(KB ((c:Int)+1).toNat [V.int 0]).flatten=(rwL (λ_=>0) c).map V.int:=by
 rw[G0,show((c:Int)+1).toNat=c+1 by omega];unfold rwL;rw[Mt];refine List.ext_getElem? λi=>?_;rw[NF,KS];by_cases hi:i<c+1
 .rw[if_pos hi,Nr hi];rfl
 .rw[if_neg hi,MD (by rw[LQ];omega)];rfl
theorem ED{S:List Sh}{c d k:Nat}{xs:List DD}{w:Wd0}(e:xs[k]?=some (wdD w)):(rwL (λi=>if i=0 then((xs.take k).map (szR S 0 (d+1))).sum+1 else((xs.take k).map (szR S i (d+1))).sum) c)=cL S c (d+1) (xs.take (k+1)):=kO λj _=>by
 rw[jZ _ e,AV];by_cases h:j=0
 .rw[if_pos h,if_pos h,h]
 .rw[if_neg h,if_neg h];omega
theorem C2{S:List Sh}{c d k p:Nat}{xs:List DD}(e:xs[k]?=some (plD p)):(rwL (λi=>if i=p then((xs.take k).map (szR S p (d+1))).sum+1 else((xs.take k).map (szR S i (d+1))).sum) c)=cL S c (d+1) (xs.take (k+1)):=kO λj _=>by
 rw[jZ _ e,AW];by_cases h:j=p
 .rw[if_pos h,if_pos h.symm,h]
 .rw[if_neg h,if_neg (λz=>h z.symm)];omega
theorem E_{s:Sh}{j:Nat}(h:j<s.r.length):s.r[j]?=some (s.r.getD j 0):=by
 rw[Lk,KM h];rfl
theorem C3:¬ V.str (pq "place")=V.str (pq "word"):=λz=>absurd (V.str.inj z) (by decide)
theorem C4:¬ V.str (pq "call")=V.str (pq "word"):=λz=>absurd (V.str.inj z) (by decide)
theorem C5:¬ V.str (pq "call")=V.str (pq "place"):=λz=>absurd (V.str.inj z) (by decide)
theorem HE:¬ V.str (pq "word")=V.str (pq "call"):=λz=>absurd (V.str.inj z) (by decide)
theorem HF:¬ V.str (pq "place")=V.str (pq "call"):=λz=>absurd (V.str.inj z) (by decide)
theorem uH:MN "ValueError" = some (.type "ValueError"):=by decide
theorem yT(k:Key):∀(kvs m:List (Key×V)),(kvs.map O9).Nodup->b8 (kvs.foldl (λm kv=>fh m kv.1 kv.2) m) k=match kvs.find? (λkv=>decide (kv.1=k))with
  |some kv=>some kv.2
  |none=>b8 m k
 |[],m,_=>rfl
 |kv::r,m,hn=>by
  rw[KW,Nz]at hn;show b8 (r.foldl (λm kv=>fh m kv.1 kv.2) (fh m kv.1 kv.2)) k=_;rw[yT k r _ hn.2,DL,Mz];by_cases e:kv.1=k
  .have hf:r.find? (λkv=>decide (kv.1=k))=none:=List.find?_eq_none.mpr λx hx z=>hn.1 (by
    have z:x.1=k:=of_decide_eq_true z;rw[e,<-z];exact List.mem_map.mpr ⟨x,hx,rfl⟩)
   rw[hf,decide_eq_true e];show(if k=kv.1 then some kv.2 else _)=some kv.2;rw[if_pos e.symm]
  .rw[decide_eq_false e,if_neg (λz=>e z.symm)]

theorem C6:∀ys:List (List Wd0),ys.length<=(eJ ys).length+1
 |[]=>Ls _
 |[x]=>by simp
 |x::y::r=>by
  have:=C6 (y::r);show _<=(x++bE::eJ (y::r)).length+1;simp only[KI,KH]at this⊢;omega
theorem C7:∀{ys:List (List Wd0)}{y:List Wd0},y∈ys->y.length<=(eJ ys).length
 |[x],y,h=>by rw[List.mem_singleton.mp h];exact Kz _
 |x::z::r,y,h=>by
  show _<=(x++bE::eJ (z::r)).length;rw[KI,KH];rcases List.mem_cons.mp h with rfl|h
  .omega
  .have:=C7 h;omega
theorem C8{xs:List Mn}{x:Mn}(h:x∈xs):x.1.length<=(mW xs).length:=by
 induction xs with
 |nil=>cases h
 |cons a r ih =>
  have e:mW (a::r)=a.1++mW r:=rfl;rw[e,KI];rcases List.mem_cons.mp h with rfl|h
  .omega
  .have:=ih h;omega
theorem F6(n:Wd0)(l:Addr)(ys:List Mn):(clM n l ys).1.length=(eJ (ys.map λy=>y.1)).length+2:=by
 show((91::n)::(eJ (ys.map λy=>y.1)++[aJ])).length=_;rw[KH,KI,Li]
theorem Aq{K:KC}{H:Hp}{P:V->Mn->Prop}{vs:List V}{xs:List Mn}(h:di P vs xs)(f:∀v x,x∈xs->P v x->Rep K H x.2.1 v):aB K H (mD xs) vs:=by
 induction h with
 |nil=>unfold mD aB;rfl
 |cons h1 _ ih =>
  show aB K H (_::mD _) _;unfold aB;exact⟨_,_,rfl,f _ _ KO h1,ih λv x hx=>f v x (KN _ hx)⟩
theorem EE{K:KC}{H:Hp}{P:Addr->Mn->Prop}{als:List Addr}{xs:List Mn}(h:di P als xs)(f:∀v x,x∈xs->P v x->Rep K H x.2.1 (.ref v)):aB K H (mD xs) (als.map V.ref):=by
 induction h with
 |nil=>unfold mD aB;rfl
 |cons h1 _ ih =>
  show aB K H (_::mD _) (V.ref _::_);unfold aB;exact⟨_,_,rfl,f _ _ KO h1,ih λv x hx=>f v x (KN _ hx)⟩
theorem yU(xs:List Mn):(mD xs).length=xs.length:=KA _
theorem tI{K:KC}{H:Hp}{a:Addr}{vs:List V}{l:List DD}(h:H a=some (.lst vs))(hl:l.length<=1000)(r:aB K H l vs):Rep K H (.lst l) (.ref a):=by
 unfold Rep;exact⟨a,vs,rfl,SqL.of h,hl,r⟩
theorem NdW.rep{K:KC}{H:Hp}:∀{d:Nat}{v:V}{x:Mn},NdW H d v x->x.1.length<=900->Rep K H x.2.1 v
 |d+1,v,x,h,hl=>by
  obtain⟨a,rfl,hq⟩:=h.out;rcases hq with⟨w,h1,rfl⟩|⟨k,h0,h1,rfl⟩|⟨n,l,als,ys,h0,h1,h2,h3,h4,rfl⟩
  .show Rep K H (.tup [.str _,.str _]) _;unfold Rep;refine⟨a,_,rfl,SqT.of h1,by simp,?_⟩;unfold aB;refine⟨_,_,rfl,by unfold Rep;rfl,?_⟩;unfold aB;refine⟨_,_,rfl,by unfold Rep;rfl,?_⟩;unfold aB;rfl
  .show Rep K H (.tup [.str _,.int _]) _;unfold Rep;refine⟨a,_,rfl,SqT.of h1,by simp,?_⟩;unfold aB;refine⟨_,_,rfl,by unfold Rep;rfl,?_⟩;unfold aB;refine⟨_,_,rfl,by unfold Rep;rfl,?_⟩;unfold aB;rfl
  .rw[F6]at hl;have hc:=C6 (ys.map λy=>y.1);rw[KA]at hc;show Rep K H (.tup [.str _,.str _,.lst (mD ys)]) _;unfold Rep;refine⟨a,_,rfl,SqT.of h1,by simp,?_⟩;unfold aB;refine⟨_,_,rfl,by unfold Rep;rfl,?_⟩;unfold aB;refine⟨_,_,rfl,by unfold Rep;rfl,?_⟩;unfold aB;refine⟨_,_,rfl,tI h2 (by rw[yU];omega) (EE h4 λal y hy q=>?_),?_⟩
   .obtain⟨vs,xs,k1,k2,rfl⟩:=q;have hm:=C7 (List.mem_map.mpr ⟨_,hy,rfl⟩:(lsM al xs).1∈ys.map λy=>y.1);have hm:(mW xs).length<=(eJ (ys.map λy=>y.1)).length:=hm;have hv:=oH (λ_ _ z=>NdW.ne z) k2;have hv2:=k2.len;exact tI k1 (by rw[yU];omega) (Aq k2 λv x hx q=>NdW.rep q (by have:=C8 hx;omega))
   .unfold aB;rfl
theorem yV{K:KC}{H:Hp}{na:Addr}{vs:List V}{xs:List Mn}(h:H na=some (.lst vs))(aw:di (NdW H 21) vs xs)(hl:(mW xs).length<=900):Rep K H (.lst (mD xs)) (.ref na):=by
 have h1:=oH (λ_ _ z=>NdW.ne z) aw;have h2:=aw.len;exact tI h (by rw[yU];omega) (Aq aw λv x hx q=>NdW.rep (d:=21) q (by have:=C8 hx;omega))
def rfN(S:List Sh)(d:Nat)(xs:List DD):Nat:=if wrL S d xs=0 then(if 400<(xs.map (szR S 0 d)).sum\/400<bo S d xs then 3 else 0)else if wrL S d xs=1 then 1 else 2
def rfM(S:List Sh)(c d:Nat)(xs:List DD):Nat:=if wrL S d xs=0 then(if mis c d xs=true then 2 else if 400<(cL S c d xs).sum\/60<bo S d xs then 3 else 0)else if wrL S d xs=1 then 1 else 2
theorem C9(l:List Int):(l.map V.int).all dU=true:=List.all_eq_true.mpr λx hx=>by
 obtain⟨i,_,rfl⟩:=List.mem_map.mp hx;rfl
theorem Ar:∀l:List Int,inV (.int 0) (l.map V.int)=l.any λy=>decide (y=0)
 |[]=>rfl
 |y::l=>by
  show(eqV (.int y) (.int 0)||inV (.int 0) (l.map V.int))=_;rw[Ar l,MG];refine congrArg (λb=>b||_) ?_;show(y==0)=decide (y=0);rfl
theorem IY(v:V)(us:List V):dQ (v::us) (some 1) none=us:=by
 have h1:HT.sIx (v::us).length 0 (some 1)=1:=by
  show(if(1:Int)<0 then((1:Int)+((v::us).length:Int)).toNat else min (1:Int).toNat (v::us).length)=1;rw[if_neg (by decide),KH];show min 1 (us.length+1)=1;omega
 have h2:HT.sIx (v::us).length (v::us).length none=(v::us).length:=rfl;unfold dQ;rw[h1,h2];simp
inductive Er where
 |badrow|badcall|noshort|twice|badword|toolong|deep
 deriving DecidableEq
def Er.i:Er->Nat
 |.badrow=>0
 |.badcall=>1
 |.noshort=>2
 |.twice=>3
 |.badword=>4
 |.toolong=>5
 |.deep=>6
def HG(K:KC)(xs ys:List Addr)(t:Addr):Bool:=xs.zipIdx.all λp=>um K p.1&&NP K (.ref p.1) (.ref t)==some true&&Nj K (.ref p.1) (.type "ValueError")==some true&&ys.zipIdx.all λq=>Nj K (.ref p.1) (.ref q.1)==some (decide (p.2=q.2))
structure JM(K:KC)(ys:List Addr)(t x:Addr)(i:Nat):Prop where
 lk:um K x=true
 tk:xi K x t
 ve:Nj K (.ref x) (.type "ValueError")=some true
 ki:∀(j:Nat) y,ys[j]?=some y->Nj K (.ref x) (.ref y)=some (decide (i=j))
theorem HI{K:KC}{xs ys:List Addr}{t x:Addr}{i:Nat}(h:HG K xs ys t=true)(hx:xs[i]?=some x):JM K ys t x i:=by
 have hm:(x,i)∈xs.zipIdx:=List.mem_zipIdx_iff_getElem?.mpr hx;have g:=List.all_eq_true.mp h _ hm;simp only[Ly,beq_iff_eq]at g;obtain⟨⟨⟨a,b⟩,c⟩,d⟩:=g;exact⟨a,b,c,λj y hy=>Pc (List.all_eq_true.mp d (y,j) (List.mem_zipIdx_iff_getElem?.mpr hy))⟩
theorem yW(s:Str):tx s.cps.toList=s:=rfl
theorem bA{a b:Str}{i j:Nat}(ha:a.length<=i)(hb:b.length<=j):(a++b).length<=i+j:=by
 rw[<-yW a,<-yW b,cB,aZ,KI,<-aZ,<-aZ];exact Nat.add_le_add ha hb
theorem sA{a b i j:Nat}(ha:a<=i)(hb:b<=j)(h:i+j<=1000):a+b<=KP:=Md (aF (Ln (Nat.add_le_add ha hb) h))
theorem gr{s:Str}{i n:Nat}(h:s.length<=i)(h1:i<=100)(h2:n<=100000):MulOk s (n:Int):=sK (l:=s.cps.toList) h2 (Ln (show s.cps.toList.length<=i by rw[<-aZ];exact h) h1)
theorem cW{s:Str}{i n:Nat}(h:s.length<=i):(Txt.mul s (n:Int)).length<=n*i:=by
 rw[<-yW s,fY,aZ,yb,<-aZ];exact Nat.mul_le_mul_left _ h
end K56
namespace K56
open PySem PySem.Spec L2 Tl

theorem lts{t:TS}{D:dS}{σ:St}{H:Hp}(k:let D':=D;let s':=σ;t D' s' H):t D σ H:=k
local macro_rules | `(tactic| refine ⟨$a,$as,*⟩)=>`(tactic| ((try (refine lts ?_; intro _ _)); refine (⟨$a,$as,*⟩)))
local macro_rules | `(tactic| exact ⟨$a,$as,*⟩)=>`(tactic| ((try (refine lts ?_; intro _ _)); exact (⟨$a,$as,*⟩)))
local macro_rules | `(tactic| walk_at "c")=>`(tactic| exact (⟨rfl,rfl,rfl,by decide,rfl,by decide,by decide⟩))
theorem cxK{CX:CXT}{P:K8}{w:K_}{K:KC}{mg:Str->Option KG}{base:Heap}{N:List Str}{q:Str}{sc:Scope}{f:Addr}{cd:KG}{A:LC}{o:List Env}{s:KJ}{H:Hp}{E:XK}:(lP CX P w K mg base N q sc f cd A o s H E).K=K:=rfl
abbrev rF(a:Addr):Option V:=some (.ref a)
local macro_rules | `(tactic| left)=>`(tactic| refine DQ ?_)
local macro_rules | `(tactic| right)=>`(tactic| refine x5 ?_)
local macro_rules | `(tactic| exists 1)=>`(tactic| refine ⟨_,rfl,rfl,_,rfl,?_⟩)
theorem nwE{H G:Hp}{p:Addr}{o:HO}(h:H p=none)(e:upd H p o=G):ar H G/\G p=some o:=e▸⟨am h o,ah⟩
theorem iT{p:Prop}{d:Decidable p}{a b:Prop}(h:p)(k:a):if decide p=true then a else b:=by rw[decide_eq_true h];exact k
theorem iF{p:Prop}{d:Decidable p}{a b:Prop}(h:¬p)(k:b):if decide p=true then a else b:=by rw[decide_eq_false h];exact k
theorem nT{p:Prop}{d:Decidable p}{a b:Prop}(h:¬p)(k:a):if(!decide p)=true then a else b:=by rw[decide_eq_false h];exact k
theorem nF{p:Prop}{d:Decidable p}{a b:Prop}(h:p)(k:b):if(!decide p)=true then a else b:=by rw[decide_eq_true h];exact k
local macro_rules | `(tactic| exists $h:term,$G:ident,$s:ident,$k:ident)=>`(tactic| (generalize e:upd _ _ _ = $G; obtain ⟨$s,$k⟩:=nwE $h e; clear e))
theorem hM{j k:Nat}{A:LC}(r:cg k A)(h:j<=k:=by decide):cg j A:=r.mono h
set_option hygiene false in
local macro_rules | `(tactic| exists $f:term,$sc:term)=>`(tactic| (refine $f $sc (fun vs H Q E h=>?_) (fun cdv A outer s H vs Q E hr h=>?_); (cases h; subst_vars; rfl)))
local macro_rules | `(tactic| exists $t:term)=>`(tactic| (refine ⟨_,$t,?_⟩; try dsimp only [cxK]))
local macro_rules | `(tactic| omega)=>`(tactic| lia)
set_option genInjectivity false in
structure AdD where
 (tU:Addr)(rJ:KY)(nC:Addr)(mv:KY)(pB:Addr)(nJ:KY)(mh:Addr)(le:KY)(nD:Addr)(mx:KY)(mi:Addr)(lg:KY)(rC:Addr)(pI:KY)(vK:Addr)(tY:KY)(nB:Addr)(mt:KY)(tV:Addr)(rK:KY)(tW:Addr)(rL:KY)(tX:Addr)(rM:KY)(mf:Addr)(lc:KY)(mj:Addr)(li:KY)(k9:Addr)(kj:KY)(fU:Addr)(fE:KY)(iS:Addr)(il:KY)(h_:Addr)(gJ:KY)(iU:Addr)(im:KY)(jh:Addr)(iV:KY)(iQ:Addr)(ij:KY)(iR:Addr)(ik:KY)(ic:Addr)(gM:KY)(ia:Addr)(gK:KY)(ib:Addr)(gL:KY)(gF:Addr)(fX:KY)(k8:Addr)(kg:KY)(hV:Addr)(gG:KY)(gD:Addr)(fV:KY)(rA:Addr)(pG:KY)(rB:Addr)(pH:KY)(rq:Addr)(pF:KY)(kc:Addr)(jS:KY)(k_:Addr)(km:KY)(jR:Addr)(ja:KY)(kD:Addr)(jT:KY)(rE:Addr)(pK:KY)(ie:Addr)(gN:KY)(rD:Addr)(pJ:KY)(mq:Addr)(lj:KY)(lb:Addr)(ko:KY)(rH:Addr)(pM:KY)(hZ:Addr)(gI:KY)(hX:Addr)(gH:KY)(ny:Addr)(mr:KY)(pz:Addr)(mR:KY)(rG:Addr)(pL:KY)(nG:Addr)(mz:KY)(iO:Addr)(ig:KY)(gE:Addr)(fW:KY)(iP:Addr)(ii:KY)(pE:Addr)(nM:KY)(nH:Addr)(mB:KY)(nI:Addr)(mC:KY)(nE:Addr)(my:KY)(pC:Addr)(nK:KY)(BH:Addr)(uO:KY)(bJ:Addr)(aL:Addr)(cF:Addr)(ka:Addr)(jq:Addr)(lZ:Addr)(eB:Addr)(eC:Addr)(dr:Addr)(cG:Addr)(jP:Addr)(d_:Addr)
set_option genInjectivity false in
structure Adr extends AdD where
 (jo jp eK dq eQ:Addr)
structure TxD(K:KC)(mg:Str->Option KG)(a:AdD):Prop where
 bq:mK K mg "Reader" a.bJ
 dC:df K a.bJ "shorts"
 fH:df K a.bJ "feet"
 eF:df K a.bJ "things"
 c7:df K a.bJ "going_on"
 aG:mK K mg "Setter" a.aL
 iW:df K a.aL "numbers"
 ji:df K a.aL "titles"
 ku:df K a.aL "feet"
 kS:df K a.aL "feet_set"
 cx:df K a.aL "words"
 dm:df K a.aL "marks"
 eU:df K a.aL "heads"
 cN:df K a.aL "leap"
 c8:df K a.aL "behind_head"
 bK:bR K mg "_law_draw" (top 58) ["cell","k","many"] a.tU a.rJ
 ng:bR K mg "_law_no_call" (top 62) ["cell","short","fresh"] a.nC a.mv
 ph:bR K mg "_law_no_row" (top 61) ["cell","short","foot","fresh"] a.pB a.nJ
 l7:bR K mg "_law_no_short" (top 63) ["cell","short","fresh"] a.mh a.le
 ni:bR K mg "_law_no_word" (top 65) ["cell","short","foot","fresh"] a.nD a.mx
 l8:bR K mg "_law_too_long" (top 66) ["cell","short","fresh"] a.mi a.lg
 rh:bR K mg "_law_twice" (top 64) ["cell","short","foot","fresh"] a.rC a.pI
 vJ:bR K mg "_law_bad" (top 67) ["cell","short","foot","fresh"] a.vK a.tY
 m_:bR K mg "_law_cell_at" (top 57) ["script","k"] a.nB a.mt
 tR:bR K mg "_law_form" (top 59) ["cell"] a.tV a.rK
 tS:bR K mg "_law_good" (top 68) ["cell","short"] a.tW a.rL
 tT:bR K mg "_law_name" (top 60) ["cell","j"] a.tX a.rM
 jQ:bR K mg "figures_of" (top 20) ["number"] a.mf a.lc
 l9:bR K mg "numbers_of" (top 23) ["levels"] a.mj a.li
 kX:cO K a.aL "__init__" "Setter.__init__" (aH 55 0) ["self","all_heads","feet"] a.k9 a.kj
 fT:cO K a.aL "check_marks" "Setter.check_marks" (aH 55 8) ["self"] a.fU a.fE
 iM:cO K a.aL "set_mark" "Setter.set_mark" (aH 55 5) ["self","name"] a.iS a.il
 g9:cO K a.aL "next_foot" "Setter.next_foot" (aH 55 7) ["self","name"] a.h_ a.gJ
 iN:cO K a.aL "set_word" "Setter.set_word" (aH 55 6) ["self","lead","word"] a.iU a.im
 dB:cO K a.aL "set_run" "Setter.set_run" (aH 55 4) ["self","lead","words","by_head"] a.jh a.iV
 iK:cO K a.aL "set_head" "Setter.set_head" (aH 55 2) ["self","k"] a.iQ a.ij
 iL:cO K a.aL "set_list" "Setter.set_list" (aH 55 3) ["self"] a.iR a.ik
 hJ:cO K a.aL "set_thing" "Setter.set_thing" (aH 55 1) ["self","thing"] a.ic a.gM
 g_:cO K a.aL "number_at" "Setter.number_at" (aH 55 11) ["self","k"] a.ia a.gK
 eS:cO K a.aL "saying_of" "Setter.saying_of" (aH 55 10) ["self","word"] a.ib a.gL
 gC:cO K a.aL "words_told" "Setter.words_told" (aH 55 9) ["self"] a.gF a.fX
 kW:cO K a.bJ "__init__" "Reader.__init__" (aH 49 0) ["self"] a.k8 a.kg
 dI:cO K a.bJ "add_thing" "Reader.add_thing" (aH 49 6) ["self","thing"] a.hV a.gG
 gz:cO K a.bJ "read_alone" "Reader.read_alone" (aH 49 4) ["self","words"] a.gD a.fV
 jr:bR K mg "is_name" (top 19) ["word"] a.rA a.pG
 rg:bR K mg "kind_of" (top 21) ["word"] a.rB a.pH
 mP:bR K mg "by_name" (top 39) ["shorts"] a.rq a.pF
 fD:bR K mg "short_called" (top 40) ["named","call"] a.kc a.jS
 gb:bR K mg "sum_of_rows" (top 42) ["row","other","times"] a.k_ a.km
 eD:bR K mg "size_among" (top 41) ["named","nodes","count"] a.jR a.ja
 e9:bR K mg "words_out" (top 43) ["named","nodes","arguments"] a.kD a.jT
 rm:bR K mg "put_out" (top 38) ["shorts","nodes"] a.rE a.pK
 hU:bR K mg "looks_like_place" (top 31) ["word"] a.ie a.gN
 rk:bR K mg "node_of" (top 30) ["word","count"] a.rD a.pJ
 l_:bR K mg "opens_call" (top 28) ["word"] a.mq a.lj
 kY:bR K mg "with_closed" (top 29) ["call","last"] a.lb a.ko
 mQ:qy K mg "tree_of" (top 26) ["words","count"] a.rH a.pM .none
 dJ:cO K a.bJ "words_out" "Reader.words_out" (aH 49 7) ["self","words","barred"] a.hZ a.gI
 gZ:cO K a.bJ "read_foot" "Reader.read_foot" (aH 49 3) ["self","words"] a.hX a.gH
 m8:bR K mg "is_figure" (top 50) ["word"] a.ny a.mr
 kb:bR K mg "copied" (top 27) ["nodes"] a.pz a.mR
 rp:qy K mg "size_of" (top 36) ["shorts","nodes","count"] a.rG a.pL (.int 0 477)
 nq:bR K mg "new_short" (top 37) ["shorts","name","count","nodes"] a.nG a.mz
 iI:cO K a.bJ "read_let" "Reader.read_let" (aH 49 2) ["self","words"] a.iO a.ig
 gB:cO K a.bJ "read_words" "Reader.read_words" (aH 49 5) ["self","words"] a.gE a.fW
 iJ:cO K a.bJ "read_row" "Reader.read_row" (aH 49 1) ["self","words"] a.iP a.ii
 pj:bR K mg "words_in" (top 18) ["row"] a.pE a.nM
 nu:bR K mg "read_rows" (top 48) ["rows"] a.nH a.mB
 nv:bR K mg "set_words" (top 54) ["rows","form"] a.nI a.mC
 nj:bR K mg "_law_refusal" (top 69) ["rows","form"] a.nE a.my
 pi:bR K mg "_law_spaced" (top 70) ["rows","first"] a.pC a.nK
 xu:bR K mg "law" (top 71) ["script"] a.BH a.uO
 rO:mg "ValueError" = none
 Fc:mg "all" = none
 Ds:mg "dict" = none
 gp:mg "enumerate" = none
 BI:mg "int" = none
 cI:mg "isinstance" = none
 cQ:mg "len" = none
 Dt:mg "list" = none
 xw:mg "max" = none
 vL:mg "range" = none
 Fd:mg "str" = none
 Fe:mg "sum" = none
 Ff:mg "zip" = none
 jt:i8 K mg "BadCall" a.cF
 kx:i8 K mg "BadRow" a.ka
 mS:i8 K mg "BadWord" a.jq
 zq:i8 K mg "Deep" a.lZ
 tZ:i8 K mg "NoFoot" a.eB
 pO:i8 K mg "NoMark" a.eC
 rN:i8 K mg "NoShort" a.dr
 ju:i8 K mg "TooLong" a.cG
 mT:i8 K mg "TrueleafError" a.jP
 oA:i8 K mg "Twice" a.d_
 kits:HG K [a.ka,a.cF,a.dr,a.d_,a.jq,a.cG,a.lZ] [a.ka,a.cF,a.dr,a.d_,a.jq,a.cG,a.lZ,a.eB,a.eC] a.jP=true
structure Txt(P:K8)(w:K_)(K:KC)(mg:Str->Option KG)(a:Adr):Prop extends TxD K mg a.toAdD where
 gj:mg "ALONE" = some (.ref a.jo)/\∀H,SqT K H a.jo [.str (pq ".page"),.str (pq ".odd"),.str (pq ".list")]
 bX:∃t,mg "FIGURES" = some (.str (pq "0123456789") t)
 gk:mg "HEADS" = some (.ref a.jp)/\∀H,SqT K H a.jp [.str (pq "="),.str (pq "=="),.str (pq "===")]
 fF:mg "KINDS" = some (.ref a.eK)/\uY P w K a.eK lB
 fG:mg "LEAPS" = some (.ref a.dq)/\uY P w K a.dq iC
 dL:∃t,mg "LETTERS" = some (.str (pq "abcdefghijklmnopqrstuvwxyz") t)
 cu:∃t,mg "LONGEST_NAME" = some (.int 12 t)
 cf:∃t,mg "LONGEST_TEXT" = some (.int 60 t)
 cH:∃t,mg "MOST_CALLS" = some (.int 400 t)
 bD:∃t,mg "MOST_CALLS_OF_SHORT" = some (.int 60 t)
 cX:∃t,mg "MOST_DEEP" = some (.int 20 t)
 bS:∃t,mg "MOST_FOOT_WORDS" = some (.int 39 t)
 bL:∃t,mg "MOST_WORDS_books" = some (.int 400 t)
 aU:∃t,mg "MOST_WORDS_shorts" = some (.int 400 t)
 dD:mg "POINTING" = some (.ref a.eQ)/\∀H,SqT K H a.eQ [.str (pq "number"),.str (pq "page"),.str (pq "row")]
abbrev lV(a:Adr):Er->Addr:=λx=>match x with|.badrow=>a.ka|.badcall=>a.cF|.noshort=>a.dr|.twice=>a.d_|.badword=>a.jq|.toolong=>a.cG|.deep=>a.lZ

section
variable {P:K8}{w:K_}{K:KC}{mg:Str->Option KG}{base:Heap}{a:Adr}

def bH(c k m:Int):Int:=(c+1)*(48271+7919*k*k)%2147483647*((c+1)*(48271+7919*k*k)%2147483647)%2147483629/7%m
theorem fq(c k:Int){m:Int}(h:0<m):0<=bH c k m/\bH c k m<m:=⟨Int.emod_nonneg _ (by omega),Int.emod_lt_of_pos _ h⟩
theorem IZ{k:Int}(h0:0<=k)(h1:k<=100000):0<=7919*k*k/\7919*k*k<=79190000000000:=by
 have a:=Int.mul_nonneg h0 h0;have b:k*k<=100000*100000:=Int.mul_le_mul h1 h1 h0 (by decide);rw[Ph];omega
inductive C_(vs:List V)(H:Hp)(Q:VK)(x_1:XK):Prop
 |mk(c k m:Int)(_:vs=[.int c,.int k,.int m])(_:0<=k/\k<=100000)(_:0<m)(_:Q (.int (bH c k m)) H)
theorem wz:aE ["cell","k","many","number"] ["cell","k","many"] (av (top 58)):=by walk_at "c"
theorem bF(T:Txt P w K mg a):aO P w K mg base CX0 1 a.tU a.rJ ["cell","k","many"] C_:=by
 exists T.bK.fn.ok,wz
 obtain⟨c,k,m,rfl,⟨h0,h1⟩,hm,q⟩:=h
 exists (ae (ay (i:=3) wz.nd rfl (K1 rfl) (ao nO (ao qm (ao cz (pv 0) ai) (ao cz ai (ao qm (ao qm ai (pv 1)) (pv 1)))) ai))
   (ap (aM (ao nO (ao zQ (ao nO (ao qm (pv 3) (pv 3)) ai) ai) (pv 2)))))
 have sq:=IZ h0 h1;refine⟨_,rfl,_,_,rfl,rfl,_,rfl,_,_,rfl,rfl,.inl ⟨by decide,by decide⟩,_,rfl,_,_,rfl,rfl,.inr ⟨by omega,by omega⟩,_,_,rfl,rfl,_,_,rfl,rfl,.inr ⟨by omega,by omega⟩,_,_,rfl,rfl,(by decide:(0:Int)<2147483647),?_⟩;refine⟨_,rfl,_,rfl,_,_,rfl,rfl,.inl ⟨by omega,by omega⟩,_,_,rfl,rfl,(by decide:(0:Int)<2147483629),_,_,rfl,rfl,⟨by decide,by decide⟩,_,rfl,_,_,rfl,rfl,hm,?_⟩;exact q
theorem eX(c k:Int){m:Nat}(h:0<m):∃d:Nat,bH c k (m:Int)=(d:Int)/\d<m:=by
 have:=fq c k (show(0:Int)<(m:Int) by omega);exact⟨(bH c k m).toNat,by omega,by omega⟩

def fP(su wu:Str):List Str:=[(pq "w [")++(su)++(pq " x"),(pq "w [")++(su)++(pq " x | x ]"),(pq "= [")++(su)++(pq " ]"),(pq ".foot ")++(wu)++(pq " [")++(su),(pq ".let ")++(wu)++(pq " 1 x"),(pq ".let ")++(wu)++(pq " 2 $1"),(pq ".let ")++(wu)++(pq " 1 $2 $1"),(pq ".let ")++(wu)++(pq " 0 $0"),(pq ".let ")++(wu)++(pq " 9 $1 $2 $3 $4 $5 $6 $7 $8"),(pq "w [")++(wu)++(pq " ] [")++(su)]

inductive yX(vs:List V)(H:Hp)(Q:VK)(x_1:XK):Prop
 |mk(c:Int)(su wu:Str)(_:vs=[.int c,.str su,.str wu])(_:su.length<=12)(_:wu.length<=12)(_:∀r∈fP su wu,∀H',ar H H'->Q (.str r) H')
theorem jF:aE ["cell","short","fresh","some"] ["cell","short","fresh"] (av (top 62)):=by walk_at "c"
theorem yY(T:Txt P w K mg a):aO P w K mg base CX0 2 a.nC a.mv ["cell","short","fresh"] yX:=by
 exists T.ng.fn.ok,jF
 obtain⟨c,su,wu,rfl,lsu,lwu,q⟩:=h
 exists (ae (ay (i:=3) jF.nd rfl (K1 rfl) (aK (aa (ao af (ao af ak (pv 1)) ak) (aa (ao af (ao af ak (pv 1)) ak) (aa (ao af (ao af ak (pv 1)) ak) (aa (ao af (ao af (ao af ak (pv 2)) ak) (pv 1)) ac))))))
   (ae (ay (i:=3) jF.nd rfl (K1 rfl) (ao cA (pv 3) (aK (aa (ao af (ao af ak (pv 2)) ak) (aa (ao af (ao af ak (pv 2)) ak) (aa (ao af (ao af ak (pv 2)) ak) ac))))))
   (ae (ay (i:=3) jF.nd rfl (K1 rfl) (ao cA (pv 3) (aK (aa (ao af (ao af ak (pv 2)) ak) (aa (ao af (ao af ak (pv 2)) ak) (aa (ao af (ao af (ao af ak (pv 2)) ak) (pv 1)) ac))))))
   (ap (aM (aC bb (pv 3) (aD T.bK (bF T) (hM hr) rfl (aa (pv 0) (aa ai (aa (aT bz rfl T.cQ Lq (aa (pv 3) ac)) ac)))) (λ_ _=>rfl)))))))
 refine⟨_,rfl,_,_,rfl,rfl,(sA (Kz _) lsu (by decide)),_,_,rfl,rfl,(sA (bA (Kz _) lsu) (Kz _) (by decide)),_,rfl,_,_,rfl,rfl,(sA (Kz _) lsu (by decide)),_,_,rfl,rfl,(sA (bA (Kz _) lsu) (Kz _) (by decide)),_,rfl,_,_,rfl,rfl,(sA (Kz _) lsu (by decide)),_,_,rfl,rfl,(sA (bA (Kz _) lsu) (Kz _) (by decide)),_,rfl,_,_,rfl,rfl,(sA (Kz _) lwu (by decide)),_,_,rfl,rfl,(sA (bA (Kz _) lwu) (Kz _) (by decide)),_,rfl,_,_,rfl,rfl,(sA (bA (bA (Kz _) lwu) (Kz _)) lsu (by decide)),(show 4<=KP by decide),λp1 hp1=>?_⟩;refine⟨_,rfl,_,rfl,_,_,rfl,rfl,(sA (Kz _) lwu (by decide)),_,_,rfl,rfl,(sA (bA (Kz _) lwu) (Kz _) (by decide)),_,rfl,_,_,rfl,rfl,(sA (Kz _) lwu (by decide)),_,_,rfl,rfl,(sA (bA (Kz _) lwu) (Kz _) (by decide)),_,rfl,_,_,rfl,rfl,(sA (Kz _) lwu (by decide)),_,_,rfl,rfl,(sA (bA (Kz _) lwu) (Kz _) (by decide)),(show 3<=KP by decide),λp2 hp2=>?_⟩;refine⟨_,_,_,_,rfl,rfl,(am hp2 _ _ _ ah),ah,(show 4+3<=KP by decide),λp3 hp3=>?_⟩;refine⟨_,rfl,_,rfl,_,_,rfl,rfl,(sA (Kz _) lwu (by decide)),_,_,rfl,rfl,(sA (bA (Kz _) lwu) (Kz _) (by decide)),_,rfl,_,_,rfl,rfl,(sA (Kz _) lwu (by decide)),_,_,rfl,rfl,(sA (bA (Kz _) lwu) (Kz _) (by decide)),_,rfl,_,_,rfl,rfl,(sA (Kz _) lwu (by decide)),_,_,rfl,rfl,(sA (bA (Kz _) lwu) (Kz _) (by decide)),_,rfl,_,_,rfl,rfl,(sA (bA (bA (Kz _) lwu) (Kz _)) lsu (by decide)),(show 3<=KP by decide),λp4 hp4=>?_⟩;refine⟨_,_,_,_,rfl,rfl,(am hp4 _ _ _ ah),ah,(show 7+3<=KP by decide),λp5 hp5=>?_⟩;obtain⟨n,en,hn⟩:=eX c 30 (show 0<10 by decide);have en:bH c 30 10=(n:Int):=en;obtain⟨r,hr⟩:∃r,(fP su wu)[n]?=some r:=⟨_,KM (l:=fP su wu) hn⟩;exact⟨_,rfl,_,rfl,_,rfl,_,_,rfl,.inl (SqL.of ah),_,30,10,rfl,⟨by decide,by decide⟩,by decide,_,_,_,_,rfl,rfl,SqL.of ah,(by rw[en];exact a_ (show((fP su wu).map V.str)[n]?=some (.str r) by rw[KS,hr];rfl)),q r (KL hr) _ (((((am hp1 _).trans (am hp2 _)).trans (am hp3 _)).trans (am hp4 _)).trans (am hp5 _))⟩
def fI(su fu wu:Str):List Str:=[pq ".page x",pq ".odd .odd",(pq ".list ")++(su),(pq ".lets ")++(wu)++(pq " 0"),pq ".",(pq ".Let ")++(wu)++(pq " 0 x"),pq ".let",(pq ".let ")++(wu),(pq ".let ")++(wu)++(pq "A 0 x"),(pq ".let ")++(wu)++(pq " 10 x"),(pq ".use ")++(su),(pq ".let ")++(wu)++(pq " x"),pq ".let 1a 0 x",pq ".foot",pq ".foot A x",pq ".foot 7 x",(pq ".foot ")++(fu)++(pq "- x"),(pq ".let ")++(su)++(pq " 11 x"),(pq ".let ")++(su)++(pq " -"),(pq ".page [")++(su),pq "  .9",(pq ".let ")++(wu)++(pq " 00 x"),(pq ".let ")++(wu)++(pq " 01 $1")]

inductive zC(vs:List V)(H:Hp)(Q:VK)(x_1:XK):Prop
 |mk(c:Int)(su fu wu:Str)(_:vs=[.int c,.str su,.str fu,.str wu])(_:su.length<=12)(_:fu.length<=12)(_:wu.length<=12)(_:∀r∈fI su fu wu,∀H',ar H H'->Q (.str r) H')
theorem gh:aE ["cell","short","foot","fresh","some"] ["cell","short","foot","fresh"] (av (top 61)):=by walk_at "c"
theorem zD(T:Txt P w K mg a):aO P w K mg base CX0 2 a.pB a.nJ ["cell","short","foot","fresh"] zC:=by
 exists T.ph.fn.ok,gh
 obtain⟨c,su,fu,wu,rfl,lsu,lfu,lwu,q⟩:=h
 exists (ae (ay (i:=4) gh.nd rfl (K1 rfl) (aK (aa ak (aa ak (aa (ao af ak (pv 1)) (aa (ao af (ao af ak (pv 3)) ak) (aa ak (aa (ao af (ao af ak (pv 3)) ak) ac))))))))
   (ae (ay (i:=4) gh.nd rfl (K1 rfl) (ao cA (pv 4) (aK (aa ak (aa (ao af ak (pv 3)) (aa (ao af (ao af ak (pv 3)) ak) (aa (ao af (ao af ak (pv 3)) ak) (aa (ao af ak (pv 1)) ac))))))))
   (ae (ay (i:=4) gh.nd rfl (K1 rfl) (ao cA (pv 4) (aK (aa (ao af (ao af ak (pv 3)) ak) (aa ak (aa ak (aa ak (aa ak (aa (ao af (ao af ak (pv 2)) ak) ac)))))))))
   (ae (ay (i:=4) gh.nd rfl (K1 rfl) (ao cA (pv 4) (aK (aa (ao af (ao af ak (pv 1)) ak) (aa (ao af (ao af ak (pv 1)) ak) (aa (ao af ak (pv 1)) (aa ak ac)))))))
   (ae (ay (i:=4) gh.nd rfl (K1 rfl) (ao cA (pv 4) (aK (aa (ao af (ao af ak (pv 3)) ak) (aa (ao af (ao af ak (pv 3)) ak) ac)))))
   (ap (aM (aC bb (pv 4) (aD T.bK (bF T) (hM hr) rfl (aa (pv 0) (aa ai (aa (aT bz rfl T.cQ Lq (aa (pv 4) ac)) ac)))) (λ_ _=>rfl)))))))))
 refine⟨_,rfl,_,_,rfl,rfl,(sA (Kz _) lsu (by decide)),_,rfl,_,_,rfl,rfl,(sA (Kz _) lwu (by decide)),_,_,rfl,rfl,(sA (bA (Kz _) lwu) (Kz _) (by decide)),_,rfl,_,_,rfl,rfl,(sA (Kz _) lwu (by decide)),_,_,rfl,rfl,(sA (bA (Kz _) lwu) (Kz _) (by decide)),(show 6<=KP by decide),λp1 hp1=>?_⟩;refine⟨_,rfl,_,rfl,_,_,rfl,rfl,(sA (Kz _) lwu (by decide)),_,rfl,_,_,rfl,rfl,(sA (Kz _) lwu (by decide)),_,_,rfl,rfl,(sA (bA (Kz _) lwu) (Kz _) (by decide)),_,rfl,_,_,rfl,rfl,(sA (Kz _) lwu (by decide)),_,_,rfl,rfl,(sA (bA (Kz _) lwu) (Kz _) (by decide)),_,rfl,_,_,rfl,rfl,(sA (Kz _) lsu (by decide)),(show 5<=KP by decide),λp2 hp2=>?_⟩;refine⟨_,_,_,_,rfl,rfl,(am hp2 _ _ _ ah),ah,(show 6+5<=KP by decide),λp3 hp3=>?_⟩;refine⟨_,rfl,_,rfl,_,_,rfl,rfl,(sA (Kz _) lwu (by decide)),_,_,rfl,rfl,(sA (bA (Kz _) lwu) (Kz _) (by decide)),_,rfl,_,_,rfl,rfl,(sA (Kz _) lfu (by decide)),_,_,rfl,rfl,(sA (bA (Kz _) lfu) (Kz _) (by decide)),(show 6<=KP by decide),λp4 hp4=>?_⟩;refine⟨_,_,_,_,rfl,rfl,(am hp4 _ _ _ ah),ah,(show 11+6<=KP by decide),λp5 hp5=>?_⟩;refine⟨_,rfl,_,rfl,_,_,rfl,rfl,(sA (Kz _) lsu (by decide)),_,_,rfl,rfl,(sA (bA (Kz _) lsu) (Kz _) (by decide)),_,rfl,_,_,rfl,rfl,(sA (Kz _) lsu (by decide)),_,_,rfl,rfl,(sA (bA (Kz _) lsu) (Kz _) (by decide)),_,rfl,_,_,rfl,rfl,(sA (Kz _) lsu (by decide)),(show 4<=KP by decide),λp6 hp6=>?_⟩;refine⟨_,_,_,_,rfl,rfl,(am hp6 _ _ _ ah),ah,(show 17+4<=KP by decide),λp7 hp7=>?_⟩;refine⟨_,rfl,_,rfl,_,_,rfl,rfl,(sA (Kz _) lwu (by decide)),_,_,rfl,rfl,(sA (bA (Kz _) lwu) (Kz _) (by decide)),_,rfl,_,_,rfl,rfl,(sA (Kz _) lwu (by decide)),_,_,rfl,rfl,(sA (bA (Kz _) lwu) (Kz _) (by decide)),(show 2<=KP by decide),λp8 hp8=>?_⟩;refine⟨_,_,_,_,rfl,rfl,(am hp8 _ _ _ ah),ah,(show 21+2<=KP by decide),λp9 hp9=>?_⟩;obtain⟨n,en,hn⟩:=eX c 30 (show 0<23 by decide);have en:bH c 30 23=(n:Int):=en;obtain⟨r,hr⟩:∃r,(fI su fu wu)[n]?=some r:=⟨_,KM (l:=fI su fu wu) hn⟩;exact⟨_,rfl,_,rfl,_,rfl,_,_,rfl,.inl (SqL.of ah),_,30,23,rfl,⟨by decide,by decide⟩,by decide,_,_,_,_,rfl,rfl,SqL.of ah,(by rw[en];exact a_ (show((fI su fu wu).map V.str)[n]?=some (.str r) by rw[KS,hr];rfl)),q r (KL hr) _ (((((((((am hp1 _).trans (am hp2 _)).trans (am hp3 _)).trans (am hp4 _)).trans (am hp5 _)).trans (am hp6 _)).trans (am hp7 _)).trans (am hp8 _)).trans (am hp9 _))⟩
def eY(su wu:Str):List Str:=[(pq "w [")++(wu)++(pq " ]"),(pq "=== [")++(wu)++(pq " x ]"),(pq ".foot ")++(wu)++(pq " [")++(wu)++(pq " ]"),(pq "w [")++(su)++(pq " [")++(wu)++(pq " ] ] [")++(su)++(pq " ]"),(pq ".let ")++(wu)++(pq " 1 [")++(wu)++(pq " x ]"),(pq ".let ")++(wu)++(pq " 1 $1 [")++(wu)++(pq " $1 ]")]

inductive wL(vs:List V)(H:Hp)(Q:VK)(x_1:XK):Prop
 |mk(c:Int)(su wu:Str)(_:vs=[.int c,.str su,.str wu])(_:su.length<=12)(_:wu.length<=12)(_:∀r∈eY su wu,∀H',ar H H'->Q (.str r) H')
theorem i_:aE ["cell","short","fresh","some"] ["cell","short","fresh"] (av (top 63)):=by walk_at "c"
theorem wM(T:Txt P w K mg a):aO P w K mg base CX0 2 a.mh a.le ["cell","short","fresh"] wL:=by
 exists T.l7.fn.ok,i_
 obtain⟨c,su,wu,rfl,lsu,lwu,q⟩:=h
 exists (ae (ay (i:=3) i_.nd rfl (K1 rfl) (aK (aa (ao af (ao af ak (pv 2)) ak) (aa (ao af (ao af ak (pv 2)) ak) (aa (ao af (ao af (ao af (ao af ak (pv 2)) ak) (pv 2)) ak) ac)))))
   (ae (ay (i:=3) i_.nd rfl (K1 rfl) (ao cA (pv 3) (aK (aa (ao af (ao af (ao af (ao af (ao af (ao af ak (pv 1)) ak) (pv 2)) ak) (pv 1)) ak) ac))))
   (ae (ay (i:=3) i_.nd rfl (K1 rfl) (ao cA (pv 3) (aK (aa (ao af (ao af (ao af (ao af ak (pv 2)) ak) (pv 2)) ak) (aa (ao af (ao af (ao af (ao af ak (pv 2)) ak) (pv 2)) ak) ac)))))
   (ap (aM (aC bb (pv 3) (aD T.bK (bF T) (hM hr) rfl (aa (pv 0) (aa ai (aa (aT bz rfl T.cQ Lq (aa (pv 3) ac)) ac)))) (λ_ _=>rfl)))))))
 refine⟨_,rfl,_,_,rfl,rfl,(sA (Kz _) lwu (by decide)),_,_,rfl,rfl,(sA (bA (Kz _) lwu) (Kz _) (by decide)),_,rfl,_,_,rfl,rfl,(sA (Kz _) lwu (by decide)),_,_,rfl,rfl,(sA (bA (Kz _) lwu) (Kz _) (by decide)),_,rfl,_,_,rfl,rfl,(sA (Kz _) lwu (by decide)),_,_,rfl,rfl,(sA (bA (Kz _) lwu) (Kz _) (by decide)),_,rfl,_,_,rfl,rfl,(sA (bA (bA (Kz _) lwu) (Kz _)) lwu (by decide)),_,_,rfl,rfl,(sA (bA (bA (bA (Kz _) lwu) (Kz _)) lwu) (Kz _) (by decide)),(show 3<=KP by decide),λp1 hp1=>?_⟩;refine⟨_,rfl,_,rfl,_,_,rfl,rfl,(sA (Kz _) lsu (by decide)),_,_,rfl,rfl,(sA (bA (Kz _) lsu) (Kz _) (by decide)),_,rfl,_,_,rfl,rfl,(sA (bA (bA (Kz _) lsu) (Kz _)) lwu (by decide)),_,_,rfl,rfl,(sA (bA (bA (bA (Kz _) lsu) (Kz _)) lwu) (Kz _) (by decide)),_,rfl,_,_,rfl,rfl,(sA (bA (bA (bA (bA (Kz _) lsu) (Kz _)) lwu) (Kz _)) lsu (by decide)),_,_,rfl,rfl,(sA (bA (bA (bA (bA (bA (Kz _) lsu) (Kz _)) lwu) (Kz _)) lsu) (Kz _) (by decide)),(show 1<=KP by decide),λp2 hp2=>?_⟩;refine⟨_,_,_,_,rfl,rfl,(am hp2 _ _ _ ah),ah,(show 3+1<=KP by decide),λp3 hp3=>?_⟩;refine⟨_,rfl,_,rfl,_,_,rfl,rfl,(sA (Kz _) lwu (by decide)),_,_,rfl,rfl,(sA (bA (Kz _) lwu) (Kz _) (by decide)),_,rfl,_,_,rfl,rfl,(sA (bA (bA (Kz _) lwu) (Kz _)) lwu (by decide)),_,_,rfl,rfl,(sA (bA (bA (bA (Kz _) lwu) (Kz _)) lwu) (Kz _) (by decide)),_,rfl,_,_,rfl,rfl,(sA (Kz _) lwu (by decide)),_,_,rfl,rfl,(sA (bA (Kz _) lwu) (Kz _) (by decide)),_,rfl,_,_,rfl,rfl,(sA (bA (bA (Kz _) lwu) (Kz _)) lwu (by decide)),_,_,rfl,rfl,(sA (bA (bA (bA (Kz _) lwu) (Kz _)) lwu) (Kz _) (by decide)),(show 2<=KP by decide),λp4 hp4=>?_⟩;refine⟨_,_,_,_,rfl,rfl,(am hp4 _ _ _ ah),ah,(show 4+2<=KP by decide),λp5 hp5=>?_⟩;obtain⟨n,en,hn⟩:=eX c 30 (show 0<6 by decide);have en:bH c 30 6=(n:Int):=en;obtain⟨r,hr⟩:∃r,(eY su wu)[n]?=some r:=⟨_,KM (l:=eY su wu) hn⟩;exact⟨_,rfl,_,rfl,_,rfl,_,_,rfl,.inl (SqL.of ah),_,30,6,rfl,⟨by decide,by decide⟩,by decide,_,_,_,_,rfl,rfl,SqL.of ah,(by rw[en];exact a_ (show((eY su wu).map V.str)[n]?=some (.str r) by rw[KS,hr];rfl)),q r (KL hr) _ (((((am hp1 _).trans (am hp2 _)).trans (am hp3 _)).trans (am hp4 _)).trans (am hp5 _))⟩
def fQ(su fu wu:Str):List Str:=[(pq "w ")++(Txt.mul (pq "x") 61),(pq "!")++(Txt.mul (pq "x") 61),(pq "= ~")++(fu),(pq "= w ")++(Txt.mul (pq ".") 61),(pq ".foot ")++(wu)++(pq " #")++(fu),(pq ".foot ")++(wu)++(pq " x ~")++(fu),((pq ".foot ")++(wu)++(pq " ~")++(fu))++(Txt.mul (pq " x") 50),(pq "= [")++(su)++(pq " ~")++(fu)++(pq " ]"),(pq "w #")++(Txt.mul (pq "a") 60)++(pq " #b")]

inductive yZ(vs:List V)(H:Hp)(Q:VK)(x_1:XK):Prop
 |mk(c:Int)(su fu wu:Str)(_:vs=[.int c,.str su,.str fu,.str wu])(_:su.length<=12)(_:fu.length<=12)(_:wu.length<=12)(_:∀r∈fQ su fu wu,∀H',ar H H'->Q (.str r) H')
theorem gW:aE ["cell","short","foot","fresh","some"] ["cell","short","foot","fresh"] (av (top 65)):=by walk_at "c"
theorem y3(T:Txt P w K mg a):aO P w K mg base CX0 2 a.nD a.mx ["cell","short","foot","fresh"] yZ:=by
 exists T.ni.fn.ok,gW
 obtain⟨c,su,fu,wu,rfl,lsu,lfu,lwu,q⟩:=h
 exists (ae (ay (i:=4) gW.nd rfl (K1 rfl) (aK (aa (ao af ak (ao bO ak ai)) (aa (ao af ak (ao bO ak ai)) (aa (ao af ak (pv 2)) (aa (ao af ak (ao bO ak ai)) ac))))))
   (ae (ay (i:=4) gW.nd rfl (K1 rfl) (ao cA (pv 4) (aK (aa (ao af (ao af (ao af ak (pv 3)) ak) (pv 2)) (aa (ao af (ao af (ao af ak (pv 3)) ak) (pv 2)) ac)))))
   (ae (ay (i:=4) gW.nd rfl (K1 rfl) (ao cA (pv 4) (aK (aa (ao af (ao af (ao af (ao af ak (pv 3)) ak) (pv 2)) (ao bO ak ai)) ac))))
   (ae (ay (i:=4) gW.nd rfl (K1 rfl) (ao cA (pv 4) (aK (aa (ao af (ao af (ao af (ao af ak (pv 1)) ak) (pv 2)) ak) (aa (ao af (ao af ak (ao bO ak ai)) ak) ac)))))
   (ap (aM (aC bb (pv 4) (aD T.bK (bF T) (hM hr) rfl (aa (pv 0) (aa ai (aa (aT bz rfl T.cQ Lq (aa (pv 4) ac)) ac)))) (λ_ _=>rfl))))))))
 refine⟨_,_,rfl,rfl,(gr (n:=61) (Kz _) (by decide) (by decide)),_,_,rfl,rfl,(sA (Kz _) (cW (Kz _)) (by decide)),_,_,rfl,rfl,(gr (n:=61) (Kz _) (by decide) (by decide)),_,_,rfl,rfl,(sA (Kz _) (cW (Kz _)) (by decide)),_,rfl,_,_,rfl,rfl,(sA (Kz _) lfu (by decide)),_,_,rfl,rfl,(gr (n:=61) (Kz _) (by decide) (by decide)),_,_,rfl,rfl,(sA (Kz _) (cW (Kz _)) (by decide)),(show 4<=KP by decide),λp1 hp1=>?_⟩;refine⟨_,rfl,_,rfl,_,_,rfl,rfl,(sA (Kz _) lwu (by decide)),_,_,rfl,rfl,(sA (bA (Kz _) lwu) (Kz _) (by decide)),_,rfl,_,_,rfl,rfl,(sA (bA (bA (Kz _) lwu) (Kz _)) lfu (by decide)),_,rfl,_,_,rfl,rfl,(sA (Kz _) lwu (by decide)),_,_,rfl,rfl,(sA (bA (Kz _) lwu) (Kz _) (by decide)),_,rfl,_,_,rfl,rfl,(sA (bA (bA (Kz _) lwu) (Kz _)) lfu (by decide)),(show 2<=KP by decide),λp2 hp2=>?_⟩;refine⟨_,_,_,_,rfl,rfl,(am hp2 _ _ _ ah),ah,(show 4+2<=KP by decide),λp3 hp3=>?_⟩;refine⟨_,rfl,_,rfl,_,_,rfl,rfl,(sA (Kz _) lwu (by decide)),_,_,rfl,rfl,(sA (bA (Kz _) lwu) (Kz _) (by decide)),_,rfl,_,_,rfl,rfl,(sA (bA (bA (Kz _) lwu) (Kz _)) lfu (by decide)),_,_,rfl,rfl,(gr (n:=50) (Kz _) (by decide) (by decide)),_,_,rfl,rfl,(sA (bA (bA (bA (Kz _) lwu) (Kz _)) lfu) (cW (Kz _)) (by decide)),(show 1<=KP by decide),λp4 hp4=>?_⟩;refine⟨_,_,_,_,rfl,rfl,(am hp4 _ _ _ ah),ah,(show 6+1<=KP by decide),λp5 hp5=>?_⟩;refine⟨_,rfl,_,rfl,_,_,rfl,rfl,(sA (Kz _) lsu (by decide)),_,_,rfl,rfl,(sA (bA (Kz _) lsu) (Kz _) (by decide)),_,rfl,_,_,rfl,rfl,(sA (bA (bA (Kz _) lsu) (Kz _)) lfu (by decide)),_,_,rfl,rfl,(sA (bA (bA (bA (Kz _) lsu) (Kz _)) lfu) (Kz _) (by decide)),_,_,rfl,rfl,(gr (n:=60) (Kz _) (by decide) (by decide)),_,_,rfl,rfl,(sA (Kz _) (cW (Kz _)) (by decide)),_,_,rfl,rfl,(sA (bA (Kz _) (cW (Kz _))) (Kz _) (by decide)),(show 2<=KP by decide),λp6 hp6=>?_⟩;refine⟨_,_,_,_,rfl,rfl,(am hp6 _ _ _ ah),ah,(show 7+2<=KP by decide),λp7 hp7=>?_⟩;obtain⟨n,en,hn⟩:=eX c 30 (show 0<9 by decide);have en:bH c 30 9=(n:Int):=en;obtain⟨r,hr⟩:∃r,(fQ su fu wu)[n]?=some r:=⟨_,KM (l:=fQ su fu wu) hn⟩;exact⟨_,rfl,_,rfl,_,rfl,_,_,rfl,.inl (SqL.of ah),_,30,9,rfl,⟨by decide,by decide⟩,by decide,_,_,_,_,rfl,rfl,SqL.of ah,(by rw[en];exact a_ (show((fQ su fu wu).map V.str)[n]?=some (.str r) by rw[KS,hr];rfl)),q r (KL hr) _ (((((((am hp1 _).trans (am hp2 _)).trans (am hp3 _)).trans (am hp4 _)).trans (am hp5 _)).trans (am hp6 _)).trans (am hp7 _))⟩
def eZ(su wu:Str):List Str:=[((pq ".foot ")++(wu))++(Txt.mul (pq " x") 40),((pq ".foot ")++(wu))++(Txt.mul (pq " x") 37)++(((pq " [")++(su)))++(pq " &")++(wu)++(pq " ]"),(((pq "w")++(Txt.mul (((pq " [")++(su))) 4))++(Txt.mul (pq " x") 7))++(Txt.mul (pq " ]") 4),(((pq "=")++(Txt.mul (((pq " [")++(su))) 4))++(Txt.mul (pq " x") 5))++(Txt.mul (pq " ]") 4),((((pq ".let ")++(wu)++(pq " 1"))++(Txt.mul (((pq " [")++(su))) 4))++(Txt.mul (pq " $1") 5))++(Txt.mul (pq " ]") 4)]

inductive wN(vs:List V)(H:Hp)(Q:VK)(x_1:XK):Prop
 |mk(c:Int)(su wu:Str)(_:vs=[.int c,.str su,.str wu])(_:su.length<=12)(_:wu.length<=12)(_:∀r∈eZ su wu,∀H',ar H H'->Q (.str r) H')
theorem f9:aE ["cell","short","fresh","deep","some"] ["cell","short","fresh"] (av (top 66)):=by walk_at "c"
theorem wO(T:Txt P w K mg a):aO P w K mg base CX0 2 a.mi a.lg ["cell","short","fresh"] wN:=by
 exists T.l8.fn.ok,f9
 obtain⟨c,su,wu,rfl,lsu,lwu,q⟩:=h
 exists (ae (ay (i:=3) f9.nd rfl (K1 rfl) (ao af ak (pv 1)))
   (ae (ay (i:=4) f9.nd rfl (K1 rfl) (aK (aa (ao af (ao af ak (pv 2)) (ao bO ak ai)) (aa (ao af (ao af (ao af (ao af (ao af (ao af ak (pv 2)) (ao bO ak ai)) (pv 3)) ak) (pv 2)) ak) ac))))
   (ae (ay (i:=4) f9.nd rfl (K1 rfl) (ao cA (pv 4) (aK (aa (ao af (ao af (ao af ak (ao bO (pv 3) ai)) (ao bO ak ai)) (ao bO ak ai)) (aa (ao af (ao af (ao af ak (ao bO (pv 3) ai)) (ao bO ak ai)) (ao bO ak ai)) ac)))))
   (ae (ay (i:=4) f9.nd rfl (K1 rfl) (ao cA (pv 4) (aK (aa (ao af (ao af (ao af (ao af (ao af ak (pv 2)) ak) (ao bO (pv 3) ai)) (ao bO ak ai)) (ao bO ak ai)) ac))))
   (ap (aM (aC bb (pv 4) (aD T.bK (bF T) (hM hr) rfl (aa (pv 0) (aa ai (aa (aT bz rfl T.cQ Lq (aa (pv 4) ac)) ac)))) (λ_ _=>rfl))))))))
 refine⟨_,rfl,_,_,rfl,rfl,(sA (Kz _) lsu (by decide)),?_⟩;refine⟨_,rfl,_,_,rfl,rfl,(sA (Kz _) lwu (by decide)),_,_,rfl,rfl,(gr (n:=40) (Kz _) (by decide) (by decide)),_,_,rfl,rfl,(sA (bA (Kz _) lwu) (cW (Kz _)) (by decide)),_,rfl,_,_,rfl,rfl,(sA (Kz _) lwu (by decide)),_,_,rfl,rfl,(gr (n:=37) (Kz _) (by decide) (by decide)),_,_,rfl,rfl,(sA (bA (Kz _) lwu) (cW (Kz _)) (by decide)),_,rfl,_,_,rfl,rfl,(sA (bA (bA (Kz _) lwu) (cW (Kz _))) (bA (Kz _) lsu) (by decide)),_,_,rfl,rfl,(sA (bA (bA (bA (Kz _) lwu) (cW (Kz _))) (bA (Kz _) lsu)) (Kz _) (by decide)),_,rfl,_,_,rfl,rfl,(sA (bA (bA (bA (bA (Kz _) lwu) (cW (Kz _))) (bA (Kz _) lsu)) (Kz _)) lwu (by decide)),_,_,rfl,rfl,(sA (bA (bA (bA (bA (bA (Kz _) lwu) (cW (Kz _))) (bA (Kz _) lsu)) (Kz _)) lwu) (Kz _) (by decide)),(show 2<=KP by decide),λp1 hp1=>?_⟩;refine⟨_,rfl,_,rfl,_,_,rfl,rfl,(gr (n:=4) (bA (Kz _) lsu) (by decide) (by decide)),_,_,rfl,rfl,(sA (Kz _) (cW (bA (Kz _) lsu)) (by decide)),_,_,rfl,rfl,(gr (n:=7) (Kz _) (by decide) (by decide)),_,_,rfl,rfl,(sA (bA (Kz _) (cW (bA (Kz _) lsu))) (cW (Kz _)) (by decide)),_,_,rfl,rfl,(gr (n:=4) (Kz _) (by decide) (by decide)),_,_,rfl,rfl,(sA (bA (bA (Kz _) (cW (bA (Kz _) lsu))) (cW (Kz _))) (cW (Kz _)) (by decide)),_,rfl,_,_,rfl,rfl,(gr (n:=4) (bA (Kz _) lsu) (by decide) (by decide)),_,_,rfl,rfl,(sA (Kz _) (cW (bA (Kz _) lsu)) (by decide)),_,_,rfl,rfl,(gr (n:=5) (Kz _) (by decide) (by decide)),_,_,rfl,rfl,(sA (bA (Kz _) (cW (bA (Kz _) lsu))) (cW (Kz _)) (by decide)),_,_,rfl,rfl,(gr (n:=4) (Kz _) (by decide) (by decide)),_,_,rfl,rfl,(sA (bA (bA (Kz _) (cW (bA (Kz _) lsu))) (cW (Kz _))) (cW (Kz _)) (by decide)),(show 2<=KP by decide),λp2 hp2=>?_⟩;refine⟨_,_,_,_,rfl,rfl,(am hp2 _ _ _ ah),ah,(show 2+2<=KP by decide),λp3 hp3=>?_⟩;refine⟨_,rfl,_,rfl,_,_,rfl,rfl,(sA (Kz _) lwu (by decide)),_,_,rfl,rfl,(sA (bA (Kz _) lwu) (Kz _) (by decide)),_,rfl,_,_,rfl,rfl,(gr (n:=4) (bA (Kz _) lsu) (by decide) (by decide)),_,_,rfl,rfl,(sA (bA (bA (Kz _) lwu) (Kz _)) (cW (bA (Kz _) lsu)) (by decide)),_,_,rfl,rfl,(gr (n:=5) (Kz _) (by decide) (by decide)),_,_,rfl,rfl,(sA (bA (bA (bA (Kz _) lwu) (Kz _)) (cW (bA (Kz _) lsu))) (cW (Kz _)) (by decide)),_,_,rfl,rfl,(gr (n:=4) (Kz _) (by decide) (by decide)),_,_,rfl,rfl,(sA (bA (bA (bA (bA (Kz _) lwu) (Kz _)) (cW (bA (Kz _) lsu))) (cW (Kz _))) (cW (Kz _)) (by decide)),(show 1<=KP by decide),λp4 hp4=>?_⟩;refine⟨_,_,_,_,rfl,rfl,(am hp4 _ _ _ ah),ah,(show 4+1<=KP by decide),λp5 hp5=>?_⟩;obtain⟨n,en,hn⟩:=eX c 30 (show 0<5 by decide);have en:bH c 30 5=(n:Int):=en;obtain⟨r,hr⟩:∃r,(eZ su wu)[n]?=some r:=⟨_,KM (l:=eZ su wu) hn⟩;exact⟨_,rfl,_,rfl,_,rfl,_,_,rfl,.inl (SqL.of ah),_,30,5,rfl,⟨by decide,by decide⟩,by decide,_,_,_,_,rfl,rfl,SqL.of ah,(by rw[en];exact a_ (show((eZ su wu).map V.str)[n]?=some (.str r) by rw[KS,hr];rfl)),q r (KL hr) _ (((((am hp1 _).trans (am hp2 _)).trans (am hp3 _)).trans (am hp4 _)).trans (am hp5 _))⟩
def jg(su fu wu:Str):List Str:=[(pq ".let ")++(su)++(pq " 0"),(pq ".let ")++(su)++(pq " 1 [")++(wu)++(pq " x"),(pq ".foot ")++(fu),(pq ".foot ")++(fu)++(pq " #a")]

inductive A_(vs:List V)(H:Hp)(Q:VK)(x_1:XK):Prop
 |mk(c:Int)(su fu wu:Str)(_:vs=[.int c,.str su,.str fu,.str wu])(_:su.length<=12)(_:fu.length<=12)(_:wu.length<=12)(_:∀r∈jg su fu wu,∀H',ar H H'->Q (.str r) H')
theorem oW:aE ["cell","short","foot","fresh","some"] ["cell","short","foot","fresh"] (av (top 64)):=by walk_at "c"
theorem Ba(T:Txt P w K mg a):aO P w K mg base CX0 2 a.rC a.pI ["cell","short","foot","fresh"] A_:=by
 exists T.rh.fn.ok,oW
 obtain⟨c,su,fu,wu,rfl,lsu,lfu,lwu,q⟩:=h
 exists (ae (ay (i:=4) oW.nd rfl (K1 rfl) (aK (aa (ao af (ao af ak (pv 1)) ak) (aa (ao af (ao af (ao af (ao af ak (pv 1)) ak) (pv 3)) ak) ac))))
   (ae (ay (i:=4) oW.nd rfl (K1 rfl) (ao cA (pv 4) (aK (aa (ao af ak (pv 2)) (aa (ao af (ao af ak (pv 2)) ak) ac)))))
   (ap (aM (aC bb (pv 4) (aD T.bK (bF T) (hM hr) rfl (aa (pv 0) (aa ai (aa (aT bz rfl T.cQ Lq (aa (pv 4) ac)) ac)))) (λ_ _=>rfl))))))
 refine⟨_,rfl,_,_,rfl,rfl,(sA (Kz _) lsu (by decide)),_,_,rfl,rfl,(sA (bA (Kz _) lsu) (Kz _) (by decide)),_,rfl,_,_,rfl,rfl,(sA (Kz _) lsu (by decide)),_,_,rfl,rfl,(sA (bA (Kz _) lsu) (Kz _) (by decide)),_,rfl,_,_,rfl,rfl,(sA (bA (bA (Kz _) lsu) (Kz _)) lwu (by decide)),_,_,rfl,rfl,(sA (bA (bA (bA (Kz _) lsu) (Kz _)) lwu) (Kz _) (by decide)),(show 2<=KP by decide),λp1 hp1=>?_⟩;refine⟨_,rfl,_,rfl,_,_,rfl,rfl,(sA (Kz _) lfu (by decide)),_,rfl,_,_,rfl,rfl,(sA (Kz _) lfu (by decide)),_,_,rfl,rfl,(sA (bA (Kz _) lfu) (Kz _) (by decide)),(show 2<=KP by decide),λp2 hp2=>?_⟩;refine⟨_,_,_,_,rfl,rfl,(am hp2 _ _ _ ah),ah,(show 2+2<=KP by decide),λp3 hp3=>?_⟩;obtain⟨n,en,hn⟩:=eX c 30 (show 0<4 by decide);have en:bH c 30 4=(n:Int):=en;obtain⟨r,hr⟩:∃r,(jg su fu wu)[n]?=some r:=⟨_,KM (l:=jg su fu wu) hn⟩;exact⟨_,rfl,_,rfl,_,rfl,_,_,rfl,.inl (SqL.of ah),_,30,4,rfl,⟨by decide,by decide⟩,by decide,_,_,_,_,rfl,rfl,SqL.of ah,(by rw[en];exact a_ (show((jg su fu wu).map V.str)[n]?=some (.str r) by rw[KS,hr];rfl)),q r (KL hr) _ (((am hp1 _).trans (am hp2 _)).trans (am hp3 _))⟩

def mnD(n:Str):List Str:=[pq "w",pq "=",pq ".foot "++n]
def mnB(s f n:Str):Er->List Str
 |.badcall=>fP s n
 |.noshort=>eY s n
 |.twice=>jg s f n
 |.badword=>fQ s f n
 |.toolong=>eZ s n
 |.deep=>(mnD n).map λr=>r++Txt.mul (pq " ["++s) 21
 |.badrow=>fI s f n
def nmE:Er->Str
 |.badcall=>"BadCall"
 |.noshort=>"NoShort"
 |.twice=>"Twice"
 |.badword=>"BadWord"
 |.toolong=>"TooLong"
 |.deep=>"Deep"
 |.badrow=>"BadRow"

inductive EF(vs:List V)(H:Hp)(Q:VK)(x_1:XK):Prop
 |mk(c:Int)(s f n:Str)(_:vs=[.int c,.str s,.str f,.str n])(_:s.length<=12)(_:f.length<=12)(_:n.length<=12)(_:∀e r p H',r∈mnB s f n e->H p=none->ar H H'->H' p=some (.tup [.str r,.str (nmE e)])->Q (.ref p) H')
theorem y4:aE ["cell","short","foot","fresh","way"] ["cell","short","foot","fresh"] (av (top 67)):=by walk_at "c"
theorem EG(T:Txt P w K mg a):aO P w K mg base CX0 3 a.vK a.tY ["cell","short","foot","fresh"] EF:=by
 exists T.vJ.fn.ok,y4
 obtain⟨c,s,f,n,rfl,ls,lf,ln,q⟩:=h
 exists (ae (ay (i:=4) y4.nd rfl (K1 rfl) (aD T.bK (bF T) (hM hr) rfl (aa (pv 0) (aa ai (aa ai ac)))))
   (ae (aW (aA bQ (pv 4) ai (nomark _)) (ap (aM (bx (aa (aD T.ng (yY T) (hM hr) rfl (aa (pv 0) (aa (pv 1) (aa (pv 3) ac)))) (aa ak ac))))) aX)
   (ae (aW (aA bQ (pv 4) ai (nomark _)) (ap (aM (bx (aa (aD T.l7 (wM T) (hM hr) rfl (aa (pv 0) (aa (pv 1) (aa (pv 3) ac)))) (aa ak ac))))) aX)
   (ae (aW (aA bQ (pv 4) ai (nomark _)) (ap (aM (bx (aa (aD T.rh (Ba T) (hM hr) rfl (aa (pv 0) (aa (pv 1) (aa (pv 2) (aa (pv 3) ac))))) (aa ak ac))))) aX)
   (ae (aW (aA bQ (pv 4) ai (nomark _)) (ap (aM (bx (aa (aD T.ni (y3 T) (hM hr) rfl (aa (pv 0) (aa (pv 1) (aa (pv 2) (aa (pv 3) ac))))) (aa ak ac))))) aX)
   (ae (aW (aA bQ (pv 4) ai (nomark _)) (ap (aM (bx (aa (aD T.l8 (wO T) (hM hr) rfl (aa (pv 0) (aa (pv 1) (aa (pv 3) ac)))) (aa ak ac))))) aX)
   (ae (aW (aA bQ (pv 4) ai (nomark _)) (ap (aM (bx (aa (ao af (aC bb (aK (aa ak (aa ak (aa (ao af ak (pv 3)) ac)))) (aD T.bK (bF T) (hM hr) rfl (aa (pv 0) (aa ai (aa ai ac)))) (λ_ _=>rfl)) (ao bO (ao af ak (pv 1)) ai)) (aa ak ac))))) aX)
   (ap (aM (bx (aa (aD T.ph (zD T) (hM hr) rfl (aa (pv 0) (aa (pv 1) (aa (pv 2) (aa (pv 3) ac))))) (aa ak ac))))))))))))
 refine⟨_,rfl,_,31,7,rfl,⟨by decide,by decide⟩,by decide,?_⟩
 exists 1
 refine cZ (λ_=>?_) (λ_=>?_)
 .refine⟨_,rfl,_,rfl,_,rfl,c,s,n,rfl,ls,ln,λr hr H1 s1=>⟨le2,λp hp=>?_⟩⟩;exact q .badcall r p _ hr (s1.free hp) (s1.trans (am hp _)) ah
 dsimp only[eG]
 exists 1
 refine cZ (λ_=>?_) (λ_=>?_)
 .refine⟨_,rfl,_,rfl,_,rfl,c,s,n,rfl,ls,ln,λr hr H1 s1=>⟨le2,λp hp=>?_⟩⟩;exact q .noshort r p _ hr (s1.free hp) (s1.trans (am hp _)) ah
 dsimp only[eG]
 exists 1
 refine cZ (λ_=>?_) (λ_=>?_)
 .refine⟨_,rfl,_,rfl,_,rfl,_,rfl,c,s,f,n,rfl,ls,lf,ln,λr hr H1 s1=>⟨le2,λp hp=>?_⟩⟩;exact q .twice r p _ hr (s1.free hp) (s1.trans (am hp _)) ah
 dsimp only[eG]
 exists 1
 refine cZ (λ_=>?_) (λ_=>?_)
 .refine⟨_,rfl,_,rfl,_,rfl,_,rfl,c,s,f,n,rfl,ls,lf,ln,λr hr H1 s1=>⟨le2,λp hp=>?_⟩⟩;exact q .badword r p _ hr (s1.free hp) (s1.trans (am hp _)) ah
 dsimp only[eG]
 exists 1
 refine cZ (λ_=>?_) (λ_=>?_)
 .refine⟨_,rfl,_,rfl,_,rfl,c,s,n,rfl,ls,ln,λr hr H1 s1=>⟨le2,λp hp=>?_⟩⟩;exact q .toolong r p _ hr (s1.free hp) (s1.trans (am hp _)) ah
 dsimp only[eG]
 exists 1
 refine cZ (λ_=>?_) (λ_=>?_)
 .refine⟨_,rfl,_,_,rfl,rfl,(sA (Kz _) ln (by decide)),(show 3<=KP by decide),λp6 hp6=>?_⟩;obtain⟨k,ek,hk⟩:=eX c 30 (show 0<3 by decide);have ek:bH c 30 3=(k:Int):=ek;obtain⟨r,hr⟩:∃r,(mnD n)[k]?=some r:=⟨_,KM (l:=mnD n) hk⟩;have rl:r.length<=18:=by
   rcases List.mem_cons.mp (KL hr)with rfl|h
   .decide
   rcases List.mem_cons.mp h with rfl|h
   .decide
   rw[List.mem_singleton.mp h];exact Ln (bA (Kz _) ln) (by decide)
  refine⟨_,rfl,_,30,3,rfl,⟨by decide,by decide⟩,by decide,_,_,_,_,rfl,rfl,SqL.of ah,(by rw[ek];exact a_ (show((mnD n).map V.str)[k]?=some (.str r) by rw[KS,hr];rfl)),_,rfl,_,_,rfl,rfl,(sA (Kz _) ls (by decide)),_,_,rfl,rfl,(gr (n:=21) (bA (Kz _) ls) (by decide) (by decide)),_,_,rfl,rfl,(sA rl (cW (n:=21) (bA (Kz _) ls)) (by decide)),le2,λp7 hp7=>?_⟩;exact q .deep _ p7 _ (List.mem_map.mpr ⟨r,KL hr,rfl⟩) ((am hp6 _).free hp7) ((am hp6 _).trans (am hp7 _)) ah
 dsimp only[eG];refine⟨_,rfl,_,rfl,_,rfl,_,rfl,c,s,f,n,rfl,ls,lf,ln,λr hr H1 s1=>⟨le2,λp hp=>?_⟩⟩;exact q .badrow r p _ hr (s1.free hp) (s1.trans (am hp _)) ah
inductive y6(K:KC)(vs:List V)(H:Hp)(Q:VK)(x_1:XK):Prop
 |mk(b:Addr)(ns:List Int)(k:Nat)(_:vs=[.ref b,.int (k:Int)])(_:SqL K H b (ns.map V.int))(_:Q (.int (ns.getD k 0)) H)
theorem y7:aE ["script","k"] ["script","k"] (av (top 57)):=by walk_at "c"
theorem y8(T:Txt P w K mg a):aO P w K mg base CX0 1 a.nB a.mt ["script","k"] (y6 K):=by
 exists T.m_.fn.ok,y7
 obtain⟨b,ns,k,rfl,hS,q⟩:=h
 exists (ae (aW (aA xf (pv 1) (aT bz rfl T.cQ Lq (aa (pv 0) ac)) (nomark _)) (ap (aM (aC bb (pv 0) (pv 1) (λ_ _=>rfl)))) aX)
   (ap (aM ai)))
 refine⟨_,rfl,_,rfl,_,_,rfl,.inl hS,_,_,rfl,rfl,_,rfl,?_⟩;refine cZ (λc=>?_) (λc=>?_)
 .have hk:k<ns.length:=by
   have:=of_decide_eq_true c;rw[KA]at this;omega
  refine⟨_,rfl,_,rfl,_,_,_,_,rfl,rfl,hS,a_ (j:=k) (v:=.int (ns.getD k 0)) ?_,q⟩;rw[KS,KM hk,Lk,KM hk];rfl
 .have hk:ns.length<=k:=by
   refine N3 λhk=>c (decide_eq_true ?_);rw[KA];omega
  have e:ns.getD k 0=0:=by rw[Lk,MD hk];rfl
  rw[e]at q;exact q
theorem at4(a b c d:Int):∀k:Nat,k<4->∃w,atI [V.int a,V.int b,V.int c,V.int d] (k:Int)=some (V.int w)
 |0,_=>⟨a,rfl⟩
 |1,_=>⟨b,rfl⟩
 |2,_=>⟨c,rfl⟩
 |3,_=>⟨d,rfl⟩

inductive Da(vs:List V)(H:Hp)(Q:VK)(x_1:XK):Prop
 |mk(c:Int)(_:vs=[.int c])(_:∀p H' (x y z u:Int),H p=none->ar H H'->H' p=some (.tup [.int x,.int y,.int z,.int u])->Q (.ref p) H')
theorem wA:aE ["cell","wide"] ["cell"] (av (top 59)):=by walk_at "c"
theorem Db(T:Txt P w K mg a):aO P w K mg base CX0 2 a.tV a.rK ["cell"] Da:=by
 exists T.tR.fn.ok,wA
 obtain⟨c,rfl,q⟩:=h
 exists (ae (ay (i:=1) wA.nd rfl (K1 rfl) (aC bb (aK (aa (ao cz ai (aD T.bK (bF T) (hM hr) rfl (aa (pv 0) (aa ai (aa ai ac))))) (aa ai (aa ai (aa (ao cz ai (aD T.bK (bF T) (hM hr) rfl (aa (pv 0) (aa ai (aa ai ac))))) ac))))) (aD T.bK (bF T) (hM hr) rfl (aa (pv 0) (aa ai (aa ai ac)))) (λ_ _=>rfl)))
   (ap (aM (bx (aa (pv 1) (aa (ao cz ai (aD T.bK (bF T) (hM hr) rfl (aa (pv 0) (aa ai (aa ai ac))))) (aa (ao nO (pv 0) (ao cz (ao GE ai ai) ai)) (aa (ao cz ai (aD T.bK (bF T) (hM hr) rfl (aa (pv 0) (aa ai (aa ai ac))))) ac))))))))
 obtain⟨n,en,hn⟩:=eX c 77 (show 0<4 by decide);have en:bH c 77 4=(n:Int):=en;refine⟨_,rfl,_,75,200,rfl,⟨by decide,by decide⟩,by decide,_,_,rfl,rfl,_,rfl,_,76,30,rfl,⟨by decide,by decide⟩,by decide,_,_,rfl,rfl,le4,λp1 hp1=>?_⟩;obtain⟨w,hw⟩:=at4 (1+bH c 75 200) 1 200 (1+bH c 76 30) n hn;refine⟨_,rfl,_,77,4,rfl,⟨by decide,by decide⟩,by decide,_,_,_,_,rfl,rfl,SqL.of ah,(by rw[en];exact hw),?_⟩;refine⟨_,rfl,_,rfl,_,78,60,rfl,⟨by decide,by decide⟩,by decide,_,_,rfl,rfl,_,rfl,_,_,rfl,rfl,⟨by decide,by decide,by decide⟩,_,_,rfl,rfl,_,_,rfl,rfl,(by show(0:Int)<10^Int.toNat 60+1;decide),_,rfl,_,79,60,rfl,⟨by decide,by decide⟩,by decide,_,_,rfl,rfl,le4,λp2 hp2=>?_⟩;exact q p2 _ _ _ _ _ ((am hp1 _).free hp2) ((am hp1 _).trans (am hp2 _)) ah
def iE(su:Str):List Str:=[pq "w",pq "= t",pq "",pq ".page",pq ".odd",pq "x !.9 =",(pq "w [")++(su)++(pq " x ]"),(pq "=== [")++(su)++(pq " y ] z")]

inductive Dc(vs:List V)(H:Hp)(Q:VK)(x_1:XK):Prop
 |mk(c:Int)(su:Str)(_:vs=[.int c,.str su])(_:su.length<=12)(_:∀r∈iE su,∀H',ar H H'->Q (.str r) H')
theorem qM:aE ["cell","short","some"] ["cell","short"] (av (top 68)):=by walk_at "c"
theorem Dd(T:Txt P w K mg a):aO P w K mg base CX0 2 a.tW a.rL ["cell","short"] Dc:=by
 exists T.tS.fn.ok,qM
 obtain⟨c,su,rfl,lsu,q⟩:=h
 exists (ae (ay (i:=2) qM.nd rfl (K1 rfl) (aK (xj (CL.str (CL.str (CL.str (CL.str (CL.str (CL.str CL.nil)))))))))
   (ae (ay (i:=2) qM.nd rfl (K1 rfl) (ao cA (pv 2) (aK (aa (ao af (ao af ak (pv 1)) ak) (aa (ao af (ao af ak (pv 1)) ak) ac)))))
   (ap (aM (aC bb (pv 2) (aD T.bK (bF T) (hM hr) rfl (aa (pv 0) (aa ai (aa (aT bz rfl T.cQ Lq (aa (pv 2) ac)) ac)))) (λ_ _=>rfl))))))
 refine⟨(show 6<=KP by decide),λp1 hp1=>?_⟩;refine⟨_,rfl,_,rfl,_,_,rfl,rfl,(sA (Kz _) lsu (by decide)),_,_,rfl,rfl,(sA (bA (Kz _) lsu) (Kz _) (by decide)),_,rfl,_,_,rfl,rfl,(sA (Kz _) lsu (by decide)),_,_,rfl,rfl,(sA (bA (Kz _) lsu) (Kz _) (by decide)),(show 2<=KP by decide),λp2 hp2=>?_⟩;refine⟨_,_,_,_,rfl,rfl,(am hp2 _ _ _ ah),ah,(show 6+2<=KP by decide),λp3 hp3=>?_⟩;obtain⟨n,en,hn⟩:=eX c 32 (show 0<8 by decide);have en:bH c 32 8=(n:Int):=en;obtain⟨r,hr⟩:∃r,(iE su)[n]?=some r:=⟨_,KM (l:=iE su) hn⟩;exact⟨_,rfl,_,rfl,_,rfl,_,_,rfl,.inl (SqL.of ah),_,32,8,rfl,⟨by decide,by decide⟩,by decide,_,_,_,_,rfl,rfl,SqL.of ah,(by rw[en];exact a_ (show((iE su).map V.str)[n]?=some (.str r) by rw[KS,hr];rfl)),q r (KL hr) _ (((am hp1 _).trans (am hp2 _)).trans (am hp3 _))⟩

def iG(c:Int):List Nat:=(bH c 60 26).toNat::(Mh (bH c 57 10).toNat).map λ(k:Nat)=>(bH c (61+(k:Int)) 36).toNat
def lW(c:Int):Nat:=1+(bH c 58 (1+bH c 57 10)).toNat
def dO(c:Int)(j:Nat):List Nat:=(nmB (iG c) (lW c) j).map al
theorem Bb(c:Int):tF (iG c) (lW c):=by
 have h1:=fq c 57 (show(0:Int)<10 by decide);have h2:=fq c 58 (show(0:Int)<1+bH c 57 10 by omega);have h3:=fq c 60 (show(0:Int)<26 by decide);refine⟨?_,?_,?_,?_,?_⟩
 .unfold iG;simp only[KH,KA,LQ];omega
 .intro b hb;have:b=(bH c 60 26).toNat:=by simpa[iG]using hb.symm
  omega
 .intro b hb;rcases List.mem_cons.mp hb with rfl|hb
  .omega
  .obtain⟨k,_,rfl⟩:=List.mem_map.mp hb;have:=fq c (61+(k:Int)) (show(0:Int)<36 by decide);omega
 .unfold lW;omega
 .unfold lW iG;simp only[KH,KA,LQ];omega
theorem oX(c:Int):NmF (dO c):=(Bb c).nmF

inductive Dg(vs:List V)(H:Hp)(Q:VK)(x_1:XK):Prop
 |mk(c:Int)(j:Nat)(_:vs=[.int c,.int (j:Int)])(_:∀H',ar H H'->Q (.str (tx (dO c j))) H')
theorem kP:aE ["cell","j","some","size","base","at"] ["cell","j"] (av (top 60)):=by walk_at "c"
theorem Dh(T:Txt P w K mg a):aO P w K mg base CX0 2 a.tX a.rM ["cell","j"] Dg:=by
 exists T.tT.fn.ok,kP
 obtain⟨c,j,rfl,q⟩:=h
 exists (ae (ay (i:=2) kP.nd rfl (Py rfl) ak)
   (ae (ay (i:=3) kP.nd rfl (K1 rfl) (ao cz ai (aD T.bK (bF T) (hM hr) rfl (aa (pv 0) (aa ai (aa ai ac))))))
   (ae (ay (i:=4) kP.nd rfl (K1 rfl) (ao af (aC jw (pv 2) (aD T.bK (bF T) (hM hr) rfl (aa (pv 0) (aa ai (aa ai ac)))) (λ_ _=>rfl)) (dg M9 PySem.F.slot_str_join PySem.F.type_str_join zZ ak (aa (i7 rfl (gq (caps:=["cell","some"]) (js:=[0,2]) (cap:=⟨⟨rfl,.inl rfl,rfl,.inl rfl⟩,⟨⟨rfl,.inl rfl,rfl,.inl rfl⟩,trivial⟩⟩)) (vN rfl T.vL (aa (ao kI (pv 3) ai) ac)) (λ_ _ _ _=>dA) (λ_ _ _ _=>(aC jw (pv 2) (aD T.bK (bF T) (hM hr) rfl (aa (pv 1) (aa (ao cz ai (pv 0)) (aa ai ac)))) (λ_ _=>rfl)))) ac))))
   (ae (ay (i:=5) kP.nd rfl (K1 rfl) (ao cz ai (aD T.bK (bF T) (hM hr) rfl (aa (pv 0) (aa ai (aa (pv 3) ac))))))
   (ap (aM (ao af (ao af (ao af (cY kL (pv 4) dM (dn (pv 5))) (aC jw (pv 2) (ao nO (ao zQ (pv 1) ai) ai) (λ_ _=>rfl))) (aC jw (pv 2) (ao nO (pv 1) ai) (λ_ _=>rfl))) (cY kL (pv 4) (dn (pv 5)) dM))))))))
 generalize hS:(pq "abcdefghijklmnopqrstuvwxyz0123456789")=S;have hat:∀k:Nat,k<36->atI S.cps.toList (k:Int)=some (al k):=hS▸FZ;have hSl:S.length<=KP:=hS▸bj (by decide);have h1:=fq c 57 (show(0:Int)<10 by decide);have h2:=fq c 58 (show(0:Int)<1+bH c 57 10 by omega);have h3:=fq c 60 (show(0:Int)<26 by decide);refine⟨_,rfl,_,57,10,rfl,⟨by decide,by decide⟩,by decide,_,_,rfl,rfl,?_⟩;dsimp only[bN];have e60:bH c 60 26=((bH c 60 26).toNat:Int):=by omega
 refine⟨_,rfl,_,rfl,_,60,26,rfl,⟨by decide,by decide⟩,by decide,_,_,al (bH c 60 26).toNat,rfl,rfl,hSl,(by rw[e60];exact hat _ (by omega)),rfl,_,rfl,_,_,rfl,rfl,_,rfl,by omega,by omega,ya (λi ys G=>G=H/\ys=(((Mh i).map λ(k:Nat)=>al (bH c (61+(k:Int)) 36).toNat).map λd=>tx [d]).map V.str) ⟨rfl,rfl⟩ ?_ ?_ ?_⟩
 .rintro i ys G hi ⟨_,rfl⟩;simp only[KA,LQ];exact aF (by omega)
 .rintro i ys G hi ⟨rfl,rfl⟩;refine eM ?_;have h4:=fq c (61+(i:Int)) (show(0:Int)<36 by decide);have e4:bH c (61+(i:Int)) 36=((bH c (61+(i:Int)) 36).toNat:Int):=by omega
  refine⟨_,rfl,_,rfl,_,rfl,_,_,rfl,rfl,c,61+(i:Int),36,(by rw[Int.zero_add];rfl),⟨by omega,by omega⟩,by decide,_,_,al (bH c (61+(i:Int)) 36).toNat,rfl,rfl,hSl,(by rw[e4];exact hat _ (by omega)),rfl,?_⟩;rw[Nb,KQ,KQ,KQ];rfl
 rintro ys G ⟨rfl,rfl⟩ p hp;have en:(1+bH c 57 10-1).toNat=(bH c 57 10).toNat:=by omega
 rw[en];have hb:(al (bH c 60 26).toNat::((Mh (bH c 57 10).toNat).map λ(k:Nat)=>al (bH c (61+(k:Int)) 36).toNat))=(iG c).map al:=by
  unfold iG;rw[KW,Mt];rfl
 have bl:(iG c).length=1+(bH c 57 10).toNat:=by unfold iG;simp only[KH,KA,LQ];omega
 refine⟨_,_,_,rfl,rfl,SqL.of ah,by decide,by simp only[Al,KA,LQ];omega,_,_,rfl,rfl,(by rw[ej1,aZ,aZ];simp only[KA,LQ,KH,L_];exact Md (aF (by omega))),?_⟩;dsimp only[bN];rw[ej1,cB,List.singleton_append,hb];have s1:=am hp (.lst ((((Mh (bH c 57 10).toNat).map λ(k:Nat)=>al (bH c (61+(k:Int)) 36).toNat).map λd=>tx [d]).map V.str));generalize upd G p _=G1 at s1⊢;refine⟨_,rfl,_,rfl,c,58,1+bH c 57 10,rfl,⟨by decide,by decide⟩,by omega,_,_,rfl,rfl,?_⟩;dsimp only[bN];have ea:1+bH c 58 (1+bH c 57 10)=((lW c:Nat):Int):=by unfold lW;omega
 rw[ea];have la:lW c<=(iG c).length:=(Bb c).hi;have l10:=(Bb c).len;have q1:(j:Int)/36%36=((j/36%36:Nat):Int):=by omega
 have q2:(j:Int)%36=((j%36:Nat):Int):=by omega
 have sl1:Txt.slice (tx ((iG c).map al)) none (some ((lW c:Nat):Int))=tx (((iG c).take (lW c)).map al):=by rw[fJ,Tl.cut_to,List.map_take]
 have sl2:Txt.slice (tx ((iG c).map al)) (some ((lW c:Nat):Int)) none=tx (((iG c).drop (lW c)).map al):=by rw[fJ,Tl.cut_from,List.map_drop]
 have hla:((iG c).map al).length<=10:=by rw[KA];exact l10
 have LN:(tx ((iG c).map al)).length<=KP:=by rw[aZ];exact Md (aF (by omega))
 refine⟨_,rfl,_,rfl,_,rfl,_,rfl,LN,_,rfl,_,rfl,_,_,rfl,rfl,⟨by decide,by decide⟩,_,_,rfl,rfl,(by (first|decide|(show(0:Int)<_;first|decide|omega))),_,_,al (j/36%36),rfl,rfl,hSl,(by rw[q1];exact hat _ (OX _ (by decide))),_,_,rfl,rfl,(by rw[sl1,aZ];simp only[KA,La];exact Md (aF (by show min _ _+1<=1000;omega))),_,rfl,_,rfl,_,_,rfl,rfl,(by (first|decide|(show(0:Int)<_;first|decide|omega))),_,_,al (j%36),rfl,rfl,hSl,(by rw[q2];exact hat _ (OX _ (by decide))),_,_,rfl,rfl,?_,_,rfl,_,rfl,_,rfl,_,rfl,LN,_,_,rfl,rfl,?_,?_⟩
 .rw[sl1];show(tx _++tx [_]).length+1<=_;rw[cB,aZ];simp only[KI,KA,La,KH,L_];exact Md (aF (by omega))
 .rw[sl1,sl2];show((tx _++tx [_])++tx [_]).length+_<=_;rw[cB,cB,aZ,aZ];simp only[KI,KA,La,Nl,KH,L_];exact Md (aF (by omega))
 .rw[sl1,sl2];show Q (.str (((tx _++tx [_])++tx [_])++tx _)) G1;rw[cB,cB,cB];have:=q G1 s1;unfold dO nmB at this;rw[KQ,KQ,KQ]at this;exact this
inductive wP(vs:List V)(H:Hp)(Q:VK)(x_1:XK):Prop
 |mk(n:Nat)(_:vs=[.int (n:Int)])(_:n<10^100)(_:Q (.str (tx (eh n))) H)
theorem wQ:aE ["number"] ["number"] (av (top 20)):=by walk_at "c"
theorem pQ(T:Txt P w K mg a):aO P w K mg base CX0 1 a.mf a.lc ["number"] wP:=by
 exists T.jQ.fn.ok,wQ
 obtain⟨n,rfl,hn,q⟩:=h
 exists (ap (aM (kK xQ rfl T.Fd PyProof.Rows.boot_str (aa (pv 0) ac))))
 refine⟨_,rfl,_,rfl,Cn hn,?_⟩;have e:=D1 n;exact Eq.mpr (congrArg (λz=>Q (.str z) H) e) q
inductive wR(K:KC)(vs:List V)(H:Hp)(Q:VK)(x_1:XK):Prop
 |mk(la:Addr)(ls:List Int)(_:vs=[.ref la])(_:SqL K H la (ls.map V.int))(_:Ez ls)(_:ls.length<=63)(_:∀p H',H p=none->ar H H'->H' p=some (.lst (((gU ls ls.length).map tx).map V.str))->Q (.ref p) H')
theorem f_:aE ["levels","counters","numbers","level"] ["levels"] (av (top 23)):=by walk_at "c"
theorem wS(T:Txt P w K mg a):aO P w K mg base CX0 2 a.mj a.li ["levels"] (wR K):=by
 exists T.l9.fn.ok,f_
 obtain⟨la,ls,rfl,hL,l123,h63,q⟩:=h
 exists (ae (ay (i:=1) f_.nd rfl (K1 rfl) (aK (aa ai (aa ai (aa ai ac)))))
   (ae (ay (i:=2) f_.nd rfl (K1 rfl) (aK ac))
   (ae (dF MX rfl (bU (pv 0)) (bw (i:=3) f_.nd rfl (K1 rfl)) (ae (ay (i:=1) f_.nd rfl (K1 rfl) (ao cA (ao cA (cY jX (pv 1) dM (dn (ao kI (pv 3) ai))) (aK (aa (ao cz (aC bb (pv 1) (ao kI (pv 3) ai) (λ_ _=>rfl)) ai) ac))) (ao B8 (aK (aa ai ac)) (ao kI ai (pv 3)))))
   (ap (bf (dg K4 Lf Lg cw (pv 2) (aa (dg M9 PySem.F.slot_str_join PySem.F.type_str_join zZ ak (aa (i7 rfl (gq (caps:=[]) (js:=[]) (cap:=trivial)) (bU (cY jX (pv 1) dM (dn (pv 3)))) (λ_ _ _ _=>dA) (λ_ _ _ _=>(aD T.jQ (pQ T) (hM hr) rfl (aa (pv 0) ac)))) ac)) ac))))))
   (ap (aM (pv 2))))))
 refine⟨bj (by decide),λp1 hp1=>?_⟩;refine⟨Ls _,λp2 hp2=>?_⟩;have s1:=am hp1 (.lst (vh (0,0,0)));have hr:H p2=none:=s1.free hp2;have s2:=s1.trans (am hp2 (.lst []));refine⟨_,rfl,_,rfl,⟨_,s2.seq hL⟩,dP (K:=K) (a:=la) (xs:=ls.map V.int) (λi σ H2=>ar H H2/\∃(pc:Addr)(v:Option V),σ=[rF la,rF pc,rF p2,v]/\H2 pc=some (.lst (vh (ctr (ls.take i))))/\H2 p2=some (.lst (((gU ls i).map tx).map V.str)))
  ⟨s2,p1,none,rfl,(am hp2 _) _ _ ah,ah⟩ (λi σ H2 _ h2=>h2.1.seq hL) ?_ ?_⟩
 .rintro i y σ H2 hi ⟨sH,pc,v,rfl,hc,hn⟩;obtain⟨z,rfl,ez⟩:=F3 hi;have i63:i<63:=by
   have:=(List.getElem?_eq_some_iff.mp ez).1;omega
  have bc:=CW (ls.take (i+1));have nl:=oS ls i;rw[La]at bc;rw[CY ez];rw[EA ez]at bc⊢;generalize ctr (ls.take i)=c at hc bc⊢;generalize gU ls i=ts at hn nl⊢;obtain⟨pre,k,cs,e1,e2,e3,l1,l2,l3,l4,e4,l5,cs63,e5⟩:=lev (l123 z (KL ez)) c (m:=63) (by omega) (by omega) (by omega);rw[<-e5];rw[<-e3]at e4⊢;refine⟨_,rfl,_,rfl,_,_,rfl,rfl,_,rfl,_,_,rfl,SqL.of hc,λp3 hp3=>?_⟩;rw[e1];have s3:=am hp3 (.lst pre);refine⟨_,rfl,_,rfl,_,_,rfl,rfl,_,_,_,_,rfl,rfl,s3.seq (SqL.of hc),e2,_,_,rfl,rfl,le1,λp4 hp4=>?_⟩;refine⟨_,_,pre,[V.int (k+1)],rfl,rfl,(am hp4 _) _ _ ah,ah,bj (by simp;omega),λp5 hp5=>?_⟩;refine⟨le1,λp6 hp6=>?_⟩;refine⟨_,rfl,_,_,rfl,rfl,_,_,[V.int 0],rfl,rfl,ah,(by omega),(by omega),bj (by simp;omega),λp7 hp7=>?_⟩;refine⟨_,_,pre++[V.int (k+1)],(KB (3-z).toNat [V.int 0]).flatten,rfl,rfl,(am hp7 _) _ _ ((am hp6 _) _ _ ah),ah,bj (by rw[zV];simp;omega),λp8 hp8=>?_⟩;have h28:H2 p8=none:=(s3.trans ((am hp4 _).trans ((am hp5 _).trans ((am hp6 _).trans (am hp7 _))))).free hp8;have s8:=s3.trans ((am hp4 (.lst [V.int (k+1)])).trans ((am hp5 (.lst (pre++[V.int (k+1)]))).trans ((am hp6 (.lst [V.int 0])).trans ((am hp7 (.lst (KB (3-z).toNat [V.int 0]).flatten)).trans (am hp8 (.lst (pre++[V.int (k+1)]++(KB (3-z).toNat [V.int 0]).flatten)))))));have hc8:=ah (H:=(upd (upd (upd (upd (upd H2 p3 (.lst pre)) p4 (.lst [V.int (k+1)])) p5 (.lst (pre++[V.int (k+1)]))) p6 (.lst [V.int 0])) p7 (.lst (KB (3-z).toNat [V.int 0]).flatten))) (a:=p8) (o:=.lst (pre++[V.int (k+1)]++(KB (3-z).toNat [V.int 0]).flatten));generalize upd (upd (upd (upd (upd (upd H2 p3 (.lst pre)) p4 (.lst [V.int (k+1)])) p5 (.lst (pre++[V.int (k+1)]))) p6 (.lst [V.int 0])) p7 (.lst (KB (3-z).toNat [V.int 0]).flatten)) p8 (.lst (pre++[V.int (k+1)]++(KB (3-z).toNat [V.int 0]).flatten))=H8 at s8 hc8⊢;generalize pre++[V.int (k+1)]++(KB (3-z).toNat [V.int 0]).flatten=cv at hc8 e4⊢;have hn8:=s8 _ _ hn;refine⟨_,rfl,.inl ⟨rfl,_,SqL.of hn8⟩,rfl,_,rfl,_,rfl,_,rfl,_,_,rfl,SqL.of hc8,λp9 hp9=>?_⟩;rw[e4];have s9:=am hp9 (.lst (cs.map nV));refine⟨_,rfl,⟨_,SqL.of ah⟩,d7 (K:=K) (a:=p9) (xs:=cs.map nV) (λi ys H3=>H3=upd H8 p9 (.lst (cs.map nV))/\ys=(((cs.take i).map eh).map tx).map V.str) ⟨rfl,rfl⟩ (λi ys H3 _ h3=>by rw[h3.1];exact SqL.of ah) ?_ ?_ ?_⟩
  .rintro j ys H3 hj ⟨_,rfl⟩;rw[KA,KA,KA,La];exact K6 (show _<1000 by omega) (bj (Kz _))
  .rintro j y ys H3 hj ⟨rfl,rfl⟩;obtain⟨n,rfl,en⟩:=HD hj;refine eM ?_;refine⟨_,rfl,n,rfl,JL (cs63 n (KL en)),rfl,?_⟩;rw[cP en];simp only[KQ,KW,MZ]
  .rintro ys H3 ⟨rfl,rfl⟩ p hp;rw[KA,LH];have s10:=am hp (.lst (((cs.map eh).map tx).map V.str));have hsum:=yQ cs cs63;have hn10:=s10 _ _ (s9 _ _ hn8);refine⟨_,p,(cs.map eh).map tx,rfl,rfl,SqL.of ah,(by decide),(by rw[KA,KA];omega),_,_,_,rfl,rfl,hn10,?_,?_⟩
   .rw[KA,KA];exact K6 (show _<1000 by omega) (bj (Kz _))
   .have st:=sH.trans (s8.trans (s9.trans s10));have nc:p8≠p2:=λz=>a7 hn h28 z.symm;refine⟨st.put hr,p8,_,rfl,?_,?_⟩
    .rw[aq nc];exact s10 _ _ (s9 _ _ hc8)
    .rw[ah,JK,uW];simp only[KQ,KW,MZ]
 .rintro σ H2 ⟨sH,pc,v,rfl,hc,hn⟩;rw[KA]at hn;exact⟨_,rfl,q p2 _ hr sH hn⟩

theorem fB{F:Hp}{x C dx:Addr}{L:List (Str×V)}{n:Nat}(f:Str)(v:V)(k:F x=some (.ins C dx L))(l:L.length<=n):∃F' L',upd F x (.ins C dx (bY f v L))=F'/\bY f v L=L'/\L'.length<=n+1/\F' x=some (.ins C dx L')/\FrX F F' x:=⟨_,_,rfl,rfl,Ln yy (OP l),ah,FrX.refl.at⟩
theorem oh{F:Hp}{p:Addr}(o:HO)(h:F p=none):∃F',upd F p o=F'/\F' p=some o/\ar F F':=⟨_,rfl,ah,am h _⟩
theorem j8{H H1 H2:Hp}{x:Addr}(f:FrX H H1 x)(g:FrX H1 H2 x):FrX H H2 x:=λb u n h=>g b u n (f b u n h)
theorem d9{F:Hp}{p q:Addr}{o:HO}(a:F p=some o)(h:F q=none):p≠q:=λz=>by rw[z,h]at a;cases a

def HtA(F:Hp)(v:V)(h:Nat×List Wk):Prop:=∃a l,v=.ref a/\F a=some (.tup [.str "head",.int (h.1:Int),.ref l])/\eV F l h.2
def fR(hs:List (Nat×List Wk)):List Int:=hs.map λh=>(h.1:Int)
def jG(hs:List (Nat×List Wk))(feet:List (Str×List Wk)):Sc:=⟨(gU (fR hs) (fR hs).length).map tx,hs.map (·.2),feet⟩

inductive vn(C:Addr)(vs:List V)(H:Hp)(Q:VK)(x_1:XK):Prop
 |mk(x dx hl fa:Addr)(hv:List V)(hs:List (Nat×List Wk))(kvs:List (Key×V))(feet:List (Str×List Wk))(_:vs=[.ref x,.ref hl,.ref fa])(_:H x=some (.ins C dx []))(_:H hl=some (.lst hv))(_:cS (HtA H) hv hs)(_:H fa=some (.dK kvs))(_:FtA H kvs feet)(_:Ez (fR hs))(_:hs.length<=63)(_:∀H' A,A.x=x->FrX H H' x->StA C (hid A.os H') H' A (jG hs feet) ss0->(H A.wa=none/\H A.ma=none/\H A.ha=none)->Q .non H')
theorem vo:aE ["self","all_heads","feet"] ["self","all_heads","feet"] (av (aH 55 0)):=by walk_at "c"
theorem vp(T:Txt P w K mg a):aO P w K mg base CX0 3 a.k9 a.kj ["self","all_heads","feet"] (vn a.aL):=by
 exists T.kX.fn.ok,vo
 obtain⟨x,dx,hl,fa,hv,hs,kvs,feet,rfl,hx,hh,ha,hf,hft,lv,hsl,q⟩:=h
 exists (ae (c4 (pv 0) (aD T.l9 (wS T) (hM hr) rfl (aa (i7 rfl (gq (caps:=[]) (js:=[]) (cap:=trivial)) (bU (pv 1)) (λ_ _ _ _=>dA) (λ_ _ _ _=>(aC (r:=qr K) aY (pv 0) ai (λ_ _=>rfl)))) ac)) rfl)
   (ae (c4 (pv 0) (i7 rfl (gq (caps:=[]) (js:=[]) (cap:=trivial)) (bU (pv 1)) (λ_ _ _ _=>dA) (λ_ _ _ _=>(aC (r:=qr K) aY (pv 0) ai (λ_ _=>rfl)))) rfl)
   (ae (c4 (pv 0) (pv 2) rfl)
   (ae (c4 (pv 0) ai rfl)
   (ae (c4 (pv 0) (aK ac) rfl)
   (ae (c4 (pv 0) xZ rfl)
   (ae (c4 (pv 0) (aK ac) rfl)
   (ae (c4 (pv 0) ai rfl)
   (ap (c4 (pv 0) io rfl))))))))))
 have lh:=ha.len;have k:=hx;have f:FrX H H x:=FrX.refl;have l:([]:List (Str×V)).length<=0:=Kz _;refine⟨_,rfl,hl,rfl,⟨_,SqL.of hh⟩,d7 (K:=K) (a:=hl) (xs:=hv) (λi ys G'=>H=G'/\ys=((fR hs).take i).map V.int) ⟨rfl,rfl⟩ (λi ys G' _ z=>by rw[<-z.1];exact SqL.of hh) ?_ ?_ ?_⟩
 .rintro i ys G' hi ⟨_,z⟩;rw[z,KA,La];exact aF (by unfold fR;rw[KA];omega)
 .rintro i y ys G' hy ⟨rfl,z⟩;obtain⟨h,hw,b,l,rfl,hb,_⟩:=ha.getL hy;refine eM ?_;refine⟨_,rfl,_,_,_,_,rfl,rfl,SqT.of hb,rfl,rfl,?_⟩;rw[z,cP (l:=fR hs) (x:=(h.1:Int)) (by unfold fR;rw[KS,hw];rfl),KQ];rfl
 rintro ys G' ⟨rfl,z⟩ q1 hq1;rw[lh,show hs.length=(fR hs).length from by unfold fR;rw[KA],LH]at z;have sq:=am hq1 (.lst ys);refine⟨q1,fR hs,rfl,SqL.of (by rw[<-z];exact ah),lv,(by unfold fR;rw[KA];exact hsl),λna Hn hna sna kna=>?_⟩;have sn:=sq.trans sna;have kn:Hn na=some (.lst ((jG hs feet).nums.map V.str)):=kna;have hna':H na=none:=sq.free hna;clear sna kna sq;have e0:=f.free k hna';have f:=f.same sn;have k:=sn _ _ k;have a0:=kn;have d0:na≠x:=λz=>by rw[z,k]at a0;cases a0
 refine⟨_,rfl,_,_,_,_,rfl,k,T.aG.cl,T.iW,Le l (by decide),?_⟩;obtain⟨H2,L0,eH,g0,l,k,r⟩:=fB "numbers" (V.ref na) k l;rw[eH];have f:=j8 f r;have a0:=r _ _ d0 a0;have hhn:H2 hl=some (.lst hv):=f.get hh (by intro z;rw[z,hx]at hh;cases hh);refine⟨_,rfl,hl,rfl,⟨_,SqL.of hhn⟩,d7 (K:=K) (a:=hl) (xs:=hv) (λi ys G'=>H2=G'/\ys.length=i/\cS (TlA H) ys ((hs.take i).map (·.2))) ⟨rfl,rfl,trivial⟩ (λi ys G' _ z=>by rw[<-z.1];exact SqL.of hhn) ?_ ?_ ?_⟩
 .rintro i ys G' hi ⟨_,z,_⟩;rw[z];exact aF (by omega)
 .rintro i y ys G' hy ⟨rfl,z,al⟩;obtain⟨h,hw,b,l,rfl,hb,hb2⟩:=ha.getL hy;refine eM ?_;refine⟨_,rfl,_,_,_,_,rfl,rfl,SqT.of (f.get hb (by intro z;rw[z,hx]at hb;cases hb)),rfl,rfl,(by rw[KI,z];rfl),?_⟩;rw[cP hw,KQ];exact al.snoc ⟨l,rfl,hb2⟩
 rintro ys G' ⟨rfl,z,al⟩ q2 hq2;rw[lh,LH]at al
 exists hq2,Ht,st,kt
 have e1:=f.free k hq2;have d0_1:na≠q2:=d9 a0 hq2;have f:=f.same st;have k:=st _ _ k;have a0:=st _ _ a0;have a1:=kt;have d1:q2≠x:=λz=>by rw[z,k]at a1;cases a1
 refine⟨_,rfl,_,_,_,_,rfl,k,T.aG.cl,T.ji,Le l (by decide),?_⟩;obtain⟨H4,L1,eH,g1,l,k,r⟩:=fB "titles" (V.ref q2) k l;rw[eH];have f:=j8 f r;have a0:=r _ _ d0 a0;have a1:=r _ _ d1 a1;refine⟨_,rfl,_,rfl,_,_,_,_,rfl,k,T.aG.cl,T.ku,Le l (by decide),?_⟩;obtain⟨H5,L2,eH,g2,l,k,r⟩:=fB "feet" (V.ref fa) k l;rw[eH];have f:=j8 f r;have a0:=r _ _ d0 a0;have a1:=r _ _ d1 a1;refine⟨_,rfl,_,_,_,_,rfl,k,T.aG.cl,T.kS,Le l (by decide),?_⟩;obtain⟨H6,L3,eH,g3,l,k,r⟩:=fB "feet_set" (V.int 0) k l;rw[eH];have f:=j8 f r;have a0:=r _ _ d0 a0;have a1:=r _ _ d1 a1;refine⟨bj (by simp),λp4 hp4=>?_⟩;obtain⟨H7,eH,b4,w4⟩:=oh (.lst []) hp4;rw[eH];have e4:=f.free k hp4;have d0_4:na≠p4:=d9 a0 hp4;have d1_4:q2≠p4:=d9 a1 hp4;have f:=f.same w4;have k:=w4 _ _ k;have a0:=w4 _ _ a0;have a1:=w4 _ _ a1;have a4:=b4;have d4:p4≠x:=λz=>by rw[z,k]at a4;cases a4
 refine⟨_,rfl,_,_,_,_,rfl,k,T.aG.cl,T.cx,Le l (by decide),?_⟩;obtain⟨H8,L4,eH,g4,l,k,r⟩:=fB "words" (V.ref p4) k l;rw[eH];have f:=j8 f r;have a0:=r _ _ d0 a0;have a1:=r _ _ d1 a1;have a4:=r _ _ d4 a4;intro p5 hp5;obtain⟨H9,eH,b5,w5⟩:=oh (.dK []) hp5;rw[eH];have e5:=f.free k hp5;have d0_5:na≠p5:=d9 a0 hp5;have d1_5:q2≠p5:=d9 a1 hp5;have d4_5:p4≠p5:=d9 a4 hp5;have f:=f.same w5;have k:=w5 _ _ k;have a0:=w5 _ _ a0;have a1:=w5 _ _ a1;have a4:=w5 _ _ a4;have a5:=b5;have d5:p5≠x:=λz=>by rw[z,k]at a5;cases a5
 refine⟨_,rfl,_,_,_,_,rfl,k,T.aG.cl,T.dm,Le l (by decide),?_⟩;obtain⟨H10,L5,eH,g5,l,k,r⟩:=fB "marks" (V.ref p5) k l;rw[eH];have f:=j8 f r;have a0:=r _ _ d0 a0;have a1:=r _ _ d1 a1;have a4:=r _ _ d4 a4;have a5:=r _ _ d5 a5;refine⟨bj (by simp),λp6 hp6=>?_⟩;obtain⟨H11,eH,b6,w6⟩:=oh (.lst []) hp6;rw[eH];have e6:=f.free k hp6;have d0_6:na≠p6:=d9 a0 hp6;have d1_6:q2≠p6:=d9 a1 hp6;have d4_6:p4≠p6:=d9 a4 hp6;have d5_6:p5≠p6:=d9 a5 hp6;have f:=f.same w6;have k:=w6 _ _ k;have a0:=w6 _ _ a0;have a1:=w6 _ _ a1;have a4:=w6 _ _ a4;have a5:=w6 _ _ a5;have a6:=b6;have d6:p6≠x:=λz=>by rw[z,k]at a6;cases a6
 refine⟨_,rfl,_,_,_,_,rfl,k,T.aG.cl,T.eU,Le l (by decide),?_⟩;obtain⟨H12,L6,eH,g6,l,k,r⟩:=fB "heads" (V.ref p6) k l;rw[eH];have f:=j8 f r;have a0:=r _ _ d0 a0;have a1:=r _ _ d1 a1;have a4:=r _ _ d4 a4;have a5:=r _ _ d5 a5;have a6:=r _ _ d6 a6;refine⟨_,rfl,_,_,_,_,rfl,k,T.aG.cl,T.cN,Le l (by decide),?_⟩;obtain⟨H13,L7,eH,g7,l,k,r⟩:=fB "leap" (V.int 0) k l;rw[eH];have f:=j8 f r;have a0:=r _ _ d0 a0;have a1:=r _ _ d1 a1;have a4:=r _ _ d4 a4;have a5:=r _ _ d5 a5;have a6:=r _ _ d6 a6;refine⟨_,rfl,_,_,_,_,rfl,k,T.aG.cl,T.c8,Le l (by decide),?_⟩;obtain⟨H14,L8,eH,g8,l,k,r⟩:=fB "behind_head" (V.bl false) k l;rw[eH];have f:=j8 f r;have a0:=r _ _ d0 a0;have a1:=r _ _ d1 a1;have a4:=r _ _ d4 a4;have a5:=r _ _ d5 a5;have a6:=r _ _ d6 a6;have eL:L8=fsS ⟨x,dx,na,q2,fa,p4,p5,p6⟩ 0 0 false:=by rw[<-g8,<-g7,<-g6,<-g5,<-g4,<-g3,<-g2,<-g1,<-g0];exact FV ⟨x,dx,na,q2,fa,p4,p5,p6⟩
 rw[eL]at k;have nfx:fa≠x:=λz=>by rw[z,hx]at hf;cases hf
 have hid':∀b u,b≠x->b≠p4->b≠p5->b≠p6->H b=some u->hid [x,p4,p5,p6] H14 b=some u:=λb u n1 n2 n3 n4 h=>cT (by simp[n1,n2,n3,n4]) (f b u n1 h);have inH:∀b u,H b=some u->b≠x->hid [x,p4,p5,p6] H14 b=some u:=λb u h n1=>hid' b u n1 (λz=>by rw[z,e4]at h;cases h) (λz=>by rw[z,e5]at h;cases h) (λz=>by rw[z,e6]at h;cases h) h;have tupX:∀{b us},H b=some (.tup us)->hid [x,p4,p5,p6] H14 b=some (.tup us):=λ{b us} h=>inH b _ h (λz=>by rw[z,hx]at h;cases h);have lstX:∀{b us},H b=some (.lst us)->hid [x,p4,p5,p6] H14 b=some (.lst us):=λ{b us} h=>inH b _ h (λz=>by rw[z,hx]at h;cases h);have lsX:∀{l ws},eV H l ws->eV (hid [x,p4,p5,p6] H14) l ws:=λ{l ws} ⟨us,h1,h2⟩=>⟨us,lstX h1,h2.imp λv w ⟨b,z1,z2⟩=>⟨b,z1,tupX z2⟩⟩;refine q _ ⟨x,dx,na,q2,fa,p4,p5,p6⟩ rfl f ⟨cR,k,⟨?_,⟨ys,?_,?_⟩,⟨kvs,?_,?_⟩⟩,?_,d4_6,⟨[],a4,trivial⟩,a5,⟨[],a6,trivial⟩⟩ ⟨e4,e5,e6⟩
 .exact cT (by simp[Sad.os,d0,d0_4,d0_5,d0_6]) a0
 .exact cT (by simp[Sad.os,d1,d1_4,d1_5,d1_6]) a1
 .exact al.imp λv w ⟨l,z1,z2⟩=>⟨l,z1,lsX z2⟩
 .exact inH fa _ hf nfx
 .exact ftX (λl ws h=>lsX h) hft
 .intro b hb;unfold hid;rw[if_pos hb]
inductive oj(cls:Xc->Addr)(C:Addr)(vs:List V)(H:Hp)(Q:VK)(E:XK):Prop
 |mk(A:Sad)(G:Hp)(c:Sc)(σ:Ss)(_:vs=[.ref A.x])(_:StA C G H A c σ)(_:mY c)(_:vf c σ)(_:σ.ws.length<=400)(_:∀e,fj c σ=some e->∀H',ar G H'->E (.ref (cls e)) none H')(_:fj c σ=none->∀H',ar H H'->StA C G H' A c σ->Q .non H')
theorem cb:aE ["self","name","k","words","text","kind","rest"] ["self"] (av (aH 55 8)):=by walk_at "c"
theorem om(T:Txt P w K mg a):aO P w K mg base (CXe P w) 1 a.fU a.fE ["self"] (oj (tD a.d_ a.eB a.cG a.eC) a.aL):=by
 have dD:=T.dD;obtain⟨dD,k_POINTING⟩:=dD
 exists T.fT.fn.okE,cb
 obtain⟨A,G,c,σ,rfl,S,so,ss,wl,qe,q⟩:=h
 exists (ae (Af Mb rfl (Eh (bi (pv 0) rfl)) (iX rfl (bZ (bw (i:=1) cb.nd rfl (K1 rfl)) (bZ (bw (i:=2) cb.nd rfl (K1 rfl)) gc))) (ap (aW (aA bQ (pv 2) (aT bz rfl T.cQ Lq (aa (bi (pv 0) rfl) ac)) (nomark _)) (ap (b7 rfl cj T.pO rfl (aa (cK (aI bP (aI (dN (pv 1)) (aI bP dh)))) ac))) aX)))
   (ae (ui (k:=3) rfl (gq (caps:=[]) (js:=[]) (cap:=trivial)) (bU (bi (pv 0) rfl)) (λ_ _ _ _=>dA) (λ_ _ _ _=>(aC (r:=qr K) aY (pv 0) ai (λ_ _=>rfl))) cb.nd rfl rfl)
   (ae (Af Mb rfl (FQ (bi (pv 0) rfl)) (bw (i:=4) cb.nd rfl (K1 rfl)) (ap (bf (dg K4 M3 M4 mH (pv 3) (aa (pv 4) ac)))))
   (ap (dF Mb rfl (bU (pv 3)) (iX rfl (bZ (bw (i:=5) cb.nd rfl (K1 rfl)) (bZ (bw (i:=6) cb.nd rfl (K1 rfl)) gc))) (ap (aW (PW.pt (lM (aA jk (pv 5) (bp (v:=.ref a.eQ) rfl dD rfl) (by with_unfolding_all rfl)) (jj (aA (kU (dW hr)) (pv 6) (bi (pv 0) rfl) (by with_unfolding_all rfl))))) (ap (b7 rfl cj T.pO rfl (aa (cK (aI bP (aI (dN (pv 6)) dh))) ac))) aX)))))))
 obtain⟨wvs,w2,w3⟩:=S.words;have lw:=w3.len;obtain⟨n1,n2,n3,n4,n5⟩:=S.nes;refine⟨_,rfl,_,_,_,_,_,rfl,S.ins,T.aG.cl,T.dm,lS,A.ma,mkV σ.ms,rfl,S.marks,λhz o=>?_⟩;have kf:upd H A.ma (.frz o (.dK (mkV σ.ms))) A.ma=some (.frz o (.dK (mkV σ.ms))):=ah;have ix:upd H A.ma (.frz o (.dK (mkV σ.ms))) A.x=some (.ins a.aL A.dx (fsS A (σ.fs:Int) σ.lp σ.bh)):=by rw[aq n2];exact S.ins
 have iw:upd H A.ma (.frz o (.dK (mkV σ.ms))) A.wa=some (.lst wvs):=by rw[aq n4];exact w2
 have sg:ar G (upd H A.ma (.frz o (.dK (mkV σ.ms)))):=cC S.old (S.fr _ A4);have th:∀H2,ar (upd H A.ma (.frz o (.dK (mkV σ.ms)))) H2->ar H (upd H2 A.ma (.dK (mkV σ.ms))):=λH2 s=>CK S.marks s;generalize upd H A.ma (.frz o (.dK (mkV σ.ms)))=Hf at kf ix iw sg th⊢;refine CG hz (λi σ' H2=>∃(v1 v2:Option V),σ'=[rF A.x,v1,v2,none,none,none,none]/\ar Hf H2/\∀m∈σ.ms.take i,m.2≠σ.ws.length) ?_ ?_ ?_ ?_
 .rintro i σ' H2 ⟨v1,v2,rfl,m,_⟩;exact m _ _ kf
 .exact⟨none,none,rfl,ar.refl _,by simp⟩
 .rintro i qv p σ' H2 hq ⟨v1,v2,rfl,m,no⟩ hp;have hq':=hq;unfold mkV at hq';rw[KS]at hq';obtain⟨⟨mn,mk_⟩,hm,rfl⟩:=Option.map_eq_some_iff.mp hq';obtain⟨ml,e1,e2,e3⟩:=ss.ms _ (KL hm);dsimp only at e1;subst e1;have s1:=m.trans (am hp (.tup [.str (tx ml),.int (mk_:Int)]));refine⟨p,_,rfl,SqT.of ah,rfl,_,_,rfl,_,_,rfl,rfl,?_⟩;refine⟨_,rfl,_,rfl,_,_,_,_,_,rfl,s1 _ _ ix,T.aG.cl,T.cx,jf,_,_,rfl,.inl (SqL.of (s1 _ _ iw)),rfl,_,rfl,?_⟩;by_cases c1:mk_=σ.ws.length
  .refine iT (by rw[c1,lw]) ?_;refine⟨⟨trivial,⟨ml,rfl,by omega,e3⟩,trivial,trivial⟩,λz=>⟨le1,qe .nomark ?_ _ (sg.trans s1)⟩⟩;unfold fj;rw[if_pos];rw[OQ];exact⟨_,KL hm,decide_eq_true c1⟩
  .refine iF (λz=>c1 (by injection z with z;omega)) ?_;refine⟨_,_,rfl,s1,?_⟩;rw[cP hm];intro x hx;rcases List.mem_append.mp hx with hx|hx
   .exact no x hx
   .rw[List.mem_singleton.mp hx];exact c1
 rintro σ' H2 ⟨v1,v2,rfl,m,no⟩;rw[Ag,LH]at no;have s0:=th H2 m;have S1:=S.same s0;generalize upd H2 A.ma (.dK (mkV σ.ms))=H3 at s0 S1⊢;obtain⟨wvs',w2',w3'⟩:=S1.words;have lw':=w3'.len;refine⟨_,rfl,_,_,_,_,_,rfl,S1.ins,T.aG.cl,T.cx,jf,A.wa,rfl,⟨_,SqL.of w2'⟩,d7 (K:=K) (a:=A.wa) (xs:=wvs') (λi ys G'=>H3=G'/\ys.length=i/\du H3 ys ((σ.ws.take i).map (·.w))) ⟨rfl,rfl,trivial⟩ (λi ys G' _ z=>by rw[<-z.1];exact SqL.of w2') ?_ ?_ ?_⟩
 .rintro i ys G' hi ⟨_,z,_⟩;exact aF (by omega)
 .rintro i y ys G' hy ⟨rfl,zl,al⟩;obtain⟨tw,hw,ta,wa',fa',rfl,h1,h2,h3⟩:=w3'.getL hy;refine eM ?_;refine⟨_,rfl,_,_,_,_,rfl,rfl,SqT.of (cR _ _ h1),rfl,rfl,?_,?_⟩
  .rw[KI,zl];rfl
  .rw[cP hw,KQ];exact al.snoc (h2.mono cR)
 rintro ys G' ⟨rfl,zl,al⟩ pw hpw;rw[lw',LH]at al
 exists hpw,H4,s4,k4
 have S4:=S1.same s4;have al4:=du.mono s4 al;have fr:=S1.fresh hpw;have gpw:G pw=none:=S1.old.free hpw;obtain⟨kvs,f1,f2⟩:=S4.cl.feet;have fl:=f2.len;have hfa:H4 A.fa=some (.dK kvs):=S4.old _ _ f1;have npf:pw≠A.fa:=λz=>by rw[z,f1]at gpw;cases gpw
 have nos:∀b∈A.os,b≠A.fa:=λb hb z=>by have:=S4.fr b hb;rw[z,f1]at this;cases this
 refine⟨_,rfl,_,_,_,_,_,rfl,S4.ins,T.aG.cl,T.ku,FU,A.fa,kvs,rfl,hfa,λhz2 o2=>?_⟩;have F1:∀b,b≠A.fa->upd H4 A.fa (.frz o2 (.dK kvs)) b=H4 b:=λb hb=>aq hb;have F2:upd H4 A.fa (.frz o2 (.dK kvs)) A.fa=some (.frz o2 (.dK kvs)):=ah;generalize upd H4 A.fa (.frz o2 (.dK kvs))=F at F1 F2⊢;refine Ei hz2 (λi σ' H2=>∃(us:List V)(v4:Option V),σ'=[rF A.x,v1,v2,rF pw,v4,none,none]/\H2=upd F pw (.lst us)/\du H4 us (σ.ws.map (·.w)++(c.feet.take i).flatMap (·.2))/\us.length<=400+39*i) ?_ ?_ ?_ ?_
 .rintro i σ' H2 ⟨us,v4,rfl,rfl,_⟩;rw[aq (Lp npf)];exact F2
 .refine⟨ys,none,rfl,(Eo (by rw[F1 _ npf];exact k4)).symm,?_,by omega⟩;rw[Ox,List.flatMap_nil,LF];exact al4
 .rintro i ⟨fk,fv⟩ σ' H2 hq ⟨us,v4,rfl,rfl,al5,ul⟩;obtain⟨⟨fn,fw⟩,hf,e1,l,e2,l1,l2,l3⟩:=f2.get hq;dsimp only at e2;subst e2;have hi:=(List.getElem?_eq_some_iff.mp hq).1;have ff:=(so.fw _ (KL hf)).1;dsimp only at ff;have ll:=l3.len;dsimp only at ll;have nl:l≠pw:=λz=>by rw[z,gpw]at l2;cases l2
  have nlf:l≠A.fa:=λz=>by rw[z,f1]at l2;cases l2
  have fle:=so.fl;refine⟨_,rfl,.inl ⟨rfl,_,SqL.of ah⟩,_,rfl,_,_,_,_,rfl,rfl,ah,(by rw[aq nl,F1 _ nlf];exact S4.old _ _ l2),Md (Le (show us.length+l1.length<=10000 by omega) (by decide)),?_⟩;rw[CJ];refine⟨us++l1,_,rfl,rfl,?_,by rw[KI];omega⟩;rw[cP hf,List.flatMap_append,<-Ma];refine al5.app ?_;rw[show List.flatMap (λx:Str×List Wk=>x.2) [(fn,fw)]=fw from by simp];exact du.mono S4.old l3
 rintro σ' H2 ⟨us,v4,rfl,rfl,al5,ul⟩;rw[fl,LH]at al5;have T5:∀{b xs},H4 b=some (.tup xs)->upd (upd F pw (.lst us)) A.fa (.dK kvs) b=some (.tup xs):=λ{b xs} h=>by
  have b1:b≠A.fa:=λz=>by rw[z,hfa]at h;cases h
  have b2:b≠pw:=λz=>by rw[z,k4]at h;cases h
  rw[aq b1,aq b2,F1 _ b1];exact h
 have s5:ar H3 (upd (upd F pw (.lst us)) A.fa (.dK kvs)):=λb u h=>by
  have b2:b≠pw:=λz=>by rw[z,hpw]at h;cases h
  by_cases b1:b=A.fa
  .rw[b1,ah];have:=s4 _ _ h;rw[b1,hfa]at this;exact this
  .rw[aq b1,aq b2,F1 _ b1];exact s4 _ _ h
 have k5:upd (upd F pw (.lst us)) A.fa (.dK kvs) pw=some (.lst us):=by rw[aq npf];exact ah
 generalize upd (upd F pw (.lst us)) A.fa (.dK kvs)=H5 at T5 s5 k5⊢;have S5:=S1.same s5;have al6:du H5 us (σ.ws.map (·.w)++c.feet.flatMap (·.2)):=al5.imp λv w ⟨b,z1,z2⟩=>⟨b,z1,T5 z2⟩;have l6:=al6.len;have all:∀w∈σ.ws.map (·.w)++c.feet.flatMap (·.2),lA w.1=true->∃n:List Nat,n.length<=200/\(∀d∈n,d<127)/\w.2=.str (tx n):=λw hw hk=>by
  rcases List.mem_append.mp hw with hw|hw
  .obtain⟨t,ht,rfl⟩:=List.mem_map.mp hw;rcases(ss.ws t ht).1 with⟨z,_⟩|⟨z,_⟩|⟨_,h⟩
   .rw[z]at hk;cases hk
   .rw[z]at hk;cases hk
   .exact h
  .obtain⟨p,hp,hw⟩:=List.mem_flatMap.mp hw;rcases((so.fw p hp).2 w hw).1 with⟨_,h⟩|⟨z,_⟩
   .exact h
   .rw[z]at hk;cases hk
 have noA:(σ.ms.any λm=>m.2=σ.ws.length)=false:=by
  rw[NK];intro m hm;simpa using no m hm
 refine⟨_,rfl,pw,rfl,⟨_,SqL.of k5⟩,dP (K:=K) (a:=pw) (xs:=us) (λi σ' H2=>∃(v5 v6:Option V),σ'=[rF A.x,v1,v2,rF pw,v4,v5,v6]/\H2=H5/\∀w∈(σ.ws.map (·.w)++c.feet.flatMap (·.2)).take i,kB σ w=false) ⟨none,none,rfl,rfl,by simp⟩ (λi σ' H2 _ g=>by obtain⟨_,_,_,rfl,_⟩:=g;exact SqL.of k5) ?_ ?_⟩
 .rintro i y σ' H2 hy ⟨v5,v6,rfl,rfl,nb⟩;obtain⟨⟨kd,vv⟩,hw,b,rfl,hb⟩:=al6.getL hy;have gw:=all _ (KL hw);dsimp only at gw;have step:kB σ (kd,vv)=false->∀w∈(σ.ws.map (·.w)++c.feet.flatMap (·.2)).take (i+1),kB σ w=false:=λz=>by
   rw[cP hw];intro w hw;rcases List.mem_append.mp hw with hw|hw
   .exact nb w hw
   .rw[List.mem_singleton.mp hw];exact z
  refine⟨b,_,rfl,SqT.of hb,rfl,_,_,rfl,_,_,rfl,rfl,?_⟩;refine⟨_,rfl,_,_,rfl,.inr (k_POINTING _),rfl,rfl,_,rfl,?_⟩;rw[IQ];by_cases hk:lA kd=true
  .rw[hk];left;obtain⟨n,nl,nc,hn⟩:=gw hk
   .subst hn;refine⟨_,rfl,_,rfl,_,_,_,_,_,rfl,S5.ins,T.aG.cl,T.dm,lS,_,_,rfl,kT.k (k:=.inr (tx n)) S5.marks,_,rfl,?_⟩;rw[sk];cases hv:lkS (tx n) σ.ms with
    |none =>
     left;refine⟨⟨trivial,⟨n,rfl,by omega,nc⟩,trivial⟩,λz=>⟨le1,qe .nomark ?_ _ S5.old⟩⟩;unfold fj;rw[if_neg (by rw[noA];decide),if_pos];rw[OQ];refine⟨_,KL hw,?_⟩;show(lA kd&&(lkS (tx n) σ.ms).isNone)=true;rw[hk,hv];rfl
    |some k =>
     right;refine⟨_,_,rfl,rfl,step ?_⟩;show(lA kd&&(lkS (tx n) σ.ms).isNone)=false;rw[hv];exact NM _
  .rw[Nn]at hk;rw[hk];right;right;refine⟨_,_,rfl,rfl,step ?_⟩;show(lA kd&&_)=false;rw[hk];rfl
 rintro σ' H2 ⟨v5,v6,rfl,rfl,nb⟩;rw[l6,LH]at nb;refine q ?_ _ (s0.trans s5) S5;unfold fj;rw[if_neg (by rw[noA];decide),if_neg];rw[Nn,NK];intro w hw;rw[nb w hw];decide
inductive qO(cls:Xc->Addr)(C:Addr)(vs:List V)(H:Hp)(Q:VK)(E:XK):Prop
 |mk(A:Sad)(G:Hp)(c:Sc)(σ:Ss)(n:List Nat)(_:vs=[.ref A.x,.str (tx n)])(_:StA C G H A c σ)(_:n.length<=200)(_:∀d∈n,d<127)(_:σ.ms.length<=1000000)(_:∀e,f8 σ (tx n)=.error e->∀H',ar G H'->E (.ref (cls e)) none H')(_:∀σ' H',f8 σ (tx n)=.ok σ'->StA C G H' A c σ'->Q .non H')
theorem qP:aE ["self","name"] ["self","name"] (av (aH 55 5)):=by walk_at "c"
theorem qQ(T:Txt P w K mg a):aO P w K mg base (CXe P w) 1 a.iS a.il ["self","name"] (qO (tD a.d_ a.eB a.cG a.eC) a.aL):=by
 exists T.iM.fn.okE,qP
 obtain⟨A,G,c,σ,n,rfl,S,nl,nc,ml,qe,q⟩:=h
 exists (ae (aW (aA (uj (dW hr)) (pv 1) (bi (pv 0) rfl) (by with_unfolding_all rfl)) (ap (b7 rfl cj T.oA rfl (aa (cK (aI bP (aI (dN (pv 1)) (aI bP dh)))) ac))) aX)
   (ap (zY (dW hr) (bi (pv 0) rfl) (pv 1) (aT bz rfl T.cQ Lq (aa (bi (pv 0) rfl) ac)) rfl)))
 obtain⟨wvs,w2,w3⟩:=S.words;have lw:=w3.len;refine⟨_,rfl,_,rfl,_,_,_,_,_,rfl,S.ins,T.aG.cl,T.dm,lS,_,_,rfl,kT.k (k:=.inr (tx n)) S.marks,_,rfl,?_⟩;rw[sk];cases hv:lkS (tx n) σ.ms with
 |some k =>
  left;exact⟨⟨trivial,⟨n,rfl,by omega,nc⟩,trivial,trivial⟩,λz=>⟨le1,qe .twice (by unfold f8;rw[hv];rfl) H S.old⟩⟩
 |none =>
  right;dsimp only[eG];refine⟨_,rfl,_,_,_,_,_,rfl,S.ins,T.aG.cl,T.cx,jf,_,_,rfl,.inl (SqL.of w2),_,rfl,_,_,_,_,_,rfl,S.ins,T.aG.cl,T.dm,lS,_,rfl,_,_,rfl,uS.k (k:=.inr (tx n)) S.marks (by rw[Ag];exact Le ml (by decide)),?_⟩;rw[xY _ (by rw[sk,hv];rfl),lw,<-El];exact q _ _ (by unfold f8;rw[hv];rfl) (S.mark (tx n) σ.ws.length)
inductive pU(vs:List V)(H:Hp)(Q:VK)(x_1:XK):Prop
 |mk(a0 a1:V)(_:vs=[a0,a1])(_:False)
theorem pV:aE ["self","name"] ["self","name"] (av (aH 55 7)):=by walk_at "c"
theorem pW(T:Txt P w K mg a):aO P w K mg base (CXe P w) 2 a.h_ a.gJ ["self","name"] pU:=by
 exists T.g9.fn.okE,pV
 obtain⟨a0,a1,rfl,hx⟩:=h
 exists (ae (aW (aA (kU (dW hr)) (pv 1) (bi (pv 0) rfl) (by with_unfolding_all rfl)) (ap (b7 rfl cj T.tZ rfl (aa (cK (aI bP (aI (dN (pv 1)) dh))) ac))) aX)
   (ae (c4 (pv 0) (ao cz (bi (pv 0) rfl) ai) rfl)
   (ap (aM (ao cA (aK (aa (bx (aa ak (aa (ao af (ao af ak (aD T.jQ (pQ T) (hM hr) rfl (aa (bi (pv 0) rfl) ac))) ak) ac))) ac)) (nP (dW hr) (bi (pv 0) rfl) (pv 1) (λ_ _=>rfl)))))))
 exact hx.elim
inductive qR(cls:Xc->Addr)(C:Addr)(vs:List V)(H:Hp)(Q:VK)(E:XK):Prop
 |mk(A:Sad)(G:Hp)(c:Sc)(σ:Ss)(lead:Int)(w:Addr)(wk:Wk)(_:vs=[.ref A.x,.int lead,.ref w])(_:StA C G H A c σ)(_:mY c)(_:WkA H (.ref w) wk)(_:GWk wk)(_:wk.1≠.foot)(_:σ.ws.length<=400)(_:σ.fs<=σ.ws.length)(_:∀e,dG c σ lead wk=.error e->∀H',ar G H'->E (.ref (cls e)) none H')(_:∀σ' H',dG c σ lead wk=.ok σ'->StA C G H' A c σ'->Q .non H')
theorem dH:aE ["self","lead","word","foot"] ["self","lead","word"] (av (aH 55 6)):=by walk_at "c"
theorem qS(T:Txt P w K mg a):aO P w K mg base (CXe P w) 3 a.iU a.im ["self","lead","word"] (qR (tD a.d_ a.eB a.cG a.eC) a.aL):=by
 have bL:=T.bL;obtain⟨t_MOST_WORDS_books,bL⟩:=bL
 exists T.iN.fn.okE,dH
 obtain⟨A,G,c,σ,lead,w,wk,rfl,S,so,hw,gw,hk,wl,fl,qe,q⟩:=h
 exists (ae (ay (i:=3) dH.nd rfl (K1 rfl) (aK ac))
   (ae (aW (aA bQ (aC aY (pv 2) ai (λ_ _=>rfl)) ak (nomark _)) (ae (ay (i:=3) dH.nd rfl (K1 rfl) (dk bI T.aG T.g9 (pW T) (hM hr) (pv 0) (aa (aC aY (pv 2) ai (λ_ _=>rfl)) ac)))
   (ap (ay (i:=2) dH.nd rfl (K1 rfl) (aC bb (pv 3) ai (λ_ _=>rfl))))) aX)
   (ae (aW (aA bQ (aT bz rfl T.cQ Lq (aa (bi (pv 0) rfl) ac)) (bp (v:=.int 400) rfl bL ⟨_,rfl⟩) (nomark _)) (ap (b7 rfl cj T.ju rfl (aa (cK (aI bP (aI (nQ (bp (v:=.int 400) rfl bL ⟨_,rfl⟩)) (aI bP dh)))) ac))) aX)
   (ae (aW (aA jv (bi (pv 0) rfl) ai (nomark _)) (ae (ay (i:=1) dH.nd rfl (K1 rfl) (bi (pv 0) rfl))
   (ap (c4 (pv 0) ai rfl))) aX)
   (ap (bf (dg K4 Lf Lg cw (bi (pv 0) rfl) (aa (bx (aa (pv 1) (aa (nN (bi (pv 0) rfl) (lN (dZ E1 (pv 1) ai (nomark _)))) (aa (pv 2) (aa (pv 3) ac))))) ac))))))))
 refine⟨bj (by simp),λp1 hp1=>?_⟩;have n1:p1≠A.wa:=λz=>by obtain⟨_,w2,_⟩:=S.words;rw[z,w2]at hp1;cases hp1
 have n2:p1≠A.ha:=λz=>by obtain⟨_,w2,_⟩:=S.heads;rw[z,w2]at hp1;cases hp1
 exists hp1,H1,s1,k1
 have S1:=S.same s1;have hw1:=hw.mono s1;dsimp only[bN];refine lE (λσ' H'=>∃(w' p:Addr)(wk':Wk)(f:List Wk)(σ1:Ss),σ'=[rF A.x,some (.int lead),rF w',rF p]/\StA a.aL G H' A c σ1/\WkA H' (.ref w') wk'/\eV H' p f/\p≠A.wa/\p≠A.ha/\dG c σ lead wk=kA σ1 lead wk' f/\σ1.ws=σ.ws) ?_ (λkey=>?_)
 .rintro σ' H2 ⟨w',p,wk',f,σ1,rfl,S2,hw2,hp2,m1,m2,e,ew⟩;obtain⟨wvs,w2,w3⟩:=S2.words;have lw:=w3.len;rw[ew]at lw;refine⟨_,rfl,_,_,_,_,_,rfl,S2.ins,T.aG.cl,T.cx,jf,_,_,rfl,.inl (SqL.of w2),rfl,_,rfl,?_⟩;refine cZ (λc1=>?_) (λc1=>?_)
  .have c2:wvs.length=400:=by have:=of_decide_eq_true c1;injection this with this;omega
   exact⟨⟨trivial,trivial,trivial,trivial⟩,λz=>⟨le1,qe .toolong (by rw[e];unfold kA;rw[ew,if_pos (by omega)]) H2 S2.old⟩⟩
  have c2:¬ (wvs.length=400):=λz=>c1 (decide_eq_true (by rw[z];rfl));dsimp only[eG];refine lE (λσ' H'=>σ'=[rF A.x,some (.int (if 0<σ1.lp then σ1.lp else lead)),rF w',rF p]/\StA a.aL G H' A c { σ1 with lp:=if 0<σ1.lp then 0 else σ1.lp }/\WkA H' (.ref w') wk'/\eV H' p f/\H' A.wa=some (.lst wvs)) ?_ (λkey=>?_)
  .rintro σ' H3 ⟨rfl,S3,hw3,hp3,w23⟩;generalize hld:(if 0<σ1.lp then σ1.lp else lead)=ld;have go:∀(b:Bool),b=(σ1.bh&&decide (ld<=2))->∀p2,H3 p2=none->StA a.aL G (upd (upd H3 p2 (.tup [.int ld,.bl b,.ref w',.ref p])) A.wa (.lst (wvs++[.ref p2]))) A c { σ1 with lp:=if 0<σ1.lp then 0 else σ1.lp,ws:=σ1.ws++[⟨ld,σ1.bh&&decide (ld<=2),wk',f⟩] }:=λb hb p2 hp2=>by
    have s3:=am hp2 (.tup [.int ld,.bl b,.ref w',.ref p]);exact(S3.same s3).word (t:=⟨ld,σ1.bh&&decide (ld<=2),wk',f⟩) (s3 _ _ w23) rfl (by rw[<-hb];exact ah) (hw3.mono s3) (hp3.mono s3) m1 m2
   have fin:dG c σ lead wk=.ok { σ1 with lp:=if 0<σ1.lp then 0 else σ1.lp,ws:=σ1.ws++[⟨ld,σ1.bh&&decide (ld<=2),wk',f⟩] }:=by
    rw[e];unfold kA;rw[if_neg (by rw[ew];omega),hld]
   refine⟨_,rfl,_,_,_,_,_,rfl,S3.ins,T.aG.cl,T.cx,jf,.inl ⟨rfl,_,SqL.of w23⟩,_,rfl,_,rfl,_,_,_,_,_,rfl,S3.ins,T.aG.cl,T.c8,nZ,_,rfl,?_⟩;have wf:wvs.length<KP:=aF (by omega);cases hb:σ1.bh with
   |true =>
    left;refine⟨_,rfl,_,_,rfl,rfl,_,rfl,_,rfl,le4,λp2 hp2=>?_⟩;have s3:=am hp2 (.tup [.int ld,.bl (decide (ld<=2)),.ref w',.ref p]);refine⟨_,_,_,rfl,rfl,s3 _ _ w23,wf,?_⟩;exact q _ _ fin (go _ (by rw[hb];rfl) p2 hp2)
   |false =>
    right;refine⟨_,rfl,_,rfl,le4,λp2 hp2=>?_⟩;have s3:=am hp2 (.tup [.int ld,.bl false,.ref w',.ref p]);refine⟨_,_,_,rfl,rfl,s3 _ _ w23,wf,?_⟩;exact q _ _ fin (go _ (by rw[hb];rfl) p2 hp2)
  .refine⟨_,rfl,_,_,_,_,_,rfl,S2.ins,T.aG.cl,T.cN,si,_,_,rfl,rfl,_,rfl,?_⟩;by_cases hl:0<σ1.lp
   .refine iT hl ?_;refine⟨_,rfl,_,_,_,_,_,rfl,S2.ins,T.aG.cl,T.cN,si,?_⟩;refine⟨_,rfl,_,_,_,_,rfl,S2.ins,T.aG.cl,T.cN,sj,?_⟩;rw[qK];have S3:=S2.flds σ1.fs 0 σ1.bh;obtain⟨e1,e2,e3,e4,e5⟩:=S2.nes;have tup:∀{b us},H2 b=some (.tup us)->upd H2 A.x (.ins a.aL A.dx (fsS A (σ1.fs:Int) 0 σ1.bh)) b=some (.tup us):=λ{b us} h=>by rw[aq (λz=>S2.nt b (by rw[z];exact Em) us h)];exact h
    have lsx:∀{b us},H2 b=some (.lst us)->upd H2 A.x (.ins a.aL A.dx (fsS A (σ1.fs:Int) 0 σ1.bh)) b=some (.lst us):=λ{b us} h=>by rw[aq (λz=>by rw[z,S2.ins]at h;cases h)];exact h
    refine key _ _ ⟨by rw[if_pos hl];rfl,by rw[if_pos hl];exact S3,?_,?_,lsx w2⟩
    .obtain⟨b,z1,z2⟩:=hw2;exact⟨b,z1,tup z2⟩
    .obtain⟨us,z1,z2⟩:=hp2;exact⟨us,lsx z1,z2.imp λv w ⟨b,y1,y2⟩=>⟨b,y1,tup y2⟩⟩
   .refine iF hl ?_;refine key _ _ ⟨by rw[if_neg hl],by rw[if_neg hl];exact S2,hw2,hp2,w2⟩
 .obtain⟨wb,e1,hb⟩:=hw1;injection e1 with e1;subst e1;refine⟨_,rfl,_,_,_,_,rfl,rfl,SqT.of hb,rfl,rfl,_,rfl,?_⟩;have nk:¬ (V.str wk.1.s=V.str "foot"):=λz=>hk (Kw.inj (b:=.foot) (V.str.inj z));rw[decide_eq_false nk];right;refine key _ _ ⟨w,p1,wk,[],σ,rfl,S1,⟨w,rfl,hb⟩,⟨[],k1,trivial⟩,n1,n2,?_,rfl⟩;unfold dG;rw[if_neg hk]
inductive sF(cls:Xc->Addr)(C:Addr)(vs:List V)(H:Hp)(Q:VK)(E:XK):Prop
 |mk(A:Sad)(G:Hp)(c:Sc)(σ:Ss)(lead:Int)(la:Addr)(byh:Bool)(ws:List Wk)(_:vs=[.ref A.x,.int lead,.ref la,.bl byh])(_:StA C G H A c σ)(_:mY c)(_:eV G la ws)(_:∀w∈ws,GWk w/\w.1≠.foot)(_:ws.length<=600)(_:Bd σ ws.length)(_:∀e,cr c σ lead byh ws=.error e->∀H',ar G H'->E (.ref (cls e)) none H')(_:∀σ' H',cr c σ lead byh ws=.ok σ'->StA C G H' A c σ'->Q .non H')
theorem iH:aE ["self","lead","words","by_head","word"] ["self","lead","words","by_head"] (av (aH 55 4)):=by walk_at "c"
theorem fe(T:Txt P w K mg a):aO P w K mg base (CXe P w) 4 a.jh a.iV ["self","lead","words","by_head"] (sF (tD a.d_ a.eB a.cG a.eC) a.aL):=by
 exists T.dB.fn.okE,iH
 obtain⟨A,G,c,σ,lead,la,byh,ws,rfl,S,so,hl,gw,wl,bd,qe,q⟩:=h
 exists (ap (dF Mb rfl (bU (pv 2)) (bw (i:=4) iH.nd rfl (K1 rfl)) (ap (aW (aA bQ (aC aY (pv 4) ai (λ_ _=>rfl)) ak (nomark _)) (ap (bf (dk bI T.aG T.iM (qQ T) (hM hr) (pv 0) (aa (aC aY (pv 4) ai (λ_ _=>rfl)) ac)))) (ae (bf (dk bI T.aG T.iN (qS T) (hM hr) (pv 0) (aa (pv 1) (aa (pv 4) ac))))
   (ae (c4 (pv 0) (pv 3) rfl)
   (ap (ay (i:=1) iH.nd rfl (K1 rfl) ai))))))))
 obtain⟨us,l1,l2⟩:=hl;have lu:=l2.len;refine⟨_,rfl,la,rfl,⟨_,SqL.of (S.old _ _ l1)⟩,dP (K:=K) (a:=la) (xs:=us) (λi σ' H2=>∃(vw:Option V)(ld:Int)(σ1:Ss),σ'=[rF A.x,some (.int ld),rF la,some (.bl byh),vw]/\StA a.aL G H2 A c σ1/\cr c σ lead byh ws=cr c σ1 ld byh (ws.drop i)/\Bd σ1 (ws.length-i)) ⟨none,lead,σ,rfl,S,rfl,bd⟩ (λi σ' H2 _ g=>by obtain⟨_,_,_,_,S1,_⟩:=g;exact SqL.of (S1.old _ _ l1)) ?_ ?_⟩
 .rintro i y σ' H2 hy ⟨vw,ld,σ1,rfl,S1,er,b1⟩;obtain⟨w,hw,wb,rfl,hb⟩:=l2.getL hy;have hi:=(List.getElem?_eq_some_iff.mp hw).1;obtain⟨gww,nft⟩:=gw w (KL hw);have ed:ws.drop i=w::ws.drop (i+1):=by
   obtain⟨hi,e⟩:=List.getElem?_eq_some_iff.mp hw;rw[Mc hi,e]
  have hb2:=S1.old _ _ hb;rw[ed]at er;refine⟨_,rfl,_,_,_,_,rfl,rfl,SqT.of hb2,rfl,rfl,_,rfl,?_⟩;by_cases hk:w.1=.mark
  .refine iT (by rw[hk];rfl) ?_;have er2:cr c σ1 ld byh (w::ws.drop (i+1))=(match f8 σ1 (cU w.2)with|.error x=>.error x|.ok s'=>cr c s' ld byh (ws.drop (i+1))):=by
    show(if w.1=.mark then _ else _)=_;rw[if_pos hk]
    first|done|(cases f8 σ1 (cU w.2)<;>rfl)
   obtain⟨_,n,nl,nc,hn⟩|⟨z,_⟩:=gww
   .rw[hn]at hb2;have hr_:cU w.2=tx n:=by rw[hn];rfl
    rw[hr_]at er2;refine⟨_,rfl,_,_,_,rfl,S1.ins,mX (by decide),_,rfl,_,_,_,_,rfl,rfl,SqT.of hb2,rfl,?_⟩;refine⟨A,G,c,σ1,n,rfl,S1,nl,nc,(by have:=b1.ms;omega),λe he H' s'=>?_,λσ2 H3 he S2=>?_⟩
    .refine qe e ?_ H' s';rw[er,er2,he]
    .rw[he]at er2;have hs2:σ2.ws=σ1.ws/\σ2.fs=σ1.fs/\σ2.ms.length=σ1.ms.length+1:=by
      unfold f8 at he;by_cases z:(lkS (tx n) σ1.ms).isSome=true
      .rw[if_pos z]at he;cases he
      .rw[if_neg z]at he;cases he;exact⟨rfl,rfl,by simp⟩
     exact⟨_,ld,σ2,rfl,S2,er.trans er2,⟨by rw[hs2.1];exact b1.ws,by rw[hs2.1,hs2.2.1];exact b1.fs,by rw[hs2.2.2];have:=b1.ms;omega⟩⟩
   .rw[hk]at z;cases z
  .have nk:¬ (V.str w.1.s=V.str "mark"):=λz=>hk (Kw.inj (b:=.mark) (V.str.inj z));rw[decide_eq_false nk];right;have er2:cr c σ1 ld byh (w::ws.drop (i+1))=(match dG c σ1 ld w with|.error x=>.error x|.ok s'=>cr c { s' with bh:=byh } 0 byh (ws.drop (i+1))):=by
    show(if w.1=.mark then _ else _)=_;rw[if_neg hk]
    first|done|(cases dG c σ1 ld w<;>rfl)
   refine⟨_,rfl,_,_,_,rfl,S1.ins,mX (by decide),_,rfl,_,rfl,?_⟩;refine⟨A,G,c,σ1,ld,wb,w,rfl,S1,so,⟨wb,rfl,hb2⟩,gww,nft,b1.ws,b1.fs,λe he H' s'=>qe e (by rw[er,er2,he]) H' s',λσ2 H3 he S2=>?_⟩;rw[he]at er2;have b2:=wq he;refine⟨_,rfl,_,rfl,_,_,_,_,rfl,S2.ins,T.aG.cl,T.c8,sj,?_⟩;rw[tz];exact⟨_,0,_,rfl,S2.flds σ2.fs σ2.lp byh,er.trans er2,⟨by show σ2.ws.length<=400;have:=b1.ws;omega,by show σ2.fs<=σ2.ws.length;have:=b1.fs;omega,by show σ2.ms.length+_<=_;rw[b2.2.2.2];have:=b1.ms;omega⟩⟩
 rintro σ' H2 ⟨vw,ld,σ1,rfl,S1,er,b1⟩;rw[lu,List.drop_length]at er;exact q _ _ er S1
inductive qT(cls:Xc->Addr)(C:Addr)(vs:List V)(H:Hp)(Q:VK)(E:XK):Prop
 |mk(A:Sad)(G:Hp)(c:Sc)(σ:Ss)(k:Nat)(_:vs=[.ref A.x,.int (k:Int)])(_:StA C G H A c σ)(_:mY c)(_:∀t∈c.titles,∀w∈t,w.1≠.foot)(_:k<c.nums.length)(_:σ.hs.length<=1000)(_:Bd σ 200)(_:∀e,qH c σ k=.error e->∀H',ar G H'->E (.ref (cls e)) none H')(_:∀σ' H',qH c σ k=.ok σ'->StA C G H' A c σ'->Q .non H')
theorem kQ:aE ["self","k","number"] ["self","k"] (av (aH 55 2)):=by walk_at "c"
theorem qU(T:Txt P w K mg a):aO P w K mg base (CXe P w) 5 a.iQ a.ij ["self","k"] (qT (tD a.d_ a.eB a.cG a.eC) a.aL):=by
 exists T.iK.fn.okE,kQ
 obtain⟨A,G,c,σ,k,rfl,S,so,nf,hk,hl,bd,qe,q⟩:=h
 exists (ae (ay (i:=2) kQ.nd rfl (K1 rfl) (aC bb (bi (pv 0) rfl) (pv 1) (λ_ _=>rfl)))
   (ae (bf (dg K4 Lf Lg cw (bi (pv 0) rfl) (aa (bx (aa (pv 2) (aa (aT bz rfl T.cQ Lq (aa (bi (pv 0) rfl) ac)) ac))) ac)))
   (ap (bf (dk bI T.aG T.dB (fe T) (hM hr) (pv 0) (aa ai (aa (ao cA (aK (aa (bx (aa ak (aa (pv 2) ac))) ac)) (aC bb (bi (pv 0) rfl) (pv 1) (λ_ _=>rfl))) (aa io ac))))))))
 obtain⟨nm,hnm⟩:∃nm,c.nums[k]?=some nm:=⟨c.nums[k],KM hk⟩;obtain⟨tt,htt⟩:∃tt,c.titles[k]?=some tt:=⟨c.titles[k]'(by rw[so.tl];exact hk),KM _⟩;have e1:c.nums.getD k MS=nm:=by rw[Lk,hnm];rfl
 have e2:c.titles.getD k []=tt:=by rw[Lk,htt];rfl
 obtain⟨nl,hnl,nll⟩:=so.nl nm (KL hnm);obtain⟨ttl,ttw⟩:=so.tw tt (KL htt);refine⟨_,rfl,_,_,_,_,_,rfl,S.ins,T.aG.cl,T.iW,A3,_,rfl,_,_,_,_,rfl,rfl,SqL.of (S.old _ _ S.cl.nums),a_ (j:=k) (by rw[KS,hnm];rfl),?_⟩;obtain⟨wvs,w2,w3⟩:=S.words;obtain⟨hvs,h2,h3⟩:=S.heads;have lw:=w3.len;have lh:=h3.len;refine⟨_,rfl,_,_,_,_,_,rfl,S.ins,T.aG.cl,T.eU,tu,.inl ⟨rfl,_,SqL.of h2⟩,_,rfl,_,rfl,_,_,_,_,_,rfl,S.ins,T.aG.cl,T.cx,jf,_,_,rfl,.inl (SqL.of w2),le2,λp1 hp1=>?_⟩;rw[lw]
 exists hp1,H1,s1,k1
 have S1:=S.same s1;have h2':=s1 _ _ h2;refine⟨_,_,_,rfl,rfl,h2',aF (by omega),?_⟩;have S2:=S1.headp h2' k1;generalize upd H1 A.ha (.lst (hvs++[.ref p1]))=H2 at S2⊢;refine⟨_,rfl,_,_,_,rfl,S2.ins,mX (by decide),_,rfl,le2,λp2 hp2=>?_⟩;have s3:=am hp2 (.tup [.str "plain",.str nm]);have k3:upd H2 p2 (.tup [.str "plain",.str nm]) p2=some (.tup [.str "plain",.str nm]):=ah;have S3:=S2.same s3;change _ at k3;generalize upd H2 p2 (.tup [.str "plain",.str nm])=H3 at s3 k3 S3⊢;refine⟨le1,λp3 hp3=>?_⟩
 exists hp3,H4,s4,k4
 have k4':=s4 _ _ k3;have S4:=S3.same s4;obtain⟨tvs,t1,t2⟩:=S4.cl.titles;obtain⟨v,hv,l,rfl,tl⟩:=t2.getR htt;obtain⟨us,u1,u2⟩:=tl.mono S4.old;have lu:=u2.len;refine⟨_,rfl,_,_,_,_,_,rfl,S4.ins,T.aG.cl,T.ji,CI,_,rfl,_,_,_,_,rfl,rfl,SqL.of (S4.old _ _ t1),a_ hv,_,_,_,_,rfl,rfl,k4,u1,(by show 1+us.length<=_;rw[lu];exact Md (aF (by omega))),λp4 hp4=>?_⟩
 exists hp4,H5,s5,kZ
 have k5:H5 p4=some (.lst (.ref p2::us)):=kZ;have k5':=s5 _ _ k4';have u2':=du.mono s5 u2;have S5:=S4.same s5;have fr:=S4.fresh hp4;have run:qH c σ k=cr c { σ with hs:=σ.hs++[(nm,σ.ws.length)] } 2 true ((.plain,.str nm)::tt):=by
  unfold qH;rw[e1,e2]
 refine⟨A,hid A.os H5,c,_,2,p4,true,(.plain,.str nm)::tt,rfl,S5.re,so,Ah S5.nt fr ⟨_,k5,⟨p2,rfl,k5'⟩,u2'⟩,?_,?_,⟨bd.ws,bd.fs,?_⟩,λe he H' s'=>qe e (by rw[run];exact he) H' (S5.out.trans s'),λσ' H' he S'=>q σ' H' (by rw[run];exact he) (S'.base S5.out S.cl)⟩
 .intro w hw;rcases List.mem_cons.mp hw with rfl|hw
  .exact⟨.inl ⟨(show Kw.plain≠Kw.entry by decide),nl,by omega,so.nc nl (by rw[<-hnl];exact KL hnm),by rw[hnl]⟩,(show Kw.plain≠Kw.foot by decide)⟩
  .exact⟨ttw w hw,nf tt (KL htt) w hw⟩
 .simp only[KH];omega
 .simp only[KH];have:=bd.ms;show σ.ms.length+_<=_;omega
inductive qV(vs:List V)(H:Hp)(Q:VK)(x_1:XK):Prop
 |mk(a0:V)(_:vs=[a0])(_:False)
theorem c6:aE ["self","lead","k","number","title"] ["self"] (av (aH 55 3)):=by walk_at "c"
theorem qW(T:Txt P w K mg a):aO P w K mg base (CXe P w) 5 a.iR a.ik ["self"] qV:=by
 exists T.iL.fn.okE,c6
 obtain⟨a0,rfl,hx⟩:=h
 exists (ae (ay (i:=1) c6.nd rfl (K1 rfl) ai)
   (ap (dF Mb rfl (z8 rfl T.gp (bi (pv 0) rfl)) (iX rfl (bZ (bw (i:=2) c6.nd rfl (K1 rfl)) (bZ (bw (i:=3) c6.nd rfl (K1 rfl)) gc))) (ae (ui (k:=4) rfl (gq (caps:=[]) (js:=[]) (cap:=trivial)) (bU (aC bb (bi (pv 0) rfl) (pv 2) (λ_ _=>rfl))) (λ_ _ _ _=>(uT (aA xc (aC (r:=qr K) aY (pv 0) ai (λ_ _=>rfl)) ak (nomark _)))) (λ_ _ _ _=>(pv 0)) c6.nd rfl rfl)
   (ae (bf (dk bI T.aG T.dB (fe T) (hM hr) (pv 0) (aa (pv 1) (aa (ao cA (ao cA (aK (aa (bx (aa ak (aa (pv 3) ac))) ac)) (pv 4)) (aK (aa (bx (aa ak (aa (pv 2) ac))) ac))) (aa io ac)))))
   (ap (ay (i:=1) c6.nd rfl (K1 rfl) ai)))))))
 exact hx.elim

def JN(c:Sc)(σ:Ss):Tg->Prop
 |.head _ _=>σ.hs.length<c.nums.length/\∀t∈c.titles,∀w∈t,w.1≠.foot
 |.par ws=>(∀w∈ws,GWk w/\w.1≠.foot)/\ws.length<=600
 |.lst=>False
 |_=>True
inductive pX(cls:Xc->Addr)(C:Addr)(vs:List V)(H:Hp)(Q:VK)(E:XK):Prop
 |mk(A:Sad)(G:Hp)(c:Sc)(σ:Ss)(v:V)(t:Tg)(_:vs=[.ref A.x,v])(_:StA C G H A c σ)(_:mY c)(_:TgA G v t)(_:JN c σ t)(_:σ.hs.length<=1000)(_:Bd σ 600)(_:∀e,iA c σ t=.error e->∀H',ar G H'->E (.ref (cls e)) none H')(_:∀σ' H',iA c σ t=.ok σ'->StA C G H' A c σ'->Q .non H')
theorem jU:aE ["self","thing","kind"] ["self","thing"] (av (aH 55 1)):=by walk_at "c"
theorem pY(T:Txt P w K mg a):aO P w K mg base (CXe P w) 6 a.ic a.gM ["self","thing"] (pX (tD a.d_ a.eB a.cG a.eC) a.aL):=by
 have fG:=T.fG;obtain⟨fG,k_LEAPS⟩:=fG
 exists T.hJ.fn.okE,jU
 obtain⟨A,G,c,σ,v,t,rfl,S,so,tg,ok,hl,bd,qe,q⟩:=h
 exists (ae (ay (i:=2) jU.nd rfl (K1 rfl) (aC aY (pv 1) ai (λ_ _=>rfl)))
   (ap (aW (aA vZ (pv 2) (bp (v:=.ref a.dq) rfl fG rfl) (by with_unfolding_all rfl)) (ap (c4 (pv 0) (aT (qo rfl) rfl T.xw NV (aa (bi (pv 0) rfl) (aa (yf (bp (v:=.ref a.dq) rfl fG rfl) (pv 2) (λ_ _=>rfl)) ac))) rfl)) (ap (aW (aA bQ (pv 2) ak (nomark _)) (ap (bf (dk bI T.aG T.iK (qU T) (hM hr) (pv 0) (aa (aT bz rfl T.cQ Lq (aa (bi (pv 0) rfl) ac)) ac)))) (ap (aW (aA bQ (pv 2) ak (nomark _)) (ap (bf (yu bI T.aG T.iL (qW T) (hM hr) (pv 0) ))) (ap (aW (kE (bi (pv 0) rfl) (λ_=>rfl)) (ap (bf (dk bI T.aG T.dB (fe T) (hM hr) (pv 0) (aa ai (aa (aC aY (pv 1) ai (λ_ _=>rfl)) (aa io ac)))))) (ap (bf (dk bI T.aG T.dB (fe T) (hM hr) (pv 0) (aa ai (aa (aC aY (pv 1) ai (λ_ _=>rfl)) (aa io ac)))))))))))))))
 have bd2:Bd σ 200:=⟨bd.ws,bd.fs,by have:=bd.ms;omega⟩;have L1:b8 iC (.inr "page")=some (.int 3):=rfl;have L2:b8 iC (.inr "odd")=some (.int 4):=by
  unfold iC;rw[b_ (λz=>by injection z with z;exact absurd z (by decide)),dz rfl]
 have L0:∀s:Str,¬ (s = "page")->¬ (s = "odd")->b8 iC (.inr s)=none:=λs h1 h2=>by
  unfold iC;rw[b_ (λz=>h1 (by injection z with z;exact z.symm)),b_ (λz=>h2 (by injection z with z;exact z.symm))];rfl
 have put:∀n:Int,StA a.aL G (upd H A.x (.ins a.aL A.dx (fsS A (σ.fs:Int) (if n>σ.lp then n else σ.lp) σ.bh))) A c { σ with lp:=if σ.lp<n then n else σ.lp }:=λn=>S.flds σ.fs (if n>σ.lp then n else σ.lp) σ.bh;cases t with
 |page =>
  obtain⟨b,rfl,hb⟩:=tg;refine⟨_,rfl,_,_,_,_,rfl,rfl,SqT.of (S.old _ _ hb),rfl,?_⟩;refine⟨_,rfl,a.dq,iC,.inr "page",rfl,k_LEAPS,rfl,_,rfl,?_⟩;rw[L1];left;refine⟨_,rfl,_,_,_,_,_,rfl,S.ins,T.aG.cl,T.cN,si,_,rfl,a.dq,iC,.inr "page",_,rfl,k_LEAPS,rfl,L1,_,_,rfl,_,rfl,_,_,_,_,rfl,S.ins,T.aG.cl,T.cN,sj,?_⟩;rw[qK];exact q _ _ rfl (put 3)
 |odd =>
  obtain⟨b,rfl,hb⟩:=tg;refine⟨_,rfl,_,_,_,_,rfl,rfl,SqT.of (S.old _ _ hb),rfl,?_⟩;refine⟨_,rfl,a.dq,iC,.inr "odd",rfl,k_LEAPS,rfl,_,rfl,?_⟩;rw[L2];left;refine⟨_,rfl,_,_,_,_,_,rfl,S.ins,T.aG.cl,T.cN,si,_,rfl,a.dq,iC,.inr "odd",_,rfl,k_LEAPS,rfl,L2,_,_,rfl,_,rfl,_,_,_,_,rfl,S.ins,T.aG.cl,T.cN,sj,?_⟩;rw[qK];exact q _ _ rfl (put 4)
 |lst=>exact ok.elim
 |head n ws =>
  obtain⟨b,l,rfl,hb,hl2⟩:=tg;obtain⟨hvs,h2,h3⟩:=S.heads;have lh:=h3.len;refine⟨_,rfl,_,_,_,_,rfl,rfl,SqT.of (S.old _ _ hb),rfl,?_⟩;refine⟨_,rfl,a.dq,iC,.inr "head",rfl,k_LEAPS,rfl,_,rfl,?_⟩;rw[L0 _ (by decide) (by decide)];right
  exists 1
  rw[decide_eq_true rfl];left;refine⟨_,rfl,_,_,_,rfl,S.ins,mX (by decide),_,rfl,_,_,_,_,_,rfl,S.ins,T.aG.cl,T.eU,tu,_,_,rfl,.inl (SqL.of h2),?_⟩;rw[lh];exact⟨A,G,c,σ,σ.hs.length,rfl,S,so,ok.2,ok.1,hl,bd2,qe,λσ' H' e S'=>q σ' H' e S'⟩
 |par ws =>
  obtain⟨b,l,rfl,hb,hl2⟩:=tg;refine⟨_,rfl,_,_,_,_,rfl,rfl,SqT.of (S.old _ _ hb),rfl,?_⟩;refine⟨_,rfl,a.dq,iC,.inr "paragraph",rfl,k_LEAPS,rfl,_,rfl,?_⟩;rw[L0 _ (by decide) (by decide)];right
  exists 1
  refine iF (λz=>absurd (V.str.inj z) (by decide)) ?_
  exists 1
  refine iF (λz=>absurd (V.str.inj z) (by decide)) ?_;refine⟨_,rfl,_,_,_,_,_,rfl,S.ins,T.aG.cl,T.c8,nZ,_,rfl,?_⟩;have bd3:Bd σ ws.length:=⟨bd.ws,bd.fs,by have:=bd.ms;have:=ok.2;omega⟩;cases hb2:σ.bh with
  |true =>
   left;have e0:iA c σ (.par ws)=cr c σ 1 false ws:=by show cr c σ (if σ.bh then 1 else 2) false ws=_;rw[hb2];rfl
   exact⟨_,rfl,_,_,_,rfl,S.ins,mX (by decide),_,rfl,_,_,_,_,rfl,rfl,SqT.of (S.old _ _ hb),rfl,A,G,c,σ,1,l,false,ws,rfl,S,so,hl2,ok.1,ok.2,bd3,λe he H' s'=>qe e (by rw[e0];exact he) H' s',λσ' H' he S'=>q σ' H' (by rw[e0];exact he) S'⟩
  |false =>
   right;have e0:iA c σ (.par ws)=cr c σ 2 false ws:=by show cr c σ (if σ.bh then 1 else 2) false ws=_;rw[hb2];rfl
   exact⟨_,rfl,_,_,_,rfl,S.ins,mX (by decide),_,rfl,_,_,_,_,rfl,rfl,SqT.of (S.old _ _ hb),rfl,A,G,c,σ,2,l,false,ws,rfl,S,so,hl2,ok.1,ok.2,bd3,λe he H' s'=>qe e (by rw[e0];exact he) H' s',λσ' H' he S'=>q σ' H' (by rw[e0];exact he) S'⟩
inductive pZ(vs:List V)(H:Hp)(Q:VK)(x_1:XK):Prop
 |mk(a0 a1:V)(_:vs=[a0,a1])(_:False)
theorem dy:aE ["self","k","number","text","at"] ["self","k"] (av (aH 55 11)):=by walk_at "c"
theorem p_(T:Txt P w K mg a):aO P w K mg base CX0 1 a.ia a.gK ["self","k"] pZ:=by
 exists T.g_.fn.ok,dy
 obtain⟨a0,a1,rfl,hx⟩:=h
 exists (ae (ay (i:=2) dy.nd rfl (K1 rfl) ak)
   (ae (dF MX rfl (bU (bi (pv 0) rfl)) (iX rfl (bZ (bw (i:=3) dy.nd rfl (K1 rfl)) (bZ (bw (i:=4) dy.nd rfl (K1 rfl)) gc))) (ap (aW (aA E1 (pv 4) (pv 1) (nomark _)) (ap (ay (i:=2) dy.nd rfl (K1 rfl) (pv 3))) aX)))
   (ap (aM (pv 2)))))
 exact hx.elim
inductive qa(vs:List V)(H:Hp)(Q:VK)(x_1:XK):Prop
 |mk(v x:V)(w:Addr)(_:vs=[v,.ref w])(_:H w=some (.tup [.str Kw.plain.s,x]))(_:∀p H',ar H H'->Q (.ref p) H')
theorem gt:aE ["self","word","kind","rest"] ["self","word"] (av (aH 55 10)):=by walk_at "c"
theorem jV(T:Txt P w K mg a):aO P w K mg base CX0 2 a.ib a.gL ["self","word"] qa:=by
 exists T.eS.fn.ok,gt
 obtain⟨v,x,w,rfl,hb,q⟩:=h
 exists (ae (ay (i:=2) gt.nd rfl (K1 rfl) (aC aY (pv 1) ai (λ_ _=>rfl)))
   (ae (ay (i:=3) gt.nd rfl (K1 rfl) (aC aY (pv 1) ai (λ_ _=>rfl)))
   (ae (aW (aA bQ (pv 2) ak (nomark _)) (ap (aM (bx (aa ak (aa (pv 3) ac))))) aX)
   (ae (aW (aA bQ (pv 2) ak (nomark _)) (ap (aM (bx (aa ak (aa (aC aY (aC bb (bi (pv 0) rfl) (pv 3) (λ_ _=>rfl)) ai (λ_ _=>rfl)) ac))))) aX)
   (ae (aW (aA bQ (pv 2) ak (nomark _)) (ap (aM (bx (aa ak (aa (dk ky T.aG T.g_ (p_ T) (hM hr) (pv 0) (aa (nP (dW hr) (bi (pv 0) rfl) (pv 3) (λ_ _=>rfl)) ac)) ac))))) aX)
   (ap (aM (bx (aa (pv 2) (aa (nP (dW hr) (bi (pv 0) rfl) (pv 3) (λ_ _=>rfl)) ac))))))))))
 refine⟨_,rfl,_,_,_,_,rfl,rfl,SqT.of hb,rfl,?_⟩;refine⟨_,rfl,_,_,_,_,rfl,rfl,SqT.of hb,rfl,?_⟩
 exists 1
 refine iT rfl ?_;exact⟨_,rfl,le2,λp1 hp1=>q p1 _ (am hp1 _)⟩
inductive oY(C:Addr)(vs:List V)(H:Hp)(Q:VK)(x_1:XK):Prop
 |mk(A:Sad)(G:Hp)(c:Sc)(σ:Ss)(_:vs=[.ref A.x])(_:StA C G H A c σ)(_:∀t∈σ.ws,t.w.1=.plain/\t.foot=[])(_:σ.ws.length<=400)(_:∀p H',ar H H'->Q (.ref p) H')
theorem cM:aE ["self","told","lead","kept","word","foot"] ["self"] (av (aH 55 9)):=by walk_at "c"
theorem oZ(T:Txt P w K mg a):aO P w K mg base CX0 3 a.gF a.fX ["self"] (oY a.aL):=by
 exists T.gC.fn.ok,cM
 obtain⟨A,G,c,σ,rfl,S,ok,wl,q⟩:=h
 exists (ae (ay (i:=1) cM.nd rfl (K1 rfl) (aK ac))
   (ae (dF MX rfl (bU (bi (pv 0) rfl)) (iX rfl (bZ (bw (i:=2) cM.nd rfl (K1 rfl)) (bZ (bw (i:=3) cM.nd rfl (K1 rfl)) (bZ (bw (i:=4) cM.nd rfl (K1 rfl)) (bZ (bw (i:=5) cM.nd rfl (K1 rfl)) gc))))) (ap (bf (dg K4 Lf Lg cw (pv 1) (aa (bx (aa (pv 2) (aa (pv 3) (aa (dk ky T.aG T.eS (jV T) (hM hr) (pv 0) (aa (pv 4) ac)) (aa (i7 rfl (gq (caps:=["self"]) (js:=[0]) (cap:=⟨⟨rfl,.inl rfl,rfl,.inl rfl⟩,trivial⟩)) (bU (pv 5)) (λ_ _ _ _=>dA) (λ_ _ _ _=>(dk ky T.aG T.eS (jV T) (hM hr) (pv 1) (aa (pv 0) ac)))) ac))))) ac)))))
   (ap (aM (pv 1)))))
 obtain⟨wvs,w2,w3⟩:=S.words;have lw:=w3.len;refine⟨bj (by simp),λp1 hp1=>?_⟩
 exists hp1,H1,s1,k1
 have S1:=S.same s1;refine⟨_,rfl,_,_,_,_,_,rfl,S1.ins,T.aG.cl,T.cx,jf,A.wa,rfl,⟨_,SqL.of (s1 _ _ w2)⟩,dP (K:=K) (a:=A.wa) (xs:=wvs) (λi σ' G'=>∃(v2 v3 v4 v5:Option V)(us:List V),σ'=[rF A.x,rF p1,v2,v3,v4,v5]/\ar H G'/\G' p1=some (.lst us)/\us.length=i) ⟨none,none,none,none,[],rfl,s1,k1,rfl⟩ (λi σ' G' _ g=>by obtain⟨_,_,_,_,_,_,m,_⟩:=g;exact SqL.of (m _ _ w2)) ?_ ?_⟩
 .rintro i y σ' G1 hy ⟨v2,v3,v4,v5,us,rfl,m,g1,ul⟩;obtain⟨t,ht,ta,wa',fa',rfl,h1,h2,h3⟩:=w3.getL hy;have hi:=(List.getElem?_eq_some_iff.mp ht).1;have h1:=m _ _ (cR _ _ h1);obtain⟨wb,e1,h2⟩:=(h2.mono cR).mono m;injection e1 with e1;subst e1;obtain⟨fu,h3,h4⟩:=(h3.mono cR).mono m;obtain⟨ok1,ok2⟩:=ok t (KL ht);have lf:=h4.len;rw[ok2]at lf;obtain rfl:=List.eq_nil_of_length_eq_zero lf;rw[ok1]at h2;refine⟨ta,_,rfl,SqT.of h1,rfl,_,_,rfl,_,_,rfl,_,_,rfl,_,_,rfl,rfl,?_⟩;refine⟨_,rfl,.inl ⟨rfl,_,SqL.of g1⟩,_,rfl,_,rfl,_,rfl,_,_,_,rfl,(S.same m).ins,mX (by decide),_,rfl,_,_,wa',rfl,h2,λps G2 s2=>?_⟩;have h3:=s2 _ _ h3;refine⟨_,rfl,fa',rfl,⟨_,SqL.of h3⟩,d7 (K:=K) (a:=fa') (xs:=[]) (λj ys G3=>G3=G2) rfl (λj ys G3 _ z=>by rw[z];exact SqL.of h3) (λi _ _ h=>by cases h) (λi x _ _ h=>by cases h) ?_⟩;rintro ys G3 rfl pl hpl
  exists hpl,G4,s4,kZ
  refine⟨le4,λpt hpt=>?_⟩;have s5:=s2.trans (s4.trans (am hpt (.tup [.int t.lead,.bl t.kept,.ref ps,.ref pl])));refine⟨_,_,_,rfl,rfl,s5 _ _ g1,aF (by omega),?_⟩;exact⟨_,_,_,_,us++[.ref pt],rfl,cC (m.trans s5) hp1,ah,by rw[KI,ul];rfl⟩
 rintro σ' G1 ⟨v2,v3,v4,v5,us,rfl,m,g1,_⟩;exact⟨_,rfl,q p1 _ m⟩

theorem F7(p0 p1 p2:Addr):bY "going_on" (V.bl false) (bY "things" (V.ref p2) (bY "feet" (V.ref p1) (bY "shorts" (V.ref p0) [])))=([("shorts",V.ref p0),("feet",V.ref p1),("things",V.ref p2),("going_on",V.bl false)]:List (Str×V)):=by
 rw[show bY "shorts" (V.ref p0) []=([("shorts",V.ref p0)]:List (Str×V))from rfl];rw[oQ (l:=([("shorts",V.ref p0)]:List (Str×V))) (by show([("shorts" : Str)]:List Str).all (λm=>m != "feet")=true;decide)];rw[oQ (l:=([("shorts",V.ref p0)]:List (Str×V))++([("feet",V.ref p1)]:List (Str×V))) (by show([("shorts" : Str),("feet" : Str)]:List Str).all (λm=>m != "things")=true;decide)];rw[oQ (l:=([("shorts",V.ref p0)]:List (Str×V))++([("feet",V.ref p1)]:List (Str×V))++([("things",V.ref p2)]:List (Str×V))) (by show([("shorts" : Str),("feet" : Str),("things" : Str)]:List Str).all (λm=>m != "going_on")=true;decide)];rfl

inductive vq(K:KC)(C:Addr)(vs:List V)(H:Hp)(Q:VK)(x_1:XK):Prop
 |mk(x dx:Addr)(_:vs=[.ref x])(_:H x=some (.ins C dx []))(_:∀H',(∀H0,ar H0 H->H0 x=none->∃o,RdB C K H0 H' x rs0 [] o [] [] [])->FrX H H' x->Q .non H')
theorem vt:aE ["self"] ["self"] (av (aH 49 0)):=by walk_at "c"
theorem vx(T:Txt P w K mg a):aO P w K mg base CX0 1 a.k8 a.kg ["self"] (vq K a.bJ):=by
 exists T.kW.fn.ok,vt
 obtain⟨x,dx,rfl,hx,q⟩:=h
 exists (ae (c4 (pv 0) (aK ac) rfl)
   (ae (c4 (pv 0) xZ rfl)
   (ae (c4 (pv 0) (aK ac) rfl)
   (ap (c4 (pv 0) io rfl)))))
 have k:=hx;have f:FrX H H x:=FrX.refl;have l:([]:List (Str×V)).length<=0:=Kz _;refine⟨bj (by simp),λp0 hp0=>?_⟩;obtain⟨H1,eH,b0,w0⟩:=oh (.lst []) hp0;rw[eH];have e0:=f.free k hp0;have f:=f.same w0;have k:=w0 _ _ k;have a0:=b0;have d0:p0≠x:=λz=>by rw[z,k]at a0;cases a0
 refine⟨_,rfl,_,_,_,_,rfl,k,T.bq.cl,T.dC,Le l (by decide),?_⟩;obtain⟨H2,L0,eH,g0,l,k,r⟩:=fB "shorts" (V.ref p0) k l;rw[eH];have f:=j8 f r;have a0:=r _ _ d0 a0;intro p1 hp1;obtain⟨H3,eH,b1,w1⟩:=oh (.dK []) hp1;rw[eH];have e1:=f.free k hp1;have d0_1:p0≠p1:=d9 a0 hp1;have f:=f.same w1;have k:=w1 _ _ k;have a0:=w1 _ _ a0;have a1:=b1;have d1:p1≠x:=λz=>by rw[z,k]at a1;cases a1
 refine⟨_,rfl,_,_,_,_,rfl,k,T.bq.cl,T.fH,Le l (by decide),?_⟩;obtain⟨H4,L1,eH,g1,l,k,r⟩:=fB "feet" (V.ref p1) k l;rw[eH];have f:=j8 f r;have a0:=r _ _ d0 a0;have a1:=r _ _ d1 a1;refine⟨bj (by simp),λp2 hp2=>?_⟩;obtain⟨H5,eH,b2,w2⟩:=oh (.lst []) hp2;rw[eH];have e2:=f.free k hp2;have d0_2:p0≠p2:=d9 a0 hp2;have d1_2:p1≠p2:=d9 a1 hp2;have f:=f.same w2;have k:=w2 _ _ k;have a0:=w2 _ _ a0;have a1:=w2 _ _ a1;have a2:=b2;have d2:p2≠x:=λz=>by rw[z,k]at a2;cases a2
 refine⟨_,rfl,_,_,_,_,rfl,k,T.bq.cl,T.eF,Le l (by decide),?_⟩;obtain⟨H6,L2,eH,g2,l,k,r⟩:=fB "things" (V.ref p2) k l;rw[eH];have f:=j8 f r;have a0:=r _ _ d0 a0;have a1:=r _ _ d1 a1;have a2:=r _ _ d2 a2;refine⟨_,rfl,_,_,_,_,rfl,k,T.bq.cl,T.c7,Le l (by decide),?_⟩;obtain⟨H7,L3,eH,g3,l,k,r⟩:=fB "going_on" (V.bl false) k l;rw[eH];have f:=j8 f r;have a0:=r _ _ d0 a0;have a1:=r _ _ d1 a1;have a2:=r _ _ d2 a2;have eL:L3=([("shorts",V.ref p0),("feet",V.ref p1),("things",V.ref p2),("going_on",V.bl false)]:List (Str×V)):=by rw[<-g3,<-g2,<-g1,<-g0];exact F7 p0 p1 p2
 rw[eL]at k;refine q _ (λH0 m hx0=>⟨⟨dx,p0,p1,p2,p2⟩,⟨f.old m hx0,λb hb=>?_,k,a0,a1,a2,d0_2,d0_2,aB.nil,trivial,.no rfl rfl trivial⟩⟩) f;simp only[Ll,Lj,or_false]at hb;rcases hb with rfl|rfl|rfl|rfl|rfl
 .exact hx0
 .exact m.free e0
 .exact m.free e1
 .exact m.free e2
 .exact m.free e2
inductive qb(K:KC)(C:Addr)(vs:List V)(H:Hp)(Q:VK)(x_1:XK):Prop
 |mk(r:Addr)(H0:Hp)(s:Rs)(S:List Sh)(o:Ro)(kvs:List (Key×V))(tv svs:List V)(v:V)(_:vs=[.ref r,v])(_:RdB C K H0 H r s S o kvs tv svs)(_:tv.length<=200)(_:Q .non (upd (upd H o.ta (.lst (tv++[v]))) r (o.ins C false)))
theorem qc:aE ["self","thing"] ["self","thing"] (av (aH 49 6)):=by walk_at "c"
theorem gu(T:Txt P w K mg a):aO P w K mg base CX0 1 a.hV a.gG ["self","thing"] (qb K a.bJ):=by
 exists T.dI.fn.ok,qc
 obtain⟨r,H0,s,S,o,kvs,tv,svs,v,rfl,R,tl,q⟩:=h
 exists (ae (bf (dg K4 Lf Lg cw (bi (pv 0) rfl) (aa (pv 1) ac)))
   (ap (c4 (pv 0) io rfl)))
 refine⟨_,rfl,_,_,_,_,_,rfl,R.h1,T.bq.cl,T.eF,qI,.inl ⟨rfl,_,SqL.of R.h4⟩,_,rfl,_,_,_,rfl,rfl,R.h4,aF (by omega),?_⟩;refine⟨_,rfl,_,_,_,_,rfl,(by rw[aq R.ne.2.2.1];exact R.h1),T.bq.cl,T.c7,va,?_⟩;rw[qJ];exact q

inductive AlO(w:List Nat)(ts:List (List Nat))(s:Rs):Option Er->Rs->Prop
 |bad (h:ts≠[]):AlO w ts s (some .badrow) s
 |page (h:ts=[]) (e:w=iD):AlO w ts s none { s with things:=s.things++[.page],g:=false }
 |odd (h:ts=[]) (e:w=j7):AlO w ts s none { s with things:=s.things++[.odd],g:=false }

inductive o4(K:KC)(C:Addr)(cls:Er->Addr)(vs:List V)(H:Hp)(Q:VK)(E:XK):Prop
 |mk(r la:Addr)(H0:Hp)(s:Rs)(S:List Sh)(o:Ro)(kvs:List (Key×V))(tv svs:List V)(w:List Nat)(ts:List (List Nat))(x:Option Er)(s':Rs)(_:vs=[.ref r,.ref la])(_:RdB C K H0 H r s S o kvs tv svs)(_:SqL K H la (((w::ts).map tx).map V.str))(_:tv.length<=200)(_:w.length<=100)(_:∀c∈w,c<127)(_:AlO w ts s x s')(_:∀e,x=some e->E (.ref (cls e)) none H)(_:x=none->∀H' o' tv',RdB C K H0 H' r s' S o' kvs tv' svs->Q .non H')
theorem jH:aE ["self","words","first"] ["self","words"] (av (aH 49 4)):=by walk_at "c"
theorem o5(T:Txt P w K mg a):aO P w K mg base (CXe P w) 2 a.gD a.fV ["self","words"] (o4 K a.bJ (lV a)):=by
 exists T.gz.fn.okE,jH
 obtain⟨r,la,H0,s,S,o,kvs,tv,svs,w,ts,x,s',rfl,R,hl,tl,wl,wc,al,qe,q⟩:=h
 exists (ae (ay (i:=2) jH.nd rfl (K1 rfl) (aC bb (pv 1) ai (λ_ _=>rfl)))
   (ae (aW (aA jv (aT bz rfl T.cQ Lq (aa (pv 1) ac)) ai (nomark _)) (ap (b7 rfl cj T.kx rfl (aa (cK (aI bP (aI (dN (pv 2)) dh))) ac))) aX)
   (ap (bf (dk ky T.bq T.dI (gu T) (hM hr) (pv 0) (aa (bx (aa (cY kL (pv 2) (dn ai) dM) ac)) ac))))))
 refine⟨_,rfl,_,_,_,_,rfl,rfl,hl,a_ (j:=0) rfl,?_⟩;refine⟨_,rfl,_,_,rfl,.inl hl,_,_,rfl,rfl,_,rfl,?_⟩;cases al with
 |bad h =>
  refine cZ (λ_=>?_) (λz=>absurd (decide_eq_true (by cases ts with|nil=>exact absurd rfl h|cons _ _=>simp only[KW,KH];omega)) z);exact⟨⟨trivial,⟨w,rfl,by omega,wc⟩,trivial⟩,λz=>⟨le1,qe .badrow rfl⟩⟩
 |page h e =>
  subst h e;right;dsimp only[eG];refine⟨_,rfl,_,_,_,rfl,R.h1,je (by decide),_,rfl,_,rfl,_,rfl,bj (by decide),le1,λp1 hp1=>?_⟩;refine⟨r,H0,s,S,o,kvs,tv,svs,.ref p1,rfl,R.ext (am hp1 _),tl,?_⟩;exact q rfl _ _ _ ((R.ext (am hp1 _)).thing (t:=.page) ⟨p1,rfl,cT (λz=>R.nn p1 (o.sub r p1 z) hp1) (by rw[fJ];exact ah)⟩)
 |odd h e =>
  subst h e;right;dsimp only[eG];refine⟨_,rfl,_,_,_,rfl,R.h1,je (by decide),_,rfl,_,rfl,_,rfl,bj (by decide),le1,λp1 hp1=>?_⟩;refine⟨r,H0,s,S,o,kvs,tv,svs,.ref p1,rfl,R.ext (am hp1 _),tl,?_⟩;exact q rfl _ _ _ ((R.ext (am hp1 _)).thing (t:=.odd) ⟨p1,rfl,cT (λz=>R.nn p1 (o.sub r p1 z) hp1) (by rw[fJ];exact ah)⟩)
inductive Bc(vs:List V)(H:Hp)(Q:VK)(x_1:XK):Prop
 |mk(l:List Nat)(_:vs=[.str (tx l)])(_:l.length<=1000)(_:∀H',ar H H'->Q (.bl (aR l)) H')
theorem Be:aE ["word"] ["word"] (av (top 19)):=by walk_at "c"
theorem lD(T:Txt P w K mg a):aO P w K mg base CX0 1 a.rA a.pG ["word"] Bc:=by
 have bX:=T.bX;have dL:=T.dL;have cu:=T.cu;obtain⟨t_FIGURES,bX⟩:=bX;obtain⟨t_LETTERS,dL⟩:=dL;obtain⟨t_LONGEST_NAME,cu⟩:=cu
 exists T.jr.fn.ok,Be
 obtain⟨l,rfl,hl,q⟩:=h
 exists (ae (aW (PW.pt (lm (aA bQ (pv 0) ak (nomark _)) (kH (aA jv (aT gQ rfl T.cQ Lq (aa (pv 0) ac)) (bp (v:=.int 12) rfl cu ⟨_,rfl⟩) (nomark _))))) (ap (aM io)) aX)
   (ap (aM (nN (dZ kJ (aC jw (pv 0) ai (λ_ _=>rfl)) (bp (v:=.str (pq "abcdefghijklmnopqrstuvwxyz")) rfl dL ⟨_,rfl⟩) (by with_unfolding_all rfl)) (lN (aT (DX rfl) rfl T.Fc PyProof.Rows.boot_all (aa (i7 rfl (gq (caps:=[]) (js:=[]) (cap:=trivial)) (GR (pv 0)) (λ_ _ _ _=>dA) (λ_ _ _ _=>(EY (dZ kJ (pv 0) (bp (v:=.str (pq "abcdefghijklmnopqrstuvwxyz")) rfl dL ⟨_,rfl⟩) (by with_unfolding_all rfl)) (lN (dZ kJ (pv 0) (bp (v:=.str (pq "0123456789")) rfl bX ⟨_,rfl⟩) (by with_unfolding_all rfl)))))) ac)))))))
 exists 1
 cases l with
 |nil =>
  rw[yF];left;left;exact q H (ar.refl _)
 |cons c r =>
  rw[yE];right;refine⟨_,rfl,_,rfl,bj (by rw[aZ];exact hl),_,_,rfl,rfl,_,rfl,?_⟩;rw[aZ];refine cZ (λh=>?_) (λh=>?_)
  .have h2:¬ (c::r).length<=12:=by have:=of_decide_eq_true h;omega
   have:=q H (ar.refl _);rw[CQ h2]at this;exact this
  .have h2:(c::r).length<=12:=by
    refine N3 λz=>h (decide_eq_true ?_);omega
   rw[uC h2]at q;refine⟨_,rfl,_,_,c,rfl,rfl,bj (by rw[aZ];exact hl),rV c r,_,_,rfl,rfl,_,rfl,?_⟩;rw[CP];cases hc:isL c with
   |false =>
    rw[hc]at q;right;exact q H (ar.refl _)
   |true =>
    rw[hc]at q;left;refine⟨_,rfl,_,rfl,GS (x:=tx (c::r)) (λi ys H2=>H2=H/\ys=(((c::r).take i).map λd=>isL d||isF d).map V.bl) ⟨rfl,rfl⟩ ?_ ?_ ?_⟩
    .rintro i ys H2 hi ⟨rfl,rfl⟩;rw[KA,KA,La];exact Le (show _<=12 by omega) (aF (by omega))
    .rintro i d ys H2 hd ⟨rfl,rfl⟩;rw[GT]at hd;refine eM ?_;refine⟨_,rfl,_,_,rfl,rfl,_,rfl,?_⟩;rw[CP,Lb,hd];cases h3:isL d with
     |true =>
      left;refine⟨rfl,?_⟩;simp[h3]
     |false =>
      right;refine⟨_,rfl,_,_,rfl,rfl,?_⟩;rw[yD];refine⟨rfl,?_⟩;simp[h3]
    .rintro ys H2 ⟨rfl,rfl⟩ p hp;rw[Fz,K9 (Kz _)];refine⟨_,_,rfl,SqL.of ah,?_⟩;rw[Hx];have:=q _ (am hp (.lst ((((c::r)).map λd=>isL d||isF d).map V.bl)));rw[Nu]at this;exact this
inductive Bf(vs:List V)(H:Hp)(Q:VK)(x_1:XK):Prop
 |mk(c:Nat)(r:List Nat)(_:vs=[.str (tx (c::r))])(_:r.length<=900)(_:∀p H',H p=none->ar H H'->H' p=some (.tup [.str (pq (lC (c::r)).1),.str (tx (lC (c::r)).2)])->Q (.ref p) H')
theorem o6:aE ["word","first","rest"] ["word"] (av (top 21)):=by walk_at "c"
theorem Bg(T:Txt P w K mg a):aO P w K mg base CX0 2 a.rB a.pH ["word"] Bf:=by
 have fF:=T.fF;obtain⟨fF,k_KINDS⟩:=fF
 exists T.rg.fn.ok,o6
 obtain⟨c,r,rfl,hl,q⟩:=h
 exists (ae (ay (i:=1) o6.nd rfl (K1 rfl) (cY kL (pv 0) dM (dn ai)))
   (ae (ay (i:=2) o6.nd rfl (K1 rfl) (cY kL (pv 0) (dn ai) dM))
   (ae (aW (PW.pt (lM (aA vZ (pv 1) (bp (v:=.ref a.eK) rfl fF rfl) (by with_unfolding_all rfl)) (jj (kE (aD T.jr (lD T) (hM hr) rfl (aa (pv 2) ac)) (λ_=>rfl))))) (ap (aM (bx (aa (yf (bp (v:=.ref a.eK) rfl fF rfl) (pv 1) (λ_ _=>rfl)) (aa (pv 2) ac))))) aX)
   (ae (aW (PW.pt (lM (aA bQ (pv 1) ak (nomark _)) (jj (aA xc (pv 2) ak (nomark _))))) (ap (aM (bx (aa ak (aa (pv 2) ac))))) aX)
   (ap (aM (bx (aa ak (aa (pv 0) ac)))))))))
 have sz:(tx (c::r)).length<=KP:=by rw[aZ];exact bj (by simp only[KH];omega)
 refine⟨_,rfl,_,rfl,_,rfl,sz,?_⟩;rw[JE];refine⟨_,rfl,_,rfl,_,rfl,sz,?_⟩;rw[JF]
 try dsimp only[bN]
 with_reducible refine lE (λσ' H'=>σ'=[some (.str (tx (c::r))),some (.str (tx [c])),some (.str (tx r))]/\ar H H'/\lC (c::r)=if c=33/\r≠[]then("plain",r)else("plain",c::r)) ?_ (λkey=>?_)
 .rintro σ' H' ⟨rfl,s1,ek⟩;rw[ek]at q
  exists 1
  rw[IR];refine cZ (λh=>?_) (λh=>?_)
  .have h33:=of_decide_eq_true h
   exists 1
   cases r with
   |nil =>
    rw[yF];right;rw[if_neg (λz=>z.2 rfl)]at q;exact⟨_,rfl,le2,λp hp=>q p _ (s1.free hp) (s1.trans (am hp _)) ah⟩
   |cons d r =>
    rw[yE];left;rw[if_pos ⟨h33,by simp⟩]at q;exact⟨_,rfl,le2,λp hp=>q p _ (s1.free hp) (s1.trans (am hp _)) ah⟩
  .right;rw[if_neg (λz=>h (decide_eq_true z.1))]at q;exact⟨_,rfl,le2,λp hp=>q p _ (s1.free hp) (s1.trans (am hp _)) ah⟩
 .refine⟨_,rfl,a.eK,lB,.inr (tx [c]),rfl,k_KINDS,rfl,_,rfl,?_⟩;cases hm:mk c with
  |none =>
   have:=Ev c hm;rw[show b8 lB (.inr (tx [c]))=none from this];right;right;refine key _ _ ⟨rfl,ar.refl _,?_⟩;show(match mk c,aR r with
    |some s,true=>(s,r)
    |_,_=>if c=33/\r≠[]then("plain",r)else("plain",c::r))=_
   rw[hm]
  |some s =>
   have hv:=Ew c s hm;rw[show b8 lB (.inr (tx [c]))=some (.str (pq s))from hv];left;refine⟨_,rfl,r,rfl,by omega,λH2 s2=>?_⟩;refine⟨_,rfl,?_⟩;cases hn:aR r with
   |true =>
    left;have ek:lC (c::r)=(s,r):=by
     show(match mk c,aR r with
      |some s,true=>(s,r)
      |_,_=>if c=33/\r≠[]then("plain",r)else("plain",c::r))=_
     rw[hm,hn]
    rw[ek]at q;exact⟨_,rfl,a.eK,lB,.inr (tx [c]),_,rfl,k_KINDS,rfl,hv,_,rfl,le2,λp hp=>q p _ (s2.free hp) (s2.trans (am hp _)) ah⟩
   |false =>
    right;refine key _ _ ⟨rfl,s2,?_⟩;show(match mk c,aR r with
     |some s,true=>(s,r)
     |_,_=>if c=33/\r≠[]then("plain",r)else("plain",c::r))=_
    rw[hm,hn]
inductive Bh(K:KC)(vs:List V)(H:Hp)(Q:VK)(x_1:XK):Prop
 |mk(sv:V)(S:List Sh)(_:vs=[sv])(_:Rep K H (.lst (S.map shD)) sv)(_:(S.map Sh.n).Nodup)(_:S.length<=100)(_:∀p H',ar H H'->tH K H' p S->Q (.ref p) H')
theorem Bj:aE ["shorts"] ["shorts"] (av (top 39)):=by walk_at "c"
theorem uI(T:Txt P w K mg a):aO P w K mg base CX0 1 a.rq a.pF ["shorts"] (Bh K):=by
 exists T.mP.fn.ok,Bj
 obtain⟨sv,S,rfl,rs,nd,sl,q⟩:=h
 exists (ap (aM (kK (uq rfl) rfl T.Ds PyProof.Rows.boot_dict (aa (i7 rfl (gq (caps:=[]) (js:=[]) (cap:=trivial)) (bU (pv 0)) (λ_ _ _ _=>dA) (λ_ _ _ _=>(bx (aa (aC (r:=qr K) aY (pv 0) ai (λ_ _=>rfl)) (aa (pv 0) ac))))) ac))))
 obtain⟨sa,xs,rfl,sx,_,rx⟩:=rs.lstO;have xl:=rx.len;rw[KA]at xl;refine⟨_,rfl,sa,rfl,⟨_,sx⟩,d7 (K:=K) (a:=sa) (xs:=xs) (λi ys G=>ar H G/\ys.length=i/\∀(j:Nat) y,ys[j]?=some y->∃s v b,S[j]?=some s/\xs[j]?=some v/\y=V.ref b/\G b=some (.tup [.str (tx s.n),v])) ⟨ar.refl _,rfl,λj y e=>by simp at e⟩ (λi ys G _ z=>z.1.seq sx) ?_ ?_ ?_⟩
 .rintro i ys G hi ⟨_,e,_⟩;rw[e];exact aF (by omega)
 .rintro i y ys G hy ⟨s1,e,hz⟩;obtain⟨d,e1,r1⟩:=rx.getR hy;rw[KS]at e1;obtain⟨t,e2,rfl⟩:=Option.map_eq_some_iff.mp e1;obtain⟨ta,zs,rfl,st,_,rz⟩:=r1.tupO;have hz0:zs[0]?=some (V.str (tx t.n)):=by
   obtain⟨x,h1,h2⟩:=rz.get (i:=0) (d:=.str (tx t.n)) rfl;rw[h1,h2.strO]
  refine eM ?_;refine⟨_,rfl,_,_,_,_,rfl,rfl,s1.tup st,a_ hz0,_,rfl,le2,λp hp=>⟨s1.trans (am hp _),by rw[KI,e];rfl,λj y ej=>?_⟩⟩;by_cases hj:j<ys.length
  .rw[LO hj]at ej;obtain⟨s,v,b,a1,a2,a3,a4⟩:=hz j y ej;exact⟨s,v,b,a1,a2,a3,am hp _ _ _ a4⟩
  .rw[LS (by omega)]at ej;have h0:j-ys.length=0:=by
    have:=(List.getElem?_eq_some_iff.mp ej).1;simp at this;omega
   rw[h0]at ej;have hji:j=i:=by omega
   subst hji;have ej:V.ref p=y:=by simpa using ej
   exact⟨t,_,p,e2,hy,ej.symm,ah⟩
 .rintro ys G ⟨s1,e,hz⟩ p hp;have g2:=am hp (.lst ys);have kvl:(S.zip xs).length=xs.length:=by rw[List.length_zip];omega
  refine⟨p,ys,(S.zip xs).map (λz=>(.inr (tx z.1.n),z.2)),rfl,SqL.of ah,by omega,⟨by rw[KA,kvl,e],λj y k v ej ek=>?_⟩,λp2 hp2=>?_⟩
  .obtain⟨s,v',b,a1,a2,a3,a4⟩:=hz j y ej;refine⟨b,a3,SqT.of ?_⟩;rw[KS,(List.getElem?_zip_eq_some (z:=(s,v'))).mpr ⟨a1,a2⟩]at ek;cases ek;exact g2 _ _ a4
  .have g3:=am hp2 (.dK (kz ((S.zip xs).map (λz=>((.inr (tx z.1.n):Key),z.2)))));have s3:=(s1.trans g2).trans g3;refine q p2 _ s3 ⟨_,ah,λx=>?_⟩;have ndk:(((S.zip xs).map (λz=>((.inr (tx z.1.n):Key),z.2))).map O9).Nodup:=by
    have e1:((S.zip xs).map (λz=>((.inr (tx z.1.n):Key),z.2))).map O9=((S.zip xs).map O9).map (λs=>(.inr (tx s.n):Key)):=by rw[Mt,Mt];rfl
    rw[e1,List.map_fst_zip (by omega),show S.map (λs=>(.inr (tx s.n):Key))=(S.map Sh.n).map (λn=>.inr (tx n)) by rw[Mt];rfl];exact List.Pairwise.map _ (λa b h z=>h (eN (O4 z))) nd
   unfold kz;rw[yT _ _ _ ndk];have key:∀(S:List Sh)(xs:List V),S.length=xs.length->aB K H (S.map shD) xs->(shF S x=none->((S.zip xs).map (λz=>((.inr (tx z.1.n):Key),z.2))).find? (λkv=>decide (kv.1=.inr x))=none)/\∀s,shF S x=some s->∃v,((S.zip xs).map (λz=>((.inr (tx z.1.n):Key),z.2))).find? (λkv=>decide (kv.1=.inr x))=some (.inr x,v)/\Rep K H (shD s) v:=by
    intro S;induction S with
    |nil=>intro xs _ _;exact⟨λ_=>rfl,λs h=>by cases h⟩
    |cons t r ih =>
     intro xs hl hr;cases xs with
     |nil=>cases hl
     |cons v xs =>
      have hr:aB K H (shD t::r.map shD) (v::xs):=hr;unfold aB at hr;obtain⟨v0,r0,e0,h1,h2⟩:=hr;cases e0;have ih:=ih xs (by simpa using hl) h2;unfold shF at ih⊢;rw[List.zip_cons_cons,KW,Mz,Mz];by_cases e:tx t.n=x
      .rw[decide_eq_true e,decide_eq_true (by rw[e])];exact⟨λz=>(by cases z),λs z=>⟨v,by rw[e],by cases z;exact h1⟩⟩
      .rw[decide_eq_false e,decide_eq_false (λz=>e (O4 z))];exact ih
   have kk:=key S xs xl.symm rx;refine⟨λh=>?_,λs h=>?_⟩
   .rw[kk.1 h];rfl
   .obtain⟨v,h1,h2⟩:=kk.2 s h;rw[h1];exact⟨v,rfl,h2.mono s3⟩
inductive uJ(K:KC)(CN CB:Addr)(vs:List V)(H:Hp)(Q:VK)(E:XK):Prop
 |mk(H0:Hp)(na:Addr)(cv:V)(S:List Sh)(n:Wd0)(as:List (List DD))(_:vs=[.ref na,cv])(_:ar H0 H)(_:tH K H0 na S)(_:Rep K H0 (clD n as) cv)(_:n.length<=12)(_:∀c∈n,c<127)(_:shF S (tx n)=none->E (.ref CN) none H)(_:∀s,shF S (tx n)=some s->as.length≠s.c->E (.ref CB) none H)(_:∀s v,shF S (tx n)=some s->as.length=s.c->Rep K H0 (shD s) v->Q v H)
theorem jI:aE ["named","call","name","short"] ["named","call"] (av (top 40)):=by walk_at "c"
theorem uK(T:Txt P w K mg a):aO P w K mg base (CXe P w) 1 a.kc a.jS ["named","call"] (uJ K a.dr a.cF):=by
 exists T.fD.fn.okE,jI
 obtain⟨H0,na,cv,S,n,as,rfl,s0,hN,rc,n12,n127,qN,qB,q⟩:=h
 exists (ae (ay (i:=2) jI.nd rfl (K1 rfl) (aC aY (pv 1) ai (λ_ _=>rfl)))
   (ae (aW (aA (kU (dW hr)) (pv 2) (pv 0) (by with_unfolding_all rfl)) (ap (b7 rfl cj T.rN rfl (aa (cK (aI bP (aI (dN (pv 2)) dh))) ac))) aX)
   (ae (ay (i:=3) jI.nd rfl (K1 rfl) (nP (dW hr) (pv 0) (pv 2) (λ_ _=>rfl)))
   (ae (aW (aA xc (aT bz rfl T.cQ Lq (aa (aC aY (pv 1) ai (λ_ _=>rfl)) ac)) (aC aY (pv 3) ai (λ_ _=>rfl)) (nomark _)) (ap (b7 rfl cj T.jt rfl (aa (cK (aI bP (aI (dN (pv 2)) (aI bP dh)))) ac))) aX)
   (ap (aM (pv 3)))))))
 obtain⟨ca,xs,rfl,sc,_,rx⟩:=rc.tupO;obtain⟨x0,x1,x2,rfl,r0,r1,r2⟩:=aB.three rx;rw[r0.strO,r1.strO]at sc;have sc:=s0.tup sc;obtain⟨la,ys,rfl,sl,_,rl⟩:=r2.lstO;have sl:=s0.seq sl;have yl:=rl.len;rw[KA]at yl;obtain⟨kvs,hk,hv⟩:=hN;have hk:=s0 _ _ hk;have hv:=hv (tx n);refine⟨_,rfl,_,_,_,_,rfl,rfl,sc,rfl,?_⟩;dsimp only[bN];refine⟨_,rfl,_,rfl,na,_,rfl,.inl ⟨kvs,.inr (tx n),.inl hk,rfl,rfl⟩,_,rfl,?_⟩;cases hF:shF S (tx n)with
 |none =>
  rw[hv.1 hF];left;exact⟨⟨trivial,⟨n,rfl,by omega,n127⟩,trivial⟩,λz=>⟨le1,qN hF⟩⟩
 |some s =>
  obtain⟨v,hv1,hv2⟩:=hv.2 s hF;rw[hv1];right;refine⟨_,rfl,_,rfl,na,v,rfl,.inl ⟨kvs,.inr (tx n),.inl hk,rfl,hv1.symm⟩,?_⟩;dsimp only[bN];obtain⟨ta,zs,rfl,st,_,rz⟩:=hv2.tupO;have hz1:zs[1]?=some (V.int (s.c:Int)):=by
   obtain⟨x,h1,h2⟩:=rz.get (i:=1) (d:=.int (s.c:Int)) rfl;rw[h1,h2.intO]
  refine⟨_,rfl,_,_,_,_,rfl,rfl,sc,rfl,_,_,rfl,.inl sl,_,rfl,_,_,_,_,rfl,rfl,s0.tup st,a_ hz1,rfl,_,rfl,?_⟩;by_cases e:as.length=s.c
  .refine nF (by rw[yl,e]) ?_;exact⟨_,rfl,q s _ hF e hv2⟩
  .refine nT (λz=>e (by have:=V.int.inj z;omega)) ?_;exact⟨⟨trivial,⟨n,rfl,by omega,n127⟩,trivial,trivial⟩,λz=>⟨le1,qB s hF e⟩⟩
inductive vz(K:KC)(vs:List V)(H:Hp)(Q:VK)(x_1:XK):Prop
 |mk(ra oa:Addr)(f g:Nat->Int)(c:Nat)(t:Int)(_:vs=[.ref ra,.ref oa,.int t])(_:c<=9)(_:0<=t)(_:t<=1000)(_:SqL K H ra ((rwL f c).map V.int))(_:SqL K H oa ((rwL g c).map V.int))(_:∀p H',H p=none->ar H H'->H' p=some (.lst ((rwL (λj=>f j+t*g j) c).map V.int))->Q (.ref p) H')
theorem vA:aE ["row","other","times"] ["row","other","times"] (av (top 42)):=by walk_at "c"
theorem vB(T:Txt P w K mg a):aO P w K mg base CX0 1 a.k_ a.km ["row","other","times"] (vz K):=by
 exists T.gb.fn.ok,vA
 obtain⟨ra,oa,f,g,c,t,rfl,hc,ht0,ht1,hr1,ho1,q⟩:=h
 exists (ap (aM (G_ rfl (gq (caps:=["times"]) (js:=[2]) (cap:=⟨⟨rfl,.inl rfl,rfl,.inl rfl⟩,trivial⟩)) (G8 rfl T.Ff (pv 0) (pv 1)) (λ_ _ _ _=>dA) (λ_ _ _ _=>(ao cz (pv 0) (ao qm (pv 2) (pv 1)))))))
 have l1:((rwL f c).map V.int).length=c+1:=by rw[KA,iy]
 have l2:((rwL g c).map V.int).length=c+1:=by rw[KA,iy]
 refine⟨_,rfl,_,rfl,ra,oa,rfl,rfl,⟨_,hr1⟩,⟨_,ho1⟩,Ha (K:=K) (a:=ra) (b:=oa) (xs:=(rwL f c).map V.int) (ys:=(rwL g c).map V.int) (λi zs G=>ar H G/\zs=((rwL (λj=>f j+t*g j) c).take i).map V.int) (by rw[l1,l2]) ⟨ar.refl _,rfl⟩ (λi zs G _ z=>⟨z.1.seq hr1,z.1.seq ho1⟩) ?_ ?_ ?_⟩
 .rintro i zs G hi ⟨_,rfl⟩;rw[KA,La];exact aF (by omega)
 .rintro i x y zs G p hx hy ⟨s1,rfl⟩ hp;have hi:i<=c:=by have:=(List.getElem?_eq_some_iff.mp hx).1;omega
  rw[KS,jl f hi]at hx;rw[KS,jl g hi]at hy;cases hx;cases hy;refine eM ?_;refine⟨_,rfl,_,rfl,_,rfl,_,_,rfl,rfl,.inl ⟨by omega,by omega⟩,_,_,rfl,rfl,s1.trans (am hp _),?_⟩;rw[Lb,jl _ hi,KQ];rfl
 .rintro zs G ⟨s1,rfl⟩ p hp;rw[l1,K9 (by rw[iy];exact Kz _)];exact q p _ (s1.free hp) (s1.trans (am hp _)) ah

theorem cq:aE ["named","nodes","count","row","calls","node","short","k","argument","size"] ["named","nodes","count"] (av (top 41)):=by walk_at "c"
inductive Fa(K:KC)(CN CB:Addr)(n:Nat)(vs:List V)(H:Hp)(Q:VK)(E:XK):Prop
 |mk(na:Addr)(xv:V)(c d:Nat)(S:List Sh)(xs:List DD)(M:List (Wd0×Nat))(_:vs=[.ref na,xv,.int (c:Int)])(_:d<n)(_:c<=9)(_:tH K H na S)(_:jE S)(_:MOk M)(_:Rep K H (.lst xs) xv)(_:∀x∈xs,Nd M c d x)(_:wrL S d xs=1->∀H',ar H H'->E (.ref CN) none H')(_:wrL S d xs=2->∀H',ar H H'->E (.ref CB) none H')(_:wrL S d xs=0->∀p r H',ar H H'->H r=none->H' p=some (.tup [.ref r,.int (bo S d xs)])->H' r=some (.lst ((cL S c d xs).map V.int))->Q (.ref p) H')
theorem mM(T:Txt P w K mg a):∀n:Nat,aO P w K mg base (CXe P w) (n+4) a.jR a.ja ["named","nodes","count"] (Fa K a.dr a.cF n)
 |0=>⟨λvs H Q E h=>(by obtain⟨na,xv,c,d,S,xs,M,_,h1,_⟩:=h;omega),λA outer s H args us vs Q E _ _ _ _ h=>(by obtain⟨na,xv,c,d,S,xs,M,_,h1,_⟩:=h;omega)⟩
 |n+1=>by
  have g_size_among:=mM T n;have eD:=T.eD;have g_short_called:=uK (P:=P) (w:=w) (base:=base) T;have fD:=T.fD;have g_sum_of_rows:=vB (P:=P) (w:=w) (base:=base) T;have gb:=T.gb;have gp:=T.gp

  refine T.eD.fn.okE cq (λvs H Q E h=>?_) (λcdv A outer s H vs Q E hr h=>?_)
  .obtain⟨na,xv,c,d,S,xs,M,rfl,_⟩:=h;rfl
  obtain⟨na,xv,c,d,S,xs,M,rfl,hd,hc,hNm,sok,mok,rx,ndx,q1,q2,q⟩:=h;have hu:=MJ (dW hr);refine⟨_,(ae (ay (i:=3) cq.nd rfl (K1 rfl) (ao B8 (aK (aa ai ac)) (ao cz (pv 2) ai)))
   (ae (ay (i:=4) cq.nd rfl (K1 rfl) ai)
   (ae (dF Mb rfl (bU (pv 1)) (bw (i:=5) cq.nd rfl (K1 rfl)) (ap (aW (aA bQ (aC aY (pv 5) ai (λ_ _=>rfl)) ak (nomark _)) (ap (ub (ao cz (aC bb (pv 3) ai (λ_ _=>rfl)) ai) (xO (pv 3) ai sT))) (ap (aW (aA bQ (aC aY (pv 5) ai (λ_ _=>rfl)) ak (nomark _)) (ap (ub (ao cz (aC bb (pv 3) (aC aY (pv 5) ai (λ_ _=>rfl)) (λ_ _=>rfl)) ai) (xO (pv 3) (aC aY (pv 5) ai (λ_ _=>rfl)) sT))) (ae (ay (i:=6) cq.nd rfl (K1 rfl) (gR bI fD g_short_called (hr.mono (by omega)) rfl (aa (pv 0) (aa (pv 5) ac))))
   (ae (ub (ao cz (aC bb (pv 3) ai (λ_ _=>rfl)) (aC bb (aC aY (pv 6) ai (λ_ _=>rfl)) ai (λ_ _=>rfl))) (xO (pv 3) ai sT))
   (ae (ay (i:=4) cq.nd rfl (K1 rfl) (ao cz (ao cz (pv 4) ai) (aC aY (pv 6) ai (λ_ _=>rfl))))
   (ap (dF Mb rfl (Eb rfl gp (aC aY (pv 5) ai (λ_ _=>rfl)) ai) (iX rfl (bZ (bw (i:=7) cq.nd rfl (K1 rfl)) (bZ (bw (i:=8) cq.nd rfl (K1 rfl)) gc))) (ae (ay (i:=9) cq.nd rfl (K1 rfl) (gR bI eD g_size_among hr rfl (aa (pv 0) (aa (pv 8) (aa (pv 2) ac)))))
   (ae (ay (i:=3) cq.nd rfl (K1 rfl) (aD gb g_sum_of_rows (hr.mono (by omega)) rfl (aa (pv 3) (aa (aC aY (pv 9) ai (λ_ _=>rfl)) (aa (aC bb (aC aY (pv 6) ai (λ_ _=>rfl)) (pv 7) (λ_ _=>rfl)) ac)))))
   (ap (ay (i:=4) cq.nd rfl (K1 rfl) (ao cz (pv 4) (aC aY (pv 9) ai (λ_ _=>rfl)))))))))))))))))
   (ap (aM (bx (aa (pv 3) (aa (pv 4) ac)))))))),?_⟩
  obtain⟨xa,vs0,rfl,sx,_,rxs⟩:=rx.lstO;have xl:=rxs.len;refine⟨le1,λp1 hp1=>?_⟩;have g1:=am hp1 (.lst [V.int 0]);refine⟨_,rfl,_,_,rfl,rfl,_,_,_,rfl,rfl,ah,by omega,by omega,bj (by simp;omega),λra hra=>?_⟩;have fra:=g1.free hra;have g2:=g1.trans (am hra (.lst (KB ((c:Int)+1).toNat [V.int 0]).flatten));have kra:upd (upd H p1 (.lst [V.int 0])) ra (.lst (KB ((c:Int)+1).toNat [V.int 0]).flatten) ra=some (.lst ((cL S c d (xs.take 0)).map V.int)):=by
   rw[ah,EC];rfl
  generalize upd (upd H p1 (.lst [V.int 0])) ra (.lst (KB ((c:Int)+1).toNat [V.int 0]).flatten)=H2 at g2 kra⊢;refine⟨_,rfl,xa,rfl,⟨_,g2.seq sx⟩,dP (K:=K) (a:=xa) (xs:=vs0) (λk σ G=>∃(ra:Addr)(v5 v6 v7 v8 v9:Option V),σ=[rF na,rF xa,some (.int (c:Int)),rF ra,some (.int (bo S d (xs.take k))),v5,v6,v7,v8,v9]/\wrL S d (xs.take k)=0/\ar H G/\H ra=none/\G ra=some (.lst ((cL S c d (xs.take k)).map V.int))) ⟨ra,none,none,none,none,none,rfl,rfl,g2,fra,kra⟩ (λk σ G _ z=>by obtain⟨_,_,_,_,_,_,_,_,s1,_⟩:=z;exact s1.seq sx) ?_ ?_⟩
  .rintro k y σ G hy ⟨ra,v5,v6,v7,v8,v9,rfl,w0,s1,fra,kra⟩;obtain⟨x0,e0,r0⟩:=rxs.getR hy;have nd0:=ndx x0 (KL e0);obtain⟨e,rfl⟩:=nd0.pos;rcases nd0.out with⟨w',rfl⟩|⟨pk,hp1,hp2,rfl⟩|⟨nm',as,rfl,hM,has⟩
   .obtain⟨ta,zs,rfl,st,_,rz⟩:=r0.tupO;obtain⟨z0,z1,rfl,y0,y1⟩:=aB.two rz;rw[y0.strO,y1.strO]at st;refine⟨_,rfl,_,_,_,_,rfl,rfl,s1.tup st,rfl,rfl,_,rfl,?_⟩;rw[decide_eq_true rfl];left;refine⟨_,rfl,_,_,_,_,rfl,rfl,SqL.of kra,uw _ (Ls _),_,_,rfl,rfl,_,rfl,_,_,_,_,rfl,rfl,kra,u6 (j:=0) (by rw[KA];unfold cL;rw[iy];omega),?_⟩;have ec:bo S (e+1) (xs.take (k+1))=bo S (e+1) (xs.take k):=by unfold bo;rw[jZ _ e0,IG];omega
    refine⟨ra,rF ta,v6,v7,v8,v9,by rw[ec];rfl,oV _ e0 w0 IE,s1.put fra,fra,?_⟩;rw[ah];unfold cL;rw[u5 _ _ (Ls _)];exact congrArg (λz=>some (HO.lst (z.map V.int))) (ED e0)
   .obtain⟨ta,zs,rfl,st,_,rz⟩:=r0.tupO;obtain⟨z0,z1,rfl,y0,y1⟩:=aB.two rz;rw[y0.strO,y1.intO]at st;have st1:=s1.tup st;refine⟨_,rfl,_,_,_,_,rfl,rfl,st1,rfl,rfl,_,rfl,?_⟩;rw[decide_eq_false C3];right;refine⟨_,rfl,_,_,_,_,rfl,rfl,st1,rfl,rfl,_,rfl,?_⟩;rw[decide_eq_true rfl];left;refine⟨_,rfl,_,rfl,_,_,_,_,rfl,rfl,st1,rfl,_,_,_,_,rfl,rfl,SqL.of kra,uw _ hp2,_,_,rfl,rfl,_,rfl,_,rfl,_,_,_,_,rfl,rfl,st1,rfl,_,_,_,_,rfl,rfl,kra,u6 (by rw[KA];unfold cL;rw[iy];omega),?_⟩;have ec:bo S (e+1) (xs.take (k+1))=bo S (e+1) (xs.take k):=by unfold bo;rw[jZ _ e0,IH];omega
    refine⟨ra,rF ta,v6,v7,v8,v9,by rw[ec];rfl,oV _ e0 w0 IF,s1.put fra,fra,?_⟩;rw[ah];unfold cL;rw[u5 _ _ hp2];exact congrArg (λz=>some (HO.lst (z.map V.int))) (C2 e0)
   .have r0':=r0;obtain⟨ta,zs,rfl,st,_,rz⟩:=r0.tupO;obtain⟨z0,z1,z2,rfl,y0,y1,y2⟩:=aB.three rz;rw[y0.strO,y1.strO]at st;obtain⟨la,ys,rfl,sl,_,rl⟩:=y2.lstO;have yl:=rl.len;rw[KA]at yl;have st1:=s1.tup st;refine⟨_,rfl,_,_,_,_,rfl,rfl,st1,rfl,rfl,_,rfl,?_⟩;rw[decide_eq_false C4];right;refine⟨_,rfl,_,_,_,_,rfl,rfl,st1,rfl,rfl,_,rfl,?_⟩;rw[decide_eq_false C5];right;have mo:=mok.2 _ hM;refine⟨_,rfl,_,rfl,H,na,_,S,nm',as,rfl,s1,hNm,r0',mo.1,mo.2.1,λhF=>?_,λs hF hl=>?_,λs sv hF hl rs=>?_⟩
    .exact q1 (by unfold wrL;rw[uG _ e0 w0 (by rw[u4 hF];decide)];exact u4 hF) _ s1
    .exact q2 (by unfold wrL;rw[uG _ e0 w0 (by rw[yn hF hl];decide)];exact yn hF hl) _ s1
    have hs:=(F5 hF).1;have rl1:=sok.row s hs;have hwf:=Cz (d:=e) hF hl;obtain⟨sa,us,rfl,sst,_,ru⟩:=rs.tupO;obtain⟨x3,hu3,r3⟩:=ru.get (i:=3) (d:=.lst (s.r.map DD.int)) rfl;obtain⟨ba,bs,rfl,sb,_,rb⟩:=r3.lstO;have hbs:=rb.intsO;subst hbs;obtain⟨x4,hu4,r4⟩:=ru.get (i:=4) (d:=.int s.k) rfl;rw[r4.intO]at hu4;have hb0:atI (s.r.map V.int) 0=some (V.int (s.r.getD 0 0)):=a_ (j:=0) (by rw[KS,E_ (by omega)];rfl);dsimp only[bN];refine⟨_,rfl,_,_,_,_,rfl,rfl,SqL.of kra,uw _ (Ls _),_,rfl,_,_,_,_,rfl,rfl,s1.tup sst,a_ hu3,_,_,_,_,rfl,rfl,s1.seq sb,hb0,_,_,rfl,rfl,_,rfl,_,_,_,_,rfl,rfl,kra,u6 (j:=0) (by rw[KA];unfold cL;rw[iy];omega),?_⟩;unfold cL;rw[u5 _ _ (Ls _)];have s2:ar H (upd G ra (.lst ((rwL (λi=>if i=0 then((xs.take k).map (szR S 0 (e+1))).sum+s.r.getD 0 0 else((xs.take k).map (szR S i (e+1))).sum) c).map V.int))):=s1.put fra;have k2:upd G ra (.lst ((rwL (λi=>if i=0 then((xs.take k).map (szR S 0 (e+1))).sum+s.r.getD 0 0 else((xs.take k).map (szR S i (e+1))).sum) c).map V.int)) ra=some (.lst ((rwL (λi=>if i=0 then((xs.take k).map (szR S 0 (e+1))).sum+s.r.getD 0 0 else((xs.take k).map (szR S i (e+1))).sum) c).map V.int)):=ah;generalize upd G ra (.lst ((rwL (λi=>if i=0 then((xs.take k).map (szR S 0 (e+1))).sum+s.r.getD 0 0 else((xs.take k).map (szR S i (e+1))).sum) c).map V.int))=G2 at s2 k2⊢;generalize hfq:(λi=>if i=0 then((xs.take k).map (szR S 0 (e+1))).sum+s.r.getD 0 0 else((xs.take k).map (szR S i (e+1))).sum)=FR' at k2;refine⟨_,rfl,_,_,rfl,rfl,_,rfl,_,_,_,_,rfl,rfl,s2.tup sst,a_ hu4,_,_,rfl,rfl,?_⟩;dsimp only[bN];refine⟨_,rfl,_,_,_,_,rfl,rfl,s2.tup st,rfl,la,rfl,⟨_,s2.seq sl⟩,Cy (K:=K) (a:=la) (xs:=ys) (λj σ G=>∃(ra:Addr)(v7 v8 v9:Option V),σ=[rF na,rF xa,some (.int (c:Int)),rF ra,some (.int (bo S (e+1) (xs.take k)+1+s.k+((as.take j).map (bo S e)).sum)),rF ta,rF sa,v7,v8,v9]/\bB ((as.take j).map (wrL S e))=0/\ar H G/\H ra=none/\G ra=some (.lst ((rwL (λi=>FR' i+bG s.r 1 ((as.take j).map λa=>(a.map (szR S i e)).sum)) c).map V.int))) ⟨ra,v7,v8,v9,(by simp;try rfl),rfl,s2,fra,by rw[k2];exact congrArg (λz=>some (HO.lst (M1 V.int z))) (kO λi _=>by simp[bG])⟩ (λj σ G _ z=>by obtain⟨_,_,_,_,_,_,s3,_⟩:=z;exact s3.seq sl) ?_ ?_⟩
    .rintro j y σ G pe hy ⟨ra,v7,v8,v9,rfl,wj,s3,fra,kra⟩ hpe;obtain⟨dj,ejm,rj⟩:=rl.getR hy;rw[KS]at ejm;obtain⟨aj,ej,rfl⟩:=Option.map_eq_some_iff.mp ejm;clear ejm;have hjl:j<as.length:=(List.getElem?_eq_some_iff.mp ej).1;refine⟨pe,_,rfl,SqT.of ah,rfl,_,_,rfl,_,_,rfl,rfl,?_⟩;dsimp only[bN]
     exists hpe,G4,g3,kZ
     have s4:=s3.trans g3;have kra4:=g3 _ _ kra;have hwD:∀m,m≠0->wrL S e aj=m->wrL S (e+1) xs=m:=λm hm hw=>by
      have h1:wrD S (e+1) (clD nm' as)=m:=by rw[hwf,uG _ ej wj (by rw[hw];exact hm),hw]
      unfold wrL;rw[uG _ e0 w0 (by rw[h1];exact hm),h1]
     refine⟨_,rfl,_,rfl,_,rfl,na,y,c,e,S,aj,M,rfl,by omega,hc,hNm.mono s4,sok,mok,rj.mono s4,(has aj (KL ej)).2,λhw H' s'=>q1 (hwD 1 (by decide) hw) _ (s4.trans s'),λhw H' s'=>q2 (hwD 2 (by decide) hw) _ (s4.trans s'),λhw p2 r2 G5 s5 fr2 kp2 kr2=>?_⟩;have s45:=s4.trans s5;have hjr:=E_ (s:=s) (j:=j+1) (by omega);have hjb:=sok.r4 s hs _ (KL hjr);refine⟨_,rfl,_,rfl,_,_,_,_,rfl,rfl,SqT.of kp2,rfl,_,rfl,_,_,_,_,rfl,rfl,s45.tup sst,a_ hu3,_,rfl,_,_,_,_,rfl,rfl,s45.seq sb,a_ (by rw[KS,hjr];rfl),ra,r2,_,_,c,_,rfl,hc,hjb.1,by omega,SqL.of (s5 _ _ kra4),SqL.of kr2,λp6 G6 fp6 s6 k6=>?_⟩;dsimp only[bN];refine⟨_,rfl,_,rfl,_,_,_,_,rfl,rfl,SqT.of (s6 _ _ kp2),rfl,_,_,rfl,rfl,?_⟩;refine⟨p6,_,_,_,by rw[CA _ ej,<-Int.add_assoc];rfl,oV _ ej wj hw,s45.trans s6,s45.free fp6,?_⟩;rw[k6];refine congrArg (λz=>some (HO.lst (M1 V.int z))) (kO λi _=>?_);rw[Lb,ej,KQ];show _=FR' i+bG s.r 1 (_++[(aj.map (szR S i e)).sum]);rw[qF,KA,La,Na (by omega),show 1+j=j+1 by omega];omega
    .rintro σ G ⟨ra,v7,v8,v9,rfl,wj,s3,fra,kra⟩;rw[yl,K9 (Kz _)]at wj kra⊢;have ec:bo S (e+1) (xs.take (k+1))=bo S (e+1) (xs.take k)+1+s.k+(as.map (bo S e)).sum:=by
      show((xs.take (k+1)).map (szC S (e+1))).sum=((xs.take k).map (szC S (e+1))).sum+1+s.k+_;rw[jZ _ e0,II hF];omega
     refine⟨ra,_,_,_,_,_,by rw[ec],oV _ e0 w0 (by rw[hwf];exact wj),s3,fra,?_⟩;rw[kra];refine congrArg (λz=>some (HO.lst (M1 V.int z))) (kO λi _=>?_);rw[jZ _ e0,AX hF,<-hfq];dsimp only;by_cases h0:i=0
     .rw[if_pos h0,if_pos h0,h0];omega
     .rw[if_neg h0,if_neg h0];omega
  .rintro σ G ⟨ra,v5,v6,v7,v8,v9,rfl,w0,s1,fra,kra⟩;rw[xl,K9 (Kz _)]at w0 kra⊢;refine⟨_,rfl,_,rfl,le2,λp hp=>?_⟩;have g3:=am hp (.tup [V.ref ra,V.int (bo S d xs)]);exact q w0 p ra _ (s1.trans g3) fra ah (g3 _ _ kra)
theorem pR(T:Txt P w K mg a):aO P w K mg base (CXe P w) 20 a.jR a.ja ["named","nodes","count"] (Fa K a.dr a.cF (20-4)):=mM T (20-4)

theorem jJ:aE ["named","nodes","arguments","words","node","given"] ["named","nodes","arguments"] (av (top 43)):=by walk_at "c"
inductive Fb(K:KC)(n:Nat)(vs:List V)(H:Hp)(Q:VK)(x_1:XK):Prop
 |mk(na:Addr)(xv:V)(ga:Addr)(S:List Sh)(xs:List DD)(A:List (List Str))(i c d:Nat)(_:vs=[.ref na,xv,.ref ga])(_:d+12*i<n)(_:d+12*i<=63)(_:tH K H na S)(_:ShX S)(_:Rep K H (.lst xs) xv)(_:∀x∈xs,Nd (iz (S.take i)) c d x)(_:A.length=c)(_:ux H ga A)(_:(exL id S 64 A xs).length<=400)(_:∀p H',ar H H'->H p=none->H' p=some (.lst ((exL id S 64 A xs).map V.str))->Q (.ref p) H')
theorem on(T:Txt P w K mg a):∀n:Nat,aO P w K mg base CX0 (n+4) a.kD a.jT ["named","nodes","arguments"] (Fb K n)
 |0=>⟨λvs H Q E h=>(by obtain⟨na,xv,ga,S,xs,A,i,c,d,_,h1,_⟩:=h;omega),λA outer s H args us vs Q E _ _ _ _ h=>(by obtain⟨na,xv,ga,S,xs,A,i,c,d,_,h1,_⟩:=h;omega)⟩
 |n+1=>by
  have g_words_out:=on T n;have e9:=T.e9

  refine T.e9.fn.ok jJ (λvs H Q E h=>?_) (λcdv A outer s H vs Q E hr h=>?_)
  .obtain⟨na,xv,ga,S,xs,A,i,c,d,rfl,_⟩:=h;rfl
  obtain⟨na,xv,ga,S,xs,A,i,c,d,rfl,hd,hd63,hN,sx0,rx,ndx,hA,hG,tot,q⟩:=h;have hu:=MJ (dW hr);refine⟨_,(ae (ay (i:=3) jJ.nd rfl (K1 rfl) (aK ac))
   (ae (dF MX rfl (bU (pv 1)) (bw (i:=4) jJ.nd rfl (K1 rfl)) (ap (aW (aA bQ (aC aY (pv 4) ai (λ_ _=>rfl)) ak (nomark _)) (ap (bf (dg K4 Lf Lg cw (pv 3) (aa (aC aY (pv 4) ai (λ_ _=>rfl)) ac)))) (ap (aW (aA bQ (aC aY (pv 4) ai (λ_ _=>rfl)) ak (nomark _)) (ap (bf (dg K4 M3 M4 mH (pv 3) (aa (aC bb (pv 2) (ao kI (aC aY (pv 4) ai (λ_ _=>rfl)) ai) (λ_ _=>rfl)) ac)))) (ae (ui (k:=5) rfl (gq (caps:=["named","arguments"]) (js:=[0,2]) (cap:=⟨⟨rfl,.inl rfl,rfl,.inl rfl⟩,⟨⟨rfl,.inl rfl,rfl,.inl rfl⟩,trivial⟩⟩)) (bU (aC aY (pv 4) ai (λ_ _=>rfl))) (λ_ _ _ _=>dA) (λ_ _ _ _=>(aD e9 g_words_out hr rfl (aa (pv 1) (aa (pv 0) (aa (pv 2) ac))))) jJ.nd rfl rfl)
   (ap (bf (dg K4 M3 M4 mH (pv 3) (aa (aD e9 g_words_out hr rfl (aa (pv 0) (aa (aC aY (nP (dW hr) (pv 0) (aC aY (pv 4) ai (λ_ _=>rfl)) (λ_ _=>rfl)) ai (λ_ _=>rfl)) (aa (pv 5) ac)))) ac))))))))))
   (ap (aM (pv 3))))),?_⟩
  obtain⟨xa,vs0,rfl,sx,_,rxs⟩:=rx.lstO;have xl:=rxs.len;have kN:=hN;obtain⟨kvs,hkv0,hv⟩:=kN;have kG:=hG;obtain⟨bs,hga,bl,hbs⟩:=kG;have al:∀k,(exL id S 64 A (xs.take k)).length<=400:=λk=>Ln (Ed xs k) tot;refine⟨bj (by simp),λpw hpw=>?_⟩
  exists hpw,H1,g1,k1
  refine⟨_,rfl,xa,rfl,⟨_,g1.seq sx⟩,dP (K:=K) (a:=xa) (xs:=vs0) (λk σ G=>∃(v4 v5:Option V),σ=[rF na,rF xa,rF ga,rF pw,v4,v5]/\ar H G/\G pw=some (.lst ((exL id S 64 A (xs.take k)).map V.str))) ⟨none,none,rfl,g1,k1⟩ (λk σ G _ z=>by obtain⟨_,_,_,s1,_⟩:=z;exact s1.seq sx) ?_ ?_⟩
  .rintro k y σ G hy ⟨v4,v5,rfl,s1,kw⟩;obtain⟨x0,e0,r0⟩:=rxs.getR hy;have nd0:=ndx x0 (KL e0);have es:=Ec (wd:=id) (S:=S) (n:=64) (A:=A) e0;have lk0:=al k;have lk1:=al (k+1);rw[es,KI]at lk1;obtain⟨e,rfl⟩:=nd0.pos;rcases nd0.out with⟨w',rfl⟩|⟨pk,hp1,hp2,rfl⟩|⟨nm',as,rfl,hM,has⟩
   .obtain⟨ta,zs,rfl,st,_,rz⟩:=r0.tupO;obtain⟨z0,z1,rfl,y0,y1⟩:=aB.two rz;rw[y0.strO,y1.strO]at st;have st1:=s1.tup st;refine⟨_,rfl,_,_,_,_,rfl,rfl,st1,rfl,rfl,_,rfl,?_⟩;rw[decide_eq_true rfl];left;refine⟨_,rfl,.inl ⟨rfl,_,SqL.of kw⟩,_,rfl,_,_,_,_,rfl,rfl,st1,rfl,_,_,_,rfl,rfl,kw,aF (by rw[KA];omega),?_⟩;refine⟨_,_,rfl,s1.put hpw,?_⟩;rw[ah,es,KQ];rfl
   .obtain⟨ta,zs,rfl,st,_,rz⟩:=r0.tupO;obtain⟨z0,z1,rfl,y0,y1⟩:=aB.two rz;rw[y0.strO,y1.intO]at st;have st1:=s1.tup st;refine⟨_,rfl,_,_,_,_,rfl,rfl,st1,rfl,rfl,_,rfl,?_⟩;rw[decide_eq_false C3];right;refine⟨_,rfl,_,_,_,_,rfl,rfl,st1,rfl,rfl,_,rfl,?_⟩;rw[decide_eq_true rfl];left;have hb:bs[pk-1]?=some bs[pk-1]:=KM (by omega);have hb2:=s1 _ _ (hbs (pk-1) _ hb);rw[xk]at es lk1;refine⟨_,rfl,.inl ⟨rfl,_,SqL.of kw⟩,_,rfl,_,rfl,_,_,_,_,rfl,rfl,st1,rfl,_,_,rfl,rfl,_,_,_,_,rfl,rfl,SqL.of (s1 _ _ hga),by rw[show(pk:Int)-1=((pk-1:Nat):Int) by omega];exact a_ (by rw[KS,hb];rfl),_,_,_,_,rfl,rfl,kw,hb2,bj (by rw[KA,KA];omega),?_⟩;refine⟨_,_,rfl,s1.put hpw,?_⟩;rw[ah,es,KQ]
   .obtain⟨ta,zs,rfl,st,_,rz⟩:=r0.tupO;obtain⟨z0,z1,z2,rfl,y0,y1,y2⟩:=aB.three rz;rw[y0.strO,y1.strO]at st;obtain⟨la,ys,rfl,sl,l1000,rl⟩:=y2.lstO;rw[KA]at l1000;have yl:=rl.len;rw[KA]at yl;have st1:=s1.tup st;refine⟨_,rfl,_,_,_,_,rfl,rfl,st1,rfl,rfl,_,rfl,?_⟩;rw[decide_eq_false C4];right;refine⟨_,rfl,_,_,_,_,rfl,rfl,st1,rfl,rfl,_,rfl,?_⟩;rw[decide_eq_false C5];right;obtain⟨j,s,hj,ej,hs,en,ec,hF⟩:=u7 sx0.nd hM;have h4:=sx0.len;have hj4:=(List.getElem?_eq_some_iff.mp ej).1;have hacl:=Jz (wd:=id) (A:=A) sx0 hF ej (λa ha=>(has a ha).2) (by omega);have e5:∀y∈s.ns,En S 64 s.c y:=λy hy=>(AY sx0 (sx0.ord j s ej y hy) (by omega)).up (by decide);obtain⟨AA,hAA⟩:∃AA,AA=as.map (exL id S 64 A):=⟨_,rfl⟩;rw[<-hAA]at hacl;have AAl:AA.length=s.c:=by rw[hAA,KA,ec]
    rw[hacl]at es lk1;have atot:∀a∈as,(exL id S 64 A a).length<=400:=λa ha=>by
     have:=Hj (wd:=id) (n:=64) (g:=exL id S 64 A a) sx0 hs AAl e5 (by rw[hAA];exact List.mem_map.mpr ⟨a,ha,rfl⟩);omega
    refine⟨_,rfl,_,_,_,_,rfl,rfl,st1,rfl,la,rfl,⟨_,s1.seq sl⟩,d7 (K:=K) (a:=la) (xs:=ys) (λm zs G'=>ar G G'/\∃cs:List Addr,zs=cs.map V.ref/\cs.length=m/\∀(m':Nat) b,cs[m']?=some b->G' b=some (.lst ((AA.getD m' []).map V.str))) ⟨ar.refl _,[],rfl,rfl,λm' b eb=>by simp at eb⟩ (λm zs G' _ z=>(s1.trans z.1).seq sl) ?_ ?_ ?_⟩
    .rintro m zs G' hm ⟨_,cs,rfl,cl,_⟩;rw[KA,cl];exact aF (by omega)
    .rintro m y zs G' hy ⟨s2,cs,rfl,cl,hcs⟩;obtain⟨dj,ejm,rj⟩:=rl.getR hy;rw[KS]at ejm;obtain⟨aj,eaj,rfl⟩:=Option.map_eq_some_iff.mp ejm;clear ejm;have s12:=s1.trans s2;have eAA:AA.getD m []=exL id S 64 A aj:=by rw[hAA,Lk,KS,eaj];rfl
     refine eM ?_;refine⟨_,rfl,_,rfl,_,rfl,na,y,ga,S,aj,A,i,c,e,rfl,by omega,by omega,hN.mono s12,sx0,rj.mono s12,(has aj (KL eaj)).2,hA,hG.mono s12,atot aj (KL eaj),λp G5 s5 fp kp=>⟨s2.trans s5,cs++[p],by simp,by simp[cl],λm' b eb=>?_⟩⟩;by_cases hm':m'<cs.length
     .rw[LO hm']at eb;exact s5 _ _ (hcs m' b eb)
     .rw[LS (by omega)]at eb;have h0:m'-cs.length=0:=by
       have:=(List.getElem?_eq_some_iff.mp eb).1;simp at this;omega
      rw[h0]at eb;have eb:p=b:=by simpa using eb
      rw[<-eb,show m'=m by omega,eAA];exact kp
    rintro zs G' ⟨s2,cs,rfl,cl,hcs⟩ pg hpg;rw[yl]at cl
    exists hpg,G3,g3,k3
    have s13:=s1.trans (s2.trans g3);have ag:ux G3 pg AA:=⟨cs,k3,by rw[cl,AAl,ec],λm' b eb=>g3 _ _ (hcs m' b eb)⟩;obtain⟨v,hv1,hv2⟩:=(hv (tx nm')).2 s hF;obtain⟨tv,us,rfl,stv,_,ru⟩:=hv2.tupO;obtain⟨x2,hu2,rn⟩:=ru.get (i:=2) (d:=.lst s.ns) rfl;have kw3:=(s2.trans g3) _ _ kw;dsimp only[bN];refine⟨_,rfl,.inl ⟨rfl,_,SqL.of kw3⟩,_,rfl,_,rfl,_,rfl,_,_,_,_,rfl,rfl,s13.tup st,rfl,na,_,rfl,.inl ⟨kvs,.inr (tx nm'),.inl (s13 _ _ hkv0),rfl,hv1.symm⟩,_,_,_,_,rfl,rfl,s13.tup stv,a_ hu2,_,rfl,na,x2,pg,S,s.ns,AA,j,s.c,12,rfl,by omega,by omega,hN.mono s13,sx0,rn.mono s13,sx0.ord j s ej,AAl,ag,by omega,λp G5 s5 fp kp=>?_⟩;have kw5:=s5 _ _ kw3;refine⟨_,_,_,_,rfl,rfl,kw5,kp,bj (by rw[KA,KA];omega),?_⟩;refine⟨_,_,rfl,(s13.trans s5).put hpw,?_⟩;rw[ah,es,KQ]
  .rintro σ G ⟨v4,v5,rfl,s1,kw⟩;rw[xl,K9 (Kz _)]at kw;exact⟨_,rfl,q pw G s1 hpw kw⟩
theorem y9(T:Txt P w K mg a):aO P w K mg base CX0 70 a.kD a.jT ["named","nodes","arguments"] (Fb K (70-4)):=on T (70-4)
inductive Bk(K:KC)(CN CB CT:Addr)(vs:List V)(H:Hp)(Q:VK)(E:XK):Prop
 |mk(sv xv:V)(d:Nat)(S:List Sh)(xs:List DD)(M:List (Wd0×Nat))(_:vs=[sv,xv])(_:d<=15)(_:Rep K H (.lst (S.map shD)) sv)(_:jE S)(_:MOk M)(_:Rep K H (.lst xs) xv)(_:∀x∈xs,Nd M 0 d x)(_:rfN S d xs=1->∀H',ar H H'->E (.ref CN) none H')(_:rfN S d xs=2->∀H',ar H H'->E (.ref CB) none H')(_:rfN S d xs=3->∀H',ar H H'->E (.ref CT) none H')(_:rfN S d xs=0->∀p H',ar H H'->H p=none->H' p=some (.lst ((exL id S 64 [] xs).map V.str))->Q (.ref p) H')
theorem o7:aE ["shorts","nodes","named","size"] ["shorts","nodes"] (av (top 38)):=by walk_at "c"
theorem Bl(T:Txt P w K mg a):aO P w K mg base (CXe P w) 71 a.rE a.pK ["shorts","nodes"] (Bk K a.dr a.cF a.cG):=by
 have cH:=T.cH;have aU:=T.aU;obtain⟨t_MOST_CALLS,cH⟩:=cH;obtain⟨t_MOST_WORDS_shorts,aU⟩:=aU
 exists T.rm.fn.okE,o7
 obtain⟨sv,xv,d,S,xs,M,rfl,hd,rS,sok,mok,rx,ndx,q1,q2,q3,q⟩:=h
 exists (ae (ay (i:=2) o7.nd rfl (K1 rfl) (aD T.mP (uI T) (hM hr) rfl (aa (pv 0) ac)))
   (ae (ay (i:=3) o7.nd rfl (K1 rfl) (gR bI T.eD (pR T) (hM hr) rfl (aa (pv 2) (aa (pv 1) (aa ai ac)))))
   (ae (aW (PW.pt (lm (aA jv (aC bb (aC aY (pv 3) ai (λ_ _=>rfl)) ai (λ_ _=>rfl)) (bp (v:=.int 400) rfl aU ⟨_,rfl⟩) (nomark _)) (kH (aA jv (aC aY (pv 3) ai (λ_ _=>rfl)) (bp (v:=.int 400) rfl cH ⟨_,rfl⟩) (nomark _))))) (ap (b7 rfl cj T.ju rfl (aa (cK (aI bP (aI (nQ (bp (v:=.int 400) rfl aU ⟨_,rfl⟩)) (aI bP (aI (nQ (bp (v:=.int 400) rfl cH ⟨_,rfl⟩)) (aI bP dh)))))) ac))) aX)
   (ap (aM (aD T.e9 (y9 T) (hM hr) rfl (aa (pv 2) (aa (pv 1) (aa (aK ac) ac)))))))))
 refine⟨_,rfl,sv,S,rfl,rS,sok.nd,by have:=sok.len;omega,λpn H1 s1 hN=>?_⟩;refine⟨_,rfl,_,rfl,pn,xv,0,d,S,xs,M,rfl,by omega,by decide,hN,sok,mok,rx.mono s1,ndx,λhw H' s'=>q1 (by unfold rfN;rw[hw];rfl) _ (s1.trans s'),λhw H' s'=>q2 (by unfold rfN;rw[hw];rfl) _ (s1.trans s'),λhw p r H2 s2 fr kp kr=>?_⟩;have s12:=s1.trans s2;have big:(400<(xs.map (szR S 0 d)).sum\/400<bo S d xs)->rfN S d xs=3:=λh=>by unfold rfN;rw[if_pos hw,if_pos h]
 have no:¬ (400<(xs.map (szR S 0 d)).sum\/400<bo S d xs)->rfN S d xs=0:=λh=>by unfold rfN;rw[if_pos hw,if_neg h]
 refine⟨_,rfl,_,_,_,_,rfl,rfl,SqT.of kp,rfl,_,_,_,_,rfl,rfl,SqL.of kr,uw _ (Ls _),_,_,rfl,rfl,_,rfl,?_⟩;refine cZ (λc1=>DQ ?_) (λc1=>?_)
 .have c1:(400:Int)<(xs.map (szR S 0 d)).sum:=of_decide_eq_true c1;exact⟨⟨trivial,trivial,trivial,trivial,trivial,trivial⟩,λz=>⟨le1,q3 (big (.inl c1)) _ s12⟩⟩
 have c1:¬ (400:Int)<(xs.map (szR S 0 d)).sum:=λz=>c1 (decide_eq_true z);refine⟨_,rfl,_,_,_,_,rfl,rfl,SqT.of kp,rfl,_,_,rfl,rfl,_,rfl,?_⟩;refine cZ (λc2=>?_) (λc2=>?_)
 .have c2:(400:Int)<bo S d xs:=of_decide_eq_true c2;exact⟨⟨trivial,trivial,trivial,trivial,trivial,trivial⟩,λz=>⟨le1,q3 (big (.inr c2)) _ s12⟩⟩
 have c2:¬ (400:Int)<bo S d xs:=λz=>c2 (decide_eq_true z);refine⟨_,rfl,_,rfl,bj (by simp),λp3 hp3=>?_⟩
 exists hp3,H3,g3,k3
 have s13:=s12.trans g3;have nd2:∀x∈xs,Nd (iz (S.take S.length)) 0 d x:=λx hx=>by
  rw[K9 (Kz _)];exact tq (ndx x hx) (oJ hw _ (List.mem_map.mpr ⟨x,hx,rfl⟩))
 have h4:=sok.len;have lt:(exL id S 64 [] xs).length<=400:=by
  have:=Ad (wd:=id) (n:=64) (A:=[]) sok.x (λx hx=>(AY sok.x (nd2 x hx) (by omega)).up (by decide)) nd2;rw[Hk]at this;omega
 exact⟨pn,xv,p3,S,xs,[],S.length,0,d,rfl,by omega,by omega,hN.mono (s2.trans g3),sok.x,rx.mono s13,nd2,rfl,⟨[],k3,rfl,λi b e=>by simp at e⟩,lt,λp H4 s4 fp kp4=>q (no (λz=>z.elim c1 c2)) p H4 (s13.trans s4) (s13.free fp) kp4⟩
inductive qd(vs:List V)(H:Hp)(Q:VK)(x_1:XK):Prop
 |mk(w:List Nat)(_:vs=[.str (tx w)])(_:w.length<=100)(_:Q (.bl (aP w)) H)
theorem qf:aE ["word"] ["word"] (av (top 31)):=by walk_at "c"
theorem qg(T:Txt P w K mg a):aO P w K mg base CX0 1 a.ie a.gN ["word"] qd:=by
 have bX:=T.bX;obtain⟨t_FIGURES,bX⟩:=bX
 exists T.hU.fn.ok,qf
 obtain⟨w,rfl,hw,q⟩:=h
 exists (ap (aM (nN (dZ bQ (aT gQ rfl T.cQ Lq (aa (pv 0) ac)) ai (nomark _)) (nN (dZ bQ (aC jw (pv 0) ai (λ_ _=>rfl)) ak (nomark _)) (lN (dZ kJ (aC jw (pv 0) ai (λ_ _=>rfl)) (bp (v:=.str (pq "0123456789")) rfl bX ⟨_,rfl⟩) (by with_unfolding_all rfl)))))))
 refine(⟨_,rfl,_,rfl,bj (by rw[aZ];omega),rfl,_,rfl,?_⟩);rw[aZ]
 match w,hw,q with
 |[],hw,q=>exact x5 q
 |[_],hw,q=>exact x5 q
 |_::_::_::_,hw,q=>exact cZ (λc=>absurd (V.int.inj (of_decide_eq_true c)) (by simp only[KH];omega)) (λ_=>q)
 |[c,d],hw,q =>
  left;refine(⟨_,rfl,_,_,c,rfl,rfl,bj (by rw[aZ];omega),rfl,rfl,_,rfl,?_⟩);rw[IS c36];change Q (.bl (decide (c=36)&&isF d)) H at q;cases e:decide (c=36)with
  |false =>
   rw[e]at q;exact x5 q
  |true =>
   rw[e,Nu]at q;left;refine(⟨_,rfl,_,_,d,rfl,rfl,bj (by rw[aZ];omega),rfl,_,_,rfl,rfl,?_⟩);rw[yD];exact q
inductive Bm(C:Addr)(vs:List V)(H:Hp)(Q:VK)(E:XK):Prop
 |mk(w:List Nat)(cn:Option Nat)(_:vs=[.str (tx w),Et cn])(_:w.length<=100)(_:∀c∈w,c<127)(_:bV cn w=true->E (.ref C) none H)(_:bV cn w=false->∀p H',H p=none->ar H H'->yS H' p (br cn w)->Q (.ref p) H')
theorem uL:aE ["word","count","k"] ["word","count"] (av (top 30)):=by walk_at "c"
theorem Bo(T:Txt P w K mg a):aO P w K mg base (CXe P w) 2 a.rD a.pJ ["word","count"] (Bm a.cF):=by
 exists T.rk.fn.okE,uL
 obtain⟨w,cn,rfl,hw,hc,q1,q⟩:=h
 exists (ae (aW (PW.pt (lm (aA GG (pv 1) Gu (nomark _)) (kH (ua (kE (aD T.hU (qg T) (hM hr) rfl (aa (pv 0) ac)) (λ_=>rfl)))))) (ap (aM (bx (aa ak (aa (pv 0) ac))))) aX)
   (ae (ay (i:=2) uL.nd rfl (K1 rfl) (kK pP rfl T.BI PyProof.Rows.boot_int (aa (aC jw (pv 0) ai (λ_ _=>rfl)) ac)))
   (ae (aW (PW.pt (lm (aA bQ (pv 2) ai (nomark _)) (kH (aA jv (pv 2) (pv 1) (nomark _))))) (ap (b7 rfl cj T.jt rfl (aa (cK (aI (dN (pv 0)) (aI bP dh))) ac))) aX)
   (ap (aM (bx (aa ak (aa (pv 2) ac))))))))
 cases cn with
 |none =>
  exists 1
  left;left;refine⟨_,rfl,le2,λp hp=>?_⟩;exact q rfl p _ hp (am hp _) (.inl ⟨w,ah,rfl⟩)
 |some n =>
  exists 1
  right;refine⟨_,rfl,w,rfl,hw,_,rfl,?_⟩;cases e:aP w with
  |false =>
   left;refine⟨_,rfl,le2,λp hp=>?_⟩;exact q (by unfold bV;rw[e];rfl) p _ hp (am hp _) (.inl ⟨w,ah,by unfold br;rw[e];rfl⟩)
  |true =>
   right;obtain⟨k,hk,rfl⟩:∃k,k<10/\w=fZ k:=by
    match w,e with
    |[c,d],e =>
     unfold aP at e;rw[Ly]at e;obtain⟨k,h1,h2⟩:=yJ e.2;have:=of_decide_eq_true e.1;exact⟨k,h1,by rw[this,h2];rfl⟩
   have eb:bV (some n) (fZ k) = !(decide (1<=k)&&decide (k<=n)):=by
    show(aP (fZ k) && !(decide (1<=(fZ k).getD 1 0-48)&&decide ((fZ k).getD 1 0-48<=n)))=_;rw[e,Nu,show(fZ k).getD 1 0-48=k by show 48+k-48=k;omega]
   refine⟨_,rfl,_,_,48+k,rfl,rfl,bj (by rw[aZ];omega),rfl,_,(k:Int),rfl,Aj k hk,by show 1<=640;omega,?_⟩;dsimp only[bN]
   exists 1
   have bad:¬ (1<=k/\k<=n)->E (.ref a.cF) none H:=λz=>q1 (by
    rw[eb];by_cases h1:1<=k
    .rw[decide_eq_true h1,decide_eq_false (λh2=>z ⟨h1,h2⟩)];rfl
    .rw[decide_eq_false h1];rfl)
   refine orG (λc=>?_) (λc=>?_)
   .have:(k:Int)=0:=V.int.inj (of_decide_eq_true c);exact⟨⟨⟨fZ k,rfl,by show 2<=_;omega,hc⟩,trivial,trivial⟩,λz=>⟨le1,bad (by omega)⟩⟩
   have c1:¬ (k:Int)=0:=λz=>c (decide_eq_true (by rw[z]));refine⟨_,rfl,_,rfl,_,_,rfl,rfl,_,rfl,?_⟩;refine cZ (λc=>?_) (λc=>?_)
   .have:=of_decide_eq_true c;exact⟨⟨⟨fZ k,rfl,by show 2<=_;omega,hc⟩,trivial,trivial⟩,λz=>⟨le1,bad (by omega)⟩⟩
   .have c2:¬ (k:Int)>(n:Int):=λz=>c (decide_eq_true z);refine⟨_,rfl,le2,λp hp=>?_⟩;exact q (by rw[eb,decide_eq_true (show 1<=k by omega),decide_eq_true (show k<=n by omega)];rfl) p _ hp (am hp _) (.inr ⟨k,by omega,ah,yR (by rw[e];rfl)⟩)
inductive wT(vs:List V)(H:Hp)(Q:VK)(x_1:XK):Prop
 |mk(w:List Nat)(_:vs=[.str (tx w)])(_:w.length<=100)(_:∀H',ar H H'->Q (.bl (opn w)) H')
theorem wU:aE ["word"] ["word"] (av (top 28)):=by walk_at "c"
theorem wV(T:Txt P w K mg a):aO P w K mg base CX0 2 a.mq a.lj ["word"] wT:=by
 exists T.l_.fn.ok,wU
 obtain⟨w,rfl,hw,q⟩:=h
 exists (ap (aM (nN (dZ bQ (cY kL (pv 0) dM (dn ai)) ak (nomark _)) (lN (aD T.jr (lD T) (hM hr) rfl (aa (cY kL (pv 0) (dn ai) dM) ac))))))
 refine⟨_,rfl,_,rfl,_,rfl,bj (by rw[aZ];omega),rfl,_,rfl,?_⟩;rw[fJ,show jb w none (some 1)=w.take 1 from Tl.cut_to w 1,dw c91];cases w with
 |nil =>
  right;exact q H (ar.refl _)
 |cons c r =>
  by_cases e:c=91
  .refine iT (by rw[e];rfl) ?_;refine⟨_,rfl,_,rfl,_,rfl,bj (by rw[aZ];omega),r,?_,by simp at hw;omega,λH2 s2=>?_⟩
   .rw[fJ,show jb (c::r) (some 1) none=(c::r).drop 1 from Tl.cut_from (c::r) 1];rfl
   .have:=q H2 s2;change Q (.bl (decide (c=91)&&aR r)) H2 at this;rw[decide_eq_true e,Nu]at this;exact this
  .refine iF (λz=>e (by simpa using z)) ?_;have:=q H (ar.refl _);change Q (.bl (decide (c=91)&&aR r)) H at this;rw[decide_eq_false e,NJ]at this;exact this
inductive vC(K:KC)(vs:List V)(H:Hp)(Q:VK)(x_1:XK):Prop
 |mk(t A N cur:Addr)(n:List Nat)(als:List Addr)(vs0 vc:List V)(_:vs=[.ref t,.ref cur])(_:H t=some (.tup [.str (tx n),.ref A,.ref N]))(_:H A=some (.lst (als.map V.ref)))(_:H N=some (.lst vs0))(_:H cur=some (.lst vc))(_:A≠N)(_:A≠cur)(_:N≠cur)(_:als.length<=900)(_:vs0.length<=900)(_:∀p H' (als':List Addr),H p=none->(∀b o,b≠A->b≠N->H b=some o->H' b=some o)->((als'=als++[cur]/\¬ (als=[]/\vc=[]))\/(als'=[]/\als=[]/\vc=[]))->H' A=some (.lst (als'.map V.ref))->H' p=some (.tup [.str (pq "call"),.str (tx n),.ref A])->H' N=some (.lst (vs0++[V.ref p]))->Q (.ref N) H')
theorem j9:aE ["call","last","arguments","nodes"] ["call","last"] (av (top 29)):=by walk_at "c"
theorem vD(T:Txt P w K mg a):aO P w K mg base CX0 1 a.lb a.ko ["call","last"] (vC K):=by
 exists T.kY.fn.ok,j9
 obtain⟨t,A,N,cur,n,als,vs0,vc,rfl,ht,hA,hN,hc,n1,n2,n3,l1,l2,q⟩:=h;have hu:=MJ (dW hr)
 exists (ae (ay (i:=2) j9.nd rfl (K1 rfl) (aC aY (pv 0) ai (λ_ _=>rfl)))
   (ae (ay (i:=3) j9.nd rfl (K1 rfl) (aC aY (pv 0) ai (λ_ _=>rfl)))
   (ae (aW (PW.pt (lm (aA (lR hu) (pv 2) (aK ac) (nomark _)) (kH (aA (lR hu) (pv 1) (aK ac) (nomark _))))) (ap (bf (dg K4 Lf Lg cw (pv 2) (aa (pv 1) ac)))) aX)
   (ae (bf (dg K4 Lf Lg cw (pv 3) (aa (bx (aa ak (aa (aC aY (pv 0) ai (λ_ _=>rfl)) (aa (pv 2) ac)))) ac)))
   (ap (aM (pv 3)))))))
 refine⟨_,rfl,_,_,_,_,rfl,rfl,SqT.of (K:=K) ht,rfl,?_⟩;refine⟨_,rfl,_,_,_,_,rfl,rfl,SqT.of (K:=K) ht,rfl,?_⟩;dsimp only[bN];have tA:t≠A:=Au ht hA (by intro z;cases z);have tN:t≠N:=Au ht hN (by intro z;cases z);refine lE (λσ' H'=>σ'=[rF t,rF cur,rF A,rF N]/\(∀b o,b≠A->H b=some o->H' b=some o)/\∃als':List Addr,((als'=als++[cur]/\¬ (als=[]/\vc=[]))\/(als'=[]/\als=[]/\vc=[]))/\H' A=some (.lst (als'.map V.ref))) ?_ (λkey=>?_)
 .rintro σ' H2 ⟨rfl,keep,als',hw,hA2⟩;have hN2:=keep N _ (Lp n1) hN;have ht2:=keep t _ tA ht;refine⟨_,rfl,.inl ⟨rfl,_,SqL.of hN2⟩,_,rfl,_,_,_,_,rfl,rfl,SqT.of (K:=K) ht2,rfl,_,rfl,le3,λp hp=>?_⟩
  exists hp,H3,s3,k3
  have pN:p≠N:=Lp (a7 hN2 hp);have hp0:H p=none:=by
   cases e:H p with
   |none=>rfl
   |some o =>
    by_cases ea:p=A
    .rw[ea,hA2]at hp;cases hp
    .rw[keep p o ea e]at hp;cases hp
  refine⟨_,_,_,rfl,rfl,s3 _ _ hN2,aF (by omega),?_⟩;refine⟨_,rfl,q p _ als' hp0 (λb o b1 b2 hb=>by rw[aq b2];exact s3 _ _ (keep b o b1 hb)) hw (by rw[aq n1];exact s3 _ _ hA2) (by rw[aq pN];exact k3) ah⟩
 .refine⟨_,rfl,bj (by simp),λp2 hp2=>?_⟩
  exists hp2,H2,s2,k2
  have put:∀{G:Hp},ar H G->∀b o,b≠A->H b=some o->upd G A (.lst (als.map V.ref++[V.ref cur])) b=some o:=λs b o hb h=>by rw[aq hb];exact s b o h
  refine⟨_,_,_,rfl,rfl,SqL.of (s2 _ _ hA),SqL.of k2,_,rfl,?_⟩;cases als with
  |cons x r =>
   left;left;refine⟨_,rfl,.inl ⟨rfl,_,SqL.of (s2 _ _ hA)⟩,_,rfl,_,_,_,rfl,rfl,s2 _ _ hA,aF (by rw[KA];omega),?_⟩;exact key _ _ ⟨rfl,put s2,(x::r)++[cur],.inl ⟨rfl,by simp⟩,by rw[ah,KQ];rfl⟩
  |nil =>
   right;refine⟨_,rfl,bj (by simp),λp3 hp3=>?_⟩
   exists hp3,H3,s3,k3
   have t3:=s2.trans s3;refine⟨_,_,_,rfl,rfl,SqL.of (t3 _ _ hc),SqL.of k3,_,rfl,?_⟩;cases vc with
   |cons x r =>
    left;refine⟨_,rfl,.inl ⟨rfl,_,SqL.of (t3 _ _ hA)⟩,_,rfl,_,_,_,rfl,rfl,t3 _ _ hA,aF (by rw[KA];omega),?_⟩;exact key _ _ ⟨rfl,put t3,[]++[cur],.inl ⟨rfl,by simp⟩,by rw[ah];rfl⟩
   |nil =>
    right;exact key _ _ ⟨rfl,λb o _ h=>t3 b o h,[],.inr ⟨rfl,rfl,rfl⟩,t3 _ _ hA⟩
inductive Bp(K:KC)(CD CB:Addr)(vs:List V)(H:Hp)(Q:VK)(E:XK):Prop
 |mk(wa:Addr)(ws:List (List Nat))(cn:Option Nat)(_:vs=[.ref wa,Et cn])(_:SqL K H wa ((ws.map tx).map V.str))(_:∀w∈ws,WOk w)(_:ws.length<=800)(_:a9 cn ws 0=some true->∀H',ar H H'->E (.ref CD) none H')(_:a9 cn ws 0=some false->∀H',ar H H'->E (.ref CB) none H')(_:a9 cn ws 0=none->∀p H' vs wn,ar H H'->H' p=some (.lst vs)->di (NdW H' 21) vs wn->mW wn=ws->mD wn=(bM cn ws).2->(p::mF wn).Nodup->(∀b∈p::mF wn,H b=none)->Q (.ref p) H')
theorem fS:aE ["words","count","nodes","pending","word"] ["words","count"] (av (top 26)):=by walk_at "c"
theorem uM(T:Txt P w K mg a):aO P w K mg base (CXe P w) 3 a.rH a.pM ["words","count"] (Bp K a.lZ a.cF):=by
 have cX:=T.cX;obtain⟨t_MOST_DEEP,cX⟩:=cX
 exists T.mQ.fn.okE,fS
 obtain⟨wa,ws,cn,rfl,hW,wok,wl,qD,qB,q⟩:=h;have hu:=MJ (dW hr)
 exists (ae (ay (i:=2) fS.nd rfl (K1 rfl) (aK ac))
   (ae (ay (i:=3) fS.nd rfl (K1 rfl) (aK ac))
   (ae (dF Mb rfl (bU (pv 0)) (bw (i:=4) fS.nd rfl (K1 rfl)) (ap (aW (kE (aD T.l_ (wV T) (hM hr) rfl (aa (pv 4) ac)) (λ_=>rfl)) (ae (aW (aA bQ (aT bz rfl T.cQ Lq (aa (pv 3) ac)) (bp (v:=.int 20) rfl cX ⟨_,rfl⟩) (nomark _)) (ap (b7 rfl cj T.zq rfl (aa (cK (aI bP (aI (nQ (bp (v:=.int 20) rfl cX ⟨_,rfl⟩)) (aI bP dh)))) ac))) aX)
   (ae (bf (dg K4 Lf Lg cw (pv 3) (aa (bx (aa (cY kL (pv 4) (dn ai) dM) (aa (aK ac) (aa (pv 2) ac)))) ac)))
   (ap (ay (i:=2) fS.nd rfl (K1 rfl) (aK ac))))) (ap (aW (PW.pt (lM (aA bQ (pv 4) ak (nomark _)) (jj (aA (lR hu) (pv 3) (aK ac) (nomark _))))) (ae (bf (dg K4 Lf Lg cw (aC aY (aC bb (pv 3) (EZ BV ai) (λ_ _=>rfl)) ai (λ_ _=>rfl)) (aa (pv 2) ac)))
   (ap (ay (i:=2) fS.nd rfl (K1 rfl) (aK ac)))) (ap (aW (PW.pt (lM (aA bQ (pv 4) ak (nomark _)) (jj (aA (lR hu) (pv 3) (aK ac) (nomark _))))) (ap (ay (i:=2) fS.nd rfl (K1 rfl) (aD T.kY (vD T) (hM hr) rfl (aa (GK K4 PySem.F.slot_list_pop PySem.F.type_list_pop GL (pv 3)) (aa (pv 2) ac))))) (ap (bf (dg K4 Lf Lg cw (pv 2) (aa (gR bI T.rk (Bo T) (hM hr) rfl (aa (pv 4) (aa (pv 1) ac))) ac)))))))))))
   (ae (aW (aA (lR hu) (pv 3) (aK ac) (nomark _)) (ap (b7 rfl cj T.jt rfl (aa ak ac))) aX)
   (ap (aM (pv 2)))))))
 refine⟨bj (by simp),λcur0 hc0=>?_⟩
 exists hc0,H1,s1,k1
 refine⟨bj (by simp),λpl hpl=>?_⟩
 exists hpl,H2,s2,k2
 have k12:=s2 _ _ k1;have S0:cp H H2 pl cur0 [] [] []:=cp.zero (s1.trans s2) (s1.free hpl) hc0 (Lp (a7 k1 hpl)) k2 k12;obtain⟨R,hR⟩:∃R,a9 cn ws 0=R:=⟨_,rfl⟩;rw[hR]at qD qB q;refine⟨_,rfl,wa,rfl,⟨_,(s1.trans s2).seq hW⟩,dP (K:=K) (a:=wa) (xs:=(ws.map tx).map V.str) (λk σ G=>∃(vw:Option V)(fs:List Fr)(vs:List V)(wn:List Mn)(cur:Addr),σ=[rF wa,some (Et cn),rF cur,rF pl,vw]/\cp H G pl cur fs vs wn/\cy fs wn=ws.take k/\a9 cn (ws.drop k) fs.length=R/\pst fs wn=bM cn (ws.take k)) ⟨none,[],[],[],cur0,rfl,S0,rfl,hR,rfl⟩ (λk σ G _ g=>by obtain⟨_,_,_,_,_,_,S,_⟩:=g;exact S.same.seq hW) ?_ ?_⟩
 .rintro k y σ G hy ⟨vw,fs,vs,wn,cur,rfl,S,eW,eR,eP⟩;obtain⟨w,hw,rfl⟩:=lT hy;have hkl:k<ws.length:=(List.getElem?_eq_some_iff.mp hw).1;have ok:=wok w (KL hw);have edr:ws.drop k=w::ws.drop (k+1):=by
   obtain⟨h1,h2⟩:=List.getElem?_eq_some_iff.mp hw;rw[<-h2];exact Mc h1
  rw[edr]at eR;refine⟨_,rfl,w,rfl,by have:=ok.len;omega,λG1 g1=>⟨_,rfl,?_⟩⟩;have S1:=S.ext g1;have hlen:=S1.len;rw[eW,La]at hlen;cases ho:opn w with
  |true =>
   left;obtain⟨n,rfl,hn⟩:∃n,w=91::n/\aR n=true:=by
    match w,ho with
    |c::r,ho =>
     unfold opn at ho;rw[Ly]at ho;exact⟨r,by rw[of_decide_eq_true ho.1],ho.2⟩
   refine⟨_,rfl,pl,_,rfl,.inl (SqL.of S1.top),rfl,_,rfl,?_⟩;rw[KA];by_cases h20:fs.length=20
   .refine iT (by rw[h20];rfl) ?_;exact⟨⟨trivial,trivial,trivial,trivial⟩,λz=>⟨le1,qD (eR.symm.trans (yH ho h20)) _ S1.same⟩⟩
   .refine iF (λz=>h20 (by have:=V.int.inj z;omega)) ?_;have few:=S1.few;refine⟨_,rfl,.inl ⟨rfl,_,SqL.of S1.top⟩,_,rfl,_,rfl,_,rfl,bj (by rw[aZ];have:=ok.len;omega),bj (by simp),λA hA=>?_⟩;rw[fJ,show jb (91::n) (some 1) none=(91::n).drop 1 from Tl.cut_from (91::n) 1,show(91::n).drop 1=n from rfl]
    exists hA,G2,g2,a2
    refine⟨_,rfl,le3,λt ht=>?_⟩
    exists ht,G3,g3,t3
    have a3:=g3 _ _ a2;have tA:t≠A:=Lp (a7 a2 ht);have top3:=g3 _ _ (g2 _ _ S1.top);have pA:A≠pl:=Lp (a7 S1.top hA);have pt:t≠pl:=Lp (a7 (g2 _ _ S1.top) ht);refine⟨pl,_,_,rfl,rfl,top3,aF (by rw[KA];omega),?_⟩;obtain⟨G4,e4⟩:∃G4,G4=upd G3 pl (.lst ((fs.map λf=>V.ref f.t)++[V.ref t])):=⟨_,rfl⟩;rw[<-e4];refine⟨bj (by simp),λc2 hc2=>?_⟩;have k23:=g2.trans g3;have keep4:∀b o,b≠pl->G3 b=some o->G4 b=some o:=λb o nb h=>by rw[e4,aq nb];exact h
    have pl4:G4 pl=some (.lst ((fs.map λf=>V.ref f.t)++[V.ref t])):=by rw[e4,ah]
    have g5:=am hc2 (.lst []);have ncp:c2≠pl:=Lp (a7 pl4 hc2);have hc1:G1 c2=none:=by
     cases e:G1 c2 with
     |none=>rfl
     |some o=>rw[keep4 c2 o ncp (k23 _ _ e)]at hc2;cases hc2
    have ncA:A≠c2:=a7 (keep4 A _ pA a3) hc2;have nct:t≠c2:=a7 (keep4 t _ pt t3) hc2;have ht1:G1 t=none:=g2.free ht;have same5:ar H (upd G4 c2 (.lst [])):=λb o hb=>g5 _ _ (keep4 b o (a7 hb (S1.fresh pl (eO.mpr (.inl rfl)))) (k23 _ _ (S1.same b o hb)));refine⟨_,fs++[⟨t,A,cur,n,[],[],vs,wn⟩],[],[],c2,rfl,S1.open (by omega) same5 (λb o nb h=>g5 _ _ (keep4 b o nb (k23 _ _ h))) hA ht1 hc1 (S1.same.free hA) (S1.same.free hc1) ncA tA nct (g5 _ _ (keep4 A _ pA a3)) (g5 _ _ (keep4 t _ pt t3)) ah (g5 _ _ pl4) (yG hn).1,?_,?_,((fL hw).trans (by rw[<-eP];exact EB ho t A cur vs)).symm⟩
    .rw[ym,eW,Lb,hw];rfl
    .rw[KI,Li];exact(yI ho h20).symm.trans eR
  |false =>
   right
   exists 1
   rw[dw JG];by_cases hb:w=bE
   .have nend:w≠aJ:=by rw[hb];decide
    have nb:¬ (0<fs.length/\w=aJ):=λz=>nend z.2;rw[decide_eq_true hb];left;refine⟨_,rfl,bj (by simp),λp6 hp6=>?_⟩
    exists hp6,G6,g6,k6
    have S6:=S1.ext g6;refine⟨_,_,_,rfl,rfl,SqL.of S6.top,SqL.of k6,_,rfl,?_⟩;rcases E9 fs with e0|⟨fs0,f,rfl⟩
    .rw[show(fs.map λf=>V.ref f.t).isEmpty=true by rw[e0];rfl];right
     exists 1
     rw[dw Hy,decide_eq_false nend];right;right;refine⟨_,rfl,.inl ⟨rfl,_,SqL.of S6.now⟩,_,rfl,_,rfl,w,cn,rfl,by have:=ok.len;omega,ok.lt,λhb=>qB (eR.symm.trans (vg ho nb hb)) _ S6.same,λhbp p H5 hp s5 nd5=>?_⟩;have S5:=S6.ext s5;have hlen:=S5.len;rw[eW,La]at hlen;refine⟨cur,_,_,rfl,rfl,S5.now,aF (by omega),?_⟩;have ex:=vk cn w;have ex2:=vm cn w;have nx:=nd5.nd (S6.not hp) (20-fs.length);refine⟨_,fs,vs++[V.ref p],wn++[br cn w],cur,rfl,S5.push (by rw[show 21-fs.length=(20-fs.length)+1 by have:=S5.few;omega];exact nx) ex2,?_,(oO ho nb hbp).symm.trans eR,((fL hw).trans (by rw[<-eP];exact tG ho (by first|exact .inl e0|exact .inr ⟨hb,he⟩))).symm⟩
     rw[jA,eW,ex,Lb,hw];rfl
    .rw[show((fs0++[f]).map λf=>V.ref f.t).isEmpty=false by simp];left;have L:=S6.last;have hAl:=S6.lenF;rw[eW,La]at hAl;refine⟨_,rfl,_,rfl,pl,_,_,V.ref f.t,rfl,rfl,SqL.of S6.top,by rw[KQ];exact DK _ _,f.t,_,_,V.ref f.A,rfl,rfl,SqT.of (K:=K) (jz L.tup).2,rfl,.inl ⟨rfl,_,SqL.of L.hA⟩,_,rfl,f.A,_,_,rfl,rfl,L.hA,aF (by rw[KA];omega),?_⟩;obtain⟨G7,e7⟩:∃G7,G7=upd G6 f.A (.lst (f.als.map V.ref++[V.ref cur])):=⟨_,rfl⟩;rw[<-e7];refine⟨bj (by simp),λc2 hc2=>?_⟩;have g8:=am hc2 (.lst []);have keep7:∀b o,b≠f.A->G6 b=some o->G7 b=some o:=λb o nb h=>by rw[e7,aq nb];exact h
     have A7:G7 f.A=some (.lst (f.als.map V.ref++[V.ref cur])):=by rw[e7,ah]
     have ncA:c2≠f.A:=Lp (a7 A7 hc2);have hc6:G6 c2=none:=by
      cases e:G6 c2 with
      |none=>rfl
      |some o=>rw[keep7 c2 o ncA e]at hc2;cases hc2
     have fA:H f.A=none:=S6.fresh f.A (eO.mpr (.inr (.inr ⟨f,by simp,.inl rfl⟩)));refine⟨_,fs0++[{ f with als:=f.als++[cur],wss:=f.wss++[lsM cur wn] }],[],[],c2,rfl,S6.bar (λb o hb=>g8 _ _ (keep7 b o (a7 hb fA) (S6.same b o hb))) (λb o nb h=>g8 _ _ (keep7 b o nb h)) hc6 (S6.same.free hc6) (by rw[KQ];exact g8 _ _ A7) ah,?_,?_,((fL hw).trans (by rw[<-eP,hb];exact F4 (hb▸ho) cur)).symm⟩
     .rw[zz,eW,Lb,hw,hb];rfl
     .rw[KI,Li]at eR nb⊢;exact(oO ho nb (Eu (by rw[hb];decide))).symm.trans eR
   .rw[decide_eq_false hb];right;right
    exists 1
    rw[dw Hy];by_cases he:w=aJ
    .rw[decide_eq_true he];left;refine⟨_,rfl,bj (by simp),λp8 hp8=>?_⟩
     exists hp8,G6,g6,k6
     have S6:=S1.ext g6;refine⟨_,_,_,rfl,rfl,SqL.of S6.top,SqL.of k6,_,rfl,?_⟩;rcases E9 fs with e0|⟨fs0,f,rfl⟩
     .have nb:¬ (0<fs.length/\w=aJ):=λz=>by rw[e0]at z;exact absurd z.1 (by decide)
      rw[show(fs.map λf=>V.ref f.t).isEmpty=true by rw[e0];rfl];right;refine⟨_,rfl,.inl ⟨rfl,_,SqL.of S6.now⟩,_,rfl,_,rfl,w,cn,rfl,by have:=ok.len;omega,ok.lt,λhb=>qB (eR.symm.trans (vg ho nb hb)) _ S6.same,λhbp p H5 hp s5 nd5=>?_⟩;have S5:=S6.ext s5;have hlen:=S5.len;rw[eW,La]at hlen;refine⟨cur,_,_,rfl,rfl,S5.now,aF (by omega),?_⟩;have ex:=vk cn w;have ex2:=vm cn w;have nx:=nd5.nd (S6.not hp) (20-fs.length);refine⟨_,fs,vs++[V.ref p],wn++[br cn w],cur,rfl,S5.push (by rw[show 21-fs.length=(20-fs.length)+1 by have:=S5.few;omega];exact nx) ex2,?_,(oO ho nb hbp).symm.trans eR,((fL hw).trans (by rw[<-eP];exact tG ho (by first|exact .inl e0|exact .inr ⟨hb,he⟩))).symm⟩
      rw[jA,eW,ex,Lb,hw];rfl
     .rw[show((fs0++[f]).map λf=>V.ref f.t).isEmpty=false by simp];left;have L:=S6.last;have hAl:=S6.lenF;rw[eW,La]at hAl;have nd:=S6.nd;rw[iu]at nd;have ntp:=(jz L.tup).1;rw[iu]at ntp;have n1:f.A≠f.N:=by grind
      have n2:f.A≠cur:=by grind
      have n3:f.N≠cur:=by grind
      have n4:f.A≠pl:=by grind
      have n5:f.N≠pl:=by grind
      have n6:cur≠pl:=by grind
      have n7:f.t≠pl:=by grind
      refine⟨_,rfl,.inl ⟨rfl,_,SqL.of S6.top⟩,pl,_,V.ref f.t,rfl,rfl,S6.top,by simp,?_⟩;obtain⟨G7,e7⟩:∃G7,G7=upd G6 pl (.lst ((fs0++[f]).map λf=>V.ref f.t).dropLast):=⟨_,rfl⟩;rw[<-e7];have keep7:∀b o,b≠pl->G6 b=some o->G7 b=some o:=λb o nb h=>by rw[e7,aq nb];exact h
      have pl7:G7 pl=some (.lst (fs0.map λf=>V.ref f.t)):=by rw[e7,ah];simp
      refine⟨_,rfl,f.t,f.A,f.N,cur,f.n,f.als,f.vs,vs,rfl,keep7 _ _ n7 (jz L.tup).2,keep7 _ _ n4 L.hA,keep7 _ _ n5 L.hN,keep7 _ _ n6 S6.now,n1,n2,n3,by omega,by omega,λp G9 als' hp keep9 hw9 hA9 hp9 hN9=>?_⟩;have hp6:G6 p=none:=by
       cases e:G6 p with
       |none=>rfl
       |some o =>
        by_cases ep:p=pl
        .rw[ep,pl7]at hp;cases hp
        .rw[keep7 p o ep e]at hp;cases hp
      have fp:H pl=none:=S6.fresh pl (eO.mpr (.inl rfl));have fA:H f.A=none:=S6.fresh f.A (eO.mpr (.inr (.inr ⟨f,by simp,.inl rfl⟩)));have fN:H f.N=none:=S6.fresh f.N (eO.mpr (.inr (.inr ⟨f,by simp,.inr rfl⟩)));have keepX:∀b o,b≠pl->b≠f.A->b≠f.N->G6 b=some o->G9 b=some o:=λb o b1 b2 b3 h=>keep9 b o b2 b3 (keep7 b o b1 h);have same9:ar H G9:=λb o hb=>keepX b o (a7 hb fp) (a7 hb fA) (a7 hb fN) (S6.same b o hb);have eR9:a9 cn (ws.drop (k+1)) fs0.length=R:=by
       have:=(CS (cn:=cn) (t:=ws.drop (k+1)) ho (show 0<(fs0++[f]).length by simp) he).symm.trans eR;rw[KI,Li,Nat.add_sub_cancel]at this;exact this
      have eT:∀wss':List Mn,(wss'=f.wss++[lsM cur wn]\/(wss'=[]/\f.wss=[]/\wn=[]))->cy fs0 (f.wn++[clM f.n f.A wss'])=ws.take (k+1):=λwss' h=>by
       rw[wK h,eW,Lb,hw,he];rfl
      have pl9:=keep9 pl _ (Lp n4) (Lp n5) pl7;have hw9x:(als'=f.als++[cur]/\¬ (f.wss=[]/\wn=[]))\/(als'=[]/\f.als=[]/\vs=[]):=by
       rcases hw9 with⟨h1,h2⟩|h
       .refine .inl ⟨h1,λz=>h2 ⟨List.length_eq_zero_iff.mp (by rw[L.aw.len,z.1];rfl),List.length_eq_zero_iff.mp (by rw[S6.nw.len,z.2];rfl)⟩⟩
       .exact .inr h
      rcases hw9x with⟨h9,hne9⟩|⟨h9,h10,h11⟩
      .exact⟨_,fs0,_,_,f.N,rfl,S6.close (wss':=f.wss++[lsM cur wn]) same9 keepX pl9 hA9 (.inl ⟨h9,rfl⟩) hp6 hp9 hN9,eT _ (.inl rfl),eR9,((fL hw).trans (by rw[<-eP,he];exact wy (he▸ho) f.A cur (.inl ⟨rfl,hne9⟩))).symm⟩
      .refine⟨_,fs0,_,_,f.N,rfl,S6.close (wss':=[]) same9 keepX pl9 hA9 (.inr ⟨h9,rfl,h10,h11⟩) hp6 hp9 hN9,eT _ (.inr ⟨rfl,?_,?_⟩),eR9,((fL hw).trans (by rw[<-eP,he];exact wy (he▸ho) f.A cur (.inr ⟨rfl,List.length_eq_zero_iff.mp (by rw[<-L.aw.len,h10];rfl),List.length_eq_zero_iff.mp (by rw[<-S6.nw.len,h11];rfl)⟩))).symm⟩
       .have:=L.aw.len;rw[h10]at this;exact List.length_eq_zero_iff.mp this.symm
       .have:=S6.nw.len;rw[h11]at this;exact List.length_eq_zero_iff.mp this.symm
    .have nb:¬ (0<fs.length/\w=aJ):=λz=>he z.2;rw[decide_eq_false he];right;right;refine⟨_,rfl,.inl ⟨rfl,_,SqL.of S1.now⟩,_,rfl,_,rfl,w,cn,rfl,by have:=ok.len;omega,ok.lt,λhb=>qB (eR.symm.trans (vg ho nb hb)) _ S1.same,λhbp p H5 hp s5 nd5=>?_⟩;have S5:=S1.ext s5;have hlen:=S5.len;rw[eW,La]at hlen;refine⟨cur,_,_,rfl,rfl,S5.now,aF (by omega),?_⟩;have ex:=vk cn w;have ex2:=vm cn w;have nx:=nd5.nd (S1.not hp) (20-fs.length);refine⟨_,fs,vs++[V.ref p],wn++[br cn w],cur,rfl,S5.push (by rw[show 21-fs.length=(20-fs.length)+1 by have:=S5.few;omega];exact nx) ex2,?_,(oO ho nb hbp).symm.trans eR,((fL hw).trans (by rw[<-eP];exact tG ho (by first|exact .inl e0|exact .inr ⟨hb,he⟩))).symm⟩
     rw[jA,eW,ex,Lb,hw];rfl
 .rintro σ G ⟨vw,fs,vs,wn,cur,rfl,S,eW,eR,eP⟩;rw[KA,KA]at eW eR;rw[KA,KA]at eP;rw[K9 (Kz _)]at eW eP;rw[List.drop_of_length_le (Kz _)]at eR;refine⟨_,rfl,bj (by simp),λp9 hp9=>?_⟩;have s9:=am hp9 (.lst []);have S9:=S.ext s9;refine⟨_,_,_,rfl,rfl,SqL.of S9.top,SqL.of ah,_,rfl,?_⟩;cases fs with
  |cons f r =>
   left;exact⟨le1,qB (by rw[<-eR];rfl) _ S9.same⟩
  |nil =>
   right;refine⟨_,rfl,q (by rw[<-eR];rfl) cur _ vs wn S9.same S9.now (S9.nw.imp λv ws z=>z.mono λb o h=>(jz h).2) (by rw[<-eW];unfold cy;rfl) (congrArg Prod.snd eP) (by
    have:=S9.ndA;simp only[et,a8,fpT,MZ,OO,LA,Lu]at this;exact(List.nodup_cons.mp this).2) (λb hb=>S9.frA b (by
    simp only[et,a8,fpT,MZ,OO,LA,Lu];exact KN _ hb))⟩

structure Par(cn:Option Nat)(ts:List (List Nat))(xs:List DD)(M:List (Wd0×Nat))(d:Nat):Prop where
 due:a9 cn ts 0=none
 par:(bM cn ts).2=xs
 mok:MOk M
 dd:d<=15
 nd:∀x∈xs,Nd M (cn.getD 0) d x
 len:xs.length<=900
def vE:Nat->Er
 |1=>.noshort
 |2=>.badcall
 |_=>.toolong
structure tJ(t:List Nat):Prop where
 ne:t≠[]
 len:t.length<=100
abbrev okW(bs:List Kw)(t:List Nat):Prop:=(kwL t).1∉bs/\((kwL t).1=.plain->(kwL t).2.length<=60)
inductive Wo(S:List Sh)(bs:List Kw)(ts:List (List Nat)):Option Er->List (List Nat)->Prop
 |deep (h:a9 none ts 0=some true):Wo S bs ts (some .deep) []
 |opn (h:a9 none ts 0=some false):Wo S bs ts (some .badcall) []
 |put {xs:List DD} {M:List (Wd0×Nat)} {d:Nat} (p:Par none ts xs M d) (h:rfN S d xs≠0):Wo S bs ts (some (vE (rfN S d xs))) []
 |word {xs:List DD} {M:List (Wd0×Nat)} {d:Nat} {ws:List (List Nat)} (p:Par none ts xs M d) (h:rfN S d xs=0) (e:exL id S 64 [] xs=ws.map tx) (l:ws.length<=400) (ok:∀w∈ws,tJ w) (i:Nat) (w:List Nat) (hi:ws[i]?=some w) (g:∀(j:Nat) u,j<i->ws[j]?=some u->okW bs u) (b:¬ okW bs w):Wo S bs ts (some .badword) []
 |good {xs:List DD} {M:List (Wd0×Nat)} {d:Nat} {ws:List (List Nat)} (p:Par none ts xs M d) (h:rfN S d xs=0) (e:exL id S 64 [] xs=ws.map tx) (l:ws.length<=400) (ok:∀w∈ws,tJ w) (g:∀w∈ws,okW bs w):Wo S bs ts none ws
inductive Bad(x:Option Er)(ws:List (List Nat))(bs:List Kw)(us:List (List Nat))(i:Nat):Prop
 |no (e:x=none) (ew:ws=us) (g:∀w∈us,okW bs w)
 |at_ (e:x=some .badword) (k:Nat) (w:List Nat) (l:i<=k) (h:us[k]?=some w) (g:∀(j:Nat) u,j<k->us[j]?=some u->okW bs u) (b:¬ okW bs w)
theorem Bad.next{x:Option Er}{ws:List (List Nat)}{bs:List Kw}{us:List (List Nat)}{i:Nat}{t:List Nat}(B:Bad x ws bs us i)(ht:us[i]?=some t)(g:okW bs t):Bad x ws bs us (i+1):=by
 rcases B with⟨e,ew,h⟩|⟨e,k,w,l,h,g',b⟩
 .exact .no e ew h
 .refine .at_ e k w (Nat.lt_of_le_of_ne l λz=>?_) h g' b;subst z;rw[ht]at h;cases h;exact b g
theorem Bad.bad{x:Option Er}{ws:List (List Nat)}{bs:List Kw}{us:List (List Nat)}{i:Nat}{t:List Nat}(B:Bad x ws bs us i)(ht:us[i]?=some t)(g:¬ okW bs t):x=some .badword:=by
 rcases B with⟨e,ew,h⟩|⟨e,_⟩
 .exact absurd (h t (KL ht)) g
 .exact e
theorem Bad.done{x:Option Er}{ws:List (List Nat)}{bs:List Kw}{us:List (List Nat)}{i:Nat}(B:Bad x ws bs us i)(h:us.length<=i):x=none/\ws=us:=by
 rcases B with⟨e,ew,_⟩|⟨e,k,w,l,h',_⟩
 .exact⟨e,ew⟩
 .have:=(List.getElem?_eq_some_iff.mp h').1;omega
theorem Wo.isDeep{S:List Sh}{bs:List Kw}{ts:List (List Nat)}{x:Option Er}{ws:List (List Nat)}(h:Wo S bs ts x ws)(z:a9 none ts 0=some true):x=some .deep:=by
 cases h with
 |deep _=>rfl
 |opn h=>rw[h]at z;cases z
 |put p _=>rw[p.due]at z;cases z
 |word p=>rw[p.due]at z;cases z
 |good p=>rw[p.due]at z;cases z
theorem Wo.isOpn{S:List Sh}{bs:List Kw}{ts:List (List Nat)}{x:Option Er}{ws:List (List Nat)}(h:Wo S bs ts x ws)(z:a9 none ts 0=some false):x=some .badcall:=by
 cases h with
 |deep h=>rw[h]at z;cases z
 |opn h=>rfl
 |put p _=>rw[p.due]at z;cases z
 |word p=>rw[p.due]at z;cases z
 |good p=>rw[p.due]at z;cases z
theorem Wo.par{S:List Sh}{bs:List Kw}{ts:List (List Nat)}{x:Option Er}{ws:List (List Nat)}(h:Wo S bs ts x ws)(z:a9 none ts 0=none):∃xs M d,Par none ts xs M d/\((rfN S d xs≠0/\x=some (vE (rfN S d xs)))\/(rfN S d xs=0/\∃us,exL id S 64 [] xs=us.map tx/\us.length<=400/\(∀w∈us,tJ w)/\Bad x ws bs us 0)):=by
 cases h with
 |deep h=>rw[h]at z;cases z
 |opn h=>rw[h]at z;cases z
 |put p h=>exact⟨_,_,_,p,.inl ⟨h,rfl⟩⟩
 |word p h e l ok i w hi g b=>exact⟨_,_,_,p,.inr ⟨h,_,e,l,ok,.at_ rfl i w (Ls _) hi g b⟩⟩
 |good p h e l ok g=>exact⟨_,_,_,p,.inr ⟨h,_,e,l,ok,.no rfl rfl g⟩⟩
theorem EH:∀k:Kw,k.s.length<=20000:=by intro k;cases k<;>decide
theorem F8{k:Kw}{bs:List Kw}(h:k∈bs):inV (kwV k) (bs.map kwV)=true:=by
 unfold inV;rw[OQ];exact⟨kwV k,List.mem_map_of_mem h,by simp[eqV,kwV]⟩
inductive qh(K:KC)(C:Addr)(cls:Er->Addr)(vs:List V)(H:Hp)(Q:VK)(E:XK):Prop
 |mk(r la bt:Addr)(H0:Hp)(s:Rs)(S:List Sh)(o:Ro)(kvs:List (Key×V))(tv svs:List V)(ts:List (List Nat))(bs:List Kw)(x:Option Er)(ws:List (List Nat))(_:vs=[.ref r,.ref la,.ref bt])(_:RdB C K H0 H r s S o kvs tv svs)(_:jE S)(_:SqL K H la ((ts.map tx).map V.str))(_:SqT K H bt (bs.map kwV))(_:ts.length<=130)(_:∀w∈ts,WOk w)(_:Wo S bs ts x ws)(_:∀e,x=some e->∀H',ar H H'->E (.ref (cls e)) none H')(_:x=none->∀p H' us,H p=none->ar H H'->H' p=some (.lst us)->du (hid [p] H') us (ws.map wkL)->Q (.ref p) H')
theorem eI:aE ["self","words","barred","read","kind","rest"] ["self","words","barred"] (av (aH 49 7)):=by walk_at "c"
theorem gv(T:Txt P w K mg a):aO P w K mg base (CXe P w) 72 a.hZ a.gI ["self","words","barred"] (qh K a.bJ (lV a)):=by
 have cf:=T.cf;obtain⟨t_LONGEST_TEXT,cf⟩:=cf
 exists T.dJ.fn.okE,eI
 obtain⟨r,la,bt,H0,s,S,o,kvs,tv,svs,ts,bs,x,ws,rfl,R,sok,hl,hb,tl,wok,wo,qe,q⟩:=h
 exists (ae (ui (k:=3) rfl (gq (caps:=[]) (js:=[]) (cap:=trivial)) (bU (gR bI T.rm (Bl T) (hM hr) rfl (aa (bi (pv 0) rfl) (aa (AT (dx:=.non) bI T.mQ rfl (uM T) (hM hr) rfl (aa (pv 1) ac)) ac)))) (λ_ _ _ _=>dA) (λ_ _ _ _=>(aD T.rg (Bg T) (hM hr) rfl (aa (pv 0) ac))) eI.nd rfl rfl)
   (ae (dF Mb rfl (bU (pv 3)) (iX rfl (bZ (bw (i:=4) eI.nd rfl (K1 rfl)) (bZ (bw (i:=5) eI.nd rfl (K1 rfl)) gc))) (ae (aW (aA jk (pv 4) (pv 2) (by with_unfolding_all rfl)) (ap (b7 rfl cj T.mS rfl (aa (cK (aI bP (aI (FW (pv 4)) (aI bP dh)))) ac))) aX)
   (ap (aW (PW.pt (lM (aA bQ (pv 4) ak (nomark _)) (jj (aA jv (aT gQ rfl T.cQ Lq (aa (pv 5) ac)) (bp (v:=.int 60) rfl cf ⟨_,rfl⟩) (nomark _))))) (ap (b7 rfl cj T.mS rfl (aa (cK (aI bP (aI (nQ (bp (v:=.int 60) rfl cf ⟨_,rfl⟩)) (aI bP dh)))) ac))) aX))))
   (ap (aM (pv 3)))))
 have rS:∀{G:Hp},ar H G->Rep K G (.lst (S.map shD)) (.ref o.sa):=λm=>lG (SqL.of (m _ _ R.h2)) (by rw[KA];have:=sok.len;omega) ((R.hs.mono cR).mono m);refine⟨_,rfl,_,_,_,_,_,rfl,R.h1,T.bq.cl,T.dC,mL,_,rfl,la,ts,none,rfl,hl,wok,(by omega),(λz H' m=>qe .deep (wo.isDeep z) H' m),(λz H' m=>qe .badcall (wo.isOpn z) H' m),λdue p1 H1 vr wn s1 k1 awr mw md ndr frr=>?_⟩;obtain⟨xs,M,d,P,wo⟩:=wo.par due;have rpr:Rep K H1 (.lst xs) (.ref p1):=by
  rw[<-P.par,<-md];exact yV k1 awr (by rw[mw];omega)
 have pe:∀k,rfN S d xs=k->k≠0->x=some (vE k):=λk e n=>by
  rcases wo with⟨_,h⟩|⟨h,_⟩
  .rw[<-e];exact h
  .exact absurd (e.symm.trans h) n
 refine⟨.ref o.sa,.ref p1,d,S,xs,M,rfl,P.dd,rS s1,sok,P.mok,rpr,P.nd,(λe H' m=>qe _ (pe 1 e (by decide)) H' (s1.trans m)),(λe H' m=>qe _ (pe 2 e (by decide)) H' (s1.trans m)),(λe H' m=>qe _ (pe 3 e (by decide)) H' (s1.trans m)),λe p2 H2 s2 hp2 k2=>?_⟩;rcases wo with⟨n,_⟩|⟨_,us,eu,lu,ou,bd⟩
 .exact absurd e n
 rw[eu]at k2;have s12:=s1.trans s2;refine⟨p2,rfl,⟨_,SqL.of k2⟩,d7 (K:=K) (a:=p2) (xs:=(us.map tx).map V.str) (λi ys G=>ar H2 G/\ys.length=i/\du G ys ((us.take i).map wkL)) ⟨ar.refl _,rfl,trivial⟩ (λi ys G _ g=>SqL.of (g.1 _ _ k2)) ?_ ?_ ?_⟩
 .rintro i ys G hi ⟨_,e,_⟩;rw[KA,KA]at hi;rw[e];exact aF (by omega)
 .rintro i y ys G hy ⟨m,e,al⟩;obtain⟨t,ht,rfl⟩:=lT hy;obtain⟨ne,gl⟩:=ou t (KL ht);refine eM ?_;cases t with
  |nil=>exact absurd rfl ne
  |cons c u =>
  simp only[KH]at gl;refine⟨_,rfl,c,u,rfl,by omega,λp H3 hp m3 k3=>⟨m.trans m3,by rw[KI,e];rfl,?_⟩⟩;rw[cP ht,KQ];refine(du.mono m3 al).snoc ⟨p,rfl,?_⟩;obtain⟨e1,e2⟩:=FX (c::u);rw[k3,e1,e2];rfl
 rintro ys G ⟨m,e,al⟩ p3 hp3;rw[KA,KA]at e;rw[KA,KA,LH]at al;have hfree:=(s12.trans m).free hp3
 exists hp3,G3,s3,k3
 have al3:=du.mono (u9 s3 (os:=[p3]) (λb hb=>by rw[List.mem_singleton.mp hb];exact hp3)) al;have s13:=s12.trans (m.trans s3);refine⟨_,rfl,p3,rfl,⟨_,SqL.of k3⟩,dP (K:=K) (a:=p3) (xs:=ys) (λi σ G=>∃(v1 v2:Option V),σ=[rF r,rF la,rF bt,rF p3,v1,v2]/\ar G3 G/\Bad x ws bs us i) ⟨none,none,rfl,ar.refl _,bd⟩ (λi σ G _ g=>by obtain⟨_,_,_,m,_⟩:=g;exact SqL.of (m _ _ k3)) ?_ ?_⟩
 .rintro i y σ G hy ⟨v1,v2,rfl,m,bd⟩;obtain⟨w,hw,b,rfl,hb'⟩:=al3.getL hy;rw[KS]at hw;obtain⟨t,ht,rfl⟩:=Option.map_eq_some_iff.mp hw;have hG:=m _ _ (cR _ _ hb');obtain⟨_,ol⟩:=ou t (KL ht);have kl:=FY t;refine⟨b,_,rfl,SqT.of hG,rfl,_,_,rfl,_,_,rfl,rfl,?_⟩;refine⟨_,rfl,_,rfl,_,_,rfl,.inr ((s13.trans m).tup hb),rfl,yL bs,_,rfl,?_⟩;change (if(if false=true then _ else inV (kwV (wkL t).1) (bs.map kwV))=true then _ else _);by_cases hk:(kwL t).1∈bs
  .have:inV (kwV (wkL t).1) (bs.map kwV)=true:=F8 hk;rw[this];left;exact⟨⟨trivial,⟨_,rfl,EH _⟩,trivial,trivial⟩,λz=>⟨le1,qe .badword (bd.bad ht λz=>z.1 hk) G (s13.trans m)⟩⟩
  rw[sO (k:=(wkL t).1) hk];right;dsimp only[eG]
  exists 1
  have go:okW bs t->Bad x ws bs us (i+1):=λz=>bd.next ht z;by_cases pk:(kwL t).1=.plain
  .refine cZ (λ_=>?_) (λz=>absurd (decide_eq_true (show V.str (wkL t).1.s=V.str (pq "plain") by rw[show(wkL t).1=.plain from pk];rfl)) z);refine⟨_,rfl,_,rfl,bj (by rw[aZ];omega),_,_,rfl,rfl,_,rfl,?_⟩;rw[aZ];refine cZ (λz=>?_) (λz=>?_)
   .exact⟨⟨trivial,trivial,trivial,trivial⟩,λ_=>⟨le1,qe .badword (bd.bad ht λy=>by have:=of_decide_eq_true z;have:=y.2 pk;omega) G (s13.trans m)⟩⟩
   .exact⟨_,_,rfl,m,go ⟨hk,λ_=>by have:¬ _:=λy=>z (decide_eq_true y);omega⟩⟩
  .have:¬ (V.str (wkL t).1.s=V.str "plain"):=λz=>pk (Kw.inj (b:=.plain) (V.str.inj z));rw[decide_eq_false this];right;right;exact⟨_,_,rfl,m,go ⟨hk,λz=>absurd z pk⟩⟩
 rintro σ G ⟨v1,v2,rfl,m,bd⟩;obtain⟨e1,rfl⟩:=bd.done (by rw[al.len,KA];exact Kz _);exact⟨_,rfl,q e1 p3 G ys (hfree) (s13.trans m) (m _ _ k3) (du.mono (oM m) al3)⟩

inductive FtO(S:List Sh)(ft:List (Str×List Wk)):List (List Nat)->Option Er->List (Str×List Wk)->Prop
 |none_:FtO S ft [] (some .badrow) ft
 |nam {n:List Nat} {t:List (List Nat)} (h:aR n=false):FtO S ft (n::t) (some .badrow) ft
 |tw {n:List Nat} {t:List (List Nat)} {f:List Wk} (hn:aR n=true) (h:lkS (tx n) ft=some f):FtO S ft (n::t) (some .twice) ft
 |wo {n:List Nat} {t:List (List Nat)} {e:Er} {ws:List (List Nat)} (hn:aR n=true) (hm:lkS (tx n) ft=none) (h:Wo S [.mark,.foot] t (some e) ws):FtO S ft (n::t) (some e) ft
 |long {n:List Nat} {t:List (List Nat)} {ws:List (List Nat)} (hn:aR n=true) (hm:lkS (tx n) ft=none) (h:Wo S [.mark,.foot] t none ws) (l:39<ws.length):FtO S ft (n::t) (some .toolong) ft
 |ok {n:List Nat} {t:List (List Nat)} {ws:List (List Nat)} (hn:aR n=true) (hm:lkS (tx n) ft=none) (h:Wo S [.mark,.foot] t none ws) (l:ws.length<=39):FtO S ft (n::t) none (ft++[(tx n,ws.map wkL)])

inductive qi(K:KC)(C:Addr)(cls:Er->Addr)(vs:List V)(H:Hp)(Q:VK)(E:XK):Prop
 |mk(r la:Addr)(H0:Hp)(s:Rs)(S:List Sh)(o:Ro)(kvs:List (Key×V))(tv svs:List V)(ts:List (List Nat))(x:Option Er)(ft:List (Str×List Wk))(_:vs=[.ref r,.ref la])(_:RdB C K H0 H r s S o kvs tv svs)(_:jE S)(_:SqL K H la (((jC::ts).map tx).map V.str))(_:ts.length<=130)(_:∀w∈ts,WOk w)(_:FtO S s.feet ts x ft)(_:s.feet.length<=200)(_:∀e,x=some e->∀H',ar H H'->E (.ref (cls e)) none H')(_:x=none->∀H' kvs',RdB C K H0 H' r { s with feet:=ft } S o kvs' tv svs->Q .non H')
theorem gx:aE ["self","words","name","text"] ["self","words"] (av (aH 49 3)):=by walk_at "c"
theorem qj(T:Txt P w K mg a):aO P w K mg base (CXe P w) 73 a.hX a.gH ["self","words"] (qi K a.bJ (lV a)):=by
 have bS:=T.bS;obtain⟨t_MOST_FOOT_WORDS,bS⟩:=bS
 exists T.gZ.fn.okE,gx
 obtain⟨r,la,H0,s,S,o,kvs,tv,svs,ts,x,ft,rfl,R,sok,hl,tl,wok,fo,fl,qe,q⟩:=h
 exists (ae (aW (PW.pt (lm (aA xf (aT bz rfl T.cQ Lq (aa (pv 1) ac)) ai (nomark _)) (kH (ua (kE (aD T.jr (lD T) (hM hr) rfl (aa (aC bb (pv 1) ai (λ_ _=>rfl)) ac)) (λ_=>rfl)))))) (ap (b7 rfl cj T.kx rfl (aa ak ac))) aX)
   (ae (ay (i:=2) gx.nd rfl (K1 rfl) (aC bb (pv 1) ai (λ_ _=>rfl)))
   (ae (aW (aA (uj (dW hr)) (pv 2) (bi (pv 0) rfl) (by with_unfolding_all rfl)) (ap (b7 rfl cj T.oA rfl (aa (cK (aI bP (aI (dN (pv 2)) (aI bP dh)))) ac))) aX)
   (ae (ay (i:=3) gx.nd rfl (K1 rfl) (dk bI T.bq T.dJ (gv T) (hM hr) (pv 0) (aa (cY jX (pv 1) (dn ai) dM) (aa (bx (aa ak (aa ak ac))) ac))))
   (ae (aW (aA jv (aT bz rfl T.cQ Lq (aa (pv 3) ac)) (bp (v:=.int 39) rfl bS ⟨_,rfl⟩) (nomark _)) (ap (b7 rfl cj T.ju rfl (aa (cK (aI bP (aI (dN (pv 2)) (aI bP (aI (nQ (bp (v:=.int 39) rfl bS ⟨_,rfl⟩)) (aI bP dh)))))) ac))) aX)
   (ap (zY (dW hr) (bi (pv 0) rfl) (pv 2) (pv 3) rfl)))))))
 refine⟨_,rfl,_,_,rfl,.inl hl,_,_,rfl,rfl,_,rfl,?_⟩;cases ts with
 |nil =>
  cases fo;left;left;exact⟨le1,qe .badrow rfl H (ar.refl _)⟩
 |cons n t =>
 refine cZ (λz=>absurd (of_decide_eq_true z) (by simp only[KW,KH];omega)) (λ_=>?_);obtain⟨_,nl,nc⟩:=wok n KO;refine⟨_,rfl,_,_,_,_,rfl,rfl,hl,a_ (j:=1) rfl,n,rfl,(by omega),λH1 s1=>⟨_,rfl,?_⟩⟩;have R1:=R.ext s1;cases hn:aR n with
 |false =>
  left;cases fo with
  |nam _=>exact⟨le1,qe .badrow rfl H1 s1⟩
  |tw h=>rw[hn]at h;cases h
  |wo h=>rw[hn]at h;cases h
  |long h=>rw[hn]at h;cases h
  |ok h=>rw[hn]at h;cases h
 |true =>
 right;dsimp only[eG];refine⟨_,rfl,_,_,_,_,rfl,rfl,s1.seq hl,a_ (j:=1) rfl,?_⟩;refine⟨_,rfl,_,rfl,_,_,_,_,_,rfl,R1.h1,T.bq.cl,T.fH,u_,_,_,rfl,kT.k (k:=.inr (tx n)) R1.h3,_,rfl,?_⟩;have ftH:FtA H1 kvs s.feet:=R1.h6.mono cR;cases hf:lkS (tx n) s.feet with
 |some f =>
  obtain⟨l,hv,_⟩:=(FtA.val (n:=tx n) ftH).2 f hf;rw[hv];left;cases fo with
  |nam h=>rw[hn]at h;cases h
  |tw _ _=>exact⟨⟨trivial,⟨n,rfl,by omega,nc⟩,trivial,trivial⟩,λz=>⟨le1,qe .twice rfl H1 s1⟩⟩
  |wo _ h=>rw[hf]at h;cases h
  |long _ h=>rw[hf]at h;cases h
  |ok _ h=>rw[hf]at h;cases h
 |none =>
 have fn:=(FtA.val (n:=tx n) ftH).1 hf;rw[fn];right;dsimp only[eG];refine⟨_,rfl,_,_,_,rfl,R1.h1,je (by decide),_,rfl,_,rfl,_,_,rfl,s1.seq hl,λp1 hp1=>?_⟩;have s2:=am hp1 (.lst (dQ (((jC::n::t).map tx).map V.str) (some 2) none));have k2:upd H1 p1 (.lst (dQ (((jC::n::t).map tx).map V.str) (some 2) none)) p1=some (.lst ((t.map tx).map V.str)):=by
  rw[ah];have:=Tl.cut_from (((jC::n::t).map tx).map V.str) 2;exact congrArg (λl=>some (HO.lst l)) this
 generalize upd H1 p1 (.lst (dQ (((jC::n::t).map tx).map V.str) (some 2) none))=H2 at s2 k2⊢;refine⟨le2,λp2 hp2=>?_⟩;have s3:=am hp2 (.tup [kwV .mark,kwV .foot]);have k3:upd H2 p2 (.tup [kwV .mark,kwV .foot]) p2=some (.tup [kwV .mark,kwV .foot]):=ah;have s23:=s2.trans s3;have s13:=s1.trans s23;have fo2:∃x2 ws,Wo S [.mark,.foot] t x2 ws/\(∀e,x2=some e->x=some e)/\(x2=none->(39<ws.length/\x=some .toolong)\/(ws.length<=39/\x=none/\ft=s.feet++[(tx n,ws.map wkL)])):=by
  cases fo with
  |nam h=>rw[hn]at h;cases h
  |tw _ h=>rw[hf]at h;cases h
  |wo _ _ h=>exact⟨_,_,h,λe z=>z,λz=>by cases z⟩
  |long _ _ h l=>exact⟨_,_,h,(λe z=>by cases z),λ_=>.inl ⟨l,rfl⟩⟩
  |ok _ _ h l=>exact⟨_,_,h,(λe z=>by cases z),λ_=>.inr ⟨l,rfl,rfl⟩⟩
 obtain⟨x2,ws,W,h1,h2⟩:=fo2;refine⟨r,p1,p2,H0,s,S,o,kvs,tv,svs,t,[.mark,.foot],x2,ws,rfl,R1.ext s23,sok,SqL.of (s3 _ _ k2),SqT.of k3,(by simp only[KH]at tl;omega),(λw hw=>wok w (KN _ hw)),W,(λe he H' m=>qe e (h1 e he) H' (s13.trans m)),λxn p4 H4 us hp4 s4 k4 al=>?_⟩;have s14:=s23.trans s4;have R4:=R1.ext s14;have lw:=al.len;rw[KA]at lw;refine⟨_,rfl,_,_,rfl,.inl (SqL.of k4),_,_,rfl,rfl,_,rfl,?_⟩;rcases h2 xn with⟨l,e⟩|⟨l,e,ef⟩
 .refine cZ (λ_=>?_) (λz=>absurd (decide_eq_true (by omega)) z);exact⟨⟨trivial,⟨n,rfl,by omega,nc⟩,trivial,trivial,trivial,trivial⟩,λz=>⟨le1,qe .toolong e H4 (s1.trans s14)⟩⟩
 .refine cZ (λz=>absurd (of_decide_eq_true z) (by omega)) (λ_=>?_);dsimp only[eG];refine⟨_,rfl,_,rfl,_,_,_,_,_,rfl,R4.h1,T.bq.cl,T.fH,u_,_,rfl,_,_,rfl,uS.k (k:=.inr (tx n)) R4.h3 (aF (by have:=ftH.len;omega)),?_⟩;rw[xY _ fn];refine q e _ (kvs++[(.inr (tx n),.ref p4)]) ?_;rw[ef];exact R4.foot ⟨us,cT (λz=>R1.nn p4 z (s23.free hp4)) k4,nX R4.nt (du.mono cR al)⟩

def m7:List Nat->Bool
 |[c]=>isF c
 |_=>false
theorem oq{k:Nat}(h:k<10):isF (48+k)=true:=by unfold isF;exact decide_eq_true (by omega)
theorem F9{w:List Nat}(h:m7 w=true):∃k,k<10/\w=[48+k]:=by
 match w,h with
 |[c],h =>
  obtain⟨k,h1,h2⟩:=yJ h;exact⟨k,h1,by rw[h2]⟩

inductive y_(vs:List V)(H:Hp)(Q:VK)(x_1:XK):Prop
 |mk(w:List Nat)(_:vs=[.str (tx w)])(_:w.length<=1000)(_:Q (.bl (m7 w)) H)
theorem za:aE ["word"] ["word"] (av (top 50)):=by walk_at "c"
theorem zb(T:Txt P w K mg a):aO P w K mg base CX0 1 a.ny a.mr ["word"] y_:=by
 have bX:=T.bX;obtain⟨t_FIGURES,bX⟩:=bX
 exists T.m8.fn.ok,za
 obtain⟨w,rfl,hw,q⟩:=h
 exists (ap (aM (nN (dZ bQ (aT gQ rfl T.cQ Lq (aa (pv 0) ac)) ai (nomark _)) (lN (dZ kJ (pv 0) (bp (v:=.str (pq "0123456789")) rfl bX ⟨_,rfl⟩) (by with_unfolding_all rfl))))))
 refine(⟨_,rfl,_,rfl,bj (by rw[aZ];omega),rfl,_,rfl,?_⟩);rw[aZ]
 match w,hw,q with
 |[],hw,q=>exact x5 q
 |_::_::_,hw,q=>exact cZ (λc=>absurd (V.int.inj (of_decide_eq_true c)) (by simp only[KH];omega)) (λ_=>q)
 |[c],hw,q =>
  left;refine(⟨_,rfl,_,_,rfl,rfl,?_⟩);rw[show tx [c]=⟨#[c]⟩from rfl,yD];exact q

theorem qX:aE ["nodes","told","node"] ["nodes"] (av (top 27)):=by walk_at "c"
inductive Di(K:KC)(n:Nat)(vs:List V)(H:Hp)(Q:VK)(x_1:XK):Prop
 |mk(B:Hp)(xv:V)(xs:List DD)(M:List (Wd0×Nat))(c d:Nat)(_:vs=[xv])(_:d<n)(_:d<=20)(_:ar B H)(_:Rep K B (.lst xs) xv)(_:∀x∈xs,Nd M c d x)(_:∀m∈M,m.2<=10)(_:xs.length<=900)(_:∀p H' vs l,ar H H'->H p=none->H' p=some (.lst vs)->Cat (ApN K (mxE B H H' []) d) xs vs l->fK H H' (p::l)->Q (.ref p) H')
theorem sP(T:Txt P w K mg a):∀n:Nat,aO P w K mg base CX0 (n+4) a.pz a.mR ["nodes"] (Di K n)
 |0=>⟨λvs H Q E h=>(by obtain⟨B,xv,xs,M,c,d,_,h1,_⟩:=h;omega),λA outer s H args us vs Q E _ _ _ _ h=>(by obtain⟨B,xv,xs,M,c,d,_,h1,_⟩:=h;omega)⟩
 |n+1=>by
  have g_copied:=sP T n;have kb:=T.kb

  refine T.kb.fn.ok qX (λvs H Q E h=>?_) (λcdv A outer s H vs Q E hr h=>?_)
  .obtain⟨B,xv,xs,M,c,d,rfl,_⟩:=h;rfl
  obtain⟨B,xv,xs,M,c,d,rfl,hd,hd20,sB,rx,ndx,m10,xl900,q⟩:=h;have hu:=MJ (dW hr);refine⟨_,(ae (ay (i:=1) qX.nd rfl (K1 rfl) (aK ac))
   (ae (dF MX rfl (bU (pv 0)) (bw (i:=2) qX.nd rfl (K1 rfl)) (ap (aW (aA bQ (aC aY (pv 2) ai (λ_ _=>rfl)) ak (nomark _)) (ap (bf (dg K4 Lf Lg cw (pv 1) (aa (bx (aa ak (aa (aC aY (pv 2) ai (λ_ _=>rfl)) (aa (i7 rfl (gq (caps:=[]) (js:=[]) (cap:=trivial)) (bU (aC aY (pv 2) ai (λ_ _=>rfl))) (λ_ _ _ _=>dA) (λ_ _ _ _=>(aD kb g_copied hr rfl (aa (pv 0) ac)))) ac)))) ac)))) (ap (bf (dg K4 Lf Lg cw (pv 1) (aa (pv 2) ac)))))))
   (ap (aM (pv 1))))),?_⟩
  obtain⟨xa,vs0,rfl,sxB,_,rxs⟩:=rx.lstO;have xl:=rxs.len;have sx:=sB.seq sxB;refine⟨bj (by simp),λpt hpt=>?_⟩
  exists hpt,H1,g1,k1
  have bpt:∀b∈[pt],B b=none:=λb hb=>by
   rw[List.mem_singleton.mp hb];exact sB.free hpt
  refine⟨_,rfl,xa,rfl,⟨_,g1.seq sx⟩,dP (K:=K) (a:=xa) (xs:=vs0) (λk σ G=>∃(v2:Option V)(vs:List V)(l:List Addr),σ=[rF xa,rF pt,v2]/\ar H G/\G pt=some (.lst vs)/\Cat (ApN K (mxE B H G [pt]) d) (xs.take k) vs l/\fK H (erL G [pt]) l) ⟨none,[],[],rfl,g1,k1,Cat.nil,fK.nil⟩ (λk σ G _ z=>by obtain⟨_,_,_,_,s1,_⟩:=z;exact s1.seq sx) ?_ ?_⟩
  .rintro k y σ G hy ⟨v2,vs,l,rfl,s1,kt,ct,nw⟩;obtain⟨x0,e0,r0⟩:=rxs.getR hy;have hk9:k<900:=by have:=(List.getElem?_eq_some_iff.mp hy).1;omega
   have nd0:=ndx x0 (KL e0);have vl:=ct.len;rw[La]at vl;have sBG:=sB.trans s1;obtain⟨e,rfl⟩:=nd0.pos;have esn:xs.take (k+1)=xs.take k++[x0]:=by rw[Lb,e0];rfl
   have stp:∀{G2:Hp},(∀b o,b≠pt->G b=some o->G2 b=some o)->ar (mxE B H G [pt]) (mxE B H G2 [pt]):=λh=>yr sB λb o nb hb=>h b o (by simpa using nb) hb;have stn:∀{G2:Hp},(∀b o,b≠pt->G b=some o->G2 b=some o)->ar (erL G [pt]) (erL G2 [pt]):=λh=>jY (λb o nb hb=>h b o (by simpa using nb) hb) λb hb=>.inl hb;rcases nd0.out with⟨w',rfl⟩|⟨pk,hp1,hp2,rfl⟩|⟨nm',as,rfl,hM,has⟩
   .obtain⟨ta,zs,rfl,st,_,rz⟩:=id r0.tupO;obtain⟨z0,z1,rfl,y0,y1⟩:=aB.two rz;rw[y0.strO,y1.strO]at st;refine⟨_,rfl,_,_,_,_,rfl,rfl,sBG.tup st,rfl,rfl,_,rfl,?_⟩;rw[decide_eq_false HE];right;refine⟨_,rfl,.inl ⟨rfl,_,SqL.of kt⟩,_,rfl,_,_,_,rfl,rfl,kt,aF (by omega),?_⟩;have ke:∀b o,b≠pt->G b=some o->(upd G pt (.lst (vs++[V.ref ta]))) b=some o:=λb o nb hb=>by rw[aq nb];exact hb
    refine⟨_,vs++[V.ref ta],l,rfl,s1.put hpt,ah,?_,nw.up (stn ke)⟩;rw[esn];have:=(ct.mono (stp ke)).snoc (x:=wdD w') (v:=V.ref ta) (l1:=[]) (.inl ⟨r0.mono (yq sB bpt),rfl,.inl ⟨_,rfl⟩⟩)
    rwa[LF]at this
   .obtain⟨ta,zs,rfl,st,_,rz⟩:=id r0.tupO;obtain⟨z0,z1,rfl,y0,y1⟩:=aB.two rz;rw[y0.strO,y1.intO]at st;refine⟨_,rfl,_,_,_,_,rfl,rfl,sBG.tup st,rfl,rfl,_,rfl,?_⟩;rw[decide_eq_false HF];right;refine⟨_,rfl,.inl ⟨rfl,_,SqL.of kt⟩,_,rfl,_,_,_,rfl,rfl,kt,aF (by omega),?_⟩;have ke:∀b o,b≠pt->G b=some o->(upd G pt (.lst (vs++[V.ref ta]))) b=some o:=λb o nb hb=>by rw[aq nb];exact hb
    refine⟨_,vs++[V.ref ta],l,rfl,s1.put hpt,ah,?_,nw.up (stn ke)⟩;rw[esn];have:=(ct.mono (stp ke)).snoc (x:=plD pk) (v:=V.ref ta) (l1:=[]) (.inl ⟨r0.mono (yq sB bpt),rfl,.inr ⟨_,rfl⟩⟩)
    rwa[LF]at this
   .obtain⟨ta,zs,rfl,stB,_,rz⟩:=r0.tupO;obtain⟨z0,z1,z2,rfl,y0,y1,y2⟩:=aB.three rz;rw[y0.strO,y1.strO]at stB;obtain⟨la,ys,rfl,slB,_,rl⟩:=y2.lstO;have yl:=rl.len;rw[KA]at yl;have a10:as.length<=10:=m10 _ hM;have st:=sBG.tup stB;have sl:=sBG.seq slB;refine⟨_,rfl,_,_,_,_,rfl,rfl,st,rfl,rfl,_,rfl,?_⟩;rw[decide_eq_true rfl];left;refine⟨_,rfl,.inl ⟨rfl,_,SqL.of kt⟩,_,rfl,_,_,_,_,rfl,rfl,st,rfl,_,rfl,_,_,_,_,rfl,rfl,st,rfl,la,rfl,⟨_,sl⟩,d7 (K:=K) (a:=la) (xs:=ys) (λj zs G'=>ar G G'/\∃l2,Cat (ApG (mxE B G G' []) (ApN K (mxE B G G' []) e)) (as.take j) zs l2/\fK G G' l2) ⟨ar.refl _,[],Cat.nil,fK.nil⟩ (λj zs G' _ z=>z.1.seq sl) ?_ ?_ ?_⟩
    .rintro j zs G' hj ⟨_,l2,c2,_⟩;rw[c2.len,La];exact aF (by omega)
    .rintro j y zs G' hy ⟨s2,l2,c2,n2⟩;obtain⟨dj,ejm,rj⟩:=rl.getR hy;rw[KS]at ejm;obtain⟨aj,eaj,rfl⟩:=Option.map_eq_some_iff.mp ejm;clear ejm;have haj:=has aj (KL eaj);refine eM ?_;refine⟨_,rfl,B,y,aj,M,c,e,rfl,by omega,by omega,sBG.trans s2,rj,haj.2,m10,by have:=haj.1;omega,λp G5 vs5 l5 s5 fp kp c5 n5=>⟨s2.trans s5,l2++(p::l5),?_,n2.app s2 s5 n5⟩⟩;rw[Lb,eaj];have u1:ar (mxE B G G' []) (mxE B G G5 []):=yr sBG λb o _ hb=>s5 _ _ hb;have u2:ar (mxE B G' G5 []) (mxE B G G5 []):=λb o hb=>by
      obtain⟨_,h2|h2⟩:=qG hb
      .exact j0 (s2.free h2.1) (by simp) h2.2
      .exact nW sBG (by simp) h2
     refine(c2.imp λa _ y l z=>z.mono u1 λx _ v l z=>z.mono u1).snoc ⟨p,vs5,l5,rfl,j0 (s2.free fp) (by simp) kp,rfl,by have:=haj.1;omega,c5.mono u2⟩
    rintro zs G' ⟨s2,l2,c2,n2⟩ pb hpb;rw[yl,K9 (Kz _)]at c2;have zl:=c2.len
    exists hpb,G3,g3,k3
    have n3:=n2.one s2 g3 hpb k3 (by omega);have fb:=s2.free hpb;refine⟨le3,λp hp=>?_⟩
    exists hp,G4,g4,k4
    have fp:=(s2.trans g3).free hp;have n4:=n3.up g4;have k34:=g4 _ _ k3;have s34:=g3.trans g4;have s24:=s2.trans s34;refine⟨_,_,_,rfl,rfl,s24 _ _ kt,aF (by omega),?_⟩;have npb:pb≠pt:=Lp (a7 kt fb);have np:p≠pt:=Lp (a7 kt fp);have ke:∀b o,b≠pt->G4 b=some o->(upd G4 pt (.lst (vs++[V.ref p]))) b=some o:=λb o nb hb=>by rw[aq nb];exact hb
    have ke0:∀b o,b≠pt->G b=some o->(upd G4 pt (.lst (vs++[V.ref p]))) b=some o:=λb o nb hb=>ke b o nb (s24 _ _ hb);have kin:ar (mxE B G G' []) (mxE B H (upd G4 pt (.lst (vs++[V.ref p]))) [pt]):=Hl sB s1 hpt kt λb o nb hb=>ke b o nb (s34 _ _ hb);refine⟨_,vs++[V.ref p],l++(pb::l2),rfl,(s1.trans s24).put hpt,ah,?_,?_⟩
    .rw[esn];refine(ct.mono (stp ke0)).snoc (.inr ⟨nm',as,p,pb,zs,l2,rfl,rfl,j0 (s1.free fp) (by simpa using np) (ke _ _ np k4),j0 (s1.free fb) (by simpa using npb) (ke _ _ npb k34),rfl,a10,c2.imp λa _ y l z=>z.mono kin λx _ v l z=>z.mono kin⟩)
    .refine nw.app (λb o hb=>gg (by simpa using a7 hb hpt) (s1 b o hb)) (stn ke0) ⟨n4.nd,λb hb=>?_,λb hb=>?_⟩
     .unfold erL
      split
      .rfl
      .exact n4.new b hb
     .obtain⟨o,h1,h2⟩:=n4.at' b hb;have nb:b≠pt:=Lp (a7 kt (n4.new b hb));exact⟨o,gg (by simpa using nb) (ke b _ nb h1),h2⟩
  .rintro σ G ⟨v2,vs,l,rfl,s1,kt,ct,nw⟩;rw[xl,K9 (Kz _)]at ct;have vl:=ct.len;have nfin:fK H G (pt::l):=by
    refine⟨List.nodup_cons.mpr ⟨λz=>?_,nw.nd⟩,λb hb=>?_,λb hb=>?_⟩
    .obtain⟨o,h1,_⟩:=nw.at' pt z;exact(jz h1).1 (by simp)
    .rcases List.mem_cons.mp hb with rfl|hb
     .exact hpt
     .exact nw.new b hb
    .rcases List.mem_cons.mp hb with rfl|hb
     .exact⟨_,kt,by omega⟩
     .obtain⟨o,h1,h2⟩:=nw.at' b hb;exact⟨o,(jz h1).2,h2⟩
   exact⟨_,rfl,q pt G vs l s1 hpt kt (ct.mono (FL sB)) nfin⟩
theorem Dj(T:Txt P w K mg a):aO P w K mg base CX0 25 a.pz a.mR ["nodes"] (Di K (25-4)):=sP T (25-4)
inductive Bq(K:KC)(CN CB:Addr)(vs:List V)(H:Hp)(Q:VK)(E:XK):Prop
 |mk(sv xv:V)(c d:Nat)(S:List Sh)(xs:List DD)(M:List (Wd0×Nat))(_:vs=[sv,xv,.int (c:Int)])(_:d<16)(_:c<=9)(_:Rep K H (.lst (S.map shD)) sv)(_:jE S)(_:MOk M)(_:Rep K H (.lst xs) xv)(_:∀x∈xs,Nd M c d x)(_:wrL S d xs=1->∀H',ar H H'->E (.ref CN) none H')(_:wrL S d xs=2->∀H',ar H H'->E (.ref CB) none H')(_:wrL S d xs=0->∀p r H',ar H H'->H r=none->H' p=some (.tup [.ref r,.int (bo S d xs)])->H' r=some (.lst ((cL S c d xs).map V.int))->Q (.ref p) H')
theorem Br:aE ["shorts","nodes","count"] ["shorts","nodes","count"] (av (top 36)):=by walk_at "c"
theorem Bs(T:Txt P w K mg a):aO P w K mg base (CXe P w) 21 a.rG a.pL ["shorts","nodes","count"] (Bq K a.dr a.cF):=by
 exists T.rp.fn.okE,Br
 obtain⟨sv,xv,c,d,S,xs,M,rfl,hd,hc,rS,sok,mok,rx,ndx,q1,q2,q⟩:=h
 exists (ap (aM (gR bI T.eD (pR T) (hM hr) rfl (aa (aD T.mP (uI T) (hM hr) rfl (aa (pv 0) ac)) (aa (pv 1) (aa (pv 2) ac))))))
 refine⟨_,rfl,sv,S,rfl,rS,sok.nd,by have:=sok.len;omega,λp H1 s1 hN=>?_⟩;exact⟨_,rfl,_,rfl,p,xv,c,d,S,xs,M,rfl,hd,hc,hN,sok,mok,rx.mono s1,ndx,λhw H' s'=>q1 hw _ (s1.trans s'),λhw H' s'=>q2 hw _ (s1.trans s'),λhw p r H' s' fr kp kr=>q hw p r H' (s1.trans s') (s1.free fr) kp kr⟩
inductive zc(K:KC)(CN CB CT:Addr)(vs:List V)(H:Hp)(Q:VK)(E:XK):Prop
 |mk(sv xv:V)(nm':Wd0)(c d:Nat)(S:List Sh)(xs:List DD)(M:List (Wd0×Nat))(_:vs=[sv,.str (tx nm'),.int (c:Int),xv])(_:nm'.length<=12)(_:∀c∈nm',c<127)(_:d<=15)(_:c<=9)(_:Rep K H (.lst (S.map shD)) sv)(_:jE S)(_:MOk M)(_:Rep K H (.lst xs) xv)(_:∀x∈xs,Nd M c d x)(_:xs.length<=900)(_:rfM S c d xs=1->∀H',ar H H'->E (.ref CN) none H')(_:rfM S c d xs=2->∀H',ar H H'->E (.ref CB) none H')(_:rfM S c d xs=3->∀H',ar H H'->E (.ref CT) none H')(_:rfM S c d xs=0->∀p pc r H' vs l,ar H H'->H' p=some (.tup [.str (tx nm'),.int (c:Int),.ref pc,.ref r,.int (bo S d xs)])->H' pc=some (.lst vs)->Cat (ApN K H' d) xs vs l->fK H H' (pc::l)->H r=none->r∉pc::l->H' r=some (.lst ((cL S c d xs).map V.int))->Q (.ref p) H')
theorem jK:aE ["shorts","name","count","nodes","size","row","calls"] ["shorts","name","count","nodes"] (av (top 37)):=by walk_at "c"
theorem zd(T:Txt P w K mg a):aO P w K mg base (CXe P w) 26 a.nG a.mz ["shorts","name","count","nodes"] (zc K a.dr a.cF a.cG):=by
 have bD:=T.bD;have aU:=T.aU;obtain⟨t_MOST_CALLS_OF_SHORT,bD⟩:=bD;obtain⟨t_MOST_WORDS_shorts,aU⟩:=aU
 exists T.nq.fn.okE,jK
 obtain⟨sv,xv,nm',c,d,S,xs,M,rfl,n12,n127,hd,hc,rS,sok,mok,rx,ndx,xl9,q1,q2,q3,q⟩:=h
 exists (ae (ay (i:=4) jK.nd rfl (K1 rfl) (wg bI T.rp (Bs T) (hM hr) rfl (aa (pv 0) (aa (pv 3) (aa (pv 2) ac)))))
   (ae (ay (i:=5) jK.nd rfl (K1 rfl) (aC aY (pv 4) ai (λ_ _=>rfl)))
   (ae (ay (i:=6) jK.nd rfl (K1 rfl) (aC aY (pv 4) ai (λ_ _=>rfl)))
   (ae (aW (aA jk ai (cY jX (pv 5) (dn ai) dM) (by with_unfolding_all rfl)) (ap (b7 rfl cj T.jt rfl (aa (cK (aI bP (aI (dN (pv 1)) (aI bP dh)))) ac))) aX)
   (ae (aW (PW.pt (lm (aA jv (aT (D2 rfl) rfl T.Fe PyProof.Rows.boot_sum (aa (pv 5) ac)) (bp (v:=.int 400) rfl aU ⟨_,rfl⟩) (nomark _)) (kH (aA jv (pv 6) (bp (v:=.int 60) rfl bD ⟨_,rfl⟩) (nomark _))))) (ap (b7 rfl cj T.ju rfl (aa (cK (aI bP (aI (dN (pv 1)) (aI bP dh)))) ac))) aX)
   (ap (aM (bx (aa (pv 1) (aa (pv 2) (aa (aD T.kb (Dj T) (hM hr) rfl (aa (pv 3) ac)) (aa (pv 5) (aa (pv 6) ac)))))))))))))
 refine⟨_,rfl,_,rfl,_,rfl,sv,xv,c,d,S,xs,M,rfl,by omega,hc,rS,sok,mok,rx,ndx,λhw H' s'=>q1 (by unfold rfM;rw[hw];rfl) _ s',λhw H' s'=>q2 (by unfold rfM;rw[hw];rfl) _ s',λhw p1 r1 H1 s1 fr1 kp1 kr1=>?_⟩;refine⟨_,rfl,_,_,_,_,rfl,rfl,SqT.of kp1,rfl,?_⟩;refine⟨_,rfl,_,_,_,_,rfl,rfl,SqT.of kp1,rfl,?_⟩;dsimp only[bN];have nd2:∀x∈xs,Nd (iz S) c d x:=λx hx=>tq (ndx x hx) (oJ hw _ (List.mem_map.mpr ⟨x,hx,rfl⟩));have erow:(cL S c d xs).map V.int=V.int ((xs.map (szR S 0 d)).sum)::((Mh c).map λk=>(xs.map (szR S (k+1) d)).sum).map V.int:=by
  unfold cL;rw[Ho,KW]
 refine⟨_,rfl,_,rfl,_,_,rfl,SqL.of kr1,λp2 hp2=>?_⟩;rw[erow,IY]
 exists hp2,H2,g2,k2
 have s12:=s1.trans g2;have kr2:=g2 _ _ kr1;refine⟨_,_,rfl,.inl (SqL.of k2),rfl,C9 _,_,rfl,?_⟩;have em:inV (V.int 0) (((Mh c).map λk=>(xs.map (szR S (k+1) d)).sum).map V.int)=mis c d xs:=by
  rw[Ar,List.any_map];exact FN sok.x nd2
 show(if inV (V.int 0) (((Mh c).map λk=>(xs.map (szR S (k+1) d)).sum).map V.int)=true then _ else _);rw[em];have big:mis c d xs≠true->(400<(cL S c d xs).sum\/60<bo S d xs)->rfM S c d xs=3:=λh0 h=>by unfold rfM;rw[if_pos hw,if_neg h0,if_pos h]
 have no:mis c d xs≠true->¬ (400<(cL S c d xs).sum\/60<bo S d xs)->rfM S c d xs=0:=λh0 h=>by unfold rfM;rw[if_pos hw,if_neg h0,if_neg h]
 refine cZ (λc0=>?_) (λc0=>?_)
 .exact⟨⟨trivial,⟨nm',rfl,by omega,n127⟩,trivial,trivial⟩,λz=>⟨le1,q2 (by unfold rfM;rw[if_pos hw,if_pos c0]) _ s12⟩⟩
 refine⟨_,rfl,r1,_,rfl,SqL.of kr2,_,_,rfl,rfl,_,rfl,?_⟩;refine cZ (λc1=>DQ ?_) (λc1=>?_)
 .have c1:(400:Int)<(cL S c d xs).sum:=of_decide_eq_true c1;exact⟨⟨trivial,⟨nm',rfl,by omega,n127⟩,trivial,trivial⟩,λz=>⟨le1,q3 (big c0 (.inl c1)) _ s12⟩⟩
 have c1:¬ (400:Int)<(cL S c d xs).sum:=λz=>c1 (decide_eq_true z);refine⟨_,rfl,_,_,rfl,rfl,_,rfl,?_⟩;refine cZ (λc2=>?_) (λc2=>?_)
 .have c2:(60:Int)<bo S d xs:=of_decide_eq_true c2;exact⟨⟨trivial,⟨nm',rfl,by omega,n127⟩,trivial,trivial⟩,λz=>⟨le1,q3 (big c0 (.inr c2)) _ s12⟩⟩
 have c2:¬ (60:Int)<bo S d xs:=λz=>c2 (decide_eq_true z);refine⟨_,rfl,_,rfl,_,rfl,H2,xv,xs,M,c,d,rfl,by omega,by omega,ar.refl _,rx.mono s12,ndx,λm hm=>(mok.2 m hm).2.2,xl9,λpc H3 vs l s3 fpc kpc cc nn=>?_⟩;refine⟨_,rfl,_,rfl,bj (by simp),λp hp=>?_⟩;have g4:=am hp (.tup [V.str (tx nm'),V.int (c:Int),V.ref pc,V.ref r1,V.int (bo S d xs)]);have nr:r1∉pc::l:=λz=>by
  have:=nn.new r1 z;rw[kr2]at this;cases this
 exact q (no c0 (λz=>z.elim c1 c2)) p pc r1 _ vs l (s12.trans (s3.trans g4)) ah (g4 _ _ kpc) ((cc.mono (FM (ar.refl _) s3)).mono g4) ⟨nn.nd,λb hb=>s12.free (nn.new b hb),(nn.up g4).at'⟩ fr1 nr ((s3.trans g4) _ _ kr2)

inductive fC(S:List Sh):List (List Nat)->Option Er->List Sh->Prop
 |few {ts:List (List Nat)} (h:ts.length<2):fC S ts (some .badrow) S
 |nam {n c:List Nat} {t:List (List Nat)} (h:aR n=false):fC S (n::c::t) (some .badrow) S
 |fig {n c:List Nat} {t:List (List Nat)} (hn:aR n=true) (h:m7 c=false):fC S (n::c::t) (some .badrow) S
 |tw {n:List Nat} {k:Nat} {t:List (List Nat)} (hn:aR n=true) (hk:k<10) (h:n∈S.map Sh.n):fC S (n::[48+k]::t) (some .twice) S
 |tree {n:List Nat} {k:Nat} {t:List (List Nat)} {b:Bool} (hn:aR n=true) (hk:k<10) (hm:n∉S.map Sh.n) (h:a9 (some k) t 0=some b):fC S (n::[48+k]::t) (some (if b=true then .deep else .badcall)) S
 |new {n:List Nat} {k:Nat} {t:List (List Nat)} {xs:List DD} {M:List (Wd0×Nat)} {d:Nat} (hn:aR n=true) (hk:k<10) (hm:n∉S.map Sh.n) (p:Par (some k) t xs M d) (h:rfM S k d xs≠0):fC S (n::[48+k]::t) (some (vE (rfM S k d xs))) S
 |ok {n:List Nat} {k:Nat} {t:List (List Nat)} {xs:List DD} {M:List (Wd0×Nat)} {d:Nat} (hn:aR n=true) (hk:k<10) (hm:n∉S.map Sh.n) (p:Par (some k) t xs M d) (lf:∀x∈xs,(∃w,x=wdD w)\/∃j,x=plD j) (h:rfM S k d xs=0):fC S (n::[48+k]::t) none (S++[⟨n,k,xs,cL S k d xs,bo S d xs⟩])

theorem fC.at_{S:List Sh}{n:List Nat}{k:Nat}{t:List (List Nat)}{x:Option Er}{S':List Sh}(h:fC S (n::[48+k]::t) x S')(hn:aR n=true)(hk:k<10):(n∈S.map Sh.n/\x=some .twice)\/(n∉S.map Sh.n/\((∃b,a9 (some k) t 0=some b/\x=some (if b=true then .deep else .badcall))\/∃xs M d,Par (some k) t xs M d/\((rfM S k d xs≠0/\x=some (vE (rfM S k d xs)))\/(rfM S k d xs=0/\x=none/\(∀x∈xs,(∃w,x=wdD w)\/∃j,x=plD j)/\S'=S++[⟨n,k,xs,cL S k d xs,bo S d xs⟩])))):=by
 generalize e:[48+k]=c at h;cases h with
 |few h=>simp only[KH]at h;omega
 |nam h=>cases hn.symm.trans h
 |fig _ h=>rw[<-e]at h;cases h.symm.trans (show m7 [48+k]=true from oq hk)
 |tw _ _ h=>exact .inl ⟨h,rfl⟩
 |@tree _ k2 _ b _ _ hm h =>
  have e:k=k2:=by injection e with e;omega
  subst e;exact .inr ⟨hm,.inl ⟨b,h,rfl⟩⟩
 |@new _ k2 _ xs M d _ _ hm p h =>
  have e:k=k2:=by injection e with e;omega
  subst e;exact .inr ⟨hm,.inr ⟨xs,M,d,p,.inl ⟨h,rfl⟩⟩⟩
 |@ok _ k2 _ xs M d _ _ hm p lf h =>
  have e:k=k2:=by injection e with e;omega
  subst e;exact .inr ⟨hm,.inr ⟨xs,M,d,p,.inr ⟨h,rfl,lf,rfl⟩⟩⟩
theorem EI{S:List Sh}{n:List Nat}:inV (.str (tx n)) (S.map λs=>V.str (tx s.n))=decide (n∈S.map Sh.n):=by
 induction S with
 |nil=>rfl
 |cons s S ih =>
  have e:inV (.str (tx n)) ((s::S).map λs=>V.str (tx s.n))=(eqV (.str (tx s.n)) (.str (tx n))||inV (.str (tx n)) (S.map λs=>V.str (tx s.n))):=rfl;rw[e,ih];have:eqV (.str (tx s.n)) (.str (tx n))=decide (n=s.n):=by
   simp only[eqV];by_cases h:n=s.n
   .rw[h];simp
   .rw[decide_eq_false h];exact beq_eq_false_iff_ne.mpr λz=>h (eN z).symm
  rw[this,KW];by_cases h:n=s.n<;>by_cases h2:n∈S.map Sh.n<;>simp[h,h2]
theorem EJ{C:Addr}{K:KC}{H0 H:Hp}{r:Addr}{s:Rs}{S:List Sh}{o:Ro}{kvs:List (Key×V)}{vs svs:List V}(R:RdB C K H0 H r s S o kvs vs svs){x:DD}{v:V}(lf:(∃w,x=wdD w)\/∃j,x=plD j)(h:Rep K H x v):Rep K (hid (o.os r) H) x v:=by
 rcases lf with⟨w,rfl⟩|⟨k,rfl⟩
 .obtain⟨a,xs,rfl,st,hl,rr⟩:=h.tupO;obtain⟨x0,x1,rfl,y0,y1⟩:=aB.two rr;rw[y0.strO,y1.strO]at st;exact r6 (R.sqt st) hl (aB.cons (lF _) (aB.cons (lF _) aB.nil))
 .obtain⟨a,xs,rfl,st,hl,rr⟩:=h.tupO;obtain⟨x0,x1,rfl,y0,y1⟩:=aB.two rr;rw[y0.strO,y1.intO]at st;exact r6 (R.sqt st) hl (aB.cons (lF _) (aB.cons (rZ _) aB.nil))
theorem wB{C:Addr}{K:KC}{H0 H:Hp}{r:Addr}{s:Rs}{S:List Sh}{o:Ro}{kvs:List (Key×V)}{vs svs:List V}(R:RdB C K H0 H r s S o kvs vs svs):∀{xs:List DD}{us:List V},(∀x∈xs,(∃w,x=wdD w)\/∃j,x=plD j)->aB K H xs us->aB K (hid (o.os r) H) xs us
 |[],us,_,h=>by unfold aB at h⊢;exact h
 |x::xs,us,lf,h=>by
  unfold aB at h⊢;obtain⟨y,ys,rfl,h1,h2⟩:=h;exact⟨y,ys,rfl,EJ R (lf x KO) h1,wB R (λz hz=>lf z (KN _ hz)) h2⟩

inductive qY(K:KC)(C:Addr)(cls:Er->Addr)(vs:List V)(H:Hp)(Q:VK)(E:XK):Prop
 |mk(r la:Addr)(H0:Hp)(s:Rs)(S:List Sh)(o:Ro)(kvs:List (Key×V))(tv svs:List V)(ts:List (List Nat))(x:Option Er)(S':List Sh)(_:vs=[.ref r,.ref la])(_:RdB C K H0 H r s S o kvs tv svs)(_:jE S)(_:SqL K H la (((lU::ts).map tx).map V.str))(_:ts.length<=130)(_:∀w∈ts,WOk w)(_:fC S ts x S')(_:∀e,x=some e->∀H',ar H H'->E (.ref (cls e)) none H')(_:x=none->∀H' svs',RdB C K H0 H' r s S' o kvs tv svs'->Q .non H')
theorem gX:aE ["self","words","name","count"] ["self","words"] (av (aH 49 2)):=by walk_at "c"
theorem qZ(T:Txt P w K mg a):aO P w K mg base (CXe P w) 27 a.iO a.ig ["self","words"] (qY K a.bJ (lV a)):=by
 exists T.iI.fn.okE,gX
 obtain⟨r,la,H0,s,S,o,kvs,tv,svs,ts,x,S',rfl,R,sok,hl,tl,wok,lo,qe,q⟩:=h
 exists (ae (aW (PW.pt (lm (aA xf (aT bz rfl T.cQ Lq (aa (pv 1) ac)) ai (nomark _)) (lm (ua (kE (aD T.jr (lD T) (hM hr) rfl (aa (aC bb (pv 1) ai (λ_ _=>rfl)) ac)) (λ_=>rfl))) (kH (ua (kE (aD T.m8 (zb T) (hM hr) rfl (aa (aC bb (pv 1) ai (λ_ _=>rfl)) ac)) (λ_=>rfl))))))) (ap (b7 rfl cj T.kx rfl (aa ak ac))) aX)
   (ae (ay (i:=2) gX.nd rfl (K1 rfl) (aC bb (pv 1) ai (λ_ _=>rfl)))
   (ae (aW (aA jk (pv 2) (i7 rfl (gq (caps:=[]) (js:=[]) (cap:=trivial)) (bU (bi (pv 0) rfl)) (λ_ _ _ _=>dA) (λ_ _ _ _=>(aC (r:=qr K) aY (pv 0) ai (λ_ _=>rfl)))) (by with_unfolding_all rfl)) (ap (b7 rfl cj T.oA rfl (aa (cK (aI bP (aI (dN (pv 2)) (aI bP dh)))) ac))) aX)
   (ae (ay (i:=3) gX.nd rfl (K1 rfl) (kK pP rfl T.BI PyProof.Rows.boot_int (aa (aC bb (pv 1) ai (λ_ _=>rfl)) ac)))
   (ap (bf (dg K4 Lf Lg cw (bi (pv 0) rfl) (aa (gR bI T.nq (zd T) (hM hr) rfl (aa (bi (pv 0) rfl) (aa (pv 2) (aa (pv 3) (aa (wg bI T.mQ (uM T) (hM hr) rfl (aa (cY jX (pv 1) (dn ai) dM) (aa (pv 3) ac))) ac))))) ac))))))))
 refine⟨_,rfl,_,_,rfl,.inl hl,_,_,rfl,rfl,_,rfl,?_⟩;by_cases few:ts.length<2
 .refine cZ (λ_=>?_) (λz=>absurd (decide_eq_true (by simp only[KW,KH,KA];omega)) z);left;have:x=some .badrow:=by
   cases lo with
   |few _=>rfl
   |nam _=>simp only[KH]at few;omega
   |fig _ _=>simp only[KH]at few;omega
   |tw _ _ _=>simp only[KH]at few;omega
   |tree _ _ _ _=>simp only[KH]at few;omega
   |new _ _ _ _ _=>simp only[KH]at few;omega
   |ok _ _ _ _ _ _=>simp only[KH]at few;omega
  exact⟨le1,qe .badrow this H (ar.refl _)⟩
 refine cZ (λz=>absurd (of_decide_eq_true z) (by simp only[KW,KH,KA];omega)) (λ_=>?_)
 match ts,few,hl,tl,wok,lo with
 |[],few,_,_,_,_=>exact absurd (show 0<2 by decide) few
 |[_],few,_,_,_,_=>exact absurd (show 1<2 by decide) few
 |n::c::t,_,hl,tl,wok,lo =>
 obtain⟨_,nl,nc⟩:=wok n KO;obtain⟨_,cl,cc⟩:=wok c (KN _ KO);refine⟨_,rfl,_,_,_,_,rfl,rfl,hl,a_ (j:=1) rfl,n,rfl,(by omega),λH1 s1=>⟨_,rfl,?_⟩⟩;cases hn:aR n with
 |false =>
  left;left;have:x=some .badrow:=by
   cases lo with
   |few _=>rfl
   |nam _=>rfl
   |fig h _=>cases hn.symm.trans h
   |tw h=>cases hn.symm.trans h
   |tree h=>cases hn.symm.trans h
   |new h=>cases hn.symm.trans h
   |ok h=>cases hn.symm.trans h
  exact⟨le1,qe .badrow this H1 s1⟩
 |true =>
 right;refine⟨_,rfl,_,_,_,_,rfl,rfl,s1.seq hl,a_ (j:=2) rfl,c,rfl,(by omega),_,rfl,?_⟩;cases hc:m7 c with
 |false =>
  left;have:x=some .badrow:=by
   cases lo with
   |few _=>rfl
   |nam h=>cases hn.symm.trans h
   |fig _ _=>rfl
   |tw _ hk=>exact absurd (hc.symm.trans (show m7 [_]=true from oq hk)) (by decide)
   |tree _ hk=>exact absurd (hc.symm.trans (show m7 [_]=true from oq hk)) (by decide)
   |new _ hk=>exact absurd (hc.symm.trans (show m7 [_]=true from oq hk)) (by decide)
   |ok _ hk=>exact absurd (hc.symm.trans (show m7 [_]=true from oq hk)) (by decide)
  exact⟨le1,qe .badrow this H1 s1⟩
 |true =>
 right;obtain⟨k,hk,rfl⟩:=F9 hc;have R1:=R.ext s1;have rv:aB K H1 (S.map shD) svs:=R1.hs.mono cR;have sl:=sok.len;have vl:=rv.len;rw[KA]at vl;dsimp only[eG];refine⟨_,rfl,_,_,_,_,rfl,rfl,s1.seq hl,a_ (j:=1) rfl,?_⟩;refine⟨_,rfl,_,rfl,_,_,_,_,_,rfl,R1.h1,T.bq.cl,T.dC,mL,o.sa,rfl,⟨_,SqL.of R1.h2⟩,d7 (K:=K) (a:=o.sa) (xs:=svs) (λi ys G=>H1=G/\ys=(S.take i).map λs=>V.str (tx s.n)) ⟨rfl,rfl⟩ (λi ys G _ z=>by rw[<-z.1];exact SqL.of R1.h2) ?_ ?_ ?_⟩
 .rintro i ys G hi ⟨_,rfl⟩;rw[KA,La];exact aF (by omega)
 .rintro i y ys G hy ⟨rfl,rfl⟩;obtain⟨d,e1,r1⟩:=rv.getR hy;rw[KS]at e1;obtain⟨u,e2,rfl⟩:=Option.map_eq_some_iff.mp e1;obtain⟨ta,zs,rfl,st,_,rz⟩:=r1.tupO;have hz0:zs[0]?=some (V.str (tx u.n)):=by
   obtain⟨x,h1,h2⟩:=rz.get (i:=0) (d:=.str (tx u.n)) rfl;rw[h1,h2.strO]
  refine eM ?_;refine⟨_,rfl,_,_,_,_,rfl,rfl,st,a_ hz0,rfl,?_⟩;rw[cP e2,KQ];rfl
 rintro ys G ⟨rfl,rfl⟩ p1 hp1;rw[vl,LH];have s2:=am hp1 (.lst (S.map λs=>V.str (tx s.n)));refine⟨_,_,rfl,.inl (SqL.of ah),rfl,(by rw[Pw];exact List.all_eq_true.mpr λ_ _=>rfl),_,rfl,?_⟩;generalize upd H1 p1 (.lst (S.map λs=>V.str (tx s.n)))=H2 at s2⊢;change (if inV (V.str (tx n)) (S.map λs=>V.str (tx s.n))=true then _ else _);rw[EI];have s12:=s1.trans s2;have R2:=R.ext s12;rcases lo.at_ hn hk with⟨hm,e⟩|⟨hm,lo⟩
 .rw[decide_eq_true hm];left;exact⟨⟨trivial,⟨n,rfl,by omega,nc⟩,trivial,trivial⟩,λz=>⟨le1,qe .twice e H2 s12⟩⟩
 rw[decide_eq_false hm];right;dsimp only[eG];refine⟨_,rfl,_,_,_,_,rfl,rfl,s12.seq hl,a_ (j:=2) rfl,_,_,rfl,Aj k hk,(by rw[aZ];simp),?_⟩;dsimp only[bN];refine⟨_,rfl,_,_,_,_,_,rfl,R2.h1,T.bq.cl,T.dC,mL,.inl ⟨rfl,_,SqL.of R2.h2⟩,_,rfl,_,_,_,_,_,rfl,R2.h1,T.bq.cl,T.dC,mL,_,rfl,_,rfl,_,rfl,_,rfl,_,_,rfl,s12.seq hl,λp2 hp2=>?_⟩;have s3:=am hp2 (.lst (dQ (((lU::n::[48+k]::t).map tx).map V.str) (some 3) none));have k3:upd H2 p2 (.lst (dQ (((lU::n::[48+k]::t).map tx).map V.str) (some 3) none)) p2=some (.lst ((t.map tx).map V.str)):=by
  rw[ah];have:=Tl.cut_from (((lU::n::[48+k]::t).map tx).map V.str) 3;exact congrArg (λl=>some (HO.lst l)) this
 generalize upd H2 p2 (.lst (dQ (((lU::n::[48+k]::t).map tx).map V.str) (some 3) none))=H3 at s3 k3⊢;have s13:=s12.trans s3;have tl3:t.length<=128:=by simp only[KH]at tl;omega
 have de:∀b,a9 (some k) t 0=some b->x=some (if b=true then .deep else .badcall):=λb h=>by
  rcases lo with⟨b2,h2,e⟩|⟨_,_,_,P,_⟩
  .rw[h]at h2;cases h2;exact e
  .rw[P.due]at h;cases h
 refine⟨_,rfl,p2,t,some k,rfl,SqL.of k3,(λw hw=>wok w (KN _ (KN _ hw))),(by omega),(λz H' m=>qe .deep (de true z) H' (s13.trans m)),(λz H' m=>qe .badcall (de false z) H' (s13.trans m)),λdue pr H4 vr wn s4 k4 awr mw md ndr frr=>?_⟩;rcases lo with⟨b2,h2,e⟩|⟨xs,M,d,P,lo⟩
 .rw[due]at h2;cases h2
 have rpr:Rep K H4 (.lst xs) (.ref pr):=by
  rw[<-P.par,<-md];exact yV k4 awr (by rw[mw];omega)
 have s14:=s13.trans s4;have R4:=R.ext s14;have pe:∀j,rfM S k d xs=j->j≠0->x=some (vE j):=λj e n=>by
  rcases lo with⟨_,h⟩|⟨h,_⟩
  .rw[<-e];exact h
  .exact absurd (e.symm.trans h) n
 have rS:Rep K H4 (.lst (S.map shD)) (.ref o.sa):=lG (SqL.of R4.h2) (by rw[KA];omega) (R4.hs.mono cR);refine⟨.ref o.sa,.ref pr,n,k,d,S,xs,M,rfl,(yG hn).1,nc,P.dd,(by omega),rS,sok,P.mok,rpr,P.nd,P.len,(λe H' m=>qe _ (pe 1 e (by decide)) H' (s14.trans m)),(λe H' m=>qe _ (pe 2 e (by decide)) H' (s14.trans m)),(λe H' m=>qe _ (pe 3 e (by decide)) H' (s14.trans m)),λe pf pc rf H5 vc l s5 kpf kpc cc nn frf nrf krf=>?_⟩;rcases lo with⟨n0,_⟩|⟨_,xn,lf,rfl⟩
 .exact absurd e n0
 have R5:=R4.ext s5;have vcl:=cc.rep.len;have pl:=P.len;refine⟨_,_,_,rfl,rfl,R5.h2,aF (by omega),?_⟩;refine q xn _ (svs++[.ref pf]) (R5.short ?_);have nos:∀{b:Addr},H4 b=none->b∉o.os r:=λhb z=>R4.nn _ z hb;refine r6 (R5.sqt (SqT.of kpf)) (by simp) (aB.cons (lF _) (aB.cons (rZ _) (aB.cons (lG (SqL.of (cT (nos (nn.new pc KO)) kpc)) (by omega) (wB R5 lf cc.rep)) (aB.cons (lG (SqL.of (cT (nos frf) krf)) (by rw[KA];unfold cL rwL;rw[KA,LQ];omega) (wm _)) (aB.cons (rZ _) aB.nil)))))
inductive o8(K:KC)(C:Addr)(cls:Er->Addr)(vs:List V)(H:Hp)(Q:VK)(E:XK):Prop
 |mk(r la:Addr)(H0:Hp)(s:Rs)(S:List Sh)(o:Ro)(kvs:List (Key×V))(tv svs:List V)(ts:List (List Nat))(x:Option Er)(ws:List (List Nat))(_:vs=[.ref r,.ref la])(_:RdB C K H0 H r s S o kvs tv svs)(_:jE S)(_:SqL K H la ((ts.map tx).map V.str))(_:ts.length<=130)(_:∀w∈ts,WOk w)(_:Wo S [] ts x ws)(_:tv.length<=200)(_:tgS s.things<=500)(_:∀e,x=some e->∀H',ar H H'->E (.ref (cls e)) none H')(_:x=none->∀H' o' tv',RdB C K H0 H' r (jB s (.par (ws.map wkL))) S o' kvs tv' svs->Q .non H')
theorem jL:aE ["self","words","read"] ["self","words"] (av (aH 49 5)):=by walk_at "c"
theorem o9(T:Txt P w K mg a):aO P w K mg base (CXe P w) 73 a.gE a.fW ["self","words"] (o8 K a.bJ (lV a)):=by
 exists T.gB.fn.okE,jL
 obtain⟨r,la,H0,s,S,o,kvs,tv,svs,ts,x,ws,rfl,R,sok,hl,tl,wok,wo,tvl,sn,qe,q⟩:=h
 exists (ae (ay (i:=2) jL.nd rfl (K1 rfl) (dk bI T.bq T.dJ (gv T) (hM hr) (pv 0) (aa (pv 1) (aa (bx ac) ac))))
   (ap (aW (kE (bi (pv 0) rfl) (λ_=>rfl)) (ap (bf (dg K4 M3 M4 mH (aC aY (aC bb (bi (pv 0) rfl) (EZ BV ai) (λ_ _=>rfl)) ai (λ_ _=>rfl)) (aa (pv 2) ac)))) (ae (bf (dk ky T.bq T.dI (gu T) (hM hr) (pv 0) (aa (bx (aa ak (aa (pv 2) ac))) ac)))
   (ap (c4 (pv 0) io rfl))))))
 refine⟨_,rfl,_,_,_,rfl,R.h1,je (by decide),_,rfl,bj (by simp),λp1 hp1=>?_⟩;have s1:=am hp1 (.tup []);refine⟨r,la,p1,H0,s,S,o,kvs,tv,svs,ts,[],x,ws,rfl,R.ext s1,sok,s1.seq hl,SqT.of ah,tl,wok,wo,(λe he H' m=>qe e he H' (s1.trans m)),λxn p2 H2 us hp2 s2 k2 al=>?_⟩;dsimp only[bN];have s12:=s1.trans s2;have R2:=R.ext s12;have hp2':=s1.free hp2;have alH:du H2 us (ws.map wkL):=du.mono cR al;have wl:ws.length<=400:=by cases wo with|good _ _ _ l=>exact l|_=>exact Ls _
 have lw:=al.len;rw[KA]at lw;refine⟨_,rfl,_,_,_,_,_,rfl,R2.h1,T.bq.cl,T.c7,zB,_,rfl,?_⟩;by_cases g:s.g=true
 .rw[g];left;obtain⟨vi,a,wvs,ini,ws0,e1,e2,e3,e4,e5,key⟩:=R2.more g;have hw:=FT (ini:=ini) (ws:=ws0);rw[<-e4]at hw;refine⟨_,rfl,_,_,_,_,_,rfl,R2.h1,T.bq.cl,T.eF,qI,_,rfl,_,_,_,_,rfl,rfl,SqL.of R2.h4,(by rw[e1];exact FG _ _),_,_,_,_,rfl,rfl,SqT.of e2,rfl,.inl ⟨rfl,_,SqL.of e3⟩,_,rfl,_,_,_,_,rfl,rfl,e3,k2,Md (aF (by omega)),?_⟩;refine q xn _ o tv ?_;rw[show jB s (.par (ws.map wkL))={ s with things:=b9 (ws.map wkL) s.things }from by unfold jB;exact if_pos g];exact key us (ws.map wkL) (nX R2.nt alH)
 .rw[Nn]at g;rw[g];right;refine⟨_,rfl,_,_,_,rfl,R2.h1,je (by decide),_,rfl,le2,λp3 hp3=>?_⟩
  exists hp3,H3,s3,k3
  refine⟨r,H0,s,S,o,kvs,tv,svs,.ref p3,rfl,R2.ext s3,tvl,?_⟩;refine⟨_,rfl,_,_,_,_,rfl,ah,T.bq.cl,T.c7,va,?_⟩;rw[qJ];refine q xn _ { o with la:=p2 } (tv++[.ref p3]) ?_;rw[show jB s (.par (ws.map wkL))={ s with things:=s.things++[.par (ws.map wkL)],g:=true }from by unfold jB;exact if_neg (by rw[g];decide)];exact R.par (s12.trans s3) k3 hp2' (s3 _ _ k2) (du.mono s3 alH)

inductive RwO(S:List Sh)(s:Rs):List (List Nat)->Option Er->Rs->List Sh->Prop
 |empty:RwO S s [] none { s with g:=false } S
 |let_ {ts:List (List Nat)} {x:Option Er} {S':List Sh} (h:fC S ts x S'):RwO S s (lU::ts) x s S'
 |foot {ts:List (List Nat)} {x:Option Er} {ft:List (Str×List Wk)} (h:FtO S s.feet ts x ft):RwO S s (jC::ts) x { s with feet:=ft } S
 |alone {w:List Nat} {ts:List (List Nat)} {x:Option Er} {s':Rs} (hw:w∈[iD,j7,jD]) (h:AlO w ts s x s'):RwO S s (w::ts) x s' S
 |headE {k:Nat} {ts:List (List Nat)} {e:Er} {ws:List (List Nat)} (hk:k<3) (h:Wo S [.foot] ts (some e) ws):RwO S s (KB (k+1) 61::ts) (some e) s S
 |head {k:Nat} {ts:List (List Nat)} {ws:List (List Nat)} (hk:k<3) (h:Wo S [.foot] ts none ws):RwO S s (KB (k+1) 61::ts) none { s with things:=s.things++[.head (k+1) (ws.map wkL)],g:=false } S
 |dot {u:List Nat} {ts:List (List Nat)} (h:46::u∉[lU,jC,iD,j7,jD]):RwO S s ((46::u)::ts) (some .badrow) s S
 |parE {c:Nat} {u:List Nat} {ts:List (List Nat)} {e:Er} {ws:List (List Nat)} (hc:c≠46) (nh:(c::u)∉[[61],[61,61],[61,61,61]]) (h:Wo S [] ((c::u)::ts) (some e) ws):RwO S s ((c::u)::ts) (some e) s S
 |par {c:Nat} {u:List Nat} {ts:List (List Nat)} {ws:List (List Nat)} (hc:c≠46) (nh:(c::u)∉[[61],[61,61],[61,61,61]]) (h:Wo S [] ((c::u)::ts) none ws):RwO S s ((c::u)::ts) none (jB s (.par (ws.map wkL))) S

inductive q5(K:KC)(C:Addr)(cls:Er->Addr)(vs:List V)(H:Hp)(Q:VK)(E:XK):Prop
 |mk(r la:Addr)(H0:Hp)(s:Rs)(S:List Sh)(o:Ro)(kvs:List (Key×V))(tv svs:List V)(ts:List (List Nat))(x:Option Er)(s':Rs)(S':List Sh)(_:vs=[.ref r,.ref la])(_:RdB C K H0 H r s S o kvs tv svs)(_:jE S)(_:SqL K H la ((ts.map tx).map V.str))(_:ts.length<=130)(_:∀w∈ts,WOk w)(_:RwO S s ts x s' S')(_:tv.length<=200)(_:tgS s.things<=500)(_:s.feet.length<=200)(_:∀e,x=some e->∀H',ar H H'->E (.ref (cls e)) none H')(_:x=none->∀H' o' kvs' tv' svs',RdB C K H0 H' r s' S' o' kvs' tv' svs'->Q .non H')
theorem kR:aE ["self","words","first"] ["self","words"] (av (aH 49 1)):=by walk_at "c"
theorem q8(T:Txt P w K mg a):aO P w K mg base (CXe P w) 74 a.iP a.ii ["self","words"] (q5 K a.bJ (lV a)):=by
 have gj:=T.gj;have gk:=T.gk;obtain⟨gj,k_ALONE⟩:=gj;obtain⟨gk,k_HEADS⟩:=gk
 exists T.iJ.fn.okE,kR
 obtain⟨r,la,H0,s,S,o,kvs,tv,svs,ts,x,s',S',rfl,R,sok,hl,tl,wok,ro,tvl,sn,fl,qe,q⟩:=h;have hu:=MJ (dW hr)
 exists (ae (aW (aA (D0 hu) (pv 1) (aK ac) (nomark _)) (ae (c4 (pv 0) io rfl)
   (ap Fm)) aX)
   (ae (ay (i:=2) kR.nd rfl (K1 rfl) (aC bb (pv 1) ai (λ_ _=>rfl)))
   (ap (aW (aA bQ (pv 2) ak (nomark _)) (ap (bf (dk bI T.bq T.iI (qZ T) (hM hr) (pv 0) (aa (pv 1) ac)))) (ap (aW (aA bQ (pv 2) ak (nomark _)) (ap (bf (dk bI T.bq T.gZ (qj T) (hM hr) (pv 0) (aa (pv 1) ac)))) (ap (aW (aA jk (pv 2) (bp (v:=.ref a.jo) rfl gj rfl) (by with_unfolding_all rfl)) (ap (bf (dk bI T.bq T.gz (o5 T) (hM hr) (pv 0) (aa (pv 1) ac)))) (ap (aW (aA jk (pv 2) (bp (v:=.ref a.jp) rfl gk rfl) (by with_unfolding_all rfl)) (ap (bf (dk ky T.bq T.dI (gu T) (hM hr) (pv 0) (aa (bx (aa ak (aa (aT gQ rfl T.cQ Lq (aa (pv 2) ac)) (aa (dk bI T.bq T.dJ (gv T) (hM hr) (pv 0) (aa (cY jX (pv 1) (dn ai) dM) (aa (bx (aa ak ac)) ac))) ac)))) ac)))) (ap (aW (aA bQ (aC jw (pv 2) ai (λ_ _=>rfl)) ak (nomark _)) (ap (b7 rfl cj T.kx rfl (aa (cK (aI bP (aI (dN (pv 2)) dh))) ac))) (ap (bf (dk bI T.bq T.gB (o9 T) (hM hr) (pv 0) (aa (pv 1) ac))))))))))))))))
 refine⟨_,rfl,bj (by simp),λp1 hp1=>?_⟩
 exists hp1,H1,s1,k1
 have R1:=R.ext s1;have hl1:=s1.seq hl;refine⟨_,_,_,rfl,rfl,hl1,SqL.of k1,_,rfl,?_⟩;have eA:∀w:List Nat,inV (.str (tx w)) [.str (pq ".page"),.str (pq ".odd"),.str (pq ".list")]=decide (w∈[iD,j7,jD]):=λw=>by
  rw[IT,JH,IU];exact yM [iD,j7,jD]
 have eH:∀w:List Nat,inV (.str (tx w)) [.str (pq "="),.str (pq "=="),.str (pq "===")]=decide (w∈[[61],[61,61],[61,61,61]]):=λw=>by
  rw[cH1,cH2,cH3];exact yM [[61],[61,61],[61,61,61]]
 have qe1:∀e,x=some e->∀H',ar H1 H'->E (.ref ((lV a) e)) none H':=λe he H' m=>qe e he H' (s1.trans m);clear qe;cases ro with
 |empty =>
  left;refine⟨_,rfl,_,_,_,_,rfl,R1.h1,T.bq.cl,T.c7,va,?_⟩;rw[qJ];exact q rfl _ _ _ _ _ R1.shut
 |@let_ ts x S' lo =>
  right;refine⟨_,rfl,_,_,_,_,rfl,rfl,hl1,a_ (j:=0) rfl,?_⟩
  exists 1
  rw[dw qL,decide_eq_true rfl];left;exact⟨_,rfl,_,_,_,rfl,R1.h1,je (by decide),_,rfl,r,la,H0,s,S,o,kvs,tv,svs,ts,_,_,rfl,R1,sok,hl1,(by simp only[KH]at tl;omega),(λw hw=>wok w (KN _ hw)),lo,qe1,λxn H' svs' R'=>q xn H' _ _ _ _ R'⟩
 |@foot ts x ft fo =>
  right;refine⟨_,rfl,_,_,_,_,rfl,rfl,hl1,a_ (j:=0) rfl,?_⟩
  exists 1
  rw[dw qL,decide_eq_false (by decide)];right
  exists 1
  rw[dw oP,decide_eq_true rfl];left;exact⟨_,rfl,_,_,_,rfl,R1.h1,je (by decide),_,rfl,r,la,H0,s,S,o,kvs,tv,svs,ts,_,_,rfl,R1,sok,hl1,(by simp only[KH]at tl;omega),(λw hw=>wok w (KN _ hw)),fo,fl,qe1,λxn H' kvs' R'=>q xn H' _ _ _ _ R'⟩
 |@alone w ts x s' hw al =>
  have hw':w=iD\/w=j7\/w=jD:=by simpa using hw
  right;refine⟨_,rfl,_,_,_,_,rfl,rfl,hl1,a_ (j:=0) rfl,?_⟩
  exists 1
  rw[dw qL,decide_eq_false (by rcases hw' with rfl|rfl|rfl<;>decide)]
  right
  exists 1
  rw[dw oP,decide_eq_false (by rcases hw' with rfl|rfl|rfl<;>decide)]
  right;refine⟨_,rfl,_,_,rfl,.inr (k_ALONE _),rfl,rfl,_,rfl,?_⟩;rw[eA,decide_eq_true hw];left;exact⟨_,rfl,_,_,_,rfl,R1.h1,je (by decide),_,rfl,r,la,H0,s,S,o,kvs,tv,svs,w,ts,_,_,rfl,R1,hl1,tvl,(wok w KO).len,(by obtain⟨_,_,z⟩:=wok w KO;exact z),al,(λe he=>qe1 e he H1 (ar.refl _)),λxn H' o' tv' R'=>q xn H' _ _ _ _ R'⟩
 |@headE k ts e ws hk wo =>
  right;refine⟨_,rfl,_,_,_,_,rfl,rfl,hl1,a_ (j:=0) rfl,?_⟩
  exists 1
  have kk:KB (k+1) 61∈[[61],[61,61],[61,61,61]]:=by
   rcases(show k=0\/k=1\/k=2 by omega)with rfl|rfl|rfl<;>decide
  rw[dw qL,decide_eq_false (λz=>by rw[z]at kk;exact absurd kk (by decide))];right
  exists 1
  rw[dw oP,decide_eq_false (λz=>by rw[z]at kk;exact absurd kk (by decide))];right;refine⟨_,rfl,_,_,rfl,.inr (k_ALONE _),rfl,rfl,_,rfl,?_⟩;rw[eA,decide_eq_false (λz=>by rcases(show k=0\/k=1\/k=2 by omega)with rfl|rfl|rfl<;>exact absurd z (by decide))]
  right;refine⟨_,rfl,_,_,rfl,.inr (k_HEADS _),rfl,rfl,_,rfl,?_⟩;rw[eH,decide_eq_true kk];left;refine⟨_,rfl,_,_,_,rfl,R1.h1,je (by decide),_,rfl,_,rfl,aF (by rw[Lx];omega),_,rfl,_,_,_,rfl,R1.h1,je (by decide),_,rfl,_,rfl,_,_,rfl,hl1,λp2 hp2=>?_⟩;have s2:=am hp2 (.lst (dQ (((KB (k+1) 61::ts).map tx).map V.str) (some 1) none));have k2:upd H1 p2 (.lst (dQ (((KB (k+1) 61::ts).map tx).map V.str) (some 1) none)) p2=some (.lst ((ts.map tx).map V.str)):=by
   rw[ah];have:=Tl.cut_from (((KB (k+1) 61::ts).map tx).map V.str) 1;exact congrArg (λl=>some (HO.lst l)) this
  generalize upd H1 p2 (.lst (dQ (((KB (k+1) 61::ts).map tx).map V.str) (some 1) none))=H2 at s2 k2⊢;refine⟨le1,λp3 hp3=>?_⟩;have s3:=am hp3 (.tup [kwV .foot]);have k3':upd H2 p3 (.tup [kwV .foot]) p3=some (.tup [kwV .foot]):=ah;have s23:=s2.trans s3;have tl':ts.length<=130:=by simp only[KH]at tl;omega
  exact⟨r,p2,p3,H0,s,S,o,kvs,tv,svs,ts,[.foot],_,_,rfl,R1.ext s23,sok,SqL.of (s3 _ _ k2),SqT.of k3',tl',(λw hw=>wok w (KN _ hw)),wo,(λe he H' m=>qe1 e he H' (s23.trans m)),λxn=>by cases xn⟩
 |@head k ts ws hk wo =>
  right;refine⟨_,rfl,_,_,_,_,rfl,rfl,hl1,a_ (j:=0) rfl,?_⟩
  exists 1
  have kk:KB (k+1) 61∈[[61],[61,61],[61,61,61]]:=by
   rcases(show k=0\/k=1\/k=2 by omega)with rfl|rfl|rfl<;>decide
  rw[dw qL,decide_eq_false (λz=>by rw[z]at kk;exact absurd kk (by decide))];right
  exists 1
  rw[dw oP,decide_eq_false (λz=>by rw[z]at kk;exact absurd kk (by decide))];right;refine⟨_,rfl,_,_,rfl,.inr (k_ALONE _),rfl,rfl,_,rfl,?_⟩;rw[eA,decide_eq_false (λz=>by rcases(show k=0\/k=1\/k=2 by omega)with rfl|rfl|rfl<;>exact absurd z (by decide))]
  right;refine⟨_,rfl,_,_,rfl,.inr (k_HEADS _),rfl,rfl,_,rfl,?_⟩;rw[eH,decide_eq_true kk];left;refine⟨_,rfl,_,_,_,rfl,R1.h1,je (by decide),_,rfl,_,rfl,aF (by rw[Lx];omega),_,rfl,_,_,_,rfl,R1.h1,je (by decide),_,rfl,_,rfl,_,_,rfl,hl1,λp2 hp2=>?_⟩;have s2:=am hp2 (.lst (dQ (((KB (k+1) 61::ts).map tx).map V.str) (some 1) none));have k2:upd H1 p2 (.lst (dQ (((KB (k+1) 61::ts).map tx).map V.str) (some 1) none)) p2=some (.lst ((ts.map tx).map V.str)):=by
   rw[ah];have:=Tl.cut_from (((KB (k+1) 61::ts).map tx).map V.str) 1;exact congrArg (λl=>some (HO.lst l)) this
  generalize upd H1 p2 (.lst (dQ (((KB (k+1) 61::ts).map tx).map V.str) (some 1) none))=H2 at s2 k2⊢;refine⟨le1,λp3 hp3=>?_⟩;have s3:=am hp3 (.tup [kwV .foot]);have k3':upd H2 p3 (.tup [kwV .foot]) p3=some (.tup [kwV .foot]):=ah;have s23:=s2.trans s3;have tl':ts.length<=130:=by simp only[KH]at tl;omega
  refine⟨r,p2,p3,H0,s,S,o,kvs,tv,svs,ts,[.foot],_,_,rfl,R1.ext s23,sok,SqL.of (s3 _ _ k2),SqT.of k3',tl',(λw hw=>wok w (KN _ hw)),wo,(λe he=>by cases he),λ_ p4 H4 us hp4 s4 k4 al=>?_⟩;have s14:=s23.trans s4;refine⟨le3,λp5 hp5=>?_⟩;have s5:=am hp5 (.tup [.str "head",.int (((KB (k+1) 61).length:Nat):Int),.ref p4]);have R5:=R1.ext (s14.trans s5);refine⟨r,H0,s,S,o,kvs,tv,svs,.ref p5,rfl,R5,tvl,q rfl _ _ _ _ _ (R5.thing (t:=.head (k+1) (ws.map wkL)) ?_)⟩;have n4:p4∉o.shut.os r:=λz=>R1.nn p4 (o.sub r p4 z) (s23.free hp4);have n5:p5∉o.shut.os r:=λz=>(R1.ext s14).nn p5 (o.sub r p5 z) hp5;refine⟨p5,p4,rfl,cT n5 (ah.trans (by rw[Lx])),us,cT n4 (s5 _ _ k4),nX (λb hb=>R5.nt b (o.sub r b hb)) (du.mono (cR.trans s5) al)⟩
 |@dot u ts nw =>
  have nw':∀w∈[lU,jC,iD,j7,jD],46::u≠w:=λw hw z=>nw (z▸hw);right;refine⟨_,rfl,_,_,_,_,rfl,rfl,hl1,a_ (j:=0) rfl,?_⟩
  exists 1
  rw[dw qL,decide_eq_false (nw' _ (by simp))];right
  exists 1
  rw[dw oP,decide_eq_false (nw' _ (by simp))];right;refine⟨_,rfl,_,_,rfl,.inr (k_ALONE _),rfl,rfl,_,rfl,?_⟩;rw[eA,decide_eq_false (λz=>nw (by simp only[Ll,Lj,or_false]at z⊢;rcases z with z|z|z<;>simp[z]))]
  right;refine⟨_,rfl,_,_,rfl,.inr (k_HEADS _),rfl,rfl,_,rfl,?_⟩;rw[eH,decide_eq_false (λz=>by simp at z)];right;obtain⟨_,ul,uc⟩:=wok _ KO;refine⟨_,rfl,_,_,_,rfl,rfl,aF (by simp only[KH]at ul;omega),rV _ _,rfl,_,rfl,?_⟩;rw[dw Ex,decide_eq_true rfl];left;exact⟨⟨trivial,⟨46::u,rfl,by omega,uc⟩,trivial⟩,λz=>⟨le1,qe1 .badrow rfl H1 (ar.refl _)⟩⟩
 |@parE c u ts e ws hc nh wo =>
  right;refine⟨_,rfl,_,_,_,_,rfl,rfl,hl1,a_ (j:=0) rfl,?_⟩
  exists 1
  rw[dw qL,decide_eq_false (λz=>hc (by injection z))];right
  exists 1
  rw[dw oP,decide_eq_false (λz=>hc (by injection z))];right;refine⟨_,rfl,_,_,rfl,.inr (k_ALONE _),rfl,rfl,_,rfl,?_⟩;rw[eA,decide_eq_false (λz=>by
   simp only[Ll,Lj,or_false]at z;rcases z with z|z|z<;>exact hc (by injection z))]
  right;refine⟨_,rfl,_,_,rfl,.inr (k_HEADS _),rfl,rfl,_,rfl,?_⟩;rw[eH,decide_eq_false nh];right;refine⟨_,rfl,_,_,_,rfl,rfl,aF (by have:=(wok _ KO).len;simp only[KH]at this;omega),rV _ _,rfl,_,rfl,?_⟩;rw[dw Ex,decide_eq_false (λz=>hc (by injection z))];right;exact⟨_,rfl,_,_,_,rfl,R1.h1,je (by decide),_,rfl,r,la,H0,s,S,o,kvs,tv,svs,_,_,_,rfl,R1,sok,hl1,tl,wok,wo,tvl,sn,qe1,λxn=>by cases xn⟩
 |@par c u ts ws hc nh wo =>
  right;refine⟨_,rfl,_,_,_,_,rfl,rfl,hl1,a_ (j:=0) rfl,?_⟩
  exists 1
  rw[dw qL,decide_eq_false (λz=>hc (by injection z))];right
  exists 1
  rw[dw oP,decide_eq_false (λz=>hc (by injection z))];right;refine⟨_,rfl,_,_,rfl,.inr (k_ALONE _),rfl,rfl,_,rfl,?_⟩;rw[eA,decide_eq_false (λz=>by
   simp only[Ll,Lj,or_false]at z;rcases z with z|z|z<;>exact hc (by injection z))]
  right;refine⟨_,rfl,_,_,rfl,.inr (k_HEADS _),rfl,rfl,_,rfl,?_⟩;rw[eH,decide_eq_false nh];right;refine⟨_,rfl,_,_,_,rfl,rfl,aF (by have:=(wok _ KO).len;simp only[KH]at this;omega),rV _ _,rfl,_,rfl,?_⟩;rw[dw Ex,decide_eq_false (λz=>hc (by injection z))];right;exact⟨_,rfl,_,_,_,rfl,R1.h1,je (by decide),_,rfl,r,la,H0,s,S,o,kvs,tv,svs,_,_,_,rfl,R1,sok,hl1,tl,wok,wo,tvl,sn,(λe he=>by cases he),λxn H' o' tv' R'=>q rfl H' _ _ _ _ R'⟩
inductive zE(vs:List V)(H:Hp)(Q:VK)(x_1:XK):Prop
 |mk(l:List Nat)(_:vs=[.str (tx l)])(_:l.length<=200000)(_:∀p H',H p=none->ar H H'->H' p=some (.lst (((aQ l).map tx).map V.str))->Q (.ref p) H')
theorem zF:aE ["row"] ["row"] (av (top 18)):=by walk_at "c"
theorem zG(T:Txt P w K mg a):aO P w K mg base CX0 1 a.pE a.nM ["row"] zE:=by
 exists T.pj.fn.ok,zF
 obtain⟨l,rfl,hl,q⟩:=h
 exists (ap (aM (i7 rfl (gq (caps:=[]) (js:=[]) (cap:=trivial)) (bU (dg M9 PySem.F.slot_str_split PySem.F.type_str_split Cg (pv 0) (aa ak ac))) (λ_ _ _ _=>(uT (aA xc (pv 0) ak (nomark _)))) (λ_ _ _ _=>(pv 0)))))
 have hs:=uB 32 l;refine⟨_,rfl,rfl,_,32,rfl,congrArg (λz=>[V.str z]) c32,?_,λp1 hp1=>?_⟩
 .rw[aZ];exact Cm (by omega)
 rw[DU];refine⟨p1,rfl,⟨_,SqL.of ah⟩,d7 (xs:=((bv 32 l).map tx).map V.str) (λi ys H2=>H2=upd H p1 (.lst (((bv 32 l).map tx).map V.str))/\ys=((neW ((bv 32 l).take i)).map tx).map V.str) ⟨rfl,rfl⟩ ?_ ?_ ?_ ?_⟩
 .rintro i ys H2 _ ⟨rfl,_⟩;exact SqL.of ah
 .rintro i ys H2 hi ⟨rfl,rfl⟩;rw[KA,KA];have h1:(neW ((bv 32 l).take i)).length<=((bv 32 l).take i).length:=List.length_filter_le _ _;rw[La]at h1;exact K6 (show _<1000000 by omega) (Cm (Kz _))
 .rintro i x ys H2 hx ⟨rfl,rfl⟩;obtain⟨w,hw,rfl⟩:=lT hx
  exists 1
  rw[Lb,hw];show if(!decide (V.str (tx w)=V.str (pq "")))=true then _ else _;rw[show(some w).toList=[w]from rfl,Es];refine cZ (λc=>?_) (λc=>?_)
  .refine⟨_,rfl,rfl,?_⟩;have hne:w≠[]:=by
    intro e;rw[e,ce]at c;rw[decide_eq_true rfl]at c;cases c
   rw[if_neg hne];simp
  .have hne:w=[]:=by
    by_cases e:V.str (tx w)=V.str (pq "")
    .rw[ce]at e;exact eN (V.str.inj e)
    .rw[decide_eq_false e]at c;exact absurd rfl c
   rw[if_pos hne];exact⟨rfl,rfl⟩
 .rintro ys H2 ⟨rfl,rfl⟩ p hp;have el:(((bv 32 l).map tx).map V.str).length=(bv 32 l).length:=by rw[KA,KA]
  rw[el,K9 (Kz _)];have g1:=am hp1 (.lst (((bv 32 l).map tx).map V.str));exact q p _ (g1.free hp) (g1.trans (am hp _)) ah

structure SmS(s:Rs):Prop where
 t:s.things.length<=200
 w:tgS s.things<=500
 f:s.feet.length<=200
inductive RsO:List Sh->Rs->List (List (List Nat))->Option Er->Rs->Prop
 |nil {S:List Sh} {s:Rs}:RsO S s [] none s
 |bad {S:List Sh} {s:Rs} {ts:List (List Nat)} {r:List (List (List Nat))} {e:Er} {s':Rs} {S':List Sh} {s2:Rs} (h:RwO S s ts (some e) s' S'):RsO S s (ts::r) (some e) s2
 |cons {S:List Sh} {s:Rs} {ts:List (List Nat)} {r:List (List (List Nat))} {x:Option Er} {s':Rs} {S':List Sh} {s2:Rs} (h:RwO S s ts none s' S') (ok:jE S') (b:SmS s') (t:RsO S' s' r x s2):RsO S s (ts::r) x s2
theorem RsO.end_{S:List Sh}{s:Rs}{x:Option Er}{s2:Rs}(h:RsO S s [] x s2):x=none/\s2=s:=by cases h;exact⟨rfl,rfl⟩
inductive RrI(C:Addr)(K:KC)(H:Hp)(r ra:Addr)(wss:List (List (List Nat)))(x:Option Er)(s2:Rs):Nat->St->Hp->Prop
 |mk{i:Nat}{G:Hp}(v1:Option V)(s:Rs)(S:List Sh)(o:Ro)(kvs:List (Key×V))(tv svs:List V)(R:RdB C K H G r s S o kvs tv svs)(ok:jE S)(b:SmS s)(t:RsO S s (wss.drop i) x s2):RrI C K H r ra wss x s2 i [rF ra,rF r,v1] G
theorem EK:jE []:=by
 constructor<;>first|(intros;simp_all;done)|exact⟨by simp,by simp,λ_ _ h=>by simp at h,by simp,by simp,by simp,by simp⟩|simp

inductive ze(K:KC)(cls:Er->Addr)(vs:List V)(H:Hp)(Q:VK)(E:XK):Prop
 |mk(ra:Addr)(rs:List (List Nat))(x:Option Er)(s2:Rs)(_:vs=[.ref ra])(_:SqL K H ra ((rs.map tx).map V.str))(_:∀r∈rs,r.length<=20000/\(aQ r).length<=130/\∀w∈aQ r,WOk w)(_:RsO [] rs0 (rs.map aQ) x s2)(_:∀e,x=some e->∀H',ar H H'->E (.ref (cls e)) none H')(_:x=none->∀p H' ta fa vs kvs,H p=none->ar H H'->H' p=some (.tup [.ref ta,.ref fa])->H ta=none->H fa=none->H' ta=some (.lst vs)->H' fa=some (.dK kvs)->jd H' vs s2.things->FtA H' kvs s2.feet->Q (.ref p) H')
theorem lX:aE ["rows","reader","row"] ["rows"] (av (top 48)):=by walk_at "c"
theorem zf(T:Txt P w K mg a):aO P w K mg base (CXe P w) 75 a.nH a.mB ["rows"] (ze K (lV a)):=by
 exists T.nu.fn.okE,lX
 obtain⟨ra,rs,x,s2,rfl,hr_,rok,ro,qe,q⟩:=h
 exists (ae (ay (i:=1) lX.nd rfl (K1 rfl) (FO ky T.bq T.kW (vx T) (hM hr) rfl ))
   (ae (dF Mb rfl (bU (pv 0)) (bw (i:=2) lX.nd rfl (K1 rfl)) (ap (bf (dk bI T.bq T.iJ (q8 T) (hM hr) (pv 1) (aa (aD T.pj (zG T) (hM hr) rfl (aa (pv 2) ac)) ac)))))
   (ap (aM (bx (aa (bi (pv 1) rfl) (aa (bi (pv 1) rfl) ac)))))))
 intro rx dx hx hdx ndx;have sd:=am hdx (.own rx);have hx1:upd H dx (.own rx) rx=none:=by rw[aq (Lp ndx)];exact hx
 have s1:=sd.trans (am hx1 (.ins a.bJ dx []));have k1:upd (upd H dx (.own rx)) rx (.ins a.bJ dx []) rx=some (.ins a.bJ dx []):=ah;refine⟨rx,dx,rfl,k1,λH1 r1 f1=>?_⟩;obtain⟨o0,R0⟩:=r1 H s1 hx;refine⟨rfl,?_⟩;refine⟨_,rfl,ra,rfl,⟨_,R0.old.seq hr_⟩,dP (K:=K) (a:=ra) (xs:=(rs.map tx).map V.str) (RrI a.bJ K H rx ra (rs.map aQ) x s2) ⟨none,rs0,[],o0,[],[],[],R0,EK,⟨by decide,by decide,by decide⟩,ro⟩ (λi σ G _ g=>by obtain⟨_,_,_,_,_,_,_,R,_⟩:=g;exact R.old.seq hr_) ?_ ?_⟩
 .rintro i y σ G hy ⟨v1,s,S,o,kvs,tv,svs,R,ok,b,t⟩;obtain⟨l,hl,rfl⟩:=lT hy;obtain⟨ll,wl,wok⟩:=rok l (KL hl);have ed:(rs.map aQ).drop i=aQ l::(rs.map aQ).drop (i+1):=by
   have hm:(rs.map aQ)[i]?=some (aQ l):=by rw[KS,hl];rfl
   obtain⟨hi,e⟩:=List.getElem?_eq_some_iff.mp hm;rw[Mc hi,e]
  rw[ed]at t;have tvl:tv.length<=200:=by rw[R.cl.len];exact b.t
  refine⟨_,rfl,_,_,_,rfl,R.h1,je (by decide),_,rfl,l,rfl,(by omega),λp H2 hp m k2=>?_⟩;have R2:=R.ext m;generalize aQ l=ts at *;generalize hrr:(rs.map aQ).drop (i+1)=rr at t;cases t with
  |bad h=>exact⟨rx,p,H,s,S,o,kvs,tv,svs,ts,_,_,_,rfl,R2,ok,SqL.of k2,wl,wok,h,tvl,b.w,b.f,(λe he H' m2=>qe e he H' (R2.old.trans m2)),λz=>by cases z⟩
  |@cons _ _ _ _ _ s' S' _ h ok' b' t'=>exact⟨rx,p,H,s,S,o,kvs,tv,svs,ts,none,s',S',rfl,R2,ok,SqL.of k2,wl,wok,h,tvl,b.w,b.f,(λe he=>by cases he),λ_ H3 o' kvs' tv' svs' R3=>⟨_,s',S',o',kvs',tv',svs',R3,ok',b',by rw[hrr];exact t'⟩⟩
 rintro σ G ⟨v1,s,S,o,kvs,tv,svs,R,ok,b,t⟩;rw[KA,KA,NO (by rw[KA];exact Kz _)]at t;obtain⟨xn,rfl⟩:=t.end_;refine⟨_,rfl,_,_,_,_,_,rfl,R.h1,T.bq.cl,T.eF,qI,_,rfl,_,_,_,_,_,rfl,R.h1,T.bq.cl,T.fH,u_,le2,λp1 hp1=>?_⟩;have s5:=am hp1 (.tup [.ref o.ta,.ref o.fa]);exact q xn p1 _ o.ta o.fa tv kvs (R.old.free hp1) (R.old.trans s5) ah (R.nw _ (by simp)) (R.nw _ (by simp)) (s5 _ _ R.h4) (s5 _ _ R.h3) (jd.mono (cR.trans s5) R.cl) (R.h6.mono (cR.trans s5))

theorem HJ{ls:List Int}{i:Nat}(hl:ls.length<=63):(ctr (ls.take i)).1<=63/\(ctr (ls.take i)).2.1<=63/\(ctr (ls.take i)).2.2<=63:=by
 obtain⟨a,b,c⟩:=CW (ls.take i);have:=List.length_take_le i ls;have h2:=List.length_take_le' i ls;omega
theorem F_{c:Nat×Nat×Nat}{l:Int}(h1:c.1<=63)(h2:c.2.1<=63)(h3:c.2.2<=63):(vj c l).length<=20/\∀d∈vj c l,d<127:=by
 have f1:=xq h1;have f2:=xq h2;have f3:=xq h3;have fi:∀n d,d∈eh n->d<127:=λn d hd=>by have:=FE n d hd;omega
 unfold vj;by_cases e1:l=1
 .rw[if_pos e1];exact⟨by omega,λd hd=>fi _ d hd⟩
 rw[if_neg e1];by_cases e2:l=2
 .rw[if_pos e2];refine⟨by simp only[KI,KH,L_];omega,λd hd=>?_⟩;rcases List.mem_append.mp hd with hd|hd
  .rcases List.mem_append.mp hd with hd|hd
   .exact fi _ d hd
   .rw[List.mem_singleton.mp hd];decide
  .exact fi _ d hd
 rw[if_neg e2];refine⟨by simp only[KI,KH,L_];omega,λd hd=>?_⟩;rcases List.mem_append.mp hd with hd|hd
 .rcases List.mem_append.mp hd with hd|hd
  .exact fi _ d hd
  .rw[List.mem_singleton.mp hd];decide
 .rcases List.mem_append.mp hd with hd|hd
  .rcases List.mem_append.mp hd with hd|hd
   .exact fi _ d hd
   .rw[List.mem_singleton.mp hd];decide
  .exact fi _ d hd
theorem dY{n:Nat}{ws:List Wk}:∀{ts:List Tg},(n,ws)∈aV ts->Tg.head n ws∈ts
 |[],h=>by cases h
 |t::r,h=>by
  cases t with
  |head m us =>
   rcases List.mem_cons.mp h with e|h
   .cases e;exact KO
   .exact KN _ (dY h)
  |page=>exact KN _ (dY (ts:=r) h)
  |odd=>exact KN _ (dY (ts:=r) h)
  |lst=>exact KN _ (dY (ts:=r) h)
  |par us=>exact KN _ (dY (ts:=r) h)
theorem mO:∀(a b:List Tg),aV (a++b)=aV a++aV b
 |[],b=>rfl
 |t::r,b=>by cases t<;>simp[aV,mO r b]
theorem wC(t:Tg):(aV [t]).length=n_ t:=by cases t<;>rfl
structure TxG(things:List Tg)(feet:List (Str×List Wk)):Prop where
 tg:∀t∈things,TgG t
 ft:FtG feet
 hs:(aV things).length<=63
 len:things.length<=200
section
variable {things:List Tg}{feet:List (Str×List Wk)}
theorem TxG.sc(h:TxG things feet):mY (jG (aV things) feet):=by
 have ll:(fR (aV things)).length<=63:=by unfold fR;rw[KA];exact h.hs
 have nn:∀l∈gU (fR (aV things)) (fR (aV things)).length,l.length<=20/\∀d∈l,d<127:=λl hl=>by
  unfold gU at hl;obtain⟨k,_,rfl⟩:=List.mem_map.mp hl;obtain⟨a,b,c⟩:=HJ (i:=k+1) ll;exact F_ a b c
 refine⟨?_,?_,?_,h.ft.1,?_,?_,?_⟩
 .show(M1 tx _).length<=200;rw[KA,oS];omega
 .show(M1 _ _).length=(M1 tx _).length;rw[KA,KA,oS];unfold fR;rw[KA]
 .intro t ht;obtain⟨⟨n,ws⟩,hm,rfl⟩:=List.mem_map.mp ht;obtain⟨_,_,h3,h4⟩:=h.tg _ (dY hm);exact⟨h3,λw hw=>(h4 w hw).1⟩
 .intro p hp;obtain⟨h1,h2⟩:=h.ft.2 p hp;exact⟨h1,λw hw=>⟨(h2 w hw).1.1,(h2 w hw).2⟩⟩
 .intro n hn;obtain⟨l,hl,rfl⟩:=List.mem_map.mp hn;exact⟨l,rfl,by have:=(nn l hl).1;omega⟩
 .intro l hl;obtain⟨l',hl',e⟩:=List.mem_map.mp hl;rw[<-eN e];exact(nn l' hl').2
theorem TxG.fo(h:TxG things feet):yB (jG (aV things) feet):=⟨λp hp=>by
 obtain⟨h1,h2⟩:=h.ft.2 p hp;exact⟨h1,λw hw=>(h2 w hw).1.run.ws (h2 w hw).2.1 (h2 w hw).2.2⟩⟩
theorem TxG.st(h:TxG things feet):∀t∈(jG (aV things) feet).titles,∀w∈t,RdW w:=λt ht=>by
 obtain⟨⟨n,ws⟩,hm,rfl⟩:=List.mem_map.mp ht;exact(h.tg _ (dY hm)).2.2.2
theorem TxG.nl(h:TxG things feet):(jG (aV things) feet).nums.length=(aV things).length:=by
 show(M1 tx _).length=_;rw[KA,oS];unfold fR;rw[KA]
theorem TxG.lv(h:TxG things feet):Ez (fR (aV things)):=λl hl=>by
 unfold fR at hl;obtain⟨⟨n,ws⟩,hm,rfl⟩:=List.mem_map.mp hl;obtain⟨h1,h2,_⟩:=h.tg _ (dY hm);dsimp only;omega
end
theorem Bt{c:Sc}{σ:Ss}{t:Tg}{r:List Tg}:i9 c σ (t::r)=(match iA c σ t with|.error x=>.error x|.ok s'=>i9 c s' r):=rfl

def NfT:Tg->Prop
 |.head _ ws=>∀w∈ws,w.1≠.foot
 |.par ws=>∀w∈ws,w.1≠.foot
 |.lst=>False
 |_=>True

inductive zg(K:KC)(cls:Er->Addr)(vs:List V)(H:Hp)(Q:VK)(E:XK):Prop
 |mk(ra:Addr)(fv:V)(rs:List (List Nat))(x:Option Er)(s2:Rs)(_:vs=[.ref ra,fv])(_:SqL K H ra ((rs.map tx).map V.str))(_:∀r∈rs,r.length<=20000/\(aQ r).length<=130/\∀w∈aQ r,WOk w)(_:RsO [] rs0 (rs.map aQ) x s2)(_:x=none->TxG s2.things s2.feet/\(∀t∈s2.things,NfT t)/\∃σ,gT (jG (aV s2.things) s2.feet) s2.things=.ok σ/\∀t∈σ.ws,t.w.1=.plain/\t.foot=[])(_:∀e,x=some e->∀H',ar H H'->E (.ref (cls e)) none H')(_:x=none->∀p H',ar H H'->Q (.ref p) H')
theorem gY:aE ["rows","form","read","things","setter","thing"] ["rows","form"] (av (top 54)):=by walk_at "c"
theorem zh(T:Txt P w K mg a):aO P w K mg base (CXe P w) 76 a.nI a.mC ["rows","form"] (zg K (lV a)):=by
 exists T.nv.fn.okE,gY
 obtain⟨ra,fv,rs,x,s2,rfl,hr_,rok,ro,good,qe0,q0⟩:=h
 exists (ae (ay (i:=2) gY.nd rfl (K1 rfl) (gR bI T.nu (zf T) (hM hr) rfl (aa (pv 0) ac)))
   (ae (ay (i:=3) gY.nd rfl (K1 rfl) (aC aY (pv 2) ai (λ_ _=>rfl)))
   (ae (ay (i:=4) gY.nd rfl (K1 rfl) (Hq ky T.aG T.kX (vp T) (hM hr) rfl (aa (i7 rfl (gq (caps:=[]) (js:=[]) (cap:=trivial)) (bU (pv 3)) (λ_ _ _ _=>(uT (aA bQ (aC (r:=qr K) aY (pv 0) ai (λ_ _=>rfl)) ak (nomark _)))) (λ_ _ _ _=>(pv 0))) (aa (aC aY (pv 2) ai (λ_ _=>rfl)) ac))))
   (ae (dF Mb rfl (bU (pv 3)) (bw (i:=5) gY.nd rfl (K1 rfl)) (ap (bf (dk bI T.aG T.hJ (pY T) (hM hr) (pv 4) (aa (pv 5) ac)))))
   (ae (bf (yu bI T.aG T.fT (om T) (hM hr) (pv 4) ))
   (ap (aM (bx (aa (bx (aa (pv 1) (aa (yu ky T.aG T.gC (oZ T) (hM hr) (pv 4) ) ac))) (aa (bi (pv 4) rfl) (aa (bi (pv 4) rfl) ac)))))))))))
 refine⟨_,rfl,ra,rs,x,s2,rfl,hr_,rok,ro,qe0,λxn p1 H1 ta fa tv kvs hp1 s1 k1 nta nfa kta kfa tgs ft=>?_⟩;dsimp only[bN];obtain⟨tx_,nfT,σs,hok,pls⟩:=good xn;clear good;generalize s2.things=things at *;generalize s2.feet=feet at *;have qe:∀e,gT (jG (aV things) feet) things=.error e->∀H',ar H H'->E (.ref (tD a.d_ a.eB a.cG a.eC e)) none H':=λe he=>by rw[hok]at he;cases he
 have lt:=tgs.len;refine⟨_,rfl,_,_,_,_,rfl,rfl,SqT.of k1,rfl,?_⟩;refine⟨_,rfl,ta,rfl,⟨_,SqL.of kta⟩,d7 (K:=K) (a:=ta) (xs:=tv) (λi ys G'=>H1=G'/\ys.length<=i/\cS (HtA H1) ys (aV (things.take i))) ⟨rfl,Kz _,trivial⟩ (λi ys G' _ z=>by rw[<-z.1];exact SqL.of kta) ?_ ?_ ?_⟩
 .rintro i ys G' hi ⟨_,z,_⟩;exact aF (by have:=tx_.len;omega)
 .rintro i y ys G' hy ⟨rfl,z,al⟩;obtain⟨t,ht,htg⟩:=tgs.getL hy;have en:aV (things.take (i+1))=aV (things.take i)++aV [t]:=by rw[cP ht,mO]
  cases t with
  |head n ws =>
   obtain⟨b,l,rfl,hb,hl⟩:=htg;refine⟨_,rfl,_,_,_,_,rfl,rfl,SqT.of hb,rfl,rfl,_,rfl,?_⟩;rw[decide_eq_true rfl];left;refine⟨_,rfl,rfl,by rw[KI];simp only[KH,L_];omega,?_⟩;rw[en];exact al.snoc ⟨b,l,rfl,hb,hl⟩
  |page =>
   obtain⟨b,rfl,hb⟩:=htg;refine⟨_,rfl,_,_,_,_,rfl,rfl,SqT.of hb,rfl,rfl,_,rfl,?_⟩;refine iF (λz=>absurd (V.str.inj z) (by decide)) ?_;refine⟨rfl,by omega,?_⟩;rw[en];simpa[aV]using al
  |odd =>
   obtain⟨b,rfl,hb⟩:=htg;refine⟨_,rfl,_,_,_,_,rfl,rfl,SqT.of hb,rfl,rfl,_,rfl,?_⟩;refine iF (λz=>absurd (V.str.inj z) (by decide)) ?_;refine⟨rfl,by omega,?_⟩;rw[en];simpa[aV]using al
  |lst=>exact(nfT _ (KL ht)).elim
  |par ws =>
   obtain⟨b,l,rfl,hb,hl⟩:=htg;refine⟨_,rfl,_,_,_,_,rfl,rfl,SqT.of hb,rfl,rfl,_,rfl,?_⟩;refine iF (λz=>absurd (V.str.inj z) (by decide)) ?_;refine⟨rfl,by omega,?_⟩;rw[en];simpa[aV]using al
 rintro hv G' ⟨rfl,z,al⟩ hl hhl;rw[lt,LH]at al
 exists hhl,H2,s2,k2
 have al2:cS (HtA H2) hv (aV things):=al.imp λv h ⟨b,l,z1,z2,z3⟩=>⟨b,l,z1,s2 _ _ z2,z3.mono s2⟩;have k1':=s2 _ _ k1;have kfa':=s2 _ _ kfa;have kta':=s2 _ _ kta;have tgs2:=jd.mono s2 tgs;have ft2:=ft.mono s2;have s12:=s1.trans s2;refine⟨_,rfl,_,_,_,_,rfl,rfl,SqT.of k1',rfl,λx dx hx hdx ndx=>?_⟩;have sd:=am hdx (.own x);have hx1:upd H2 dx (.own x) x=none:=by rw[aq (Lp ndx)];exact hx
 have s3:=sd.trans (am hx1 (.ins a.aL dx []));have k3:upd (upd H2 dx (.own x)) x (.ins a.aL dx []) x=some (.ins a.aL dx []):=ah;have nx:H x=none:=s12.free hx;generalize upd (upd H2 dx (.own x)) x (.ins a.aL dx [])=H3 at s3 k3⊢;have al3:cS (HtA H3) hv (aV things):=al2.imp λv h ⟨b,l,z1,z2,z3⟩=>⟨b,l,z1,s3 _ _ z2,z3.mono s3⟩;refine⟨x,dx,hl,fa,hv,aV things,kvs,feet,rfl,k3,s3 _ _ k2,al3,s3 _ _ kfa',ft2.mono s3,tx_.lv,tx_.hs,λH4 A ax f4 S4 fr4=>?_⟩;refine⟨rfl,?_⟩;subst ax;dsimp only[bN];have sG:ar H2 (hid A.os H4):=λb u h=>by
  have h3:=s3 _ _ h;refine cT (λz=>?_) (f4 b u (λz=>by rw[z,hx]at h;cases h) h3);simp only[Sad.os,Ll,Lj,or_false]at z;rcases z with z|z|z|z
  .rw[z,hx]at h;cases h
  .rw[z,fr4.1]at h3;cases h3
  .rw[z,fr4.2.1]at h3;cases h3
  .rw[z,fr4.2.2]at h3;cases h3
 generalize hid A.os H4=G at sG S4;have sHG:=s12.trans sG;have so:=tx_.sc;have fo:=tx_.fo;have st:=tx_.st;have nl:=tx_.nl;have lt3:=tx_.len;have hs3:=tx_.hs;have ktG:=sG _ _ kta';have tgG:=jd.mono sG tgs2;have nft:∀t∈(jG (aV things) feet).titles,∀w∈t,w.1≠.foot:=λt ht=>by
  obtain⟨p,hp,rfl⟩:=List.mem_map.mp ht;exact nfT _ (dY hp)
 generalize jG (aV things) feet=c at S4 so fo st nl qe hok nft;have setE:∀e,i9 c ss0 things=.error e->gT c things=.error e:=λe h=>by unfold gT;rw[h]
 refine⟨_,rfl,ta,rfl,⟨_,SqL.of (S4.old _ _ ktG)⟩,dP (K:=K) (a:=ta) (xs:=tv) (λi σ' Hi=>∃(v5:Option V)(σ1:Ss),σ'=[rF ra,some fv,rF p1,rF ta,rF A.x,v5]/\StA a.aL G Hi A c σ1/\i9 c ss0 things=i9 c σ1 (things.drop i)/\vf c σ1/\σ1.ws.length<=400/\σ1.fs<=σ1.ws.length/\σ1.ms.length<=600*i/\σ1.hs.length=(aV (things.take i)).length) ⟨none,ss0,rfl,S4,rfl,⟨(by intro t ht;cases ht),(by intro t ht;cases ht)⟩,by decide,Kz _,Kz _,rfl⟩ (λi σ' Hi _ g=>by obtain⟨_,_,_,S,_⟩:=g;exact SqL.of (S.old _ _ ktG)) ?_ ?_⟩
 .rintro i y σ' Hi hy ⟨v5,σ1,rfl,S5,er,ss,wl,fl,ml,hl5⟩;obtain⟨t,ht,htg⟩:=tgG.getL hy;have hi:=(List.getElem?_eq_some_iff.mp ht).1;have ed:things.drop i=t::things.drop (i+1):=by
   obtain⟨hi,e⟩:=List.getElem?_eq_some_iff.mp ht;rw[Mc hi,e]
  have tg0:=tx_.tg t (KL ht);have en:aV (things.take (i+1))=aV (things.take i)++aV [t]:=by rw[cP ht,mO]
  have eall:(aV things).length=(aV (things.take i)).length+n_ t+(aV (things.drop (i+1))).length:=by
   have:=congrArg (λl=>(aV l).length) (NU (i+1) things)
   try dsimp only at this
   rw[mO,KI,en,KI,wC]at this;omega
  have hh:n_ t=1->σ1.hs.length<c.nums.length:=λz=>by rw[nl,hl5];omega
  rw[ed,Bt]at er;refine⟨_,rfl,_,_,_,rfl,S5.ins,mX (by decide),_,rfl,A,G,c,σ1,_,t,rfl,S5,so,htg,?_,(by rw[hl5];omega),⟨wl,fl,by omega⟩,λe he H' s'=>qe e (setE e (by rw[er,he])) H' (sHG.trans s'),λσ2 H5 he S6=>?_⟩
  .cases t with
   |head n ws=>exact⟨hh rfl,nft⟩
   |par ws=>exact⟨λw hw=>⟨(tg0.2 w hw).1,nfT _ (KL ht) w hw⟩,tg0.1⟩
   |page=>trivial
   |odd=>trivial
   |lst=>exact nfT _ (KL ht)
  .obtain⟨b,bh⟩:=CM so fo st he tg0 hh;rw[he]at er;refine⟨_,σ2,rfl,S6,er,b.ok ss,b.ws wl,b.fs fl,by have:=b.ms;omega,?_⟩;rw[bh,en,KI,wC,hl5]
 rintro σ' H5 ⟨v5,σ1,rfl,S5,er,ss,wl,fl,ml,hl5⟩;rw[lt]at er hl5;rw[List.drop_length]at er;rw[LH]at hl5;have er:i9 c ss0 things=.ok σ1:=er;refine⟨_,rfl,_,_,_,rfl,S5.ins,mX (by decide),A,G,c,σ1,rfl,S5,so,ss,wl,λe he H' s'=>qe e (by unfold gT;rw[er];show(match fj c σ1 with|some e=>_|none=>_)=_;rw[he]) H' (sHG.trans s'),λck H6 s6 S6=>?_⟩
 have fin:gT c things=.ok σ1:=by unfold gT;rw[er];show(match fj c σ1 with|some e=>_|none=>_)=_;rw[ck]
 obtain rfl:=Except.ok.inj (hok.symm.trans fin);refine⟨_,rfl,_,rfl,_,_,_,rfl,S6.ins,mX (by decide),A,G,c,σs,rfl,S6,pls,wl,λtp H7 s7=>?_⟩;refine⟨le2,λq1 hq1=>?_⟩
 exists hq1,H8,s8,kZ
 have S8:=(S6.same s7).same s8;refine⟨_,rfl,_,_,_,_,_,rfl,S8.ins,T.aG.cl,T.dm,lS,_,rfl,_,_,_,_,_,rfl,S8.ins,T.aG.cl,T.eU,tu,le3,λp9 hp9=>?_⟩;exact q0 xn p9 _ ((sHG.trans S8.old).trans (am hp9 _))

def Dk:Option Er->List Bool
 |none=>[]
 |some e=>[decide (e.i=0),decide (e.i=1),decide (e.i=2),decide (e.i=3),decide (e.i=4),decide (e.i=5),decide (e.i=6),true,false]

inductive zi(K:KC)(vs:List V)(H:Hp)(Q:VK)(x_1:XK):Prop
 |mk(ra:Addr)(fv:V)(rs:List (List Nat))(x:Option Er)(s2:Rs)(_:vs=[.ref ra,fv])(_:SqL K H ra ((rs.map tx).map V.str))(_:∀r∈rs,r.length<=20000/\(aQ r).length<=130/\∀w∈aQ r,WOk w)(_:RsO [] rs0 (rs.map aQ) x s2)(_:x=none->TxG s2.things s2.feet/\(∀t∈s2.things,NfT t)/\∃σ,gT (jG (aV s2.things) s2.feet) s2.things=.ok σ/\∀t∈σ.ws,t.w.1=.plain/\t.foot=[])(_:∀p H',ar H H'->H' p=some (.lst ((Dk x).map V.bl))->Q (.ref p) H')
theorem jM:aE ["rows","form","which","e"] ["rows","form"] (av (top 69)):=by walk_at "c"
theorem zj(T:Txt P w K mg a):aO P w K mg base CX0 77 a.nE a.my ["rows","form"] (zi K):=by
 exists T.nj.fn.ok,jM
 obtain⟨ra,fv,rs,x,s2,rfl,hra,rok,ro,good,q⟩:=h
 exists (ae (ay (i:=2) jM.nd rfl (K1 rfl) (aK ac))
   (ae (Ct (i:=3) jM.nd rfl rfl T.nv (zh T) (hM hr) rfl (λ_=>(aa (pv 0) (aa (pv 1) ac))) rfl T.mT ⟨rfl,rfl⟩ (λ_=>(ap (ay (i:=2) jM.nd rfl (K1 rfl) (aK (aa (aT (r:=jy K) dX rfl T.cI LB (aa (pv 3) (aa (bp (v:=.ref a.ka) rfl T.kx.mg rfl) ac))) (aa (aT (r:=jy K) dX rfl T.cI LB (aa (pv 3) (aa (bp (v:=.ref a.cF) rfl T.jt.mg rfl) ac))) (aa (aT (r:=jy K) dX rfl T.cI LB (aa (pv 3) (aa (bp (v:=.ref a.dr) rfl T.rN.mg rfl) ac))) (aa (aT (r:=jy K) dX rfl T.cI LB (aa (pv 3) (aa (bp (v:=.ref a.d_) rfl T.oA.mg rfl) ac))) (aa (aT (r:=jy K) dX rfl T.cI LB (aa (pv 3) (aa (bp (v:=.ref a.jq) rfl T.mS.mg rfl) ac))) (aa (aT (r:=jy K) dX rfl T.cI LB (aa (pv 3) (aa (bp (v:=.ref a.cG) rfl T.ju.mg rfl) ac))) (aa (aT (r:=jy K) dX rfl T.cI LB (aa (pv 3) (aa (bp (v:=.ref a.lZ) rfl T.zq.mg rfl) ac))) (aa (aT (r:=jy K) dX rfl T.cI LB (aa (pv 3) (aa (Fl (v:=.ty "ValueError") rfl T.rO uH rfl) ac))) (aa (EY (aT (r:=jy K) dX rfl T.cI LB (aa (pv 3) (aa (bp (v:=.ref a.eB) rfl T.tZ.mg rfl) ac))) (lN (aT (r:=jy K) dX rfl T.cI LB (aa (pv 3) (aa (bp (v:=.ref a.eC) rfl T.pO.mg rfl) ac))))) ac))))))))))))))
   (ap (aM (pv 2)))))
 refine⟨bj (by simp),λp1 hp1=>?_⟩
 exists hp1,H0,g1,h1
 refine⟨_,rfl,_,rfl,ra,fv,rs,x,s2,rfl,g1.seq hra,rok,ro,good,λe he H1 s'=>?_,λxn p H1 s'=>?_⟩
 .have A:=HI (i:=e.i) (x:=lV a e) T.kits (by cases e<;>rfl)
  refine⟨_,rfl,A.tk,λy hy=>?_⟩
  exists hy,H5,s5,kZ
  have k5:H5 y=some (uZ y (lV a e)):=kZ;refine⟨_,rfl,y,_,_,_,rfl,k5,A.lk,.inl ⟨_,rfl,A.ki 0 _ rfl⟩,_,rfl,y,_,_,_,rfl,k5,A.lk,.inl ⟨_,rfl,A.ki 1 _ rfl⟩,_,rfl,y,_,_,_,rfl,k5,A.lk,.inl ⟨_,rfl,A.ki 2 _ rfl⟩,_,rfl,y,_,_,_,rfl,k5,A.lk,.inl ⟨_,rfl,A.ki 3 _ rfl⟩,_,rfl,y,_,_,_,rfl,k5,A.lk,.inl ⟨_,rfl,A.ki 4 _ rfl⟩,_,rfl,y,_,_,_,rfl,k5,A.lk,.inl ⟨_,rfl,A.ki 5 _ rfl⟩,_,rfl,y,_,_,_,rfl,k5,A.lk,.inl ⟨_,rfl,A.ki 6 _ rfl⟩,_,rfl,y,_,_,true,rfl,k5,A.lk,.inr ⟨_,rfl,A.ve⟩,_,rfl,y,_,_,_,rfl,k5,A.lk,.inl ⟨_,rfl,A.ki 7 _ rfl⟩,_,rfl,?_⟩;have h7:decide (e.i=7)=false/\decide (e.i=8)=false:=by cases e<;>exact⟨rfl,rfl⟩
  rw[h7.1];right;refine⟨_,rfl,y,_,_,_,rfl,k5,A.lk,.inl ⟨_,rfl,A.ki 8 _ rfl⟩,bj (by simp),λp2 hp2=>?_⟩;exact⟨_,rfl,q p2 _ (g1.trans (s'.trans (s5.trans (am hp2 _)))) (by rw[ah,he,h7.2];rfl)⟩
 .exact⟨_,rfl,q p1 _ (g1.trans s') (by rw[s' _ _ h1,xn];rfl)⟩
inductive zH(K:KC)(vs:List V)(H:Hp)(Q:VK)(x_1:XK):Prop
 |mk(ra:Addr)(f:Int)(rs:List (List Nat))(_:vs=[.ref ra,.int f])(_:SqL K H ra ((rs.map tx).map V.str))(_:rs.length<=200)(_:∀r∈rs,r.length<=8200)(_:∀p H' ss,H p=none->ar H H'->H' p=some (.lst ((ss.map tx).map V.str))->m6 rs ss->ss.length=rs.length->Q (.ref p) H')
theorem e8:aE ["rows","first","spaced","k","row","ahead","end"] ["rows","first"] (av (top 70)):=by walk_at "c"
theorem zI(T:Txt P w K mg a):aO P w K mg base CX0 2 a.pC a.nK ["rows","first"] (zH K):=by
 exists T.pi.fn.ok,e8
 obtain⟨ra,f,rs,rfl,hra,rl,rln,q⟩:=h
 exists (ae (ay (i:=2) e8.nd rfl (K1 rfl) (aK ac))
   (ae (dF MX rfl (z8 rfl T.gp (pv 0)) (iX rfl (bZ (bw (i:=3) e8.nd rfl (K1 rfl)) (bZ (bw (i:=4) e8.nd rfl (K1 rfl)) gc))) (ae (Hs (FS (FR xf (aT DE rfl T.cQ Lq (aa (pv 4) ac)) (nomark _)) (jj (aA bQ (aD T.bK (bF T) (hM hr) rfl (aa (ao cz (pv 1) (pv 3)) (aa ai (aa ai ac)))) ai (nomark _)))) (Ej (i:=4) e8.nd rfl (K1 rfl) (zA (pv 4) (by decide) (by decide))) aX)
   (ae (ay (i:=5) e8.nd rfl (K1 rfl) (aD T.bK (bF T) (hM hr) rfl (aa (ao cz (pv 1) (pv 3)) (aa ai (aa ai ac)))))
   (ae (ay (i:=6) e8.nd rfl (K1 rfl) (aD T.bK (bF T) (hM hr) rfl (aa (ao cz (pv 1) (pv 3)) (aa ai (aa ai ac)))))
   (ap (bf (dg K4 Lf Lg cw (pv 2) (aa (ao af (ao af (ao bO ak (aT (qo rfl) rfl T.xw NV (aa ai (aa (ao kI (pv 5) ai) ac)))) (pv 4)) (ao bO ak (aT (qo rfl) rfl T.xw NV (aa ai (aa (ao kI (pv 6) ai) ac))))) ac))))))))
   (ap (aM (pv 2)))))
 refine⟨bj (by simp),λp1 hp1=>?_⟩
 exists hp1,H1,s1,k1
 refine⟨_,rfl,ra,rfl,⟨_,s1.seq hra⟩,DZ (K:=K) (a:=ra) (xs:=(rs.map tx).map V.str) (λi σ' G=>∃(v3 v4 v5 v6:Option V)(ss:List (List Nat)),σ'=[rF ra,some (.int f),rF p1,v3,v4,v5,v6]/\ar H G/\G p1=some (.lst ((ss.map tx).map V.str))/\m6 (rs.take i) ss/\ss.length=i) ⟨none,none,none,none,[],rfl,s1,k1,trivial,rfl⟩ (λi σ' G _ g=>by obtain⟨_,_,_,_,_,_,m,_⟩:=g;exact m.seq hra) ?_ ?_⟩
 .rintro k y σ' G p0 hy ⟨v3,v4,v5,v6,ss,rfl,m,g1,sp,sl⟩ hp0;obtain⟨r,hr_,rfl⟩:=lT hy;have hk:=(List.getElem?_eq_some_iff.mp hr_).1;have rl2:=rln r (KL hr_)
  exists hp0,G1,sZ,k0
  have m1:=m.trans sZ;have g2:=sZ _ _ g1;refine⟨p0,_,rfl,SqT.of k0,rfl,_,_,rfl,_,_,rfl,rfl,?_⟩;refine lE (λσ' G'=>∃d:Bool,σ'=[rF ra,some (.int f),rF p1,some (.int (k:Int)),some (.str (tx (if d then mZ r else r))),v5,v6]/\G'=G1) ?_ (λkey=>?_)
  .rintro σ' G2 ⟨d,rfl,rfl⟩;have ha:=fq (f+(k:Int)) 84 (show(0:Int)<6 by decide);have hb:=fq (f+(k:Int)) 85 (show(0:Int)<6 by decide);have dl:(if d then mZ r else r).length<=16400:=by have:=Ao r;split<;>omega
   refine⟨_,rfl,_,rfl,_,_,rfl,rfl,_,84,6,rfl,⟨by decide,by decide⟩,by decide,?_⟩;refine⟨_,rfl,_,rfl,_,_,rfl,rfl,_,85,6,rfl,⟨by decide,by decide⟩,by decide,?_⟩;have ea:(if bH (f+(k:Int)) 84 6-2>0 then bH (f+(k:Int)) 84 6-2 else 0)=(((bH (f+(k:Int)) 84 6-2).toNat:Nat):Int):=by split<;>omega
   have eb:(if bH (f+(k:Int)) 85 6-3>0 then bH (f+(k:Int)) 85 6-3 else 0)=(((bH (f+(k:Int)) 85 6-3).toNat:Nat):Int):=by split<;>omega
   have a10:(bH (f+(k:Int)) 84 6-2).toNat<=10:=by omega
   have b10:(bH (f+(k:Int)) 85 6-3).toNat<=10:=by omega
   generalize (bH (f+(k:Int)) 84 6-2).toNat=na at ea a10;generalize (bH (f+(k:Int)) 85 6-3).toNat=nb at eb b10;refine⟨_,rfl,.inl ⟨rfl,_,SqL.of g2⟩,_,rfl,_,_,rfl,rfl,_,_,rfl,_,_,rfl,rfl,(by rw[ea];exact Am a10),_,rfl,_,_,rfl,rfl,?_,_,rfl,_,_,rfl,rfl,_,_,rfl,_,_,rfl,rfl,(by rw[eb];exact Am b10),_,_,rfl,rfl,?_,_,_,_,rfl,rfl,g2,aF (by simp only[KA];omega),?_⟩
   .rw[ea,uE,aZ,aZ,Lx];exact Md (Le (show _<=20000 by omega) (by decide))
   .rw[ea,eb,uE,uE,cB,aZ,aZ,KI,Lx,Lx];exact Md (Le (show _<=20000 by omega) (by decide))
   .rw[ea,eb,uE,uE,cB,cB];refine⟨_,_,_,_,ss++[oR na nb d r],rfl,cC m1 hp1,?_,?_,by rw[KI,sl];rfl⟩
    .rw[ah,KQ,KQ];rfl
    .rw[cP hr_];exact sp.snoc ⟨na,nb,d,a10,b10,rfl⟩
  .refine⟨_,rfl,_,_,rfl,⟨(by rw[aZ];exact Md (Le rl2 (by decide))),rfl⟩,_,_,rfl,rfl,_,rfl,?_⟩;have kF:=key [rF ra,some (.int f),rF p1,some (.int (k:Int)),some (.str (tx r)),v5,v6] G1 ⟨false,rfl,rfl⟩;refine cZ (λc1=>?_) (λc1=>?_)
   .refine⟨_,rfl,_,rfl,_,_,rfl,rfl,_,86,3,rfl,⟨by decide,by decide⟩,by decide,rfl,_,rfl,?_⟩;refine cZ (λc2=>?_) (λc2=>?_)
    .refine⟨_,rfl,_,rfl,(by rw[aZ];omega),?_⟩;refine key _ G1 ⟨true,?_,rfl⟩;rw[PyProof.Rows.replace_dbl _ _ _ 32 (by decide) (by decide)];rfl
    .exact kF
   .right;exact kF
 rintro σ' G ⟨v3,v4,v5,v6,ss,rfl,m,g1,sp,sl⟩;rw[KA,KA]at sl;rw[KA,KA,LH]at sp;exact⟨_,rfl,q p1 G ss hp1 m g1 sp sl⟩
def nmT(s f n:List Nat):Nat->List Nat
 |1=>s
 |2=>f
 |3=>n
 |_=>[]
abbrev Tk:=List Nat×Nat×List Nat
def vl(s f n:List Nat)(t:Tk):List Nat:=t.1++(nmT s f n t.2.1++t.2.2)
def cE(s f n:List Nat)(ts:List Tk):List Nat:=c_ [32] (ts.map (vl s f n))
def gy(t:Tk):Bool:=decide (t.1.length+t.2.2.length<=80)&&(t.1++t.2.2).all (λc=>decide (c<127/\c≠32))&&(decide (0<t.1.length+t.2.2.length)||decide (1<=t.2.1/\t.2.1<=3))
structure Nm(s:List Nat):Prop where
 is:aR s=true
 ne:s≠[]
 len:s.length<=12
 lt:∀c∈s,c<127/\c≠32
section
variable {s f n:List Nat}(hs:Nm s)(hf:Nm f)(hn:Nm n)
include hs hf hn
theorem zk(k:Nat):(nmT s f n k).length<=12/\(∀c∈nmT s f n k,c<127/\c≠32)/\(1<=k/\k<=3->nmT s f n k≠[]):=by
 match k with
 |0=>exact⟨Ls _,(λc h=>by cases h),λz=>absurd z.1 (by decide)⟩
 |1=>exact⟨hs.len,hs.lt,λ_=>hs.ne⟩
 |2=>exact⟨hf.len,hf.lt,λ_=>hf.ne⟩
 |3=>exact⟨hn.len,hn.lt,λ_=>hn.ne⟩
 |k+4=>exact⟨Ls _,(λc h=>by cases h),λz=>absurd z.2 (by omega)⟩
theorem I_{t:Tk}(h:gy t=true):WOk (vl s f n t)/\32∉vl s f n t:=by
 obtain⟨p,k,u⟩:=t;obtain⟨h1,h2,h3⟩:=zk hs hf hn k;simp only[gy,Ly,Bool.or_eq_true,decide_eq_true_eq,List.all_eq_true]at h;obtain⟨⟨l,c⟩,ne⟩:=h;have all:∀d∈vl s f n (p,k,u),d<127/\d≠32:=λd hd=>by
  rcases List.mem_append.mp hd with h|h
  .exact c d (List.mem_append.mpr (.inl h))
  rcases List.mem_append.mp h with h|h
  .exact h2 d h
  .exact c d (List.mem_append.mpr (.inr h))
 have ll:(vl s f n (p,k,u)).length=p.length+((nmT s f n k).length+u.length):=by unfold vl;rw[KI,KI]
 refine⟨⟨λz=>?_,by rw[ll];omega,λd hd=>(all d hd).1⟩,λz=>(all 32 z).2 rfl⟩;rw[z]at ll;rcases ne with h|h
 .simp only[L_]at ll;omega
 .have:=h3 h;cases e:nmT s f n k with
  |nil=>exact this e
  |cons _ _=>rw[e]at ll;simp only[KH,L_]at ll;omega
theorem Dl{ts:List Tk}(h:ts.all gy=true):aQ (cE s f n ts)=ts.map (vl s f n)/\∀w∈ts.map (vl s f n),WOk w:=by
 have g:∀w∈ts.map (vl s f n),WOk w/\32∉w:=λw hw=>by
  obtain⟨t,ht,rfl⟩:=List.mem_map.mp hw;exact I_ hs hf hn (List.all_eq_true.mp h t ht)
 exact⟨yP λw hw=>⟨(g w hw).2,(g w hw).1.ne⟩,λw hw=>(g w hw).1⟩
end
theorem co0:pq ".page x" = tx [46,112,97,103,101,32,120]:=by decide
theorem co1:pq ".odd .odd" = tx [46,111,100,100,32,46,111,100,100]:=by decide
theorem co2:pq "." = tx [46]:=by decide
theorem co3:pq ".list " = tx [46,108,105,115,116,32]:=by decide
theorem co4:pq " 0" = tx [32,48]:=by decide
theorem co5:pq " 0 x" = tx [32,48,32,120]:=by decide
theorem co6:pq ".let" = tx [46,108,101,116]:=by decide
theorem co7:pq ".let 1a 0 x" = tx [46,108,101,116,32,49,97,32,48,32,120]:=by decide
theorem co8:pq ".foot" = tx [46,102,111,111,116]:=by decide
theorem co9:pq ".foot A x" = tx [46,102,111,111,116,32,65,32,120]:=by decide
theorem JO:pq ".foot 7 x" = tx [46,102,111,111,116,32,55,32,120]:=by decide
theorem JP:pq "  .9" = tx [32,32,46,57]:=by decide
theorem JQ:pq ".lets " = tx [46,108,101,116,115,32]:=by decide
theorem JR:pq ".Let " = tx [46,76,101,116,32]:=by decide
theorem tK:pq ".let " = tx [46,108,101,116,32]:=by decide
theorem JS:pq "A 0 x" = tx [65,32,48,32,120]:=by decide
theorem JT:pq " 10 x" = tx [32,49,48,32,120]:=by decide
theorem JU:pq ".use " = tx [46,117,115,101,32]:=by decide
theorem zm:pq " x" = tx [32,120]:=by decide
theorem JV:pq "- x" = tx [45,32,120]:=by decide
theorem JW:pq " 11 x" = tx [32,49,49,32,120]:=by decide
theorem JX:pq " -" = tx [32,45]:=by decide
theorem JY:pq ".page [" = tx [46,112,97,103,101,32,91]:=by decide
theorem JZ:pq " 00 x" = tx [32,48,48,32,120]:=by decide
theorem J0:pq " 01 $1" = tx [32,48,49,32,36,49]:=by decide
theorem q9:pq ".foot " = tx [46,102,111,111,116,32]:=by decide
theorem J1:pq " x | x ]" = tx [32,120,32,124,32,120,32,93]:=by decide
theorem Bu:pq " ]" = tx [32,93]:=by decide
theorem EL:pq "w [" = tx [119,32,91]:=by decide
theorem HK:pq "= [" = tx [61,32,91]:=by decide
theorem Bv:pq " [" = tx [32,91]:=by decide
theorem J2:pq " 1 x" = tx [32,49,32,120]:=by decide
theorem J4:pq " 2 $1" = tx [32,50,32,36,49]:=by decide
theorem J5:pq " 1 $2 $1" = tx [32,49,32,36,50,32,36,49]:=by decide
theorem J6:pq " 0 $0" = tx [32,48,32,36,48]:=by decide
theorem J7:pq " 9 $1 $2 $3 $4 $5 $6 $7 $8" = tx [32,57,32,36,49,32,36,50,32,36,51,32,36,52,32,36,53,32,36,54,32,36,55,32,36,56]:=by decide
theorem J8:pq " ] [" = tx [32,93,32,91]:=by decide
theorem HL:pq " x ]" = tx [32,120,32,93]:=by decide
theorem HM:pq "=== [" = tx [61,61,61,32,91]:=by decide
theorem J9:pq " $1 ]" = tx [32,36,49,32,93]:=by decide
theorem J_:pq " ] ] [" = tx [32,93,32,93,32,91]:=by decide
theorem HN:pq " 1 [" = tx [32,49,32,91]:=by decide
theorem Ka:pq " 1 $1 [" = tx [32,49,32,36,49,32,91]:=by decide
theorem Kb:pq " #a" = tx [32,35,97]:=by decide
theorem Kc:pq "w " = tx [119,32]:=by decide
theorem Kd:pq "!" = tx [33]:=by decide
theorem Ke:pq "= ~" = tx [61,32,126]:=by decide
theorem Kf:pq "= w " = tx [61,32,119,32]:=by decide
theorem Kg:pq "x" = tx [120]:=by decide
theorem Kh:pq " #b" = tx [32,35,98]:=by decide
theorem Ki:pq " #" = tx [32,35]:=by decide
theorem Kj:pq " x ~" = tx [32,120,32,126]:=by decide
theorem Kk:pq "w #" = tx [119,32,35]:=by decide
theorem Kl:pq " ~" = tx [32,126]:=by decide
theorem Km:pq "a" = tx [97]:=by decide
theorem Kn:pq " &" = tx [32,38]:=by decide
theorem EM:pq "w" = tx [119]:=by decide
theorem HP:pq "=" = tx [61]:=by decide
theorem HQ:pq " $1" = tx [32,36,49]:=by decide
theorem HR:pq " 1" = tx [32,49]:=by decide
theorem Ko:pq "= t" = tx [61,32,116]:=by decide
theorem Kp:pq "" = tx []:=by decide
theorem Kq:pq ".page" = tx [46,112,97,103,101]:=by decide
theorem Kr:pq ".odd" = tx [46,111,100,100]:=by decide
theorem Ks:pq "x !.9 =" = tx [120,32,33,46,57,32,61]:=by decide
theorem Kt:pq " y ] z" = tx [32,121,32,93,32,122]:=by decide
theorem ml4(l:List Nat):Txt.mul (tx l) 4=tx (c3 l 4):=fY l 4
theorem ml5(l:List Nat):Txt.mul (tx l) 5=tx (c3 l 5):=fY l 5
theorem ml7(l:List Nat):Txt.mul (tx l) 7=tx (c3 l 7):=fY l 7
theorem Ku(l:List Nat):Txt.mul (tx l) 21=tx (c3 l 21):=fY l 21
theorem tL(l:List Nat):Txt.mul (tx l) 37=tx (c3 l 37):=fY l 37
theorem tM(l:List Nat):Txt.mul (tx l) 40=tx (c3 l 40):=fY l 40
theorem tO(l:List Nat):Txt.mul (tx l) 50=tx (c3 l 50):=fY l 50
theorem tP(l:List Nat):Txt.mul (tx l) 60=tx (c3 l 60):=fY l 60
theorem tQ(l:List Nat):Txt.mul (tx l) 61=tx (c3 l 61):=fY l 61
def jm:List (List Tk):=[[([46,112,97,103,101],0,[]),([120],0,[])],[([46,111,100,100],0,[]),([46,111,100,100],0,[])],[([46,108,105,115,116],0,[]),([],1,[])],[([46,108,101,116,115],0,[]),([],3,[]),([48],0,[])],[([46],0,[])],[([46,76,101,116],0,[]),([],3,[]),([48],0,[]),([120],0,[])],[([46,108,101,116],0,[])],[([46,108,101,116],0,[]),([],3,[])],[([46,108,101,116],0,[]),([],3,[65]),([48],0,[]),([120],0,[])],[([46,108,101,116],0,[]),([],3,[]),([49,48],0,[]),([120],0,[])],[([46,117,115,101],0,[]),([],1,[])],[([46,108,101,116],0,[]),([],3,[]),([120],0,[])],[([46,108,101,116],0,[]),([49,97],0,[]),([48],0,[]),([120],0,[])],[([46,102,111,111,116],0,[])],[([46,102,111,111,116],0,[]),([65],0,[]),([120],0,[])],[([46,102,111,111,116],0,[]),([55],0,[]),([120],0,[])],[([46,102,111,111,116],0,[]),([],2,[45]),([120],0,[])],[([46,108,101,116],0,[]),([],1,[]),([49,49],0,[]),([120],0,[])],[([46,108,101,116],0,[]),([],1,[]),([45],0,[])],[([46,112,97,103,101],0,[]),([91],1,[])],[([32,32,46,57],0,[])],[([46,108,101,116],0,[]),([],3,[]),([48,48],0,[]),([120],0,[])],[([46,108,101,116],0,[]),([],3,[]),([48,49],0,[]),([36,49],0,[])]]
theorem Dm(s f n:List Nat):fI (tx s) (tx f) (tx n)=jm.map λts=>tx (cE s f n ts):=by
 simp[fI,jm,co0,co1,co2,co3,co4,co5,co6,co7,co8,co9,JO,JP,JQ,JR,tK,JS,JT,JU,zm,JV,JW,JX,JY,JZ,J0,q9,cB,ml4,ml5,ml7,tL,tM,tO,tP,tQ,cE,vl,nmT,c_,c3]
def jN:List (List Tk):=[[([119],0,[]),([91],1,[]),([120],0,[])],[([119],0,[]),([91],1,[]),([120],0,[]),([124],0,[]),([120],0,[]),([93],0,[])],[([61],0,[]),([91],1,[]),([93],0,[])],[([46,102,111,111,116],0,[]),([],3,[]),([91],1,[])],[([46,108,101,116],0,[]),([],3,[]),([49],0,[]),([120],0,[])],[([46,108,101,116],0,[]),([],3,[]),([50],0,[]),([36,49],0,[])],[([46,108,101,116],0,[]),([],3,[]),([49],0,[]),([36,50],0,[]),([36,49],0,[])],[([46,108,101,116],0,[]),([],3,[]),([48],0,[]),([36,48],0,[])],[([46,108,101,116],0,[]),([],3,[]),([57],0,[]),([36,49],0,[]),([36,50],0,[]),([36,51],0,[]),([36,52],0,[]),([36,53],0,[]),([36,54],0,[]),([36,55],0,[]),([36,56],0,[])],[([119],0,[]),([91],3,[]),([93],0,[]),([91],1,[])]]
theorem Bw(s f n:List Nat):fP (tx s) (tx n)=jN.map λts=>tx (cE s f n ts):=by
 simp[fP,jN,zm,J1,Bu,EL,HK,Bv,J2,J4,J5,J6,J7,q9,tK,J8,cB,ml4,ml5,ml7,tL,tM,tO,tP,tQ,cE,vl,nmT,c_,c3]
theorem wW:jN.all (λts=>ts.all gy)=true:=by decide
def iZ:List (List Tk):=[[([119],0,[]),([91],3,[]),([93],0,[])],[([61,61,61],0,[]),([91],3,[]),([120],0,[]),([93],0,[])],[([46,102,111,111,116],0,[]),([],3,[]),([91],3,[]),([93],0,[])],[([119],0,[]),([91],1,[]),([91],3,[]),([93],0,[]),([93],0,[]),([91],1,[]),([93],0,[])],[([46,108,101,116],0,[]),([],3,[]),([49],0,[]),([91],3,[]),([120],0,[]),([93],0,[])],[([46,108,101,116],0,[]),([],3,[]),([49],0,[]),([36,49],0,[]),([91],3,[]),([36,49],0,[]),([93],0,[])]]
theorem zJ(s f n:List Nat):eY (tx s) (tx n)=iZ.map λts=>tx (cE s f n ts):=by
 simp[eY,iZ,Bu,HL,EL,HM,J9,Bv,q9,J_,HN,Ka,tK,cB,ml4,ml5,ml7,tL,tM,tO,tP,tQ,cE,vl,nmT,c_,c3]
theorem vF:iZ.all (λts=>ts.all gy)=true:=by decide
def lY:List (List Tk):=[[([46,108,101,116],0,[]),([],1,[]),([48],0,[])],[([46,108,101,116],0,[]),([],1,[]),([49],0,[]),([91],3,[]),([120],0,[])],[([46,102,111,111,116],0,[]),([],2,[])],[([46,102,111,111,116],0,[]),([],2,[]),([35,97],0,[])]]
theorem EN(s f n:List Nat):jg (tx s) (tx f) (tx n)=lY.map λts=>tx (cE s f n ts):=by
 simp[jg,lY,co4,zm,tK,q9,Kb,HN,cB,ml4,ml5,ml7,tL,tM,tO,tP,tQ,cE,vl,nmT,c_,c3]
theorem zK:lY.all (λts=>ts.all gy)=true:=by decide
def jO:List (List Tk):=[[([119],0,[]),(KB 61 120,0,[])],[(33::KB 61 120,0,[])],[([61],0,[]),([126],2,[])],[([61],0,[]),([119],0,[]),(KB 61 46,0,[])],[([46,102,111,111,116],0,[]),([],3,[]),([35],2,[])],[([46,102,111,111,116],0,[]),([],3,[]),([120],0,[]),([126],2,[])],[([46,102,111,111,116],0,[]),([],3,[]),([126],2,[])]++KB 50 ([120],0,[]),[([61],0,[]),([91],1,[]),([126],2,[]),([93],0,[])],[([119],0,[]),(35::KB 60 97,0,[]),([35,98],0,[])]]
theorem Bx(s f n:List Nat):fQ (tx s) (tx f) (tx n)=jO.map λts=>tx (cE s f n ts):=by
 simp[fQ,jO,Kc,Kd,Ke,Kf,Kg,co2,Bu,Kh,Ki,Kj,zm,Kk,q9,Kl,Km,HK,cB,ml4,ml5,ml7,tL,tM,tO,tP,tQ,cE,vl,nmT,c_,c3]
theorem wX:jO.all (λts=>ts.all gy)=true:=by decide
def i4:List (List Tk):=[[([46,102,111,111,116],0,[]),([],3,[])]++KB 40 ([120],0,[]),[([46,102,111,111,116],0,[]),([],3,[])]++KB 37 ([120],0,[])++[([91],1,[]),([38],3,[]),([93],0,[])],[([119],0,[]),([91],1,[]),([91],1,[]),([91],1,[]),([91],1,[]),([120],0,[]),([120],0,[]),([120],0,[]),([120],0,[]),([120],0,[]),([120],0,[]),([120],0,[]),([93],0,[]),([93],0,[]),([93],0,[]),([93],0,[])],[([61],0,[]),([91],1,[]),([91],1,[]),([91],1,[]),([91],1,[]),([120],0,[]),([120],0,[]),([120],0,[]),([120],0,[]),([120],0,[]),([93],0,[]),([93],0,[]),([93],0,[]),([93],0,[])],[([46,108,101,116],0,[]),([],3,[]),([49],0,[]),([91],1,[]),([91],1,[]),([91],1,[]),([91],1,[]),([36,49],0,[]),([36,49],0,[]),([36,49],0,[]),([36,49],0,[]),([36,49],0,[]),([93],0,[]),([93],0,[]),([93],0,[]),([93],0,[])]]
theorem zL(s f n:List Nat):eZ (tx s) (tx n)=i4.map λts=>tx (cE s f n ts):=by
 simp[eZ,i4,Bv,Bu,q9,zm,Kn,EM,HP,HQ,HR,tK,cB,ml4,ml5,ml7,tL,tM,tO,tP,tQ,cE,vl,nmT,c_,c3]
theorem vG:i4.all (λts=>ts.all gy)=true:=by decide
def lJ:List (List Tk):=[[([119],0,[])],[([61],0,[]),([116],0,[])],[],[([46,112,97,103,101],0,[])],[([46,111,100,100],0,[])],[([120],0,[]),([33,46,57],0,[]),([61],0,[])],[([119],0,[]),([91],1,[]),([120],0,[]),([93],0,[])],[([61,61,61],0,[]),([91],1,[]),([121],0,[]),([93],0,[]),([122],0,[])]]
theorem Ga(s f n:List Nat):iE (tx s)=lJ.map λts=>tx (cE s f n ts):=by
 simp[iE,lJ,EM,Ko,Kp,Kq,Kr,Ks,HL,Kt,EL,HM,cB,ml4,ml5,ml7,tL,tM,tO,tP,tQ,cE,vl,nmT,c_,c3]
theorem By:lJ.all (λts=>ts.all gy)=true:=by decide
def sh1(s:List Nat):Sh:=⟨s,1,[plD 1,plD 1,plD 1],[0,3],0⟩
def Rf(S:List Sh)(st:Rs)(ws:List (List Nat))(e:Er):Prop:=∃st' S',RwO S st ws (some e) st' S'
theorem Rf.let_{S:List Sh}{st:Rs}{ts:List (List Nat)}{e:Er}{S':List Sh}(h:fC S ts (some e) S'):Rf S st ([46,108,101,116]::ts) e:=⟨_,_,.let_ h⟩
theorem Rf.foot{S:List Sh}{st:Rs}{ts:List (List Nat)}{e:Er}{ft:List (Str×List Wk)}(h:FtO S st.feet ts (some e) ft):Rf S st ([46,102,111,111,116]::ts) e:=⟨_,_,.foot h⟩
theorem Rf.alone{S:List Sh}{st:Rs}{w:List Nat}{ts:List (List Nat)}(hw:w∈[iD,j7,jD])(h:ts≠[]):Rf S st (w::ts) .badrow:=⟨_,_,.alone hw (.bad h)⟩
theorem Rf.dot{S:List Sh}{st:Rs}{u:List Nat}{ts:List (List Nat)}(h:46::u∉[lU,jC,iD,j7,jD]):Rf S st ((46::u)::ts) .badrow:=⟨_,_,.dot h⟩
theorem zn{l:List Nat}{d:Nat}(h:(isL d||isF d)=false):aR (l++[d])=false:=by
 cases l with
 |nil=>show aR [d]=false;simp only[aR,MF,h,NJ,NM]
 |cons c r=>show aR (c::(r++[d]))=false;simp only[aR,MF,List.all_append,List.all_nil,h,NJ,NM]
section
variable {s f n:List Nat}(hs:aR s=true)(hf:aR f=true)(hn:aR n=true)(st:Rs)
include hs hf hn
theorem EO{w:List Wk}(ef:lkS (tx f) st.feet=some w):∀ts∈lY,Rf [sh1 s] st (ts.map (vl s f n)) .twice:=by
 simp only[lY,K0,M1,vl,nmT,LA,LF,Lu];exact⟨.let_ (.tw (k:=0) hs (by decide) KO),.let_ (.tw (k:=1) hs (by decide) KO),.foot (.tw hf ef),.foot (.tw hf ef),λ_ h=>by cases h⟩
theorem Dn(gs:Nm s)(gf:Nm f)(gn:Nm n):∀ts∈jm,Rf [sh1 s] st (aQ (cE s f n ts)) .badrow:=by
 have key:∀ts:List Tk,ts.all gy=true->Rf [sh1 s] st (ts.map (vl s f n)) .badrow->Rf [sh1 s] st (aQ (cE s f n ts)) .badrow:=λts h g=>by rw[(Dl gs gf gn h).1];exact g
 have fg:∀{l c:List Nat}{t:List (List Nat)},aR l=true->m7 c=false->Rf [sh1 s] st ([46,108,101,116]::l::c::t) .badrow:=λh1 h2=>.let_ (.fig h1 h2);have d0:∀{u:List Nat}{ts:List (List Nat)},46::u∉[lU,jC,iD,j7,jD]->Rf [sh1 s] st ((46::u)::ts) .badrow:=λh=>.dot h;have a0:∀{w:List Nat}{t:List Nat}{ts:List (List Nat)},w∈[iD,j7,jD]->Rf [sh1 s] st (w::t::ts) .badrow:=λh=>.alone h (by simp);have all:∀ts∈jm,ts.all gy=true/\Rf [sh1 s] st (ts.map (vl s f n)) .badrow\/ts=[([32,32,46,57],0,[])]:=by
  simp only[jm,K0,M1,vl,nmT,LA,LF,Lu];exact⟨.inl ⟨by decide,a0 (by decide)⟩,.inl ⟨by decide,a0 (by decide)⟩,.inl ⟨by decide,a0 (by decide)⟩,.inl ⟨by decide,d0 (by decide)⟩,.inl ⟨by decide,d0 (by decide)⟩,.inl ⟨by decide,d0 (by decide)⟩,
   .inl ⟨by decide,.let_ (.few (by simp))⟩,.inl ⟨by decide,.let_ (.few (by simp))⟩,.inl ⟨by decide,.let_ (.nam (zn (by decide)))⟩,.inl ⟨by decide,fg hn rfl⟩,.inl ⟨by decide,d0 (by decide)⟩,
   .inl ⟨by decide,fg hn rfl⟩,.inl ⟨by decide,.let_ (.nam rfl)⟩,.inl ⟨by decide,.foot .none_⟩,.inl ⟨by decide,.foot (.nam rfl)⟩,.inl ⟨by decide,.foot (.nam rfl)⟩,.inl ⟨by decide,.foot (.nam (zn (by decide)))⟩,
   .inl ⟨by decide,fg hs rfl⟩,.inl ⟨by decide,fg hs rfl⟩,.inl ⟨by decide,a0 (by decide)⟩,.inr trivial,.inl ⟨by decide,fg hn rfl⟩,.inl ⟨by decide,fg hn rfl⟩,λ_ h=>by cases h⟩
 intro ts h;rcases all ts h with⟨h1,h2⟩|rfl
 .exact key ts h1 h2
 .rw[show aQ (cE s f n [([32,32,46,57],0,[])])=[[46,57]]from rfl];exact d0 (by decide)
end

theorem Rf.headE{S:List Sh}{st:Rs}{k:Nat}{ts:List (List Nat)}{e:Er}{ws:List (List Nat)}(hk:k<3)(h:Wo S [.foot] ts (some e) ws):Rf S st (KB (k+1) 61::ts) e:=⟨_,_,.headE hk h⟩
theorem Rf.parE{S:List Sh}{st:Rs}{c:Nat}{u:List Nat}{ts:List (List Nat)}{e:Er}{ws:List (List Nat)}(hc:c≠46)(nh:(c::u)∉[[61],[61,61],[61,61,61]])(h:Wo S [] ((c::u)::ts) (some e) ws):Rf S st ((c::u)::ts) e:=⟨_,_,.parE hc nh h⟩
def mN(s n:List Nat):List (Wd0×Nat):=[(s,0),(s,1),(s,2),(n,0),(n,1)]
theorem ox{s n:List Nat}(hs:Nm s)(hn:Nm n):MOk (mN s n):=by
 refine⟨NW rfl,λx hx=>?_⟩;simp only[mN,Ll,Lj,or_false]at hx;rcases hx with rfl|rfl|rfl|rfl|rfl
 all_goals first|exact⟨hs.len,λc h=>(hs.lt c h).1,NW rfl⟩|exact⟨hn.len,λc h=>(hn.lt c h).1,NW rfl⟩
theorem ndW{M:List (Wd0×Nat)}{c d:Nat}{w:Wd0}:Nd M c (d+1) (wdD w):=.inl ⟨w,rfl⟩
theorem ndP{M:List (Wd0×Nat)}{c d k:Nat}(h1:1<=k)(h2:k<=c):Nd M c (d+1) (plD k):=.inr (.inl ⟨k,h1,h2,rfl⟩)
theorem ndC{M:List (Wd0×Nat)}{c d:Nat}{n:Wd0}{as:List (List DD)}(h:(n,as.length)∈M)(g:∀a∈as,a.length<=90+d/\∀y∈a,Nd M c d y):Nd M c (d+1) (clD n as):=.inr (.inr ⟨n,as,rfl,h,g⟩)
section
variable {S:List Sh}{bs:List Kw}{ts:List (List Nat)}{xs:List DD}{M:List (Wd0×Nat)}{d:Nat}
theorem vH{c:Nat}(h:wrL S d xs=0)(g:mis c d xs=true):rfM S c d xs=2:=by unfold rfM;rw[if_pos h,if_pos g]
theorem Bz(p:Par none ts xs M d)(h:rfN S d xs=1):Wo S bs ts (some .noshort) []:=by have:=Wo.put (S:=S) (bs:=bs) p (by rw[h];decide);rw[h]at this;exact this
theorem HS(p:Par none ts xs M d)(h:rfN S d xs=2):Wo S bs ts (some .badcall) []:=by have:=Wo.put (S:=S) (bs:=bs) p (by rw[h];decide);rw[h]at this;exact this
theorem HU(p:Par none ts xs M d)(h:rfN S d xs=3):Wo S bs ts (some .toolong) []:=by have:=Wo.put (S:=S) (bs:=bs) p (by rw[h];decide);rw[h]at this;exact this
variable {n:List Nat}{k:Nat}(hn:aR n=true)(hk:k<10)(hm:n∉S.map Sh.n)
include hn hk hm
theorem HV(p:Par (some k) ts xs M d)(h:rfM S k d xs=1):fC S (n::[48+k]::ts) (some .noshort) S:=by have:=fC.new (S:=S) hn hk hm p (by rw[h];decide);rw[h]at this;exact this
theorem EQ(p:Par (some k) ts xs M d)(h:rfM S k d xs=2):fC S (n::[48+k]::ts) (some .badcall) S:=by have:=fC.new (S:=S) hn hk hm p (by rw[h];decide);rw[h]at this;exact this
theorem Kv(p:Par (some k) ts xs M d)(h:rfM S k d xs=3):fC S (n::[48+k]::ts) (some .toolong) S:=by have:=fC.new (S:=S) hn hk hm p (by rw[h];decide);rw[h]at this;exact this
end
section
variable {s f n:List Nat}(hs:aR s=true)(hn:aR n=true)(mok:MOk (mN s n))(hne:¬ s=n)(st:Rs)(ef:lkS (tx n) st.feet=none)
include hs hn mok hne ef
theorem zM:∀ts∈iZ,Rf [sh1 s] st (ts.map (vl s f n)) .noshort:=by
 have hm:n∉[sh1 s].map Sh.n:=λz=>hne (List.mem_singleton.mp z).symm;simp only[iZ,K0,M1,vl,nmT,LA,LF,Lu];refine⟨?_,?_,?_,?_,?_,?_,λ_ h=>by cases h⟩
 .exact .parE (by decide) (by decide) (Bz (xs:=[wdD [119],clD n []]) (M:=mN s n) (d:=6) ⟨by simp[a9,opn,hs,hn,bV,aJ,aP,isF],by simp[bM,bu,opn,hs,hn,aJ,bE,br,bW,clD,wdD,wdM,plD,plM,aP,isF],mok,by decide,by simp(maxDischargeDepth:=12) [ndW,ndC,ndP,mN],by simp⟩ (by simp[rfN,rfM,mis,wrL,wrD,bB,wdD,clD,plD,shF,sh1,szR,bo,szC,bG,ddL,hne]))
 .exact .headE (k:=2) (by decide) (Bz (xs:=[clD n [[wdD [120]]]]) (M:=mN s n) (d:=6) ⟨by simp[a9,opn,hs,hn,bV,aJ,aP,isF],by simp[bM,bu,opn,hs,hn,aJ,bE,br,bW,clD,wdD,wdM,plD,plM,aP,isF],mok,by decide,by simp(maxDischargeDepth:=12) [ndW,ndC,ndP,mN],by simp⟩ (by simp[rfN,rfM,mis,wrL,wrD,bB,wdD,clD,plD,shF,sh1,szR,bo,szC,bG,ddL,hne]))
 .exact .foot (.wo hn ef (Bz (xs:=[clD n []]) (M:=mN s n) (d:=6) ⟨by simp[a9,opn,hs,hn,bV,aJ,aP,isF],by simp[bM,bu,opn,hs,hn,aJ,bE,br,bW,clD,wdD,wdM,plD,plM,aP,isF],mok,by decide,by simp(maxDischargeDepth:=12) [ndW,ndC,ndP,mN],by simp⟩ (by simp[rfN,rfM,mis,wrL,wrD,bB,wdD,clD,plD,shF,sh1,szR,bo,szC,bG,ddL,hne])))
 .exact .parE (by decide) (by decide) (Bz (xs:=[wdD [119],clD s [[clD n []]],clD s []]) (M:=mN s n) (d:=6) ⟨by simp[a9,opn,hs,hn,bV,aJ,aP,isF],by simp[bM,bu,opn,hs,hn,aJ,bE,br,bW,clD,wdD,wdM,plD,plM,aP,isF],mok,by decide,by simp(maxDischargeDepth:=12) [ndW,ndC,ndP,mN],by simp⟩ (by simp[rfN,rfM,mis,wrL,wrD,bB,wdD,clD,plD,shF,sh1,szR,bo,szC,bG,ddL,hne]))
 .exact .let_ (HV (k:=1) hn (by decide) hm (xs:=[clD n [[wdD [120]]]]) (M:=mN s n) (d:=6) ⟨by simp[a9,opn,hs,hn,bV,aJ,aP,isF],by simp[bM,bu,opn,hs,hn,aJ,bE,br,bW,clD,wdD,wdM,plD,plM,aP,isF],mok,by decide,by simp(maxDischargeDepth:=12) [ndW,ndC,ndP,mN],by simp⟩ (by simp[rfN,rfM,mis,wrL,wrD,bB,wdD,clD,plD,shF,sh1,szR,bo,szC,bG,ddL,hne]))
 .exact .let_ (HV (k:=1) hn (by decide) hm (xs:=[plD 1,clD n [[plD 1]]]) (M:=mN s n) (d:=6) ⟨by simp[a9,opn,hs,hn,bV,aJ,aP,isF],by simp[bM,bu,opn,hs,hn,aJ,bE,br,bW,clD,wdD,wdM,plD,plM,aP,isF],mok,by decide,by simp(maxDischargeDepth:=12) [ndW,ndC,ndP,mN],by simp⟩ (by simp[rfN,rfM,mis,wrL,wrD,bB,wdD,clD,plD,shF,sh1,szR,bo,szC,bG,ddL,hne]))
theorem BA:∀ts∈jN,Rf [sh1 s] st (ts.map (vl s f n)) .badcall:=by
 have hm:n∉[sh1 s].map Sh.n:=λz=>hne (List.mem_singleton.mp z).symm;simp only[jN,K0,M1,vl,nmT,LA,LF,Lu];refine⟨?_,?_,?_,?_,?_,?_,?_,?_,?_,?_,λ_ h=>by cases h⟩
 .exact .parE (by decide) (by decide) (.opn (by simp[a9,opn,hs,hn,bV,aJ,aP,isF]))
 .exact .parE (by decide) (by decide) (HS (xs:=[wdD [119],clD s [[wdD [120]],[wdD [120]]]]) (M:=mN s n) (d:=6) ⟨by simp[a9,opn,hs,hn,bV,aJ,aP,isF],by simp[bM,bu,opn,hs,hn,aJ,bE,br,bW,clD,wdD,wdM,plD,plM,aP,isF],mok,by decide,by simp(maxDischargeDepth:=12) [ndW,ndC,ndP,mN],by simp⟩ (by simp[rfN,rfM,mis,wrL,wrD,bB,wdD,clD,plD,shF,sh1,szR,bo,szC,bG,ddL,hne]))
 .exact .headE (k:=0) (by decide) (HS (xs:=[clD s []]) (M:=mN s n) (d:=6) ⟨by simp[a9,opn,hs,hn,bV,aJ,aP,isF],by simp[bM,bu,opn,hs,hn,aJ,bE,br,bW,clD,wdD,wdM,plD,plM,aP,isF],mok,by decide,by simp(maxDischargeDepth:=12) [ndW,ndC,ndP,mN],by simp⟩ (by simp[rfN,rfM,mis,wrL,wrD,bB,wdD,clD,plD,shF,sh1,szR,bo,szC,bG,ddL,hne]))
 .exact .foot (.wo hn ef (.opn (by simp[a9,opn,hs,hn,bV,aJ,aP,isF])))
 .exact .let_ (EQ (k:=1) hn (by decide) hm (xs:=[wdD [120]]) (M:=mN s n) (d:=6) ⟨by simp[a9,opn,hs,hn,bV,aJ,aP,isF],by simp[bM,bu,opn,hs,hn,aJ,bE,br,bW,clD,wdD,wdM,plD,plM,aP,isF],mok,by decide,by simp(maxDischargeDepth:=12) [ndW,ndC,ndP,mN],by simp⟩ (vH (by simp[wrL,wrD,bB,wdD,plD]) (by decide)))
 .exact .let_ (EQ (k:=2) hn (by decide) hm (xs:=[plD 1]) (M:=mN s n) (d:=6) ⟨by simp[a9,opn,hs,hn,bV,aJ,aP,isF],by simp[bM,bu,opn,hs,hn,aJ,bE,br,bW,clD,wdD,wdM,plD,plM,aP,isF],mok,by decide,by simp(maxDischargeDepth:=12) [ndW,ndC,ndP,mN],by simp⟩ (vH (by simp[wrL,wrD,bB,wdD,plD]) (by decide)))
 .exact .let_ (.tree (b:=false) (k:=1) hn (by decide) hm (by simp[a9,opn,hs,hn,bV,aJ,aP,isF]))
 .exact .let_ (.tree (b:=false) (k:=0) hn (by decide) hm (by simp[a9,opn,hs,hn,bV,aJ,aP,isF]))
 .exact .let_ (EQ (k:=9) hn (by decide) hm (xs:=[plD 1,plD 2,plD 3,plD 4,plD 5,plD 6,plD 7,plD 8]) (M:=mN s n) (d:=6) ⟨by simp[a9,opn,hs,hn,bV,aJ,aP,isF],by simp[bM,bu,opn,hs,hn,aJ,bE,br,bW,clD,wdD,wdM,plD,plM,aP,isF],mok,by decide,by simp(maxDischargeDepth:=12) [ndW,ndC,ndP,mN],by simp⟩ (vH (by simp[wrL,wrD,bB,wdD,plD]) (by decide)))
 .exact .parE (by decide) (by decide) (.opn (by simp[a9,opn,hs,hn,bV,aJ,aP,isF]))
theorem sy:∀k m:Nat,m+k=20->a9 none (KB (k+1) (91::s)) m=some true
 |0,m,h=>yH (by simp[opn,hs]) (by omega)
 |k+1,m,h=>by rw[LV,yI (by simp[opn,hs]) (by omega)];exact sy k (m+1) (by omega)
theorem Gb:Rf [sh1 s] st ([119]::KB 21 (91::s)) .deep/\Rf [sh1 s] st ([61]::KB 21 (91::s)) .deep/\Rf [sh1 s] st ([46,102,111,111,116]::n::KB 21 (91::s)) .deep:=
 ⟨.parE (by decide) (by decide) (.deep (show a9 none (KB 21 (91::s)) 0=some true from sy hs hn mok hne st ef 20 0 rfl)),.headE (k:=0) (by decide) (.deep (sy hs hn mok hne st ef 20 0 rfl)),.foot (.wo hn ef (.deep (sy hs hn mok hne st ef 20 0 rfl)))⟩
end
theorem j_{P:List Nat->Prop}{a:List Nat}(h:P a){k:Nat}:∀w∈KB k a,P w:=λw hw=>by rw[M5 hw];exact h
section
variable {s f n:List Nat}(hs:aR s=true)(hn:aR n=true)(mok:MOk (mN s n))(hne:¬ s=n)(st:Rs)(ef:lkS (tx n) st.feet=none)(gn:Nm n)
include hs hn mok hne ef gn
theorem zN:∀ts∈i4,Rf [sh1 s] st (ts.map (vl s f n)) .toolong:=by
 have hm:n∉[sh1 s].map Sh.n:=λz=>hne (List.mem_singleton.mp z).symm;simp only[i4,K0,M1,KQ,Oz,vl,nmT,LA,LF,Lu];refine⟨?_,?_,?_,?_,?_,λ_ h=>by cases h⟩
 .exact .foot (.long hn ef (.good (xs:=KB 40 (wdD [120])) (M:=mN s n) (d:=6) ⟨by simp[a9,KB,opn,hs,hn,bV,aJ,aP,isF],by simp[bM,KB,bu,opn,hs,hn,aJ,bE,br,bW,clD,wdD,wdM,plD,plM,aP,isF],mok,by decide,λx hx=>by rw[M5 hx];exact ndW,by simp⟩ (by simp[rfN,KB,rfM,mis,wrL,wrD,bB,wdD,clD,plD,shF,sh1,szR,bo,szC,bG,ddL,hne]) (ws:=KB 40 [120]) (by simp[exL,ex,wdD,clD,plD,shF,sh1,ddL,KB]) (by simp) (j_ ⟨by decide,by decide⟩) (j_ (by decide))) (by simp))
 .have ok3:okW [.mark,.foot] (38::n):=by simp[okW,kwL,kwC,hn]
  have ou3:tJ (38::n):=⟨by simp,by have:=gn.len;simp only[KH];omega⟩;exact .foot (.long hn ef (.good (xs:=KB 37 (wdD [120])++[clD s [[wdD (38::n)]]]) (M:=mN s n) (d:=6) ⟨by simp[a9,KB,opn,hs,hn,bV,aJ,aP,isF],by simp[bM,KB,bu,opn,hs,hn,aJ,bE,br,bW,clD,wdD,wdM,plD,plM,aP,isF],mok,by decide,(λx hx=>(List.mem_append.mp hx).elim (λh=>by rw[M5 h];exact ndW) (λh=>by rw[List.mem_singleton.mp h];exact ndC (by simp[mN]) (by simp[ndW]))),by simp⟩ (by simp[rfN,KB,rfM,mis,wrL,wrD,bB,wdD,clD,plD,shF,sh1,szR,bo,szC,bG,ddL,hne]) (ws:=KB 37 [120]++KB 3 (38::n)) (by simp[exL,ex,wdD,clD,plD,shF,sh1,ddL,KB]) (by simp) (λw hw=>(List.mem_append.mp hw).elim (λh=>j_ ⟨by decide,by decide⟩ w h) (λh=>j_ ou3 w h)) (λw hw=>(List.mem_append.mp hw).elim (λh=>j_ (P:=okW [.mark,.foot]) (by decide) w h) (λh=>j_ ok3 w h))) (by simp))
 .exact .parE (by decide) (by decide) (HU (xs:=[wdD [119],clD s [[clD s [[clD s [[clD s [[wdD [120],wdD [120],wdD [120],wdD [120],wdD [120],wdD [120],wdD [120]]]]]]]]]]) (M:=mN s n) (d:=6) ⟨by simp[a9,opn,hs,hn,bV,aJ,aP,isF],by simp[bM,bu,opn,hs,hn,aJ,bE,br,bW,clD,wdD,wdM,plD,plM,aP,isF],mok,by decide,by simp(maxDischargeDepth:=12) [ndW,ndC,ndP,mN],by simp⟩ (by simp[rfN,rfM,mis,thD,cL,rwL,Nb,wrL,wrD,bB,wdD,clD,plD,shF,sh1,szR,bo,szC,bG,ddL,hne]))
 .exact .headE (k:=0) (by decide) (HU (xs:=[clD s [[clD s [[clD s [[clD s [[wdD [120],wdD [120],wdD [120],wdD [120],wdD [120]]]]]]]]]]) (M:=mN s n) (d:=6) ⟨by simp[a9,opn,hs,hn,bV,aJ,aP,isF],by simp[bM,bu,opn,hs,hn,aJ,bE,br,bW,clD,wdD,wdM,plD,plM,aP,isF],mok,by decide,by simp(maxDischargeDepth:=12) [ndW,ndC,ndP,mN],by simp⟩ (by simp[rfN,rfM,mis,thD,cL,rwL,Nb,wrL,wrD,bB,wdD,clD,plD,shF,sh1,szR,bo,szC,bG,ddL,hne]))
 .exact .let_ (Kv (k:=1) hn (by decide) hm (xs:=[clD s [[clD s [[clD s [[clD s [[plD 1,plD 1,plD 1,plD 1,plD 1]]]]]]]]]) (M:=mN s n) (d:=6) ⟨by simp[a9,opn,hs,hn,bV,aJ,aP,isF],by simp[bM,bu,opn,hs,hn,aJ,bE,br,bW,clD,wdD,wdM,plD,plM,aP,isF],mok,by decide,by simp(maxDischargeDepth:=12) [ndW,ndC,ndP,mN],by simp⟩ (by simp[rfN,rfM,mis,thD,cL,rwL,Nb,wrL,wrD,bB,wdD,clD,plD,shF,sh1,szR,bo,szC,bG,ddL,hne]))
end
theorem woW{S:List Sh}{bs:List Kw}{ts:List (List Nat)}{xs:List DD}{M:List (Wd0×Nat)}{d:Nat}(p:Par none ts xs M d)(h:rfN S d xs=0)(pre:List (List Nat))(w:List Nat)(post:List (List Nat))(e:exL id S 64 [] xs=(pre++w::post).map tx)(l:(pre++w::post).length<=400)(ok:∀u∈pre++w::post,tJ u)(g:∀u∈pre,okW bs u)(b:¬ okW bs w):Wo S bs ts (some .badword) []:=
 .word p h e l ok pre.length w (by simp) (λj u hj hu=>g u (KL (by rwa[LO hj]at hu))) b
theorem ER{P:DD->Prop}{a:DD}(h:P a){k:Nat}:∀w∈KB k a,P w:=λw hw=>by rw[M5 hw];exact h
section
variable {s f n:List Nat}(hs:aR s=true)(hf:aR f=true)(hn:aR n=true)(mok:MOk (mN s n))(hne:¬ s=n)(st:Rs)(ef:lkS (tx n) st.feet=none)(gf:Nm f)
include hs hf hn mok hne ef gf
theorem BB:∀ts∈jO,Rf [sh1 s] st (ts.map (vl s f n)) .badword:=by
 have of:∀c,tJ (c::f):=λc=>⟨by simp,by have:=gf.len;simp only[KH];omega⟩;have o1:∀c,tJ [c]:=λc=>⟨by simp,by simp⟩;have b1:¬ okW [.foot] (126::f):=by simp[okW,kwL,kwC,hf]
 have b2:¬ okW [.mark,.foot] (126::f):=by simp[okW,kwL,kwC,hf]
 have b3:¬ okW [.mark,.foot] (35::f):=by simp[okW,kwL,kwC,hf]
 simp only[jO,K0,M1,KQ,Oz,vl,nmT,LA,LF,Lu];refine⟨?_,?_,?_,?_,?_,?_,?_,?_,?_,λ_ h=>by cases h⟩
 .exact .parE (by decide) (by decide) (woW (xs:=[wdD [119],wdD (KB 61 120)]) (M:=mN s n) (d:=6) ⟨by simp[a9,KB,opn,hs,hn,bV,aJ,aP,isF],by simp[bM,KB,bu,opn,hs,hn,aJ,bE,br,bW,clD,wdD,wdM,plD,plM,aP,isF],mok,by decide,by simp[ndW],by simp⟩ (by simp[rfN,KB,rfM,mis,wrL,wrD,bB,wdD,clD,plD,shF,sh1,szR,bo,szC,bG,ddL,hne]) [[119]] (KB 61 120) [] (by simp[exL,ex,wdD,clD,plD,shF,sh1,ddL,KB]) (by simp) (by simp only[Lu,LA,K0];exact⟨o1 _,⟨by decide,by decide⟩,λ_ h=>by cases h⟩) (by decide) (by decide))
 .exact Rf.parE (c:=33) (u:=KB 61 120) (by decide) (by decide) (woW (xs:=[wdD (33::KB 61 120)]) (M:=mN s n) (d:=6) ⟨by simp[a9,KB,opn,hs,hn,bV,aJ,aP,isF],by simp[bM,KB,bu,opn,hs,hn,aJ,bE,br,bW,clD,wdD,wdM,plD,plM,aP,isF],mok,by decide,by simp[ndW],by simp⟩ (by simp[rfN,KB,rfM,mis,wrL,wrD,bB,wdD,clD,plD,shF,sh1,szR,bo,szC,bG,ddL,hne]) [] (33::KB 61 120) [] (by simp[exL,ex,wdD,clD,plD,shF,sh1,ddL,KB]) (by simp) (by simp only[Lu,LA,K0];exact⟨⟨by decide,by decide⟩,λ_ h=>by cases h⟩) (by decide) (by decide))
 .exact .headE (k:=0) (by decide) (woW (xs:=[wdD (126::f)]) (M:=mN s n) (d:=6) ⟨by simp[a9,KB,opn,hs,hn,bV,aJ,aP,isF],by simp[bM,KB,bu,opn,hs,hn,aJ,bE,br,bW,clD,wdD,wdM,plD,plM,aP,isF],mok,by decide,by simp[ndW],by simp⟩ (by simp[rfN,KB,rfM,mis,wrL,wrD,bB,wdD,clD,plD,shF,sh1,szR,bo,szC,bG,ddL,hne]) [] (126::f) [] (by simp[exL,ex,wdD,clD,plD,shF,sh1,ddL,KB]) (by simp) (by simp only[Lu,LA,K0];exact⟨of _,λ_ h=>by cases h⟩) (by decide) (b1))
 .exact .headE (k:=0) (by decide) (woW (xs:=[wdD [119],wdD (KB 61 46)]) (M:=mN s n) (d:=6) ⟨by simp[a9,KB,opn,hs,hn,bV,aJ,aP,isF],by simp[bM,KB,bu,opn,hs,hn,aJ,bE,br,bW,clD,wdD,wdM,plD,plM,aP,isF],mok,by decide,by simp[ndW],by simp⟩ (by simp[rfN,KB,rfM,mis,wrL,wrD,bB,wdD,clD,plD,shF,sh1,szR,bo,szC,bG,ddL,hne]) [[119]] (KB 61 46) [] (by simp[exL,ex,wdD,clD,plD,shF,sh1,ddL,KB]) (by simp) (by simp only[Lu,LA,K0];exact⟨o1 _,⟨by decide,by decide⟩,λ_ h=>by cases h⟩) (by decide) (by decide))
 .exact .foot (.wo hn ef (woW (xs:=[wdD (35::f)]) (M:=mN s n) (d:=6) ⟨by simp[a9,KB,opn,hs,hn,bV,aJ,aP,isF],by simp[bM,KB,bu,opn,hs,hn,aJ,bE,br,bW,clD,wdD,wdM,plD,plM,aP,isF],mok,by decide,by simp[ndW],by simp⟩ (by simp[rfN,KB,rfM,mis,wrL,wrD,bB,wdD,clD,plD,shF,sh1,szR,bo,szC,bG,ddL,hne]) [] (35::f) [] (by simp[exL,ex,wdD,clD,plD,shF,sh1,ddL,KB]) (by simp) (by simp only[Lu,LA,K0];exact⟨of _,λ_ h=>by cases h⟩) (by decide) (b3)))
 .exact .foot (.wo hn ef (woW (xs:=[wdD [120],wdD (126::f)]) (M:=mN s n) (d:=6) ⟨by simp[a9,KB,opn,hs,hn,bV,aJ,aP,isF],by simp[bM,KB,bu,opn,hs,hn,aJ,bE,br,bW,clD,wdD,wdM,plD,plM,aP,isF],mok,by decide,by simp[ndW],by simp⟩ (by simp[rfN,KB,rfM,mis,wrL,wrD,bB,wdD,clD,plD,shF,sh1,szR,bo,szC,bG,ddL,hne]) [[120]] (126::f) [] (by simp[exL,ex,wdD,clD,plD,shF,sh1,ddL,KB]) (by simp) (by simp only[Lu,LA,K0];exact⟨o1 _,of _,λ_ h=>by cases h⟩) (by decide) (b2)))
 .exact .foot (.wo hn ef (woW (xs:=wdD (126::f)::KB 50 (wdD [120])) (M:=mN s n) (d:=6) ⟨by simp[a9,KB,opn,hs,hn,bV,aJ,aP,isF],by simp[bM,KB,bu,opn,hs,hn,aJ,bE,br,bW,clD,wdD,wdM,plD,plM,aP,isF],mok,by decide,(List.forall_mem_cons.mpr ⟨ndW,ER ndW⟩),by simp⟩ (by simp[rfN,KB,rfM,mis,wrL,wrD,bB,wdD,clD,plD,shF,sh1,szR,bo,szC,bG,ddL,hne]) [] (126::f) (KB 50 [120]) (by simp[exL,ex,wdD,clD,plD,shF,sh1,ddL,KB]) (by simp) (List.forall_mem_cons.mpr ⟨of _,j_ (o1 _)⟩) (by decide) (b2)))
 .exact .headE (k:=0) (by decide) (woW (xs:=[clD s [[wdD (126::f)]]]) (M:=mN s n) (d:=6) ⟨by simp[a9,KB,opn,hs,hn,bV,aJ,aP,isF],by simp[bM,KB,bu,opn,hs,hn,aJ,bE,br,bW,clD,wdD,wdM,plD,plM,aP,isF],mok,by decide,by simp(maxDischargeDepth:=12) [ndW,ndC,mN],by simp⟩ (by simp[rfN,KB,rfM,mis,wrL,wrD,bB,wdD,clD,plD,shF,sh1,szR,bo,szC,bG,ddL,hne]) [] (126::f) [126::f,126::f] (by simp[exL,ex,wdD,clD,plD,shF,sh1,ddL,KB]) (by simp) (by simp only[Lu,LA,K0];exact⟨of _,of _,of _,λ_ h=>by cases h⟩) (by decide) (b1))
 .exact .parE (by decide) (by decide) (woW (xs:=[wdD [119],wdD (35::KB 60 97),wdD [35,98]]) (M:=mN s n) (d:=6) ⟨by simp[a9,KB,opn,hs,hn,bV,aJ,aP,isF],by simp[bM,KB,bu,opn,hs,hn,aJ,bE,br,bW,clD,wdD,wdM,plD,plM,aP,isF],mok,by decide,by simp[ndW],by simp⟩ (by simp[rfN,KB,rfM,mis,wrL,wrD,bB,wdD,clD,plD,shF,sh1,szR,bo,szC,bG,ddL,hne]) [[119]] (35::KB 60 97) [[35,98]] (by simp[exL,ex,wdD,clD,plD,shF,sh1,ddL,KB]) (by simp) (by simp only[Lu,LA,K0];exact⟨o1 _,⟨by decide,by decide⟩,⟨by decide,by decide⟩,λ_ h=>by cases h⟩) (by decide) (by decide))
end
def sC:List (List Tk):=[[([119],0,[])]++KB 21 ([91],1,[]),[([61],0,[])]++KB 21 ([91],1,[]),[([46,102,111,111,116],0,[]),([],3,[])]++KB 21 ([91],1,[])]
theorem Gc(s f n:List Nat):mnB (tx s) (tx f) (tx n) .deep=sC.map λts=>tx (cE s f n ts):=by
 simp[mnB,mnD,sC,q9,Bv,EM,HP,cB,Ku,cE,vl,nmT,c_,c3]
theorem BC:sC.all (λts=>ts.all gy)=true:=by decide
def lnT(ts:List Tk):Nat:=(ts.map λt=>t.1.length+t.2.2.length+13).sum
def q_(ts:List Tk):Bool:=decide (lnT ts<=1000)&&decide (ts.length<=130)
section
variable {s f n:List Nat}(hs:Nm s)(hf:Nm f)(hn:Nm n)
include hs hf hn
theorem zo:∀ts:List Tk,(cE s f n ts).length<=lnT ts
 |[]=>Ls _
 |[t]=>by
  have:=(zk hs hf hn t.2.1).1;show(t.1++(nmT s f n t.2.1++t.2.2)).length<=t.1.length+t.2.2.length+13+0;simp only[KI];omega
 |t::u::r=>by
  have:=(zk hs hf hn t.2.1).1;have ih:=zo (u::r);show((t.1++(nmT s f n t.2.1++t.2.2))++[32]++cE s f n (u::r)).length<=(t.1.length+t.2.2.length+13)+lnT (u::r);simp only[KI,Li];omega
structure Mr(l:List Nat)(ws:List (List Nat)):Prop where
 len:l.length<=1000
 eq:aQ l=ws
 few:ws.length<=130
 ok:∀w∈ws,WOk w
theorem oy{ts:List Tk}(h:ts.all gy=true)(h2:q_ ts=true):Mr (cE s f n ts) (ts.map (vl s f n)):=by
 obtain⟨a,b⟩:=Dl hs hf hn h;simp only[q_,Ly,decide_eq_true_eq]at h2;exact⟨Ln (zo hs hf hn ts) h2.1,a,by rw[KA];exact h2.2,b⟩
theorem oz{tk:List (List Tk)}(h:tk.all (λts=>ts.all gy)=true)(h2:tk.all q_=true){S:List Sh}{st:Rs}{e:Er}(g:∀ts∈tk,Rf S st (ts.map (vl s f n)) e){m:List Str}(em:m=tk.map λts=>tx (cE s f n ts)){r:Str}(hr:r∈m):∃l ws,r=tx l/\Mr l ws/\Rf S st ws e:=by
 rw[em]at hr;obtain⟨ts,ht,rfl⟩:=List.mem_map.mp hr;exact⟨_,_,rfl,oy hs hf hn (List.all_eq_true.mp h ts ht) (List.all_eq_true.mp h2 ts ht),g ts ht⟩
theorem Gd(hne:¬ s=n)(st:Rs){w:List Wk}(e1:lkS (tx f) st.feet=some w)(e2:lkS (tx n) st.feet=none){e:Er}{r:Str}(hr:r∈mnB (tx s) (tx f) (tx n) e):∃l ws,r=tx l/\Mr l ws/\Rf [sh1 s] st ws e:=by
 have mok:=ox hs hn;cases e with
 |badrow =>
  have hr:r∈fI (tx s) (tx f) (tx n):=hr;rw[Dm s f n]at hr;obtain⟨ts,ht,rfl⟩:=List.mem_map.mp hr;have g:=Dn hs.is hf.is hn.is st hs hf hn ts ht;have:ts.all gy=true/\q_ ts=true\/ts=[([32,32,46,57],0,[])]:=by
   have h:jm.all (λts=>(ts.all gy&&q_ ts)||decide (ts=[([32,32,46,57],0,[])]))=true:=by decide
   have:=List.all_eq_true.mp h ts ht;simpa using this
  rcases this with⟨h1,h2⟩|rfl
  .have m:=oy hs hf hn h1 h2;rw[m.eq]at g;exact⟨_,_,rfl,m,g⟩
  .exact⟨_,_,rfl,Mr.mk (l:=[32,32,46,57]) (ws:=[[46,57]]) (by decide) rfl (by decide) (λw hw=>by rw[List.mem_singleton.mp hw];exact⟨by decide,by decide,by decide⟩),g⟩
 |badcall=>exact oz hs hf hn wW (by decide) (BA hs.is hn.is mok hne st e2) (Bw s f n) hr
 |noshort=>exact oz hs hf hn vF (by decide) (zM hs.is hn.is mok hne st e2) (zJ s f n) hr
 |twice=>exact oz hs hf hn zK (by decide) (EO hs.is hf.is hn.is st e1) (EN s f n) hr
 |badword=>exact oz hs hf hn wX (by decide) (BB hs.is hf.is hn.is mok hne st e2 hf) (Bx s f n) hr
 |toolong=>exact oz hs hf hn vG (by decide) (zN hs.is hn.is mok hne st e2 hn) (zL s f n) hr
 |deep =>
  obtain⟨d1,d2,d3⟩:=Gb (s:=s) (n:=n) hs.is hn.is mok hne st e2;refine oz hs hf hn BC (by decide) ?_ (Gc s f n) hr;simp only[sC,K0,M1,KQ,Oz,vl,nmT,LA,LF,Lu];exact⟨d1,d2,d3,λ_ h=>by cases h⟩
end
def BD:List (List Nat):=[[119],[116],[120],[33,46,57],[61],[121],[122]]
inductive Gn(st:Rs):Rs->Prop
 |em:Gn st { st with g:=false }
 |pg:Gn st { st with things:=st.things++[.page],g:=false }
 |od:Gn st { st with things:=st.things++[.odd],g:=false }
 |hd {k:Nat} {ws:List (List Nat)} (hk:k<3) (hw:∀w∈ws,w∈BD) (hl:ws.length<=4):Gn st { st with things:=st.things++[.head (k+1) (ws.map wkL)],g:=false }
 |pr {ws:List (List Nat)} (hw:∀w∈ws,w∈BD) (hl:ws.length<=4):Gn st (jB st (.par (ws.map wkL)))
theorem ES{s:List Nat}(gs:Nm s)(st:Rs){r:Str}(hr:r∈iE (tx s)):∃l ws,r=tx l/\Mr l ws/\∃st',RwO [sh1 s] st ws none st' [sh1 s]/\Gn st st':=by
 have hs:=gs.is;have mok:=ox gs gs;rw[Ga s s s]at hr;obtain⟨ts,ht,rfl⟩:=List.mem_map.mp hr;have h2:lJ.all q_=true:=by decide
 refine⟨_,_,rfl,oy gs gs gs (List.all_eq_true.mp By ts ht) (List.all_eq_true.mp h2 ts ht),?_⟩;have:∀ts∈lJ,∃st',RwO [sh1 s] st (ts.map (vl s s s)) none st' [sh1 s]/\Gn st st':=by
  simp only[lJ,K0,M1,vl,nmT,LA,LF,Lu];refine⟨?_,?_,?_,?_,?_,?_,?_,?_,λ_ h=>by cases h⟩
  .exact⟨_,.par (by decide) (by decide) (.good (xs:=[wdD [119]]) (M:=mN s s) (d:=6) ⟨by simp[a9,opn,hs,bV,aJ,aP,isF],by simp[bM,bu,opn,hs,aJ,bE,br,bW,clD,wdD,wdM,plD,plM,aP,isF],mok,by decide,by simp[ndW],by simp⟩ (by simp[rfN,rfM,mis,wrL,wrD,bB,wdD,clD,plD,shF,sh1,szR,bo,szC,bG,ddL]) (ws:=[[119]]) (by simp[exL,ex,wdD,clD,plD,shF,sh1,ddL,KB]) (by decide) (by simp only[K0];exact⟨⟨by decide,by decide⟩,λ_ h=>by cases h⟩) (by decide)),.pr (by decide) (by decide)⟩
  .exact⟨_,.head (k:=0) (by decide) (.good (xs:=[wdD [116]]) (M:=mN s s) (d:=6) ⟨by simp[a9,opn,hs,bV,aJ,aP,isF],by simp[bM,bu,opn,hs,aJ,bE,br,bW,clD,wdD,wdM,plD,plM,aP,isF],mok,by decide,by simp[ndW],by simp⟩ (by simp[rfN,rfM,mis,wrL,wrD,bB,wdD,clD,plD,shF,sh1,szR,bo,szC,bG,ddL]) (ws:=[[116]]) (by simp[exL,ex,wdD,clD,plD,shF,sh1,ddL,KB]) (by decide) (by simp only[K0];exact⟨⟨by decide,by decide⟩,λ_ h=>by cases h⟩) (by decide)),.hd (by decide) (by decide) (by decide)⟩
  .exact⟨_,.empty,.em⟩
  .exact⟨_,.alone (w:=iD) (by decide) (.page rfl rfl),.pg⟩
  .exact⟨_,.alone (w:=j7) (by decide) (.odd rfl rfl),.od⟩
  .exact⟨_,.par (by decide) (by decide) (.good (xs:=[wdD [120],wdD [33,46,57],wdD [61]]) (M:=mN s s) (d:=6) ⟨by simp[a9,opn,hs,bV,aJ,aP,isF],by simp[bM,bu,opn,hs,aJ,bE,br,bW,clD,wdD,wdM,plD,plM,aP,isF],mok,by decide,by simp[ndW],by simp⟩ (by simp[rfN,rfM,mis,wrL,wrD,bB,wdD,clD,plD,shF,sh1,szR,bo,szC,bG,ddL]) (ws:=[[120],[33,46,57],[61]]) (by simp[exL,ex,wdD,clD,plD,shF,sh1,ddL,KB]) (by decide) (by simp only[K0];exact⟨⟨by decide,by decide⟩,⟨by decide,by decide⟩,⟨by decide,by decide⟩,λ_ h=>by cases h⟩) (by decide)),.pr (by decide) (by decide)⟩
  .exact⟨_,.par (by decide) (by decide) (.good (xs:=[wdD [119],clD s [[wdD [120]]]]) (M:=mN s s) (d:=6) ⟨by simp[a9,opn,hs,bV,aJ,aP,isF],by simp[bM,bu,opn,hs,aJ,bE,br,bW,clD,wdD,wdM,plD,plM,aP,isF],mok,by decide,by simp(maxDischargeDepth:=12) [ndW,ndC,mN],by simp⟩ (by simp[rfN,rfM,mis,wrL,wrD,bB,wdD,clD,plD,shF,sh1,szR,bo,szC,bG,ddL]) (ws:=[[119],[120],[120],[120]]) (by simp[exL,ex,wdD,clD,plD,shF,sh1,ddL,KB]) (by decide) (by simp only[K0];exact⟨⟨by decide,by decide⟩,⟨by decide,by decide⟩,⟨by decide,by decide⟩,⟨by decide,by decide⟩,λ_ h=>by cases h⟩) (by decide)),.pr (by decide) (by decide)⟩
  .exact⟨_,.head (k:=2) (by decide) (.good (xs:=[clD s [[wdD [121]]],wdD [122]]) (M:=mN s s) (d:=6) ⟨by simp[a9,opn,hs,bV,aJ,aP,isF],by simp[bM,bu,opn,hs,aJ,bE,br,bW,clD,wdD,wdM,plD,plM,aP,isF],mok,by decide,by simp(maxDischargeDepth:=12) [ndW,ndC,mN],by simp⟩ (by simp[rfN,rfM,mis,wrL,wrD,bB,wdD,clD,plD,shF,sh1,szR,bo,szC,bG,ddL]) (ws:=[[121],[121],[121],[122]]) (by simp[exL,ex,wdD,clD,plD,shF,sh1,ddL,KB]) (by decide) (by simp only[K0];exact⟨⟨by decide,by decide⟩,⟨by decide,by decide⟩,⟨by decide,by decide⟩,⟨by decide,by decide⟩,λ_ h=>by cases h⟩) (by decide)),.hd (by decide) (by decide) (by decide)⟩
 exact this ts ht
theorem Do{s:List Nat}(gs:Nm s)(st:Rs):RwO [] st [[46,108,101,116],s,[49],[36,49],[36,49],[36,49]] none st [sh1 s]:=
 have hs:=gs.is
 RwO.let_ (fC.ok (S:=[]) (k:=1) (xs:=[plD 1,plD 1,plD 1]) (M:=mN s s) (d:=6) hs (by decide) (by simp) ⟨by simp[a9,opn,hs,bV,aJ,aP,isF],by simp[bM,bu,opn,hs,aJ,bE,br,bW,clD,wdD,wdM,plD,plM,aP,isF],ox gs gs,by decide,by simp[ndP],by simp⟩ (λx hx=>.inr ⟨1,by simpa using hx⟩) (by decide))
theorem ET{s n:List Nat}(gs:Nm s)(gn:Nm n)(hne:¬ s=n)(st:Rs):RwO [sh1 s] st [[46,108,101,116],n,[48],[120]] none st [sh1 s,⟨n,0,[wdD [120]],cL [sh1 s] 0 6 [wdD [120]],bo [sh1 s] 6 [wdD [120]]⟩]:=
 have hs:=gn.is
 (RwO.let_ (fC.ok (S:=[sh1 s]) (k:=0) (xs:=[wdD [120]]) (M:=mN s s) (d:=6) gn.is (by decide) (λz=>hne (List.mem_singleton.mp z).symm) ⟨by simp[a9,opn,hs,bV,aJ,aP,isF],by simp[bM,bu,opn,hs,aJ,bE,br,bW,clD,wdD,wdM,plD,plM,aP,isF],ox gs gs,by decide,by simp[ndW],by simp⟩ (λx hx=>.inl ⟨[120],List.mem_singleton.mp hx⟩) (by simp[rfM,mis,thD,cL,rwL,wrL,wrD,bB,wdD,shF,sh1,szR,bo,szC])))
theorem BE{s f:List Nat}(gs:Nm s)(gf:Nm f)(st:Rs)(ef:lkS (tx f) st.feet=none):RwO [sh1 s] st [[46,102,111,111,116],f,[120],[38,113]] none { st with feet:=st.feet++[(tx f,[[120],[38,113]].map wkL)] } [sh1 s]:=
 have hs:=gs.is
 RwO.foot (.ok gf.is ef (.good (xs:=[wdD [120],wdD [38,113]]) (M:=mN s s) (d:=6) ⟨by simp[a9,opn,hs,bV,aJ,aP,isF],by simp[bM,bu,opn,hs,aJ,bE,br,bW,clD,wdD,wdM,plD,plM,aP,isF],ox gs gs,by decide,by simp[ndW],by simp⟩ (by simp[rfN,rfM,mis,wrL,wrD,bB,wdD,clD,plD,shF,sh1,szR,bo,szC,bG,ddL]) (ws:=[[120],[38,113]]) (by simp[exL,ex,wdD,clD,plD,shF,sh1,ddL,KB]) (by decide) (by simp only[K0];exact⟨⟨by decide,by decide⟩,⟨by decide,by decide⟩,λ_ h=>by cases h⟩) (by decide)) (by decide))
theorem BF{s:List Nat}(gs:Nm s)(st:Rs):RwO [sh1 s] st [[35,113],[119]] none (jB st (.par ([[35,113],[119]].map wkL))) [sh1 s]:=
 have hs:=gs.is
 RwO.par (by decide) (by decide) (.good (xs:=[wdD [35,113],wdD [119]]) (M:=mN s s) (d:=6) ⟨by simp[a9,opn,hs,bV,aJ,aP,isF],by simp[bM,bu,opn,hs,aJ,bE,br,bW,clD,wdD,wdM,plD,plM,aP,isF],ox gs gs,by decide,by simp[ndW],by simp⟩ (by simp[rfN,rfM,mis,wrL,wrD,bB,wdD,clD,plD,shF,sh1,szR,bo,szC,bG,ddL]) (ws:=[[35,113],[119]]) (by simp[exL,ex,wdD,clD,plD,shF,sh1,ddL,KB]) (by decide) (by simp only[K0];exact⟨⟨by decide,by decide⟩,⟨by decide,by decide⟩,λ_ h=>by cases h⟩) (by decide))
def sh2(n:List Nat):Sh:=⟨n,0,[wdD [120]],[1],0⟩
theorem xr{s:List Nat}(gs:Nm s):jE [sh1 s] where
 nd:=by simp
 len:=by simp
 row:=by simp[sh1]
 c9:=by simp[sh1]
 nam:=by simp only[Mo];exact⟨gs.len,λc h=>(gs.lt c h).1⟩
 r4:=by simp[sh1]
 nod:=by simp only[Mo];exact⟨by simp[sh1],[],by simp[sh1,ndP]⟩
 x:=⟨by simp,by simp,(λi t h=>by
   have:=KL h;rw[List.mem_singleton.mp this];simp[sh1,ndP]),(by simp[sh1,cL,rwL,szR,plD];decide),(by simp only[Mo];intro k h1 h2;have:k=1:=Nat.le_antisymm h2 h1;subst this;show(1:Int)<=3;decide),by simp[sh1],by simp[sh1]⟩
 k6:=by simp[sh1]
 isn:=by simp only[Mo];exact gs.is
 eqk:=by simp[sh1,bo,szC,plD]
 wf:=by simp only[Mo];exact λx hx=>.inr (.inl ⟨1,by simpa[sh1]using hx⟩)
 mu:=by simp only[Mo];show muL [plD 1,plD 1,plD 1]<=780;decide
theorem Ja{s n:List Nat}(gs:Nm s)(gn:Nm n)(hne:¬ s=n):jE [sh1 s,sh2 n] where
 nd:=by simp[sh1,sh2,hne]
 len:=by simp
 row:=by simp[sh1,sh2]
 c9:=by simp[sh1,sh2]
 nam:=by simp only[K0];exact⟨⟨gs.len,λc h=>(gs.lt c h).1⟩,⟨gn.len,λc h=>(gn.lt c h).1⟩,λ_ h=>by cases h⟩
 r4:=by simp[sh1,sh2]
 nod:=by simp only[K0];exact⟨⟨by simp[sh1],[],by simp[sh1,ndP]⟩,⟨by simp[sh2],[],by simp[sh2,ndW]⟩,λ_ h=>by cases h⟩
 x:=⟨by simp[sh1,sh2,hne],by simp,(λi t h=>by
   have:=KL h;simp only[Ll,Lj,or_false]at this;rcases this with rfl|rfl
   .simp[sh1,ndP]
   .simp[sh2,ndW]),(by simp[sh1,sh2,cL,rwL,szR,plD,wdD];decide),(by simp only[K0];exact⟨λk h1 h2=>by { have:k=1:=Nat.le_antisymm h2 h1;subst this;show(1:Int)<=3;decide },λk h1 h2=>absurd (Ln h1 h2) (by simp[sh2]),λ_ h=>by cases h⟩),by simp[sh1,sh2],by simp[sh1,sh2]⟩
 k6:=by simp[sh1,sh2]
 isn:=by simp only[K0];exact⟨gs.is,gn.is,λ_ h=>by cases h⟩
 eqk:=by simp[sh1,sh2,bo,szC,plD,wdD]
 wf:=by simp only[K0];exact⟨λx hx=>.inr (.inl ⟨1,by simpa[sh1]using hx⟩),λx hx=>.inl ⟨[120],⟨⟨by decide,by decide,by decide⟩,by decide⟩,by simpa[sh2]using hx⟩,λ_ h=>by cases h⟩
 mu:=by simp only[K0];exact⟨(show muL [plD 1,plD 1,plD 1]<=780 by decide),(show muL [wdD [120]]<=780 by decide),λ_ h=>by cases h⟩
theorem vI(c:Int)(j:Nat):Nm (dO c j) where
 is:=(oX c).name j
 ne:=λz=>by have:=(oX c).name j;rw[z]at this;cases this
 len:=(oX c).len j
 lt:=λd hd=>⟨((oX c).sg j d hd).2,by have:=((oX c).sg j d hd).1;omega⟩
structure Bd(i:Nat)(ft:List (Str×List Wk))(st:Rs):Prop where
 ft:st.feet=ft
 n:st.things.length<=i
 w:tgS st.things<=4*i
theorem o_(l:List Tg)(t:Tg):tgS (l++[t])=tgS l+tgN t:=by simp[tgS]
theorem Gn.bd{i:Nat}{ft:List (Str×List Wk)}{st st':Rs}(b:Bd i ft st)(g:Gn st st'):Bd (i+1) ft st':=by
 have b1:=b.n;have b2:=b.w;cases g with
 |em=>exact⟨b.ft,Ng b1,by show tgS st.things<=_;omega⟩
 |pg=>exact⟨b.ft,by simp;omega,by show tgS (st.things++[.page])<=_;rw[o_];simp only[tgN];omega⟩
 |od=>exact⟨b.ft,by simp;omega,by show tgS (st.things++[.odd])<=_;rw[o_];simp only[tgN];omega⟩
 |@hd k ws hk hw hl=>exact⟨b.ft,by simp;omega,by show tgS (st.things++[.head (k+1) (ws.map wkL)])<=_;rw[o_];simp only[tgN,KA];omega⟩
 |@pr ws hw hl =>
  obtain⟨a1,a2⟩:=yx (ws.map wkL) st.things;rw[KA]at a1;unfold jB;by_cases h:st.g=true
  .simp only[h,if_true];exact⟨b.ft,by show(b9 _ _).length<=_;omega,by show tgS (b9 _ _)<=_;omega⟩
  .rw[Nn]at h;simp only[h,Bool.false_eq_true,if_false];exact⟨b.ft,by simp;omega,by show tgS (st.things++[.par (ws.map wkL)])<=_;rw[o_];simp only[tgN,KA];omega⟩
inductive Drw(s f n:List Nat):List Str->List (Option Er)->Prop
 |nil:Drw s f n [] []
 |good {r:Str} {rs:List Str} {ks:List (Option Er)} (h:r∈iE (tx s)) (t:Drw s f n rs ks):Drw s f n (r::rs) (none::ks)
 |bad {r:Str} {rs:List Str} {ks:List (Option Er)} {e:Er} (h:r∈mnB (tx s) (tx f) (tx n) e) (t:Drw s f n rs ks):Drw s f n (r::rs) (some e::ks)
def fst?(ks:List (Option Er)):Option Er:=ks.findSome? id
inductive Gns:Nat->Rs->Rs->Prop
 |nil {st:Rs}:Gns 0 st st
 |cons {a b c:Rs} {i:Nat} (h:Gn a b) (t:Gns i b c):Gns (i+1) a c
theorem drawn{s f n:List Nat}(hs:Nm s)(hf:Nm f)(hn:Nm n)(hne:¬ s=n){ft:List (Str×List Wk)}{w:List Wk}(e1:lkS (tx f) ft=some w)(e2:lkS (tx n) ft=none)(fl:ft.length<=200)(last:List (List Nat))(hl:∀st,RwO [sh1 s] st last none st [sh1 s,sh2 n]):∀{rs:List Str}{ks:List (Option Er)},Drw s f n rs ks->∀{i:Nat}{st:Rs},Bd i ft st->i+rs.length<=100->∃ls:List (List Nat),rs=ls.map tx/\(∀l∈ls,Mr l (aQ l))/\∃s2,RsO [sh1 s] st (ls.map aQ++[last]) (fst? ks) s2/\(fst? ks=none->Gns rs.length st s2):=by
 intro rs ks d;induction d with
 |nil=>exact λ{i st} b hi=>⟨[],rfl,(λl h=>by cases h),st,.cons (hl st) (Ja hs hn hne) ⟨by have:=b.n;simp at hi;omega,by have:=b.w;simp at hi;omega,by rw[b.ft];exact fl⟩ .nil,λ_=>.nil⟩
 |@good r rs ks h t ih =>
  intro i st b hi;obtain⟨l,ws,rfl,m,st',o,g⟩:=ES hs st h;simp only[KH]at hi;have b':=g.bd b;obtain⟨ls,e,ok,s2,R,G⟩:=ih b' (by omega);obtain rfl:=m.eq;exact⟨l::ls,by rw[e];rfl,List.forall_mem_cons.mpr ⟨m,ok⟩,s2,.cons o (xr hs) ⟨by have:=b'.n;omega,by have:=b'.w;omega,by rw[b'.ft];exact fl⟩ R,λz=>.cons g (G z)⟩
 |@bad r rs ks e h t ih =>
  intro i st b hi;obtain⟨l,ws,rfl,m,st',S',o⟩:=Gd hs hf hn hne st (by rw[b.ft];exact e1) (by rw[b.ft];exact e2) h;simp only[KH]at hi;obtain⟨ls,e,ok,s2,_,_⟩:=ih (i:=i) b (by omega);obtain rfl:=m.eq;exact⟨l::ls,by rw[e];rfl,List.forall_mem_cons.mpr ⟨m,ok⟩,s2,.bad o,λz=>by cases z⟩
theorem Dp{s n:List Nat}(gs:Nm s)(gn:Nm n)(hne:¬ s=n)(st:Rs):RwO [sh1 s] st [[46,108,101,116],n,[48],[120]] none st [sh1 s,sh2 n]:=by
 have h:=ET gs gn hne st;rw[show cL [sh1 s] 0 6 [wdD [120]]=[1] by simp[cL,rwL,szR,wdD],show bo [sh1 s] 6 [wdD [120]]=0 by simp[bo,szC,wdD]]at h;exact h
theorem Drw.app{s f n:List Nat}{rs rs2:List Str}{ks ks2:List (Option Er)}(d:Drw s f n rs ks)(e:Drw s f n rs2 ks2):Drw s f n (rs++rs2) (ks++ks2):=by
 induction d with
 |nil=>exact e
 |good h _ ih=>exact .good h ih
 |bad h _ ih=>exact .bad h ih
theorem As(ks:List (Option Er))(k:Option Er):fst? (ks++[k])=(fst? ks).or k:=by
 unfold fst?;rw[List.findSome?_append];cases k<;>simp
def PnW(w:Wk):Prop:=w.1=.plain/\∃n:List Nat,n.length<=200/\(∀d∈n,d<127)/\w.2=.str (tx n)
theorem EU{ws:List (List Nat)}(h:∀w∈ws,w∈BD):∀w∈ws.map wkL,PnW w:=λw hw=>by
 obtain⟨t,ht,rfl⟩:=List.mem_map.mp hw;have:∀t∈BD,(kwL t).1=.plain/\(kwL t).2.length<=200/\∀d∈(kwL t).2,d<127:=by decide
 obtain⟨a,b,c⟩:=this t (h t ht);exact⟨a,_,b,c,rfl⟩
theorem PnW.rd{w:Wk}(h:PnW w):RdW w:=by
 obtain⟨a,n,b,c,d⟩:=h;exact⟨.inl ⟨by rw[a];decide,n,b,c,d⟩,by rw[a];decide⟩
def PnT:Tg->Prop
 |.head n ws=>1<=n/\n<=3/\ws.length<=4/\∀w∈ws,PnW w
 |.par ws=>∀w∈ws,PnW w
 |.lst=>False
 |_=>True
def cst:Tg->Nat
 |.head _ _=>5
 |.par ws=>ws.length
 |_=>0
def csS(l:List Tg):Nat:=(l.map cst).sum
theorem zp{ws:List Wk}(h:∀w∈ws,PnW w):∀{l:List Tg},(∀t∈l,PnT t)->(∀t∈b9 ws l,PnT t)/\csS (b9 ws l)=csS l+ws.length
 |[],_=>⟨λt ht=>by rw[List.mem_singleton.mp ht];exact h,by simp[b9,csS,cst]⟩
 |[t],g=>by
  have g0:=g _ KO;cases t with
  |par vs=>exact⟨λt ht=>by rw[List.mem_singleton.mp ht];exact λw hw=>(List.mem_append.mp hw).elim (g0 w) (h w),by simp[b9,csS,cst]⟩
  |page=>exact⟨List.forall_mem_cons.mpr ⟨g0,List.forall_mem_cons.mpr ⟨h,λ_ z=>by cases z⟩⟩,by simp[b9,csS,cst]⟩
  |odd=>exact⟨List.forall_mem_cons.mpr ⟨g0,List.forall_mem_cons.mpr ⟨h,λ_ z=>by cases z⟩⟩,by simp[b9,csS,cst]⟩
  |lst=>exact g0.elim
  |head n vs=>exact⟨List.forall_mem_cons.mpr ⟨g0,List.forall_mem_cons.mpr ⟨h,λ_ z=>by cases z⟩⟩,by simp[b9,csS,cst]⟩
 |t::u::r,g=>by
  have e:b9 ws (t::u::r)=t::b9 ws (u::r):=by cases t<;>rfl
  obtain⟨a,b⟩:=zp h (l:=u::r) (λx hx=>g x (KN _ hx));rw[e];refine⟨List.forall_mem_cons.mpr ⟨g t KO,a⟩,?_⟩;have c1:csS (t::b9 ws (u::r))=cst t+csS (b9 ws (u::r)):=rfl;have c2:csS (t::u::r)=cst t+csS (u::r):=rfl;omega
def mkQ:Wk:=(.mark,.str (tx [113]))
structure Fs(i:Nat)(st:Rs)(us:List Wk)(ts:List Tg):Prop where
 e:st.things=.par (mkQ::us)::ts
 ne:us≠[]
 u:∀w∈us,PnW w
 t:∀t∈ts,PnT t
 c:us.length+csS ts<=1+5*i
theorem Gn.fs{i:Nat}{st st':Rs}{us:List Wk}{ts:List Tg}(f:Fs i st us ts)(g:Gn st st'):∃us ts,Fs (i+1) st' us ts:=by
 obtain⟨e,ne,hu,ht,c⟩:=f;have one:∀t,PnT t->cst t<=5->∀b,∃us ts,Fs (i+1) ⟨st.things++[t],st.feet,b⟩ us ts:=λt pt ct b=>⟨us,ts++[t],by show st.things++[t]=_;rw[e];rfl,ne,hu,λx hx=>(List.mem_append.mp hx).elim (ht x) (λz=>by rw[List.mem_singleton.mp z];exact pt),by
  have:csS (ts++[t])=csS ts+cst t:=by simp[csS]
  omega⟩
 cases g with
 |em=>exact⟨us,ts,e,ne,hu,ht,by omega⟩
 |pg=>exact one .page trivial (by decide) false
 |od=>exact one .odd trivial (by decide) false
 |@hd k ws hk hw hl=>exact one (.head (k+1) (ws.map wkL)) ⟨by omega,by omega,by rw[KA];exact hl,EU hw⟩ (Kz _) false
 |@pr ws hw hl =>
  have pw:=EU hw;unfold jB;by_cases h:st.g=true
  .simp only[h,if_true];cases ts with
   |nil=>exact⟨us++ws.map wkL,[],by show b9 _ st.things=_;rw[e];rfl,by simp[ne],λw hw=>(List.mem_append.mp hw).elim (hu w) (pw w),ht,by rw[KI,KA];omega⟩
   |cons x r =>
    obtain⟨a,b⟩:=zp pw ht;rw[KA]at b;exact⟨us,b9 (ws.map wkL) (x::r),by show b9 _ st.things=_;rw[e];rfl,ne,hu,a,by omega⟩
  .rw[Nn]at h;simp only[h,Bool.false_eq_true,if_false];exact one (.par (ws.map wkL)) pw (by show(ws.map wkL).length<=5;rw[KA];omega) true
theorem Gns.all{ft:List (Str×List Wk)}{k:Nat}{st st':Rs}(g:Gns k st st'):∀{i:Nat}{us:List Wk}{ts:List Tg},Fs i st us ts->Bd (i+1) ft st->∃us ts,Fs (i+k) st' us ts/\Bd (i+k+1) ft st':=by
 induction g with
 |nil=>exact λf b=>⟨_,_,f,b⟩
 |@cons a b c j h t ih =>
  intro i us ts f bd;obtain⟨us',ts',f'⟩:=h.fs f;obtain⟨u2,t2,f2,b2⟩:=ih f' (h.bd bd);rw[show i+(j+1)=i+1+j by omega];exact⟨u2,t2,f2,b2⟩
theorem uN{c:Sc}{byh:Bool}:∀{ws:List Wk}{σ:Ss}{ld:Int},(∀w∈ws,w.1=.plain)->σ.ws.length+ws.length<=400->(∀t∈σ.ws,t.w.1=.plain/\t.foot=[])->∃σ',cr c σ ld byh ws=.ok σ'/\σ'.ms=σ.ms/\σ'.ws.length=σ.ws.length+ws.length/\∀t∈σ'.ws,t.w.1=.plain/\t.foot=[]
 |[],σ,ld,_,_,p=>⟨σ,rfl,rfl,rfl,p⟩
 |w::r,σ,ld,hw,hl,p=>by
  have k:=hw w KO;simp only[KH]at hl;have p2:∀t∈σ.ws++[(⟨if 0<σ.lp then σ.lp else ld,σ.bh&&decide ((if 0<σ.lp then σ.lp else ld)<=2),w,[]⟩:Wt)],t.w.1=.plain/\t.foot=[]:=λt ht=>(List.mem_append.mp ht).elim (p t) (λz=>by rw[List.mem_singleton.mp z];exact⟨k,rfl⟩);obtain⟨σ',e1,e2,e3,e4⟩:=uN (c:=c) (byh:=byh) (ws:=r) (ld:=0) (σ:={ σ with lp:=if 0<σ.lp then 0 else σ.lp,ws:=σ.ws++[⟨if 0<σ.lp then σ.lp else ld,σ.bh&&decide ((if 0<σ.lp then σ.lp else ld)<=2),w,[]⟩],bh:=byh }) (λx hx=>hw x (KN _ hx)) (by simp only[KI,Li];omega) p2;refine⟨σ',?_,e2,by rw[e3];simp only[KI,KH,L_];omega,e4⟩;rw[oN,if_neg (by rw[k];decide)];unfold dG;rw[if_neg (by rw[k];decide)];unfold kA;rw[if_neg (by omega)];exact e1
theorem EV{c:Sc}(tc:∀t∈c.titles,t.length<=4/\∀w∈t,w.1=.plain){σ:Ss}{t:Tg}(h:PnT t)(hl:σ.ws.length+cst t<=400)(p:∀t∈σ.ws,t.w.1=.plain/\t.foot=[]):∃σ',iA c σ t=.ok σ'/\σ'.ms=σ.ms/\σ.ws.length<=σ'.ws.length/\σ'.ws.length<=σ.ws.length+cst t/\∀t∈σ'.ws,t.w.1=.plain/\t.foot=[]:=by
 cases t with
 |page=>exact⟨_,rfl,rfl,Kz _,Kz _,p⟩
 |odd=>exact⟨_,rfl,rfl,Kz _,Kz _,p⟩
 |lst=>exact h.elim
 |par ws =>
  obtain⟨σ',e1,e2,e3,e4⟩:=uN (c:=c) (byh:=false) (ws:=ws) (ld:=if σ.bh then 1 else 2) (λw hw=>(h w hw).1) hl p;exact⟨σ',e1,e2,by omega,by show _<=σ.ws.length+ws.length;omega,e4⟩
 |head n ws =>
  have hl:σ.ws.length+5<=400:=hl;have tt:(c.titles.getD σ.hs.length []).length<=4/\∀w∈c.titles.getD σ.hs.length [],w.1=.plain:=by
   rw[Lk];cases e:c.titles[σ.hs.length]? with
   |none=>exact⟨Ls _,λw hw=>by cases hw⟩
   |some t=>exact tc t (KL e)
  obtain⟨σ',e1,e2,e3,e4⟩:=uN (c:=c) (byh:=true) (ws:=(.plain,.str (c.nums.getD σ.hs.length MS))::c.titles.getD σ.hs.length []) (σ:={ σ with hs:=σ.hs++[(c.nums.getD σ.hs.length MS,σ.ws.length)] }) (ld:=2) (List.forall_mem_cons.mpr ⟨rfl,tt.2⟩) (by simp only[KH];omega) p;simp only[KH]at e3;exact⟨σ',e1,e2,by omega,by show _<=σ.ws.length+5;omega,e4⟩
theorem Dq{c:Sc}(tc:∀t∈c.titles,t.length<=4/\∀w∈t,w.1=.plain):∀{ts:List Tg}{σ:Ss},(∀t∈ts,PnT t)->σ.ws.length+csS ts<=400->(∀t∈σ.ws,t.w.1=.plain/\t.foot=[])->∃σ',i9 c σ ts=.ok σ'/\σ'.ms=σ.ms/\σ.ws.length<=σ'.ws.length/\∀t∈σ'.ws,t.w.1=.plain/\t.foot=[]
 |[],σ,_,_,p=>⟨σ,rfl,rfl,Kz _,p⟩
 |t::r,σ,h,hl,p=>by
  have hl:σ.ws.length+(cst t+csS r)<=400:=hl;obtain⟨σ1,e1,e2,e3,e4,e5⟩:=EV tc (h t KO) (by omega) p;obtain⟨σ2,g1,g2,g3,g4⟩:=Dq tc (ts:=r) (σ:=σ1) (λx hx=>h x (KN _ hx)) (by omega) e5;refine⟨σ2,?_,g2.trans e2,by omega,g4⟩;show((match iA c σ t with|.error x=>.error x|.ok s'=>i9 c s' r):Except Xc Ss)=.ok σ2
  rw[e1];exact g1
theorem jn:∀l:List Tg,(aV l).length<=l.length
 |[]=>Kz _
 |.head n ws::r=>OP (jn r)
 |.page::r=>Ng (jn r)
 |.odd::r=>Ng (jn r)
 |.lst::r=>Ng (jn r)
 |.par _::r=>Ng (jn r)
theorem HW{l:List Tg}{t:Tg}(h:t∈l):cst t<=csS l:=by
 induction l with
 |nil=>cases h
 |cons x r ih =>
  have e:csS (x::r)=cst x+csS r:=rfl;rcases List.mem_cons.mp h with rfl|h
  .omega
  .have:=ih h;omega
def ftQ(f:List Nat):List (Str×List Wk):=[(tx f,[[120],[38,113]].map wkL)]
theorem HX{i:Nat}{st:Rs}{f:List Nat}{us:List Wk}{ts:List Tg}(fs:Fs i st us ts)(hi:i<=60)(b:Bd (i+1) (ftQ f) st):TxG st.things st.feet/\(∀t∈st.things,NfT t)/\∃σ,gT (jG (aV st.things) st.feet) st.things=.ok σ/\∀t∈σ.ws,t.w.1=.plain/\t.foot=[]:=by
 obtain⟨e,ne,hu,ht,c⟩:=fs;have bn:=b.n;have qw:RdW mkQ:=⟨.inl ⟨by decide,[113],by decide,by decide,rfl⟩,by decide⟩;have q1:wkL [120]=(.plain,.str (tx [120])):=by rw[show wkL [120]=((kwL [120]).1,.str (tx (kwL [120]).2))from rfl,show kwL [120]=(.plain,[120]) by decide]
 have q2:wkL [38,113]=(.page,.str (tx [113])):=by rw[show wkL [38,113]=((kwL [38,113]).1,.str (tx (kwL [38,113]).2))from rfl,show kwL [38,113]=(.page,[113]) by decide]
 have eft:st.feet=[(tx f,[(.plain,.str (tx [120])),(.page,.str (tx [113]))])]:=by rw[b.ft,ftQ,KW,KW,q1,q2];rfl
 have pf:∀{w:Wk},PnW w->w.1≠.foot:=λh=>by rw[h.1];decide
 refine⟨?_,λt h=>?_,?_⟩
 .refine⟨λt h=>?_,?_,Ln (jn _) (by omega),by omega⟩
  .rw[e]at h;rcases List.mem_cons.mp h with rfl|h
   .exact⟨by simp only[KH];omega,List.forall_mem_cons.mpr ⟨qw,λw hw=>(hu w hw).rd⟩⟩
   .have g:=ht t h;have cl:=HW h;cases t with
    |par ws=>exact⟨by have:ws.length<=csS ts:=cl;omega,λw hw=>(g w hw).rd⟩
    |head n ws=>exact⟨g.1,g.2.1,Ln g.2.2.1 (by decide),λw hw=>(g.2.2.2 w hw).rd⟩
    |page=>trivial
    |odd=>trivial
    |lst=>trivial
  .rw[eft];refine⟨by simp,λp hp=>?_⟩;rw[List.mem_singleton.mp hp];refine⟨by simp,List.forall_mem_cons.mpr ⟨⟨⟨.inl ⟨by decide,[120],by decide,by decide,rfl⟩,by decide⟩,by decide,by decide⟩,List.forall_mem_cons.mpr ⟨⟨⟨.inl ⟨by decide,[113],by decide,by decide,rfl⟩,by decide⟩,by decide,by decide⟩,λ_ z=>by cases z⟩⟩⟩
 .rw[e]at h;rcases List.mem_cons.mp h with rfl|h
  .exact List.forall_mem_cons.mpr ⟨by decide,λw hw=>pf (hu w hw)⟩
  .have g:=ht t h;cases t with
   |par ws=>exact λw hw=>pf (g w hw)
   |head n ws=>exact λw hw=>pf (g.2.2.2 w hw)
   |page=>trivial
   |odd=>trivial
   |lst=>exact g
 .generalize hc:jG (aV st.things) st.feet=sc;have tc:∀t∈sc.titles,t.length<=4/\∀w∈t,w.1=.plain:=λt h=>by
   rw[<-hc]at h;obtain⟨p,hp,rfl⟩:=List.mem_map.mp h;have:=dY hp;rw[e]at this;rcases List.mem_cons.mp this with z|z
   .cases z
   .have g:=ht _ z;exact⟨g.2.2.1,λw hw=>(g.2.2.2 w hw).1⟩
  have ef:sc.feet=[(tx f,[(.plain,.str (tx [120])),(.page,.str (tx [113]))])]:=by rw[<-hc];exact eft
  obtain⟨σ1,r1,r2,r3,r4⟩:=uN (c:=sc) (byh:=false) (ws:=us) (σ:={ ss0 with ms:=[(tx [113],0)] }) (ld:=2) (λw hw=>(hu w hw).1) (by show 0+_<=400;omega) (λt h=>by cases h);have r3:σ1.ws.length=0+us.length:=r3;have up:0<us.length:=List.length_pos_iff.mpr ne;obtain⟨σ2,g1,g2,g3,g4⟩:=Dq tc (ts:=ts) (σ:=σ1) ht (by omega) r4;have ms:σ2.ms=[(tx [113],0)]:=g2.trans r2;refine⟨σ2,?_,g4⟩;have ea:i9 sc ss0 st.things=.ok σ2:=by
   rw[e];show((match cr sc ss0 2 false (mkQ::us)with|.error x=>.error x|.ok s'=>i9 sc s' ts):Except Xc Ss)=.ok σ2
   have:cr sc ss0 2 false (mkQ::us)=.ok σ1:=by rw[oN,if_pos (show mkQ.1=.mark from rfl)];exact r1
   rw[this];exact g1
  have ec:fj sc σ2=none:=by
   unfold fj;have a1:(σ2.ms.any λm=>decide (m.2=σ2.ws.length))=false:=by
    rw[ms];simp only[MG,List.any_nil,Pe,decide_eq_false_iff_not];omega
   have a2:(σ2.ws.map (·.w)++sc.feet.flatMap (·.2)).any (kB σ2)=false:=by
    rw[List.any_append,Bool.or_eq_false_iff];constructor
    .rw[NK];intro w hw;obtain⟨t,h,rfl⟩:=List.mem_map.mp hw;unfold kB;rw[(g4 t h).1];exact K5
    .rw[ef];have l1:lkS (tx [113]) σ2.ms=some 0:=by rw[ms];exact if_pos rfl
     have b1:kB σ2 (.plain,.str (tx [120]))=false:=rfl;have b2:kB σ2 (.page,.str (tx [113]))=false:=by
      show(lA .page&&(lkS (tx [113]) σ2.ms).isNone)=false;rw[l1];rfl
     show(kB σ2 (.plain,.str (tx [120]))||(kB σ2 (.page,.str (tx [113]))||false))=false;rw[b1,b2];rfl
   rw[a1,a2];rfl
  unfold gT;rw[ea];show((match fj sc σ2 with|some e=>.error e|none=>.ok σ2):Except Xc Ss)=.ok σ2
  rw[ec]
def tkF:List (List Tk):=[[([46,108,101,116],0,[]),([],1,[]),([49],0,[]),([36,49],0,[]),([36,49],0,[]),([36,49],0,[])],[([46,102,111,111,116],0,[]),([],2,[]),([120],0,[]),([38,113],0,[])],[([35,113],0,[]),([119],0,[])]]
def tkE:List Tk:=[([46,108,101,116],0,[]),([],3,[]),([48],0,[]),([120],0,[])]
def kC(s f:Str):List Str:=[pq ".let "++s++pq " 1"++Txt.mul (pq " $1") 3,pq ".foot "++f++pq " x &q",pq "#q w"]
def pd(n:Str):Str:=pq ".let "++n++pq " 0 x"
theorem ml3(l:List Nat):Txt.mul (tx l) 3=tx (c3 l 3):=fY l 3
theorem coQ:pq "#q w" = tx [35,113,32,119]:=by decide
theorem coX:pq " x &q" = tx [32,120,32,38,113]:=by decide
theorem Kx(s f n:List Nat):kC (tx s) (tx f)=tkF.map λts=>tx (cE s f n ts):=by
 simp[kC,tkF,tK,HR,HQ,q9,coQ,coX,cB,ml3,cE,vl,nmT,c_,c3]
theorem Ky(s f n:List Nat):pd (tx n)=tx (cE s f n tkE):=by
 simp[pd,tkE,tK,co5,cB,cE,vl,nmT,c_,c3]
theorem sD{s f n:List Nat}(hs:Nm s)(hf:Nm f)(hn:Nm n)(hne:¬ s=n)(hfn:¬ f=n){rs:List Str}{ks:List (Option Er)}(d:Drw s f n rs ks)(hl:rs.length<=60):∃(ls:List (List Nat))(s2:Rs),kC (tx s) (tx f)++rs++[pd (tx n)]=ls.map tx/\(∀l∈ls,l.length<=1000/\(aQ l).length<=130/\∀w∈aQ l,WOk w)/\RsO [] rs0 (ls.map aQ) (fst? ks) s2/\(fst? ks=none->TxG s2.things s2.feet/\(∀t∈s2.things,NfT t)/\∃σ,gT (jG (aV s2.things) s2.feet) s2.things=.ok σ/\∀t∈σ.ws,t.w.1=.plain/\t.foot=[]):=by
 have okF:tkF.all (λts=>ts.all gy)=true/\tkF.all q_=true:=by decide
 have okE:tkE.all gy=true/\q_ tkE=true:=by decide
 have mE:=oy hs hf hn okE.1 okE.2;have eE:tkE.map (vl s f n)=[[46,108,101,116],n,[48],[120]]:=by simp[tkE,vl,nmT]
 have mF:∀ts∈tkF,Mr (cE s f n ts) (ts.map (vl s f n)):=λts h=>oy hs hf hn (List.all_eq_true.mp okF.1 ts h) (List.all_eq_true.mp okF.2 ts h)
 let st1:Rs:={ rs0 with feet:=ftQ f }
 let st2:Rs:=jB st1 (.par ([[35,113],[119]].map wkL))
 have p1:wkL [35,113]=mkQ:=by rw[show wkL [35,113]=((kwL [35,113]).1,.str (tx (kwL [35,113]).2))from rfl,show kwL [35,113]=(.mark,[113]) by decide];rfl
 have p2:∀w∈[wkL [119]],PnW w:=EU (ws:=[[119]]) (by decide);have e2:st2.things=.par (mkQ::[wkL [119]])::[]:=by
  show[Tg.par ([[35,113],[119]].map wkL)]=_;rw[KW,p1];rfl
 have f2:Fs 0 st2 [wkL [119]] []:=⟨e2,by simp,p2,(λ_ z=>by cases z),by decide⟩;have b2:Bd 1 (ftQ f) st2:=⟨rfl,by rw[e2];decide,by rw[e2];decide⟩;have lk1:lkS (tx f) (ftQ f)=some ([[120],[38,113]].map wkL):=if_pos rfl;have lk2:lkS (tx n) (ftQ f)=none:=by
  show(if tx f=tx n then _ else _)=_;rw[if_neg (λz=>hfn (eN z))];rfl
 have fl1:(ftQ f).length<=200:=Ln (Kz 1) (by decide);obtain⟨ls,els,ok,s2,R,G⟩:=drawn hs hf hn hne lk1 lk2 fl1 _ (λst=>Dp hs hn hne st) d b2 (by omega);refine⟨tkF.map (cE s f n)++ls++[cE s f n tkE],s2,?_,?_,?_,λz=>?_⟩
 .rw[Kx s f n,Ky s f n,els,KQ,KQ,Mt];rfl
 .intro l h;have:∃ws,Mr l ws:=by
   rcases List.mem_append.mp h with h|h
   .rcases List.mem_append.mp h with h|h
    .obtain⟨ts,ht,rfl⟩:=List.mem_map.mp h;exact⟨_,mF ts ht⟩
    .exact⟨_,ok l h⟩
   .rw[List.mem_singleton.mp h];exact⟨_,mE⟩
  obtain⟨ws,m⟩:=this;rw[m.eq];exact⟨m.len,m.few,m.ok⟩
 .rw[KQ,KQ,KW,MZ,mE.eq,eE];have m1:=(mF _ (KO)).eq;have m2:=(mF _ (KN _ KO)).eq;have m3:=(mF _ (KN _ (KN _ KO))).eq;have w1:(tkF.map (cE s f n)).map aQ=[[[46,108,101,116],s,[49],[36,49],[36,49],[36,49]],[[46,102,111,111,116],f,[120],[38,113]],[[35,113],[119]]]:=by
   show[aQ (cE s f n _),aQ (cE s f n _),aQ (cE s f n _)]=_;rw[m1,m2,m3];simp[vl,nmT]
  rw[w1];refine .cons (Do hs rs0) (xr hs) ⟨by decide,by decide,by decide⟩ ?_;refine .cons (BE hs hf rs0 rfl) (xr hs) ⟨Ls _,Ls _,fl1⟩ ?_;refine .cons (BF hs st1) (xr hs) ⟨by show st2.things.length<=_;rw[e2];decide,by show tgS st2.things<=_;rw[e2];decide,fl1⟩ ?_;exact R
 .obtain⟨us,ts,f3,b3⟩:=(G z).all f2 b2;exact HX f3 (by omega) b3
theorem m6.words:∀{rs ss:List (List Nat)},m6 rs ss->ss.map aQ=rs.map aQ
 |[],[],_=>rfl
 |r::rs,s::ss,⟨⟨a,b,d,_,_,e⟩,z⟩=>by rw[KW,KW,z.words,e,wx]
 |[],_::_,z=>z.elim
 |_::_,[],z=>z.elim
theorem m6.ok:∀{rs ss:List (List Nat)},m6 rs ss->(∀l∈rs,l.length<=1000/\(aQ l).length<=130/\∀w∈aQ l,WOk w)->∀l∈ss,l.length<=20000/\(aQ l).length<=130/\∀w∈aQ l,WOk w
 |[],[],_,_=>λl h=>by cases h
 |r::rs,s::ss,⟨⟨a,b,d,ha,hb,e⟩,z⟩,h=>by
  obtain⟨h1,h2⟩:=h r KO;refine List.forall_mem_cons.mpr ⟨⟨?_,?_⟩,z.ok λl hl=>h l (KN _ hl)⟩
  .rw[e];unfold oR;have:=Ao r;rw[KI,KI,Lx,Lx]
   split<;>omega
  .rw[e,wx];exact h2
 |[],_::_,z,_=>z.elim
 |_::_,[],z,_=>z.elim

def duT:Option Er->Str
 |none=>pq ""
 |some e=>nmE e
theorem At(k:Option Er):(decide (V.str (duT k)=V.str (pq "")))=decide (k=none):=by
 cases k with
 |none=>rfl
 |some e=>cases e<;>decide
def BG:List Str:=[pq "BadRow",pq "BadCall",pq "NoShort",pq "Twice",pq "BadWord",pq "TooLong",pq "Deep"]
theorem Dr(e:Er):jc ((Dk (some e)).map V.bl) ((BG.map λc=>V.bl (decide (V.str (nmE e)=V.str c)))++[V.bl true,V.bl false])=true:=by cases e<;>decide
theorem HY{D:dS}{xs ys:List V}{HH:Hp}(q:D.rt (.bl true) HH)(h:jc xs ys=true):D.rt (.bl (if false=true then !jc xs ys else jc xs ys)) HH:=by rw[if_neg (by decide),h];exact q
inductive LwI(H1:Hp)(sa pn p1 p2:Addr)(f:Int)(s ft n:List Nat)(cs:List Int):Nat->St->Hp->Prop
 |mk{i:Nat}{G:Hp}(v7 v8 v9:Option V)(l:Int)(rs:List Str)(ks:List (Option Er))(m:ar H1 G)(g1:G p1=some (.lst ((kC (tx s) (tx ft)++rs).map V.str)))(g2:G p2=some (.lst (cs.map V.int)))(d:Drw s ft n rs ks)(rl:rs.length=i):LwI H1 sa pn p1 p2 f s ft n cs i [rF sa,some (.int f),rF pn,some (.str (tx ft)),rF p1,some (.str (duT (fst? ks))),some (.int l),v7,v8,v9,none,none,none] G

theorem sc_law:aE ["script","first","names","foot","rows","due","left","cell","row","bad","handed","which","classes"] ["script"] (av (top 71)):=by walk_at "c"
theorem ok_law(T:Txt P w K mg a):aO P w K mg base CX0 78 a.BH a.uO ["script"] (Cl K):=by
 exists T.xu.fn.ok,sc_law
 obtain⟨sa,zs,rfl,hS,h63,q⟩:=h;have hu:=MJ (dW hr)
 exists (@ae _ _ _ _ _ (ay (i:=1) sc_law.nd rfl (Py rfl) (aD T.m_ (y8 T) (hM hr) rfl (aa (pv 0) (aa ai ac))))
   (@ae _ _ _ _ _ (ui (k:=2) rfl (gq (caps:=["first"]) (js:=[1]) (cap:=⟨⟨rfl,.inl rfl,rfl,.inl rfl⟩,trivial⟩)) (vN rfl T.vL (aa ai ac)) (λ_ _ _ _=>dA) (λ_ _ _ _=>(aD T.tT (Dh T) (hM hr) rfl (aa (pv 1) (aa (pv 0) ac)))) sc_law.nd rfl rfl)
   (@ae _ _ _ _ _ (ay (i:=3) sc_law.nd rfl (K1 rfl) (aC bb (pv 2) (aD T.bK (bF T) (hM hr) rfl (aa (pv 1) (aa ai (aa ai ac)))) (λ_ _=>rfl)))
   (@ae _ _ _ _ _ (ay (i:=4) sc_law.nd rfl (K1 rfl) (aK (aa (ao af (ao af (ao af ak (aC bb (pv 2) ai (λ_ _=>rfl))) ak) (ao bO ak ai)) (aa (ao af (ao af ak (pv 3)) ak) (aa ak ac)))))
   (@ae _ _ _ _ _ (ay (i:=5) sc_law.nd rfl (Py rfl) ak)
   (@ae _ _ _ _ _ (ay (i:=6) sc_law.nd rfl (K1 rfl) (aD T.bK (bF T) (hM hr) rfl (aa (pv 1) (aa ai (aa ai ac)))))
   (@ae _ _ _ _ _ (dF MX rfl (bU (cY jX (pv 0) (dn ai) (dn ai))) (bw (i:=7) sc_law.nd rfl (K1 rfl)) (@ae _ _ _ _ _ (aW (PW.pt (lM (aA jv (pv 6) ai (nomark _)) (jj (aA bQ (aD T.bK (bF T) (hM hr) rfl (aa (pv 7) (aa ai (aa ai ac)))) ai (nomark _))))) (@ae _ _ _ _ _ (ub (aD T.vJ (EG T) (hM hr) rfl (aa (pv 7) (aa (aC bb (pv 2) ai (λ_ _=>rfl)) (aa (pv 3) (aa (aC bb (pv 2) ai (λ_ _=>rfl)) ac))))) (iX rfl (bZ (bw (i:=8) sc_law.nd rfl (K1 rfl)) (bZ (bw (i:=9) sc_law.nd rfl (K1 rfl)) gc))))
   (@ae _ _ _ _ _ (ay (i:=6) sc_law.nd rfl (K1 rfl) (ao kI (pv 6) ai))
   (ap (aW (aA bQ (pv 5) ak (nomark _)) (ap (ay (i:=5) sc_law.nd rfl (Py rfl) (pv 9))) aX)))) (ap (ay (i:=8) sc_law.nd rfl (K1 rfl) (aD T.tS (Dd T) (hM hr) rfl (aa (pv 7) (aa (aC bb (pv 2) ai (λ_ _=>rfl)) ac))))))
   (ap (bf (dg K4 Lf Lg cw (pv 4) (aa (pv 8) ac))))))
   (@ae _ _ _ _ _ (ay (i:=4) sc_law.nd rfl (K1 rfl) (aD T.pi (zI T) (hM hr) rfl (aa (ao cA (pv 4) (aK (aa (ao af (ao af ak (aC bb (pv 2) ai (λ_ _=>rfl))) ak) ac))) (aa (pv 1) ac))))
   (@ae _ _ _ _ _ (ay (i:=10) sc_law.nd rfl (K1 rfl) (kK xV rfl T.Dt PyProof.Rows.boot_list (aa (pv 4) ac)))
   (@ae _ _ _ _ _ (ay (i:=11) sc_law.nd rfl (K1 rfl) (aD T.nj (zj T) (hM hr) rfl (aa (pv 10) (aa (aD T.tR (Db T) (hM hr) rfl (aa (pv 1) ac)) ac))))
   (@ae _ _ _ _ _ (aW (aA (GV hu) (pv 10) (pv 4) (nomark _)) (ap (aM io)) aX)
   (@ae _ _ _ _ _ (aW (aA bQ (pv 5) ak (nomark _)) (ap (aM (dZ (Ch hu) (pv 11) (aK ac) (nomark _)))) aX)
   (@ae _ _ _ _ _ (ay (i:=12) sc_law.nd rfl (K1 rfl) (aK (xj (CL.str (CL.str (CL.str (CL.str (CL.str (CL.str (CL.str CL.nil))))))))))
   (ap (aM (dZ (Ch hu) (pv 11) (ao cA (i7 rfl (gq (caps:=["due"]) (js:=[5]) (cap:=⟨⟨rfl,.inl rfl,rfl,.inl rfl⟩,trivial⟩)) (bU (pv 12)) (λ_ _ _ _=>dA) (λ_ _ _ _=>(dZ bQ (pv 1) (pv 0) (nomark _)))) (aK (aa io (aa io ac)))) (nomark _)))))))))))))))))
 refine⟨_,rfl,sa,zs,0,rfl,hS,?_⟩;generalize zs.getD 0 0=f;refine⟨_,rfl,by omega,by omega,ya (λi ys G=>ar H G/\ys=((Mh i).map λk=>V.str (tx (dO f k)))) ⟨ar.refl _,rfl⟩ ?_ ?_ ?_⟩
 .rintro i ys G hi ⟨_,rfl⟩;simp only[KA,LQ];exact aF (by omega)
 .rintro i ys G hi ⟨m,rfl⟩;refine eM ?_;refine⟨_,rfl,_,rfl,f,i,(by rw[Int.zero_add];rfl),λH' m'=>⟨m.trans m',?_⟩⟩;rw[Nb,KQ];rfl
 rintro ys G ⟨m0,rfl⟩ pn hpn
 exists hpn,H1,sZ,kZ
 have s1:=m0.trans sZ;have k1:H1 pn=some (.lst [V.str (tx (dO f 0)),V.str (tx (dO f 1)),V.str (tx (dO f 2))]):=kZ;obtain⟨kf,ef,hkf⟩:=eX f 35 (show 0<2 by decide);have ef:bH f 35 2=(kf:Int):=ef;have at35:[V.str (tx (dO f 0)),V.str (tx (dO f 1)),V.str (tx (dO f 2))][kf]?=some (V.str (tx (dO f kf))):=by
  have:kf=0\/kf=1:=by omega
  rcases this with rfl|rfl<;>rfl
 refine⟨_,rfl,_,rfl,_,35,2,rfl,⟨by decide,by decide⟩,by decide,_,_,_,_,rfl,rfl,SqL.of k1,(by rw[ef];exact a_ at35),?_⟩;dsimp only[bN];have hs:=vI f 0;have hn:=vI f 2;have hf:=vI f kf;have hne:¬ dO f 0=dO f 2:=λz=>absurd ((oX f).inj 0 2 (by decide) (by decide) z) (by decide);have hfn:¬ dO f kf=dO f 2:=λz=>by have:=(oX f).inj kf 2 (by omega) (by decide) z;omega
 clear at35 ef;generalize dO f 0=s at *;generalize dO f kf=ft at *;generalize dO f 2=n at *;generalize dO f 1=n1 at *;have ls:(tx s).length<=12:=by rw[aZ];exact hs.len
 have lf:(tx ft).length<=12:=by rw[aZ];exact hf.len
 have ln:(tx n).length<=12:=by rw[aZ];exact hn.len
 refine⟨_,rfl,_,_,_,_,rfl,rfl,SqL.of k1,(show atI _ 0=some _ from rfl),_,_,rfl,rfl,(sA (Kz _) ls (by decide)),_,_,rfl,rfl,(sA (bA (Kz _) ls) (Kz _) (by decide)),_,_,rfl,rfl,(gr (n:=3) (Kz _) (by decide) (by decide)),_,_,rfl,rfl,(sA (bA (bA (Kz _) ls) (Kz _)) (cW (n:=3) (Kz _)) (by decide)),_,rfl,_,_,rfl,rfl,(sA (Kz _) lf (by decide)),_,_,rfl,rfl,(sA (bA (Kz _) lf) (Kz _) (by decide)),le3,λp1 hp1=>?_⟩
 exists hp1,H2,s2,kZ
 have k2:H2 p1=some (.lst ((kC (tx s) (tx ft)++[]).map V.str)):=by rw[kZ,LF];rfl
 refine⟨_,rfl,_,33,4,rfl,⟨by decide,by decide⟩,by decide,?_⟩;dsimp only[bN];generalize bH f 33 4=l0;have s12:=s1.trans s2;refine⟨_,rfl,_,rfl,_,rfl,_,_,rfl,s12.seq hS,λp2 hp2=>?_⟩;have s3:=am hp2 (.lst (dQ (zs.map V.int) (some 1) (some 60)));have k3:upd H2 p2 (.lst (dQ (zs.map V.int) (some 1) (some 60))) p2=some (.lst ((jb zs (some 1) (some 60)).map V.int)):=by rw[ah,D3]
 have cl:(jb zs (some 1) (some 60)).length<=59:=by
  unfold jb HT.sIx;rw[La,Nl];simp only[show ¬ ((1:Int)<0) by decide,show ¬ ((60:Int)<0) by decide,if_false];have:min (Int.toNat 1) zs.length=min 1 zs.length:=rfl;omega
 generalize jb zs (some 1) (some 60)=cs at k3 cl;generalize upd H2 p2 (.lst (dQ (zs.map V.int) (some 1) (some 60)))=H3 at s3 k3⊢;have kn:=s2 _ _ k1;have n21:p2≠p1:=λz=>by rw[z,k2]at hp2;cases hp2
 refine⟨p2,rfl,⟨_,SqL.of k3⟩,dP (K:=K) (a:=p2) (xs:=cs.map V.int) (LwI H1 sa pn p1 p2 f s ft n cs) ⟨none,none,none,l0,[],[],s2.trans s3,s3 _ _ k2,k3,.nil,rfl⟩ (λi σ' G _ g=>by obtain⟨_,_,_,_,_,_,_,_,g2⟩:=g;exact SqL.of g2) ?_ ?_⟩
 .rintro i y σ' G hy ⟨v7,v8,v9,l,rs,ks,m,g1,g2,d,rl⟩;have hi:=(List.getElem?_eq_some_iff.mp hy).1;rw[KA]at hi;rw[KS]at hy;obtain⟨c,_,rfl⟩:=Option.map_eq_some_iff.mp hy;have knG:=m _ _ k1;refine lE (λσ' G'=>∃(v9:Option V)(l:Int)(r:Str)(k:Option Er),σ'=[rF sa,some (.int f),rF pn,some (.str (tx ft)),rF p1,some (.str (duT (fst? (ks++[k])))),some (.int l),some (.int c),some (.str r),v9,none,none,none]/\ar G G'/\Drw s ft n [r] [k]) ?_ (λkey=>?_)
  .rintro σ' G' ⟨v9,l,r,k,rfl,m',d'⟩;have g1':=m' _ _ g1;refine⟨_,rfl,.inl ⟨rfl,_,SqL.of g1'⟩,_,rfl,_,_,_,rfl,rfl,g1',aF (by rw[KA,KI];have:(kC (tx s) (tx ft)).length=3:=rfl;omega),?_⟩;exact⟨_,_,_,_,rs++[r],ks++[k],cC (m.trans m') hp1,by rw[ah,<-Ma,KQ (l₂:=[r])];rfl,by rw[aq n21];exact m' _ _ g2,d.app d',by rw[KI,rl];rfl⟩
  .have kF:=λl'=>(show ∀r∈iE (tx s),∀G',ar G G'->_ from λr hr G' m'=>key [rF sa,some (.int f),rF pn,some (.str (tx ft)),rF p1,some (.str (duT (fst? ks))),some (.int l'),some (.int c),some (.str r),v9,none,none,none] G' ⟨v9,l',r,none,by rw[As,Option.or_none],m',.good hr .nil⟩);refine⟨_,rfl,_,_,rfl,rfl,_,rfl,?_⟩;refine cZ (λc1=>?_) (λc1=>?_)
   .refine⟨_,rfl,_,34,6,rfl,⟨by decide,by decide⟩,by decide,rfl,_,rfl,?_⟩;refine cZ (λc2=>?_) (λc2=>?_)
    .refine⟨_,rfl,_,rfl,_,_,_,_,rfl,rfl,SqL.of knG,(show atI _ 0=some _ from rfl),_,rfl,_,rfl,_,_,_,_,rfl,rfl,SqL.of knG,(show atI _ 2=some _ from rfl),c,tx s,tx ft,tx n,rfl,ls,lf,ln,λe r p G' hr hp m' kp=>?_⟩;refine⟨p,_,rfl,SqT.of kp,rfl,_,_,rfl,_,_,rfl,rfl,?_⟩;refine⟨_,rfl,_,_,rfl,rfl,?_⟩;dsimp only[bN]
     exists 1
     rw[At];have go:∀x,x=duT (fst? (ks++[some e]))->_:=λx ex=>key [rF sa,some (.int f),rF pn,some (.str (tx ft)),rF p1,some (.str x),some (.int (l-1)),some (.int c),some (.str r),some (.str (nmE e)),none,none,none] G' ⟨some (.str (nmE e)),l-1,r,some e,by rw[ex],m',.bad hr .nil⟩;rw[As]at go;cases hk:fst? ks with
     |none =>
      rw[hk]at go;rw[decide_eq_true rfl];left;exact⟨_,rfl,go _ rfl⟩
     |some e' =>
      rw[hk]at go;refine iF (by simp) ?_;exact go _ (by rw[hk];rfl)
    .refine⟨_,rfl,_,rfl,_,_,_,_,rfl,rfl,SqL.of knG,(show atI _ 0=some _ from rfl),c,tx s,rfl,ls,λr hr G' m'=>?_⟩;exact kF l r hr G' m'
   .right;refine⟨_,rfl,_,rfl,_,_,_,_,rfl,rfl,SqL.of knG,(show atI _ 0=some _ from rfl),c,tx s,rfl,ls,λr hr G' m'=>?_⟩;exact kF l r hr G' m'
 rintro σ' G ⟨v7,v8,v9,l,rs,ks,m,g1,g2,d,rl⟩;rw[KA]at rl;have knG:=m _ _ k1;refine⟨_,rfl,_,rfl,_,_,_,_,rfl,rfl,SqL.of knG,(show atI _ 2=some _ from rfl),_,_,rfl,rfl,(sA (Kz _) ln (by decide)),_,_,rfl,rfl,(sA (bA (Kz _) ln) (Kz _) (by decide)),le1,λp3 hp3=>?_⟩;obtain⟨L,s2',eL,okL,ro,gd⟩:=sD hs hf hn hne hfn d (by omega);have eR:(kC (tx s) (tx ft)++rs).map V.str++[V.str (pd (tx n))]=(L.map tx).map V.str:=by rw[<-eL,KQ (l₂:=[pd (tx n)])];rfl
 have lL:L.length<=63:=by
  have:=congrArg List.length eL;rw[KA,KI,KI,rl]at this;have e3:(kC (tx s) (tx ft)).length=3:=rfl;have e1:[pd (tx n)].length=1:=rfl;omega
 refine⟨_,_,_,_,rfl,rfl,am hp3 _ _ _ g1,ah,bj (by rw[KA,KI,rl];have e3:(kC (tx s) (tx ft)).length=3:=rfl;have e1:[pd (tx n)].length=1:=rfl;simp only[Li];omega),λp4 hp4=>?_⟩;have k4:upd (upd G p3 (.lst [V.str (pd (tx n))])) p4 (.lst ((kC (tx s) (tx ft)++rs).map V.str++[V.str (pd (tx n))])) p4=some (.lst ((L.map tx).map V.str)):=by rw[ah,eR]
 refine⟨_,rfl,p4,f,L,rfl,SqL.of k4,by omega,(λr hr=>Ln (okL r hr).1 (by decide)),λpq B ss hpq m9 kq spd ssl=>?_⟩;dsimp only[bN];refine⟨_,rfl,_,_,rfl,.inl (SqL.of kq),λp5 hp5=>?_⟩
 exists hp5,B0,t5,k5
 have kq:=t5 _ _ kq;refine⟨_,rfl,_,rfl,f,rfl,λfo B1 x y z u hfo sf kfo=>?_⟩;refine⟨p5,.ref fo,ss,fst? ks,s2',rfl,SqL.of (sf _ _ k5),spd.ok okL,(by rw[spd.words];exact ro),gd,λpw B2 sw kw=>?_⟩;dsimp only[bN];have s6:=sf.trans sw;have fl:((ss.map tx).map V.str).all dU=true:=by rw[List.all_eq_true];intro v hv;obtain⟨_,_,rfl⟩:=List.mem_map.mp hv;rfl
 refine⟨_,rfl,_,rfl,_,_,_,_,rfl,rfl,SqL.of (s6 _ _ k5),SqL.of (s6 _ _ kq),fl,fl,_,rfl,?_⟩;rw[vY fl];right
 exists 1
 rw[At];cases hk:fst? ks with
 |none =>
  rw[hk]at kw;rw[decide_eq_true rfl];left;refine⟨_,rfl,bj (by simp),λq1 h1=>?_⟩;exact⟨_,_,_,_,rfl,rfl,SqL.of (am h1 _ _ _ kw),SqL.of ah,rfl,rfl,q _⟩
 |some e =>
  rw[hk]at kw;refine iF (by simp) ?_;dsimp only[eG];refine⟨bj (by simp),λp7 hp7=>?_⟩
  exists hp7,B7,t7,k7
  have kw:=t7 _ _ kw;refine⟨_,rfl,_,rfl,p7,rfl,⟨_,SqL.of k7⟩,d7 (K:=K) (a:=p7) (xs:=BG.map V.str) (λi ys G'=>G'=B7/\ys=((BG.take i).map λc=>V.bl (decide (V.str (duT (fst? ks))=V.str c)))) ⟨rfl,rfl⟩ (λi ys G' _ z=>by rw[z.1];exact SqL.of k7) ?_ ?_ ?_⟩
  .rintro i ys G' hi ⟨_,rfl⟩;simp only[KA,La];exact aF (by have:BG.length=7:=rfl;omega)
  .rintro i y ys G' hy ⟨rfl,rfl⟩;rw[KS]at hy;obtain⟨c,hc,rfl⟩:=Option.map_eq_some_iff.mp hy;refine eM ?_;refine⟨_,rfl,_,rfl,rfl,rfl,?_⟩;rw[cP hc,KQ];rfl
  rintro ys G' ⟨rfl,rfl⟩ p8 hp8;refine⟨le2,λp9 hp9=>?_⟩;refine⟨_,_,_,_,rfl,rfl,am hp9 _ _ _ ah,ah,bj (by simp;decide),λp10 hp10=>?_⟩;refine⟨_,_,_,_,rfl,rfl,SqL.of (am hp10 _ _ _ (am hp9 _ _ _ (am hp8 _ _ _ kw))),SqL.of ah,?_,?_,?_⟩
  .cases e<;>rfl
  .rfl
  .exact HY (q _) (by rw[hk];exact Dr e)
end
abbrev Zn(K:KC)(n:Str):Prop:=LZ K Lr n=some none
theorem txt_mk{P:K8}{w:K_}{K:KC}{h:Heap}{mg:Str->Option KG}(X:K.In h)(G:h.Ns Lr mg)
  {ad:AdD}(D:TxD K mg ad)
  {jo:Addr}(gj:LZ K Lr "ALONE" = some (some (.ref jo))){od_ALONE:Option Addr}{sl_ALONE:Array (Option KG)}{n_ALONE:Nat}{k_ALONE0:Tok}{k_ALONE1:Tok}{k_ALONE2:Tok}(l_ALONE:K.lookup jo=some ⟨.type "tuple",od_ALONE,.seq #[.str (pq ".page") k_ALONE0,.str (pq ".odd") k_ALONE1,.str (pq ".list") k_ALONE2] n_ALONE,sl_ALONE⟩)
  {t_FIGURES:Tok}(bX:LZ K Lr "FIGURES" = some (some (.str (pq "0123456789") t_FIGURES)))
  {jp:Addr}(gk:LZ K Lr "HEADS" = some (some (.ref jp))){od_HEADS:Option Addr}{sl_HEADS:Array (Option KG)}{n_HEADS:Nat}{k_HEADS0:Tok}{k_HEADS1:Tok}{k_HEADS2:Tok}(l_HEADS:K.lookup jp=some ⟨.type "tuple",od_HEADS,.seq #[.str (pq "=") k_HEADS0,.str (pq "==") k_HEADS1,.str (pq "===") k_HEADS2] n_HEADS,sl_HEADS⟩)
  {eK:Addr}(fF:LZ K Lr "KINDS" = some (some (.ref eK))){oc_KINDS:KG}{od_KINDS:Option Addr}{es_KINDS:Array LD}{ep_KINDS:Nat}{sl_KINDS:Array (Option KG)}(l_KINDS:K.lookup eK=some ⟨oc_KINDS,od_KINDS,.dict es_KINDS ep_KINDS,sl_KINDS⟩)
  (b_KINDS:(eK==Mw)=false)(c_KINDS:(⟨oc_KINDS,od_KINDS,.dict es_KINDS ep_KINDS,sl_KINDS⟩:Obj).ExactDict)(e_KINDS:yK w es_KINDS lB)
  {dq:Addr}(fG:LZ K Lr "LEAPS" = some (some (.ref dq))){oc_LEAPS:KG}{od_LEAPS:Option Addr}{es_LEAPS:Array LD}{ep_LEAPS:Nat}{sl_LEAPS:Array (Option KG)}(l_LEAPS:K.lookup dq=some ⟨oc_LEAPS,od_LEAPS,.dict es_LEAPS ep_LEAPS,sl_LEAPS⟩)
  (b_LEAPS:(dq==Mw)=false)(c_LEAPS:(⟨oc_LEAPS,od_LEAPS,.dict es_LEAPS ep_LEAPS,sl_LEAPS⟩:Obj).ExactDict)(e_LEAPS:yK w es_LEAPS iC)
  {t_LETTERS:Tok}(dL:LZ K Lr "LETTERS" = some (some (.str (pq "abcdefghijklmnopqrstuvwxyz") t_LETTERS)))
  {t_LONGEST_NAME:Tok}(cu:LZ K Lr "LONGEST_NAME" = some (some (.int 12 t_LONGEST_NAME)))
  {t_LONGEST_TEXT:Tok}(cf:LZ K Lr "LONGEST_TEXT" = some (some (.int 60 t_LONGEST_TEXT)))
  {t_MOST_CALLS:Tok}(cH:LZ K Lr "MOST_CALLS" = some (some (.int 400 t_MOST_CALLS)))
  {t_MOST_CALLS_OF_SHORT:Tok}(bD:LZ K Lr "MOST_CALLS_OF_SHORT" = some (some (.int 60 t_MOST_CALLS_OF_SHORT)))
  {t_MOST_DEEP:Tok}(cX:LZ K Lr "MOST_DEEP" = some (some (.int 20 t_MOST_DEEP)))
  {t_MOST_FOOT_WORDS:Tok}(bS:LZ K Lr "MOST_FOOT_WORDS" = some (some (.int 39 t_MOST_FOOT_WORDS)))
  {t_MOST_WORDS_books:Tok}(bL:LZ K Lr "MOST_WORDS_books" = some (some (.int 400 t_MOST_WORDS_books)))
  {t_MOST_WORDS_shorts:Tok}(aU:LZ K Lr "MOST_WORDS_shorts" = some (some (.int 400 t_MOST_WORDS_shorts)))
  {eQ:Addr}(dD:LZ K Lr "POINTING" = some (some (.ref eQ))){od_POINTING:Option Addr}{sl_POINTING:Array (Option KG)}{n_POINTING:Nat}{k_POINTING0:Tok}{k_POINTING1:Tok}{k_POINTING2:Tok}(l_POINTING:K.lookup eQ=some ⟨.type "tuple",od_POINTING,.seq #[.str (pq "number") k_POINTING0,.str (pq "page") k_POINTING1,.str (pq "row") k_POINTING2] n_POINTING,sl_POINTING⟩) :
  ∃a:Adr,Txt P w K mg a:=by
 refine⟨{ toAdD:=ad,jo:=jo,jp:=jp,eK:=eK,dq:=dq,eQ:=eQ },{
  toTxD:=D,
  gj:=⟨LW X G gj,λH=>.inr ⟨_,_,_,l_ALONE,rfl,rfl,by show 3<=KP;decide,.cons ⟨_,rfl⟩ (.cons ⟨_,rfl⟩ (.cons ⟨_,rfl⟩ (.nil)))⟩⟩,
  bX:=⟨t_FIGURES,LW X G bX⟩,
  gk:=⟨LW X G gk,λH=>.inr ⟨_,_,_,l_HEADS,rfl,rfl,by show 3<=KP;decide,.cons ⟨_,rfl⟩ (.cons ⟨_,rfl⟩ (.cons ⟨_,rfl⟩ (.nil)))⟩⟩,
  fF:=⟨LW X G fF,Ak b_KINDS l_KINDS c_KINDS e_KINDS⟩,
  fG:=⟨LW X G fG,Ak b_LEAPS l_LEAPS c_LEAPS e_LEAPS⟩,
  dL:=⟨t_LETTERS,LW X G dL⟩,
  cu:=⟨t_LONGEST_NAME,LW X G cu⟩,
  cf:=⟨t_LONGEST_TEXT,LW X G cf⟩,
  cH:=⟨t_MOST_CALLS,LW X G cH⟩,
  bD:=⟨t_MOST_CALLS_OF_SHORT,LW X G bD⟩,
  cX:=⟨t_MOST_DEEP,LW X G cX⟩,
  bS:=⟨t_MOST_FOOT_WORDS,LW X G bS⟩,
  bL:=⟨t_MOST_WORDS_books,LW X G bL⟩,
  aU:=⟨t_MOST_WORDS_shorts,LW X G aU⟩,
  dD:=⟨LW X G dD,λH=>.inr ⟨_,_,_,l_POINTING,rfl,rfl,by show 3<=KP;decide,.cons ⟨_,rfl⟩ (.cons ⟨_,rfl⟩ (.cons ⟨_,rfl⟩ (.nil)))⟩⟩ }⟩
theorem walk{l:PySem.W.OpenLaw}{q:K8}{loose:List Str}{XP:(Str->Option KG)->Heap->Prop}{YP:K_->Heap->Prop}{d:DefRec}{K:Lv->KC}(hn:l.most=some 63)(hdf:d.params.defaults=[])(hnm:d.name = "law")
  (hY:∀(w:K_)(h:Heap),YP w h->(K w.params).In h)
  (F:∀(w:K_)(mg:Str->Option KG)(h:Heap),(K w.params).In h->h.Ns Lr mg->∃a:Adr,Txt l.prog w (K w.params) mg a) :
  PySem.W.WalkO q loose XP YP l.row.toRowW d [] (λf vs=>P1 f vs):=
 L2.walk_of (n:=63) (k:=78) (x := "script") (CX:=λ_=>CX0) (sp:=λw=>Cl (K w.params)) hn (by decide) hdf ⟨rfl,by decide,by decide⟩ hY (λw mg fa h KX G hmg=>by
  obtain⟨a,T⟩:=F w mg h KX G;have e0:=hmg.symm.trans (hnm▸T.xu.mg);cases e0;refine⟨a.uO,λs u=>.of_eq (T.xu.ba [u] rfl),λbase _ _=>ok_law T⟩) (λ_ _ a ns hl _ hS=>⟨a,ns,rfl,hS,hl,λ_=>rfl⟩) λ_ _ _ _ _ z=>z
end K56
namespace K56
open PySem PySem.W L2 Tl PyProof.Rows
theorem us1{us:List KG}(h:us.length=1):∃a0,us=[a0]:=by
 match us,h with
 |[a0],_=>exact⟨a0,rfl⟩
theorem us2{us:List KG}(h:us.length=2):∃a0 a1,us=[a0,a1]:=by
 match us,h with
 |[a0,a1],_=>exact⟨a0,a1,rfl⟩
theorem us3{us:List KG}(h:us.length=3):∃a0 a1 a2,us=[a0,a1,a2]:=by
 match us,h with
 |[a0,a1,a2],_=>exact⟨a0,a1,a2,rfl⟩
theorem us4{us:List KG}(h:us.length=4):∃a0 a1 a2 a3,us=[a0,a1,a2,a3]:=by
 match us,h with
 |[a0,a1,a2,a3],_=>exact⟨a0,a1,a2,a3,rfl⟩
noncomputable abbrev fdO(n q:Str)(s:Stmt)(d:KG)(m:String)(k:Nat)(r:Addr):KY:=fnOf n q (cJ s) (ci s) (av s) d .none .none (.str (pq m) k) none (.ref r) .none
noncomputable abbrev fb0(n q:Str)(s:Stmt)(d:KG)(r:Addr):KY:=fdO n q s d "law_trueleaf_k56_rows_refused" 818 r
noncomputable abbrev fa0(n:Str)(s:Stmt)(r:Addr):KY:=fb0 n n s .none r
noncomputable abbrev fb1(n q:Str)(s:Stmt)(d:KG)(r:Addr):KY:=fdO n q s d "trueleaf.signs" 355 r
noncomputable abbrev fa1(n:Str)(s:Stmt)(r:Addr):KY:=fb1 n n s .none r
noncomputable abbrev fb2(n q:Str)(s:Stmt)(d:KG)(r:Addr):KY:=fdO n q s d "trueleaf.heads" 407 r
noncomputable abbrev fa2(n:Str)(s:Stmt)(r:Addr):KY:=fb2 n n s .none r
noncomputable abbrev fb3(n q:Str)(s:Stmt)(d:KG)(r:Addr):KY:=fdO n q s d "trueleaf.setting" 670 r
noncomputable abbrev fa3(n:Str)(s:Stmt)(r:Addr):KY:=fb3 n n s .none r
noncomputable abbrev fb4(n q:Str)(s:Stmt)(d:KG)(r:Addr):KY:=fdO n q s d "trueleaf.reading" 554 r
noncomputable abbrev fa4(n:Str)(s:Stmt)(r:Addr):KY:=fb4 n n s .none r
noncomputable abbrev fb5(n q:Str)(s:Stmt)(d:KG)(r:Addr):KY:=fdO n q s d "trueleaf.shorts" 469 r
noncomputable abbrev fa5(n:Str)(s:Stmt)(r:Addr):KY:=fb5 n n s .none r
noncomputable abbrev fb6(n q:Str)(s:Stmt)(d:KG)(r:Addr):KY:=fdO n q s d "trueleaf.trees" 415 r
noncomputable abbrev fa6(n:Str)(s:Stmt)(r:Addr):KY:=fb6 n n s .none r
noncomputable def A0:AdD:={ tU:=450,rJ:=fa0 "_law_draw" (top 58) 449,nC:=476,mv:=fa0 "_law_no_call" (top 62) 475,pB:=469,nJ:=fa0 "_law_no_row" (top 61) 468,mh:=483,le:=fa0 "_law_no_short" (top 63) 482,nD:=497,mx:=fa0 "_law_no_word" (top 65) 496,mi:=504,lg:=fa0 "_law_too_long" (top 66) 503,rC:=490,pI:=fa0 "_law_twice" (top 64) 489,vK:=511,tY:=fa0 "_law_bad" (top 67) 510,nB:=443,mt:=fa0 "_law_cell_at" (top 57) 442,tV:=457,rK:=fa0 "_law_form" (top 59) 456,tW:=518,rL:=fa0 "_law_good" (top 68) 517,tX:=462,rM:=fa0 "_law_name" (top 60) 461,mf:=153,lc:=fa1 "figures_of" (top 20) 152,mj:=165,li:=fa2 "numbers_of" (top 23) 164,k9:=358,kj:=fb3 "__init__" "Setter.__init__" (aH 55 0) .none 357,fU:=410,fE:=fb3 "check_marks" "Setter.check_marks" (aH 55 8) .none 409,iS:=391,il:=fb3 "set_mark" "Setter.set_mark" (aH 55 5) .none 390,h_:=405,gJ:=fb3 "next_foot" "Setter.next_foot" (aH 55 7) .none 404,iU:=398,im:=fb3 "set_word" "Setter.set_word" (aH 55 6) .none 397,jh:=384,iV:=fb3 "set_run" "Setter.set_run" (aH 55 4) .none 383,iQ:=372,ij:=fb3 "set_head" "Setter.set_head" (aH 55 2) .none 371,iR:=377,ik:=fb3 "set_list" "Setter.set_list" (aH 55 3) .none 376,ic:=365,gM:=fb3 "set_thing" "Setter.set_thing" (aH 55 1) .none 364,ia:=429,gK:=fb3 "number_at" "Setter.number_at" (aH 55 11) .none 428,ib:=422,gL:=fb3 "saying_of" "Setter.saying_of" (aH 55 10) .none 421,gF:=415,fX:=fb3 "words_told" "Setter.words_told" (aH 55 9) .none 414,k8:=280,kg:=fb4 "__init__" "Reader.__init__" (aH 49 0) .none 279,hV:=320,gG:=fb4 "add_thing" "Reader.add_thing" (aH 49 6) .none 319,gD:=306,fV:=fb4 "read_alone" "Reader.read_alone" (aH 49 4) .none 305,rA:=146,pG:=fa1 "is_name" (top 19) 145,rB:=160,pH:=fa1 "kind_of" (top 21) 159,rq:=233,pF:=fa5 "by_name" (top 39) 232,kc:=240,jS:=fa5 "short_called" (top 40) 239,k_:=252,km:=fa5 "sum_of_rows" (top 42) 251,jR:=247,ja:=fa5 "size_among" (top 41) 246,kD:=257,jT:=fa5 "words_out" (top 43) 256,rE:=228,pK:=fa5 "put_out" (top 38) 227,ie:=206,gN:=fa6 "looks_like_place" (top 31) 205,rD:=199,pJ:=fa6 "node_of" (top 30) 198,mq:=185,lj:=fa6 "opens_call" (top 28) 184,lb:=192,ko:=fa6 "with_closed" (top 29) 191,rH:=173,pM:=fb6 "tree_of" "tree_of" (top 26) (.ref 166) 172,hZ:=325,gI:=fb4 "words_out" "Reader.words_out" (aH 49 7) .none 324,hX:=299,gH:=fb4 "read_foot" "Reader.read_foot" (aH 49 3) .none 298,ny:=339,mr:=fa4 "is_figure" (top 50) 338,pz:=178,mR:=fa6 "copied" (top 27) 177,rG:=214,pL:=fb5 "size_of" "size_of" (top 36) (.ref 207) 213,nG:=221,mz:=fa5 "new_short" (top 37) 220,iO:=292,ig:=fb4 "read_let" "Reader.read_let" (aH 49 2) .none 291,gE:=313,fW:=fb4 "read_words" "Reader.read_words" (aH 49 5) .none 312,iP:=287,ii:=fb4 "read_row" "Reader.read_row" (aH 49 1) .none 286,pE:=141,nM:=fa1 "words_in" (top 18) 140,nH:=266,mB:=fa4 "read_rows" (top 48) 265,nI:=346,mC:=fa3 "set_words" (top 54) 345,nE:=525,my:=fa0 "_law_refusal" (top 69) 524,pC:=532,nK:=fa0 "_law_spaced" (top 70) 531,BH:=537,uO:=fa0 "law" (top 71) 536,bJ:=328,aL:=432,cF:=61,ka:=37,jq:=97,lZ:=73,eB:=121,eC:=133,dr:=85,cG:=49,jP:=24,d_:=109 }
local macro_rules | `(tactic| walk_at "b")=>`(tactic| (intro _ _ _ _ _ _ us hl; first | (obtain ⟨_,hx⟩:=us1 hl; subst hx; rfl) | (obtain ⟨_,⟨_,hx⟩⟩:=us2 hl; subst hx; rfl) | (obtain ⟨_,⟨_,⟨_,hx⟩⟩⟩:=us3 hl; subst hx; rfl) | (obtain ⟨_,⟨_,⟨_,⟨_,hx⟩⟩⟩⟩:=us4 hl; subst hx; rfl)))
local macro_rules | `(tactic| walk_at "d")=>`(tactic| exact DV (oc:=.type "function") (od:=none) (sl:=#[]) (by assumption) (by assumption) (by kernel_rfl) (by kernel_rfl) (by kernel_rfl) (by kernel_rfl) (by walk_at "b"))
local macro_rules | `(tactic| walk_at "m")=>`(tactic| exact Ef (oc:=.type "function") (od:=none) (sl:=#[]) (by kernel_rfl) (by kernel_rfl) (by kernel_rfl) (by kernel_rfl) (by kernel_rfl) (by walk_at "b"))
local macro_rules | `(tactic| walk_at "y")=>`(tactic| exact mg_none_of (by assumption) (by assumption) (by kernel_rfl))
local macro_rules | `(tactic| walk_at "x")=>`(tactic| exact ⟨mg_of (by assumption) (by assumption) (by kernel_rfl),by kernel_rfl⟩)
local macro_rules | `(tactic| walk_at "t")=>`(tactic| (show NP _ _ _=some true; kernel_rfl))
local macro_rules | `(tactic| walk_at "u")=>`(tactic| (show NP _ _ _=some false; kernel_rfl))
local macro_rules | `(tactic| walk_at "n")=>`(tactic| (show Ms _ _ _=some none; kernel_rfl))
theorem txd{w:K_}{mg:Str->Option KG}{h:Heap}(X:(kk w.params).In h)(G:h.Ns Lr mg):TxD (kk w.params) mg A0 where
 bq:=⟨mg_of X G (by kernel_rfl),⟨by kernel_rfl,by kernel_rfl,by kernel_rfl,by kernel_rfl⟩,by kernel_rfl,by kernel_rfl⟩
 dC:=by walk_at "n"
 fH:=by walk_at "n"
 eF:=by walk_at "n"
 c7:=by walk_at "n"
 aG:=⟨mg_of X G (by kernel_rfl),⟨by kernel_rfl,by kernel_rfl,by kernel_rfl,by kernel_rfl⟩,by kernel_rfl,by kernel_rfl⟩
 iW:=by walk_at "n"
 ji:=by walk_at "n"
 ku:=by walk_at "n"
 kS:=by walk_at "n"
 cx:=by walk_at "n"
 dm:=by walk_at "n"
 eU:=by walk_at "n"
 cN:=by walk_at "n"
 c8:=by walk_at "n"
 bK:=by walk_at "d"
 ng:=by walk_at "d"
 ph:=by walk_at "d"
 l7:=by walk_at "d"
 ni:=by walk_at "d"
 l8:=by walk_at "d"
 rh:=by walk_at "d"
 vJ:=by walk_at "d"
 m_:=by walk_at "d"
 tR:=by walk_at "d"
 tS:=by walk_at "d"
 tT:=by walk_at "d"
 jQ:=by walk_at "d"
 l9:=by walk_at "d"
 kX:=by walk_at "m"
 fT:=by walk_at "m"
 iM:=by walk_at "m"
 g9:=by walk_at "m"
 iN:=by walk_at "m"
 dB:=by walk_at "m"
 iK:=by walk_at "m"
 iL:=by walk_at "m"
 hJ:=by walk_at "m"
 g_:=by walk_at "m"
 eS:=by walk_at "m"
 gC:=by walk_at "m"
 kW:=by walk_at "m"
 dI:=by walk_at "m"
 gz:=by walk_at "m"
 jr:=by walk_at "d"
 rg:=by walk_at "d"
 mP:=by walk_at "d"
 fD:=by walk_at "d"
 gb:=by walk_at "d"
 eD:=by walk_at "d"
 e9:=by walk_at "d"
 rm:=by walk_at "d"
 hU:=by walk_at "d"
 rk:=by walk_at "d"
 l_:=by walk_at "d"
 kY:=by walk_at "d"
 mQ:=we (oc:=.type "function") (od:=none) (sl:=#[]) (oc2:=.type "tuple") (od2:=none) (sl2:=#[]) (n2:=0) X G (by kernel_rfl) (by kernel_rfl) (by kernel_rfl) (by kernel_rfl) (by kernel_rfl) (λ_ _ _ _ _ _ us hl=>by obtain⟨_,⟨_,rfl⟩⟩:=us2 hl;exact⟨_,rfl,rfl⟩) (λ_ _ _ _ _ _ us hl=>by obtain⟨_,rfl⟩:=us1 (Nat.succ.inj hl);exact⟨_,rfl,rfl⟩)
 dJ:=by walk_at "m"
 gZ:=by walk_at "m"
 m8:=by walk_at "d"
 kb:=by walk_at "d"
 rp:=we (oc:=.type "function") (od:=none) (sl:=#[]) (oc2:=.type "tuple") (od2:=none) (sl2:=#[]) (n2:=0) X G (by kernel_rfl) (by kernel_rfl) (by kernel_rfl) (by kernel_rfl) (by kernel_rfl) (λ_ _ _ _ _ _ us hl=>by obtain⟨_,⟨_,⟨_,rfl⟩⟩⟩:=us3 hl;exact⟨_,rfl,rfl⟩) (λ_ _ _ _ _ _ us hl=>by obtain⟨_,⟨_,rfl⟩⟩:=us2 (Nat.succ.inj hl);exact⟨_,rfl,rfl⟩)
 nq:=by walk_at "d"
 iI:=by walk_at "m"
 gB:=by walk_at "m"
 iJ:=by walk_at "m"
 pj:=by walk_at "d"
 nu:=by walk_at "d"
 nv:=by walk_at "d"
 nj:=by walk_at "d"
 pi:=by walk_at "d"
 xu:=by walk_at "d"
 rO:=by walk_at "y"
 Fc:=by walk_at "y"
 Ds:=by walk_at "y"
 gp:=by walk_at "y"
 BI:=by walk_at "y"
 cI:=by walk_at "y"
 cQ:=by walk_at "y"
 Dt:=by walk_at "y"
 xw:=by walk_at "y"
 vL:=by walk_at "y"
 Fd:=by walk_at "y"
 Fe:=by walk_at "y"
 Ff:=by walk_at "y"
 jt:=by walk_at "x"
 kx:=by walk_at "x"
 mS:=by walk_at "x"
 zq:=by walk_at "x"
 tZ:=by walk_at "x"
 pO:=by walk_at "x"
 rN:=by walk_at "x"
 ju:=by walk_at "x"
 mT:=by walk_at "x"
 oA:=by walk_at "x"
 kits:=by kernel_rfl
end K56
local macro_rules | `(tactic| walk_at "z")=>`(tactic| (first | k_is | (delta K56.Zn; k_is)))
open PySem PySem.W PyProof.Rows
set_option maxRecDepth 100000 in
theorem PySem.Challenge.cw_trueleaf_k56_rows_refused_holds : PySem.Challenge.rw_trueleaf_k56_rows_refused.Holds := by
 w_on
 refine ⟨K56.wsL,?_⟩;have said:PySem.Challenge.rw_trueleaf_k56_rows_refused.row.wellSaid=true:=K56.wsR;refine holds_open (q:=K56.vw) (loose:=K56.ls) (Xt:=K56.xt) (XP:=XL K56.vw []) (Yf:=Hook.obs K56.hk) (Ya:=Hook.val K56.hk) (YP:=InK K56.kk) K56.left
  (Hook.of K56.hk) (Hook.keeps K56.hk) (fun s e=>xl_of s (Bool.and_eq_true_iff.mp e).1) XL.keeps (by rfl) (by rfl) (by rfl)
  (fun s e=>recFacts_of (Bool.and_eq_true_iff.mp e).2) (by rfl) (by assumption) (by decide +kernel) ⟨rfl,rfl,rfl,rfl,rfl,by decide +kernel⟩ ?hw ?hc
 (case hw=>w_witness2)
 k_fill
 refine K56.walk (l:=PySem.Challenge.rw_trueleaf_k56_rows_refused) rfl rfl rfl (fun w h Y=>Y) ?F
 case F =>
  intro w mg h KX G;refine' K56.txt_mk (D:=K56.txd KX G) KX G ?gj ?l_ALONE ?bX ?gk ?l_HEADS ?fF ?l_KINDS ?b_KINDS ?c_KINDS ?e_KINDS ?fG ?l_LEAPS ?b_LEAPS ?c_LEAPS ?e_LEAPS ?dL ?cu ?cf ?cH ?bD ?cX ?bS ?bL ?aU ?dD ?l_POINTING
  (case gj | l_ALONE | bX | gk | l_HEADS | fF | l_KINDS=>walk_at "z")
  (case b_KINDS=>rfl)
  (case c_KINDS=>exact ⟨rfl,rfl,rfl⟩)
  (case e_KINDS=>(refine ⟨?_,by decide +kernel⟩; exact .cons rfl rfl ⟨_,rfl⟩ (.cons rfl rfl ⟨_,rfl⟩ (.cons rfl rfl ⟨_,rfl⟩ (.cons rfl rfl ⟨_,rfl⟩ (.cons rfl rfl ⟨_,rfl⟩ .nil))))))
  (case fG | l_LEAPS=>walk_at "z")
  (case b_LEAPS=>rfl)
  (case c_LEAPS=>exact ⟨rfl,rfl,rfl⟩)
  (case e_LEAPS=>(refine ⟨?_,by decide +kernel⟩; exact .cons rfl rfl ⟨_,rfl⟩ (.cons rfl rfl ⟨_,rfl⟩ .nil)))
  (case dL | cu | cf | cH | bD | cX | bS | bL | aU | dD | l_POINTING=>walk_at "z")
