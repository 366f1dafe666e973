import PyProof.Rows.All
import Wide.All
import OpenK.AllK
import Wide.FinOn
import Lean
import PyProof.EqAt
import PyProof.EqKinds
import PyProof.TupleCall
import PyProof.NeKinds
import KE.LcSums
import PyProof.ExcBaseAll.ValueError
import KE.KTryMore
import KE.RegKTryMore
import PyProof.StrLawsRepr
import PyProof.ReprStr
import PyProof.EnumMake
import PyProof.EnumFor
import KE.KEqDict
import PyProof.Rows.Range3
import PyProof.SumWalkG
import PyProof.ZipIter
import KE.KDictOf
import PyProof.IsiH_list
import PyProof.RaisesAny
import PyProof.SumWalkG
import KE.KIsAll
import PyProof.ExcArgsOwn
import PyProof.ExcAttrAll.ValueError
import PyProof.RulesAs
import PyProof.NsDelKeeps
import PyProof.Rows.TupAdd
import KE.KDictList
import PyProof.Rows.SortStr
import PyProof.Rows.SortWalk
import PyProof.DictIter
import PySem.Challenge.RW_trueleaf_k74_whole_deeds_taken_back
set_option Elab.async false
set_option linter.all false
set_option maxRecDepth 100000
set_option maxHeartbeats 4000000
namespace L2
open PySem
def defArgs (s:Stmt) : Arguments:=match s with
 | .FunctionDef _ a _ _ _ _ _ _ _ _=>a
 | _=>{ posonlyargs:=[],args:=[],vararg:=none,kwonlyargs:=[],kw_defaults:=[],kwarg:=none,defaults:=[] }
def defBody (s:Stmt) : List Stmt:=match s with
 | .FunctionDef _ _ b _ _ _ _ _ _ _=>b
 | _=>[]
def defScope (s:Stmt) : Scope:=match s with
 | .FunctionDef _ _ _ _ _ _ sc _ _ _=>sc
 | _=>{ kind:=.function,names:=[],isGenerator:=false,isCoroutine:=false }

end L2
namespace K74
open PySem PySem.W L2 PyProof.Rows
noncomputable def top (i:Nat) : Stmt:=PySem.Challenge.pw_trueleaf_k74_whole_deeds_taken_back.main.body.getD i (.Pass ⟨0,0,0,0⟩)
noncomputable def mtop (i j:Nat) : Stmt:=match top i with | .ClassDef _ _ _ b ..=>b.getD j (.Pass ⟨0,0,0,0⟩) | _=>.Pass ⟨0,0,0,0⟩
noncomputable abbrev os (s:String) : Str:=Str.ofString s
noncomputable abbrev kh (P:Params) (s:Str) : Int:=PyData.keyHash P s
noncomputable abbrev cO (n:String) (a b c:Nat) (l1 l2 l5:Int) (r0:Addr) (m:Int) (r1 r2 r3 r4:Addr) (x y:Int) (d:Nat) : Obj:=⟨.type "code",none,.fields #[.str (os n) a,.str (os n) b,.str (os "/claim/cut.py") c,.int l1 0,.int l2 0,.int 0 0,.int 0 0,.int l5 0,.ref r0,.bool true,.int m 0,.ref r1,.none,.ref r2,.ref r3,.ref r4,.int x 0,.int y 0,.str (os "/claim/cut.py") d],#[]⟩
noncomputable abbrev fO (n:String) (i:Nat) (d:Value) (m:String) (k:Nat) (r:Addr) : Obj:=⟨.type "function",none,.func (fnOf (os n) (os n) (defArgs (top i)) (defBody (top i)) (defScope (top i)) d .none .none (.str (os m) k) none (.ref r) .none),#[]⟩
noncomputable abbrev cM (n q:String) (a b c:Nat) (l1 l2 l5:Int) (r0:Addr) (m:Int) (r1 r2 r3 r4:Addr) (x y:Int) (d:Nat) : Obj:=⟨.type "code",none,.fields #[.str (os n) a,.str (os q) b,.str (os "/claim/cut.py") c,.int l1 0,.int l2 0,.int 0 0,.int 0 0,.int l5 0,.ref r0,.bool true,.int m 0,.ref r1,.none,.ref r2,.ref r3,.ref r4,.int x 0,.int y 0,.str (os "/claim/cut.py") d],#[]⟩
noncomputable abbrev fM (n q:String) (s:Stmt) (d:Value) (m:String) (k:Nat) (r:Addr) : Obj:=⟨.type "function",none,.func (fnOf (os n) (os q) (defArgs s) (defBody s) (defScope s) d .none .none (.str (os m) k) none (.ref r) .none),#[]⟩
noncomputable abbrev gA (n q:String) (s:Stmt) : Obj:=⟨.none,none,.func (FuncData.mk (os n) (os q) (defArgs s) (FuncBody.stmts (defBody s)) (defScope s) 0 [] .none .none .none .none none .none .none 0),#[]⟩
noncomputable abbrev gB (n q:String) (s:Stmt) (d:Value) (m:String) (k:Nat) (r:Addr) : Obj:=⟨.type "function",none,.func (FuncData.mk (os n) (os q) (defArgs s) (FuncBody.stmts (defBody s)) (defScope s) 3 [] d .none .none (.str (os m) k) none (.ref r) .none 0),#[]⟩
noncomputable def kk:Params→Frag:=fun P=>(nat_lit 2,⟨(.none),none,.dict ([]).toArray 0,#[]⟩) ::
 (nat_lit 3,⟨(.type "dict"),none,.dict (List.toArray (⟨kh P (os "__name__"),(.str (os "__name__") 165),(.str (os "law_trueleaf_k74_whole_deeds_taken_back") 1476)⟩ :: ⟨kh P (os "__doc__"),(.str (os "__doc__") 166),(.none)⟩ :: ⟨kh P (os "__package__"),(.str (os "__package__") 167),(.none)⟩ :: ⟨kh P (os "__loader__"),(.str (os "__loader__") 168),(.builtin "__main__.__loader__#opaque")⟩ :: ⟨kh P (os "__spec__"),(.str (os "__spec__") 169),(.none)⟩ :: ⟨kh P (os "__annotations__"),(.str (os "__annotations__") 170),(.ref 6)⟩ :: ⟨kh P (os "__builtins__"),(.str (os "__builtins__") 171),(.ref 4)⟩ :: ⟨kh P (os "__file__"),(.str (os "__file__") 173),(.str (os "/claim/cut.py") 172)⟩ :: ⟨kh P (os "__cached__"),(.str (os "__cached__") 174),(.none)⟩ :: ⟨kh P (os "_wall"),(.str (os "_wall") 193),(.ref 21)⟩ :: ⟨kh P (os "TrueleafError"),(.str (os "TrueleafError") 213),(.ref 31)⟩ :: ⟨kh P (os "BadRow"),(.str (os "BadRow") 229),(.ref 44)⟩ :: ⟨kh P (os "NoPart"),(.str (os "NoPart") 245),(.ref 56)⟩ :: ⟨kh P (os "Ring"),(.str (os "Ring") 261),(.ref 68)⟩ :: ⟨kh P (os "TooLong"),(.str (os "TooLong") 277),(.ref 80)⟩ :: ⟨kh P (os "BadCall"),(.str (os "BadCall") 293),(.ref 92)⟩ :: ⟨kh P (os "Deep"),(.str (os "Deep") 309),(.ref 104)⟩ :: ⟨kh P (os "NoShort"),(.str (os "NoShort") 325),(.ref 116)⟩ :: ⟨kh P (os "BadForm"),(.str (os "BadForm") 341),(.ref 128)⟩ :: ⟨kh P (os "BadWord"),(.str (os "BadWord") 357),(.ref 140)⟩ :: ⟨kh P (os "Twice"),(.str (os "Twice") 373),(.ref 152)⟩ :: ⟨kh P (os "NoFoot"),(.str (os "NoFoot") 389),(.ref 164)⟩ :: ⟨kh P (os "NoMark"),(.str (os "NoMark") 405),(.ref 176)⟩ :: ⟨kh P (os "NoLaying"),(.str (os "NoLaying") 421),(.ref 188)⟩ :: ⟨kh P (os "BadName"),(.str (os "BadName") 437),(.ref 200)⟩ :: ⟨kh P (os "NoRow"),(.str (os "NoRow") 453),(.ref 212)⟩ :: ⟨kh P (os "NothingDone"),(.str (os "NothingDone") 469),(.ref 224)⟩ :: ⟨kh P (os "MOST_WORDS_books"),(.str (os "MOST_WORDS_books") 473),(.int 400 472)⟩ :: ⟨kh P (os "LONGEST_TEXT"),(.str (os "LONGEST_TEXT") 475),(.int 60 474)⟩ :: ⟨kh P (os "check_form"),(.str (os "check_form") 482),(.ref 233)⟩ :: ⟨kh P (os "check_number"),(.str (os "check_number") 491),(.ref 240)⟩ :: ⟨kh P (os "LETTERS"),(.str (os "LETTERS") 495),(.str (os "abcdefghijklmnopqrstuvwxyz") 494)⟩ :: ⟨kh P (os "FIGURES"),(.str (os "FIGURES") 497),(.str (os "0123456789") 496)⟩ :: ⟨kh P (os "LONGEST_NAME"),(.str (os "LONGEST_NAME") 499),(.int 12 498)⟩ :: ⟨kh P (os "KINDS"),(.str (os "KINDS") 515),(.ref 241)⟩ :: ⟨kh P (os "words_in"),(.str (os "words_in") 521),(.ref 246)⟩ :: ⟨kh P (os "is_name"),(.str (os "is_name") 527),(.ref 251)⟩ :: ⟨kh P (os "figures_of"),(.str (os "figures_of") 534),(.ref 258)⟩ :: ⟨kh P (os "kind_of"),(.str (os "kind_of") 543),(.ref 265)⟩ :: ⟨kh P (os "MOST_ROWS_parts"),(.str (os "MOST_ROWS_parts") 547),(.int 400 546)⟩ :: ⟨kh P (os "rows_in"),(.str (os "rows_in") 554),(.ref 272)⟩ :: ⟨kh P (os "joined"),(.str (os "joined") 563),(.ref 279)⟩ :: ⟨kh P (os "is_use"),(.str (os "is_use") 570),(.ref 286)⟩ :: ⟨kh P (os "is_good_use"),(.str (os "is_good_use") 577),(.ref 293)⟩ :: ⟨kh P (os "look_through"),(.str (os "look_through") 590),(.ref 300)⟩ :: ⟨kh P (os "used_part"),(.str (os "used_part") 600),(.ref 307)⟩ :: ⟨kh P (os "put_together"),(.str (os "put_together") 612),(.ref 314)⟩ :: ⟨kh P (os "numbers_of"),(.str (os "numbers_of") 620),(.ref 319)⟩ :: ⟨kh P (os "MOST_DEEP"),(.str (os "MOST_DEEP") 624),(.int 20 623)⟩ :: ⟨kh P (os "tree_of"),(.str (os "tree_of") 635),(.ref 327)⟩ :: ⟨kh P (os "copied"),(.str (os "copied") 641),(.ref 332)⟩ :: ⟨kh P (os "opens_call"),(.str (os "opens_call") 648),(.ref 339)⟩ :: ⟨kh P (os "with_closed"),(.str (os "with_closed") 658),(.ref 346)⟩ :: ⟨kh P (os "node_of"),(.str (os "node_of") 667),(.ref 353)⟩ :: ⟨kh P (os "looks_like_place"),(.str (os "looks_like_place") 674),(.ref 360)⟩ :: ⟨kh P (os "MOST_WORDS_shorts"),(.str (os "MOST_WORDS_shorts") 678),(.int 400 677)⟩ :: ⟨kh P (os "MOST_CALLS"),(.str (os "MOST_CALLS") 680),(.int 400 679)⟩ :: ⟨kh P (os "MOST_CALLS_OF_SHORT"),(.str (os "MOST_CALLS_OF_SHORT") 682),(.int 60 681)⟩ :: ⟨kh P (os "size_of"),(.str (os "size_of") 692),(.ref 368)⟩ :: ⟨kh P (os "new_short"),(.str (os "new_short") 705),(.ref 375)⟩ :: ⟨kh P (os "put_out"),(.str (os "put_out") 715),(.ref 382)⟩ :: ⟨kh P (os "by_name"),(.str (os "by_name") 721),(.ref 387)⟩ :: ⟨kh P (os "short_called"),(.str (os "short_called") 731),(.ref 394)⟩ :: ⟨kh P (os "size_among"),(.str (os "size_among") 747),(.ref 401)⟩ :: ⟨kh P (os "sum_of_rows"),(.str (os "sum_of_rows") 753),(.ref 406)⟩ :: ⟨kh P (os "words_out"),(.str (os "words_out") 759),(.ref 411)⟩ :: ⟨kh P (os "ALONE"),(.str (os "ALONE") 765),(.ref 412)⟩ :: ⟨kh P (os "HEADS"),(.str (os "HEADS") 769),(.ref 413)⟩ :: ⟨kh P (os "MOST_FOOT_WORDS"),(.str (os "MOST_FOOT_WORDS") 771),(.int 39 770)⟩ :: ⟨kh P (os "read_rows"),(.str (os "read_rows") 780),(.ref 420)⟩ :: ⟨kh P (os "Reader"),(.str (os "Reader") 868),(.ref 482)⟩ :: ⟨kh P (os "is_figure"),(.str (os "is_figure") 875),(.ref 493)⟩ :: ⟨kh P (os "LEAPS"),(.str (os "LEAPS") 884),(.ref 494)⟩ :: ⟨kh P (os "POINTING"),(.str (os "POINTING") 888),(.ref 495)⟩ :: ⟨kh P (os "set_words"),(.str (os "set_words") 894),(.ref 500)⟩ :: ⟨kh P (os "Setter"),(.str (os "Setter") 1023),(.ref 586)⟩ :: ⟨kh P (os "later"),(.str (os "later") 1033),(.ref 597)⟩ :: ⟨kh P (os "behind"),(.str (os "behind") 1042),(.ref 604)⟩ :: ⟨kh P (os "first_from"),(.str (os "first_from") 1051),(.ref 611)⟩ :: ⟨kh P (os "rows_on"),(.str (os "rows_on") 1061),(.ref 618)⟩ :: ⟨kh P (os "next_top"),(.str (os "next_top") 1068),(.ref 625)⟩ :: ⟨kh P (os "said"),(.str (os "said") 1080),(.ref 632)⟩ :: ⟨kh P (os "wide_of"),(.str (os "wide_of") 1089),(.ref 639)⟩ :: ⟨kh P (os "together"),(.str (os "together") 1096),(.ref 646)⟩ :: ⟨kh P (os "foot_rows"),(.str (os "foot_rows") 1108),(.ref 653)⟩ :: ⟨kh P (os "foot_high"),(.str (os "foot_high") 1114),(.ref 658)⟩ :: ⟨kh P (os "first_bounds"),(.str (os "first_bounds") 1123),(.ref 665)⟩ :: ⟨kh P (os "reach"),(.str (os "reach") 1135),(.ref 672)⟩ :: ⟨kh P (os "told_by_kind"),(.str (os "told_by_kind") 1146),(.ref 679)⟩ :: ⟨kh P (os "wides_of"),(.str (os "wides_of") 1152),(.ref 684)⟩ :: ⟨kh P (os "highs_of"),(.str (os "highs_of") 1158),(.ref 689)⟩ :: ⟨kh P (os "told_behind"),(.str (os "told_behind") 1170),(.ref 696)⟩ :: ⟨kh P (os "told_wide"),(.str (os "told_wide") 1181),(.ref 703)⟩ :: ⟨kh P (os "told_high"),(.str (os "told_high") 1193),(.ref 710)⟩ :: ⟨kh P (os "told_kept"),(.str (os "told_kept") 1204),(.ref 717)⟩ :: ⟨kh P (os "told_never"),(.str (os "told_never") 1215),(.ref 724)⟩ :: ⟨kh P (os "settle"),(.str (os "settle") 1223),(.ref 730)⟩ :: ⟨kh P (os "stands_beyond"),(.str (os "stands_beyond") 1231),(.ref 737)⟩ :: ⟨kh P (os "sizes_under"),(.str (os "sizes_under") 1240),(.ref 744)⟩ :: ⟨kh P (os "first_unlike"),(.str (os "first_unlike") 1249),(.ref 751)⟩ :: ⟨kh P (os "raise_from"),(.str (os "raise_from") 1261),(.ref 758)⟩ :: ⟨kh P (os "raise_word"),(.str (os "raise_word") 1273),(.ref 765)⟩ :: ⟨kh P (os "raise_by"),(.str (os "raise_by") 1286),(.ref 772)⟩ :: ⟨kh P (os "raise_kept"),(.str (os "raise_kept") 1297),(.ref 779)⟩ :: ⟨kh P (os "reason_for"),(.str (os "reason_for") 1309),(.ref 786)⟩ :: ⟨kh P (os "too_wide_from"),(.str (os "too_wide_from") 1321),(.ref 793)⟩ :: ⟨kh P (os "too_high_from"),(.str (os "too_high_from") 1334),(.ref 800)⟩ :: ⟨kh P (os "pages_of"),(.str (os "pages_of") 1342),(.ref 805)⟩ :: ⟨kh P (os "tell_pages"),(.str (os "tell_pages") 1348),(.ref 810)⟩ :: ⟨kh P (os "page_rows"),(.str (os "page_rows") 1354),(.ref 815)⟩ :: ⟨kh P (os "MOST_PARTS"),(.str (os "MOST_PARTS") 1358),(.int 20 1357)⟩ :: ⟨kh P (os "MOST_ROWS_desk"),(.str (os "MOST_ROWS_desk") 1360),(.int 200 1359)⟩ :: ⟨kh P (os "TOLD_PART"),(.str (os "TOLD_PART") 1362),(.str (os "main") 1361)⟩ :: ⟨kh P (os "Desk"),(.str (os "Desk") 1475),(.ref 902)⟩ :: ⟨kh P (os "_law_cell_at"),(.str (os "_law_cell_at") 1485),(.ref 913)⟩ :: ⟨kh P (os "_law_mixed"),(.str (os "_law_mixed") 1492),(.ref 920)⟩ :: ⟨kh P (os "_law_signs"),(.str (os "_law_signs") 1498),(.ref 925)⟩ :: ⟨kh P (os "_law_row"),(.str (os "_law_row") 1506),(.ref 932)⟩ :: ⟨kh P (os "_law_text"),(.str (os "_law_text") 1512),(.ref 937)⟩ :: ⟨kh P (os "_law_name"),(.str (os "_law_name") 1521),(.ref 944)⟩ :: ⟨kh P (os "_law_at"),(.str (os "_law_at") 1529),(.ref 951)⟩ :: ⟨kh P (os "_law_is_name"),(.str (os "_law_is_name") 1535),(.ref 956)⟩ :: ⟨kh P (os "_law_put_by"),(.str (os "_law_put_by") 1545),(.ref 963)⟩ :: ⟨kh P (os "_law_done_by"),(.str (os "_law_done_by") 1559),(.ref 970)⟩ :: ⟨kh P (os "_law_did"),(.str (os "_law_did") 1573),(.ref 977)⟩ :: ⟨kh P (os "_law_shelf_is"),(.str (os "_law_shelf_is") 1583),(.ref 984)⟩ :: ⟨kh P (os "_law_deed"),(.str (os "_law_deed") 1596),(.ref 991)⟩ :: ⟨kh P (os "_law_walk"),(.str (os "_law_walk") 1610),(.ref 998)⟩ :: ⟨kh P (os "law"),(.str (os "law") 1624),(.ref 1005)⟩ :: [])) 129,#[]⟩) ::
 (nat_lit 20,cO "_wall" 187 188 189 1 1 3 15 181 16 17 18 19 191 1 192) ::
 (nat_lit 21,fO "_wall" 0 (.none) "__main__" 164 20) ::
 (nat_lit 22,⟨(.type "tuple"),none,(.seq #[.type "ValueError"]),#[]⟩) ::
 (nat_lit 29,⟨(.type "tuple"),none,(.seq #[]),#[]⟩) ::
 (nat_lit 30,⟨(.type "dict"),none,.dict (List.toArray (⟨kh P (os "__module__"),(.str (os "__module__") 203),(.str (os "trueleaf.errors") 194)⟩ :: ⟨kh P (os "__firstlineno__"),(.str (os "__firstlineno__") 207),(.int 5 206)⟩ :: ⟨kh P (os "__static_attributes__"),(.str (os "__static_attributes__") 208),(.ref 29)⟩ :: ⟨kh P (os "__weakref__"),(.str (os "__weakref__") 210),(.ref 32)⟩ :: ⟨kh P (os "__doc__"),(.str (os "__doc__") 211),(.none)⟩ :: [])) 3,#[]⟩) ::
 (nat_lit 31,⟨(.type "type"),none,(.cls (PySem.ClassData.mk (os "TrueleafError") [.type "ValueError"] [.ref 31,.type "ValueError",.type "Exception",.type "BaseException",.type "object"] 30 (os "TrueleafError") true [] [.ref 44,.ref 56,.ref 68,.ref 80,.ref 92,.ref 104,.ref 116,.ref 128,.ref 140,.ref 152,.ref 164,.ref 176,.ref 188,.ref 200,.ref 212,.ref 224] false none false)),#[Option.some (.ref 22),none,Option.some (.str (os "TrueleafError") 196),Option.some (.str (os "TrueleafError") 204),Option.some (.builtin "ValueError.__new__"),Option.some (.bool true)]⟩) ::
 (nat_lit 32,⟨(.type "getset_descriptor"),none,(.fields #[.str (os "__weakref__") 209,.ref 31,.builtin "ExceptionGroup.__weakref__",.none]),#[]⟩) ::
 (nat_lit 35,⟨(.type "tuple"),none,(.seq #[.ref 31]),#[]⟩) ::
 (nat_lit 42,⟨(.type "tuple"),none,(.seq #[]),#[]⟩) ::
 (nat_lit 43,⟨(.type "dict"),none,.dict (List.toArray (⟨kh P (os "__module__"),(.str (os "__module__") 221),(.str (os "trueleaf.errors") 194)⟩ :: ⟨kh P (os "__firstlineno__"),(.str (os "__firstlineno__") 225),(.int 7 224)⟩ :: ⟨kh P (os "__static_attributes__"),(.str (os "__static_attributes__") 226),(.ref 42)⟩ :: ⟨kh P (os "__doc__"),(.str (os "__doc__") 227),(.none)⟩ :: [])) 2,#[]⟩) ::
 (nat_lit 44,⟨(.type "type"),none,(.cls (PySem.ClassData.mk (os "BadRow") [.ref 31] [.ref 44,.ref 31,.type "ValueError",.type "Exception",.type "BaseException",.type "object"] 43 (os "BadRow") true [] [] false none false)),#[Option.some (.ref 35),none,Option.some (.str (os "BadRow") 214),Option.some (.str (os "BadRow") 222),Option.some (.builtin "ValueError.__new__"),Option.some (.bool true)]⟩) ::
 (nat_lit 47,⟨(.type "tuple"),none,(.seq #[.ref 31]),#[]⟩) ::
 (nat_lit 54,⟨(.type "tuple"),none,(.seq #[]),#[]⟩) ::
 (nat_lit 55,⟨(.type "dict"),none,.dict (List.toArray (⟨kh P (os "__module__"),(.str (os "__module__") 237),(.str (os "trueleaf.errors") 194)⟩ :: ⟨kh P (os "__firstlineno__"),(.str (os "__firstlineno__") 241),(.int 9 240)⟩ :: ⟨kh P (os "__static_attributes__"),(.str (os "__static_attributes__") 242),(.ref 54)⟩ :: ⟨kh P (os "__doc__"),(.str (os "__doc__") 243),(.none)⟩ :: [])) 2,#[]⟩) ::
 (nat_lit 56,⟨(.type "type"),none,(.cls (PySem.ClassData.mk (os "NoPart") [.ref 31] [.ref 56,.ref 31,.type "ValueError",.type "Exception",.type "BaseException",.type "object"] 55 (os "NoPart") true [] [] false none false)),#[Option.some (.ref 47),none,Option.some (.str (os "NoPart") 230),Option.some (.str (os "NoPart") 238),Option.some (.builtin "ValueError.__new__"),Option.some (.bool true)]⟩) ::
 (nat_lit 59,⟨(.type "tuple"),none,(.seq #[.ref 31]),#[]⟩) ::
 (nat_lit 66,⟨(.type "tuple"),none,(.seq #[]),#[]⟩) ::
 (nat_lit 67,⟨(.type "dict"),none,.dict (List.toArray (⟨kh P (os "__module__"),(.str (os "__module__") 253),(.str (os "trueleaf.errors") 194)⟩ :: ⟨kh P (os "__firstlineno__"),(.str (os "__firstlineno__") 257),(.int 11 256)⟩ :: ⟨kh P (os "__static_attributes__"),(.str (os "__static_attributes__") 258),(.ref 66)⟩ :: ⟨kh P (os "__doc__"),(.str (os "__doc__") 259),(.none)⟩ :: [])) 2,#[]⟩) ::
 (nat_lit 68,⟨(.type "type"),none,(.cls (PySem.ClassData.mk (os "Ring") [.ref 31] [.ref 68,.ref 31,.type "ValueError",.type "Exception",.type "BaseException",.type "object"] 67 (os "Ring") true [] [] false none false)),#[Option.some (.ref 59),none,Option.some (.str (os "Ring") 246),Option.some (.str (os "Ring") 254),Option.some (.builtin "ValueError.__new__"),Option.some (.bool true)]⟩) ::
 (nat_lit 71,⟨(.type "tuple"),none,(.seq #[.ref 31]),#[]⟩) ::
 (nat_lit 78,⟨(.type "tuple"),none,(.seq #[]),#[]⟩) ::
 (nat_lit 79,⟨(.type "dict"),none,.dict (List.toArray (⟨kh P (os "__module__"),(.str (os "__module__") 269),(.str (os "trueleaf.errors") 194)⟩ :: ⟨kh P (os "__firstlineno__"),(.str (os "__firstlineno__") 273),(.int 13 272)⟩ :: ⟨kh P (os "__static_attributes__"),(.str (os "__static_attributes__") 274),(.ref 78)⟩ :: ⟨kh P (os "__doc__"),(.str (os "__doc__") 275),(.none)⟩ :: [])) 2,#[]⟩) ::
 (nat_lit 80,⟨(.type "type"),none,(.cls (PySem.ClassData.mk (os "TooLong") [.ref 31] [.ref 80,.ref 31,.type "ValueError",.type "Exception",.type "BaseException",.type "object"] 79 (os "TooLong") true [] [] false none false)),#[Option.some (.ref 71),none,Option.some (.str (os "TooLong") 262),Option.some (.str (os "TooLong") 270),Option.some (.builtin "ValueError.__new__"),Option.some (.bool true)]⟩) ::
 (nat_lit 83,⟨(.type "tuple"),none,(.seq #[.ref 31]),#[]⟩) ::
 (nat_lit 90,⟨(.type "tuple"),none,(.seq #[]),#[]⟩) ::
 (nat_lit 91,⟨(.type "dict"),none,.dict (List.toArray (⟨kh P (os "__module__"),(.str (os "__module__") 285),(.str (os "trueleaf.errors") 194)⟩ :: ⟨kh P (os "__firstlineno__"),(.str (os "__firstlineno__") 289),(.int 15 288)⟩ :: ⟨kh P (os "__static_attributes__"),(.str (os "__static_attributes__") 290),(.ref 90)⟩ :: ⟨kh P (os "__doc__"),(.str (os "__doc__") 291),(.none)⟩ :: [])) 2,#[]⟩) ::
 (nat_lit 92,⟨(.type "type"),none,(.cls (PySem.ClassData.mk (os "BadCall") [.ref 31] [.ref 92,.ref 31,.type "ValueError",.type "Exception",.type "BaseException",.type "object"] 91 (os "BadCall") true [] [] false none false)),#[Option.some (.ref 83),none,Option.some (.str (os "BadCall") 278),Option.some (.str (os "BadCall") 286),Option.some (.builtin "ValueError.__new__"),Option.some (.bool true)]⟩) ::
 (nat_lit 95,⟨(.type "tuple"),none,(.seq #[.ref 31]),#[]⟩) ::
 (nat_lit 102,⟨(.type "tuple"),none,(.seq #[]),#[]⟩) ::
 (nat_lit 103,⟨(.type "dict"),none,.dict (List.toArray (⟨kh P (os "__module__"),(.str (os "__module__") 301),(.str (os "trueleaf.errors") 194)⟩ :: ⟨kh P (os "__firstlineno__"),(.str (os "__firstlineno__") 305),(.int 17 304)⟩ :: ⟨kh P (os "__static_attributes__"),(.str (os "__static_attributes__") 306),(.ref 102)⟩ :: ⟨kh P (os "__doc__"),(.str (os "__doc__") 307),(.none)⟩ :: [])) 2,#[]⟩) ::
 (nat_lit 104,⟨(.type "type"),none,(.cls (PySem.ClassData.mk (os "Deep") [.ref 31] [.ref 104,.ref 31,.type "ValueError",.type "Exception",.type "BaseException",.type "object"] 103 (os "Deep") true [] [] false none false)),#[Option.some (.ref 95),none,Option.some (.str (os "Deep") 294),Option.some (.str (os "Deep") 302),Option.some (.builtin "ValueError.__new__"),Option.some (.bool true)]⟩) ::
 (nat_lit 107,⟨(.type "tuple"),none,(.seq #[.ref 31]),#[]⟩) ::
 (nat_lit 114,⟨(.type "tuple"),none,(.seq #[]),#[]⟩) ::
 (nat_lit 115,⟨(.type "dict"),none,.dict (List.toArray (⟨kh P (os "__module__"),(.str (os "__module__") 317),(.str (os "trueleaf.errors") 194)⟩ :: ⟨kh P (os "__firstlineno__"),(.str (os "__firstlineno__") 321),(.int 19 320)⟩ :: ⟨kh P (os "__static_attributes__"),(.str (os "__static_attributes__") 322),(.ref 114)⟩ :: ⟨kh P (os "__doc__"),(.str (os "__doc__") 323),(.none)⟩ :: [])) 2,#[]⟩) ::
 (nat_lit 116,⟨(.type "type"),none,(.cls (PySem.ClassData.mk (os "NoShort") [.ref 31] [.ref 116,.ref 31,.type "ValueError",.type "Exception",.type "BaseException",.type "object"] 115 (os "NoShort") true [] [] false none false)),#[Option.some (.ref 107),none,Option.some (.str (os "NoShort") 310),Option.some (.str (os "NoShort") 318),Option.some (.builtin "ValueError.__new__"),Option.some (.bool true)]⟩) ::
 (nat_lit 119,⟨(.type "tuple"),none,(.seq #[.ref 31]),#[]⟩) ::
 (nat_lit 126,⟨(.type "tuple"),none,(.seq #[]),#[]⟩) ::
 (nat_lit 127,⟨(.type "dict"),none,.dict (List.toArray (⟨kh P (os "__module__"),(.str (os "__module__") 333),(.str (os "trueleaf.errors") 194)⟩ :: ⟨kh P (os "__firstlineno__"),(.str (os "__firstlineno__") 337),(.int 21 336)⟩ :: ⟨kh P (os "__static_attributes__"),(.str (os "__static_attributes__") 338),(.ref 126)⟩ :: ⟨kh P (os "__doc__"),(.str (os "__doc__") 339),(.none)⟩ :: [])) 2,#[]⟩) ::
 (nat_lit 128,⟨(.type "type"),none,(.cls (PySem.ClassData.mk (os "BadForm") [.ref 31] [.ref 128,.ref 31,.type "ValueError",.type "Exception",.type "BaseException",.type "object"] 127 (os "BadForm") true [] [] false none false)),#[Option.some (.ref 119),none,Option.some (.str (os "BadForm") 326),Option.some (.str (os "BadForm") 334),Option.some (.builtin "ValueError.__new__"),Option.some (.bool true)]⟩) ::
 (nat_lit 131,⟨(.type "tuple"),none,(.seq #[.ref 31]),#[]⟩) ::
 (nat_lit 138,⟨(.type "tuple"),none,(.seq #[]),#[]⟩) ::
 (nat_lit 139,⟨(.type "dict"),none,.dict (List.toArray (⟨kh P (os "__module__"),(.str (os "__module__") 349),(.str (os "trueleaf.errors") 194)⟩ :: ⟨kh P (os "__firstlineno__"),(.str (os "__firstlineno__") 353),(.int 23 352)⟩ :: ⟨kh P (os "__static_attributes__"),(.str (os "__static_attributes__") 354),(.ref 138)⟩ :: ⟨kh P (os "__doc__"),(.str (os "__doc__") 355),(.none)⟩ :: [])) 2,#[]⟩) ::
 (nat_lit 140,⟨(.type "type"),none,(.cls (PySem.ClassData.mk (os "BadWord") [.ref 31] [.ref 140,.ref 31,.type "ValueError",.type "Exception",.type "BaseException",.type "object"] 139 (os "BadWord") true [] [] false none false)),#[Option.some (.ref 131),none,Option.some (.str (os "BadWord") 342),Option.some (.str (os "BadWord") 350),Option.some (.builtin "ValueError.__new__"),Option.some (.bool true)]⟩) ::
 (nat_lit 143,⟨(.type "tuple"),none,(.seq #[.ref 31]),#[]⟩) ::
 (nat_lit 150,⟨(.type "tuple"),none,(.seq #[]),#[]⟩) ::
 (nat_lit 151,⟨(.type "dict"),none,.dict (List.toArray (⟨kh P (os "__module__"),(.str (os "__module__") 365),(.str (os "trueleaf.errors") 194)⟩ :: ⟨kh P (os "__firstlineno__"),(.str (os "__firstlineno__") 369),(.int 25 368)⟩ :: ⟨kh P (os "__static_attributes__"),(.str (os "__static_attributes__") 370),(.ref 150)⟩ :: ⟨kh P (os "__doc__"),(.str (os "__doc__") 371),(.none)⟩ :: [])) 2,#[]⟩) ::
 (nat_lit 152,⟨(.type "type"),none,(.cls (PySem.ClassData.mk (os "Twice") [.ref 31] [.ref 152,.ref 31,.type "ValueError",.type "Exception",.type "BaseException",.type "object"] 151 (os "Twice") true [] [] false none false)),#[Option.some (.ref 143),none,Option.some (.str (os "Twice") 358),Option.some (.str (os "Twice") 366),Option.some (.builtin "ValueError.__new__"),Option.some (.bool true)]⟩) ::
 (nat_lit 155,⟨(.type "tuple"),none,(.seq #[.ref 31]),#[]⟩) ::
 (nat_lit 162,⟨(.type "tuple"),none,(.seq #[]),#[]⟩) ::
 (nat_lit 163,⟨(.type "dict"),none,.dict (List.toArray (⟨kh P (os "__module__"),(.str (os "__module__") 381),(.str (os "trueleaf.errors") 194)⟩ :: ⟨kh P (os "__firstlineno__"),(.str (os "__firstlineno__") 385),(.int 27 384)⟩ :: ⟨kh P (os "__static_attributes__"),(.str (os "__static_attributes__") 386),(.ref 162)⟩ :: ⟨kh P (os "__doc__"),(.str (os "__doc__") 387),(.none)⟩ :: [])) 2,#[]⟩) ::
 (nat_lit 164,⟨(.type "type"),none,(.cls (PySem.ClassData.mk (os "NoFoot") [.ref 31] [.ref 164,.ref 31,.type "ValueError",.type "Exception",.type "BaseException",.type "object"] 163 (os "NoFoot") true [] [] false none false)),#[Option.some (.ref 155),none,Option.some (.str (os "NoFoot") 374),Option.some (.str (os "NoFoot") 382),Option.some (.builtin "ValueError.__new__"),Option.some (.bool true)]⟩) ::
 (nat_lit 167,⟨(.type "tuple"),none,(.seq #[.ref 31]),#[]⟩) ::
 (nat_lit 174,⟨(.type "tuple"),none,(.seq #[]),#[]⟩) ::
 (nat_lit 175,⟨(.type "dict"),none,.dict (List.toArray (⟨kh P (os "__module__"),(.str (os "__module__") 397),(.str (os "trueleaf.errors") 194)⟩ :: ⟨kh P (os "__firstlineno__"),(.str (os "__firstlineno__") 401),(.int 29 400)⟩ :: ⟨kh P (os "__static_attributes__"),(.str (os "__static_attributes__") 402),(.ref 174)⟩ :: ⟨kh P (os "__doc__"),(.str (os "__doc__") 403),(.none)⟩ :: [])) 2,#[]⟩) ::
 (nat_lit 176,⟨(.type "type"),none,(.cls (PySem.ClassData.mk (os "NoMark") [.ref 31] [.ref 176,.ref 31,.type "ValueError",.type "Exception",.type "BaseException",.type "object"] 175 (os "NoMark") true [] [] false none false)),#[Option.some (.ref 167),none,Option.some (.str (os "NoMark") 390),Option.some (.str (os "NoMark") 398),Option.some (.builtin "ValueError.__new__"),Option.some (.bool true)]⟩) ::
 (nat_lit 179,⟨(.type "tuple"),none,(.seq #[.ref 31]),#[]⟩) ::
 (nat_lit 186,⟨(.type "tuple"),none,(.seq #[]),#[]⟩) ::
 (nat_lit 187,⟨(.type "dict"),none,.dict (List.toArray (⟨kh P (os "__module__"),(.str (os "__module__") 413),(.str (os "trueleaf.errors") 194)⟩ :: ⟨kh P (os "__firstlineno__"),(.str (os "__firstlineno__") 417),(.int 31 416)⟩ :: ⟨kh P (os "__static_attributes__"),(.str (os "__static_attributes__") 418),(.ref 186)⟩ :: ⟨kh P (os "__doc__"),(.str (os "__doc__") 419),(.none)⟩ :: [])) 2,#[]⟩) ::
 (nat_lit 188,⟨(.type "type"),none,(.cls (PySem.ClassData.mk (os "NoLaying") [.ref 31] [.ref 188,.ref 31,.type "ValueError",.type "Exception",.type "BaseException",.type "object"] 187 (os "NoLaying") true [] [] false none false)),#[Option.some (.ref 179),none,Option.some (.str (os "NoLaying") 406),Option.some (.str (os "NoLaying") 414),Option.some (.builtin "ValueError.__new__"),Option.some (.bool true)]⟩) ::
 (nat_lit 191,⟨(.type "tuple"),none,(.seq #[.ref 31]),#[]⟩) ::
 (nat_lit 198,⟨(.type "tuple"),none,(.seq #[]),#[]⟩) ::
 (nat_lit 199,⟨(.type "dict"),none,.dict (List.toArray (⟨kh P (os "__module__"),(.str (os "__module__") 429),(.str (os "trueleaf.errors") 194)⟩ :: ⟨kh P (os "__firstlineno__"),(.str (os "__firstlineno__") 433),(.int 33 432)⟩ :: ⟨kh P (os "__static_attributes__"),(.str (os "__static_attributes__") 434),(.ref 198)⟩ :: ⟨kh P (os "__doc__"),(.str (os "__doc__") 435),(.none)⟩ :: [])) 2,#[]⟩) ::
 (nat_lit 200,⟨(.type "type"),none,(.cls (PySem.ClassData.mk (os "BadName") [.ref 31] [.ref 200,.ref 31,.type "ValueError",.type "Exception",.type "BaseException",.type "object"] 199 (os "BadName") true [] [] false none false)),#[Option.some (.ref 191),none,Option.some (.str (os "BadName") 422),Option.some (.str (os "BadName") 430),Option.some (.builtin "ValueError.__new__"),Option.some (.bool true)]⟩) ::
 (nat_lit 203,⟨(.type "tuple"),none,(.seq #[.ref 31]),#[]⟩) ::
 (nat_lit 210,⟨(.type "tuple"),none,(.seq #[]),#[]⟩) ::
 (nat_lit 211,⟨(.type "dict"),none,.dict (List.toArray (⟨kh P (os "__module__"),(.str (os "__module__") 445),(.str (os "trueleaf.errors") 194)⟩ :: ⟨kh P (os "__firstlineno__"),(.str (os "__firstlineno__") 449),(.int 35 448)⟩ :: ⟨kh P (os "__static_attributes__"),(.str (os "__static_attributes__") 450),(.ref 210)⟩ :: ⟨kh P (os "__doc__"),(.str (os "__doc__") 451),(.none)⟩ :: [])) 2,#[]⟩) ::
 (nat_lit 212,⟨(.type "type"),none,(.cls (PySem.ClassData.mk (os "NoRow") [.ref 31] [.ref 212,.ref 31,.type "ValueError",.type "Exception",.type "BaseException",.type "object"] 211 (os "NoRow") true [] [] false none false)),#[Option.some (.ref 203),none,Option.some (.str (os "NoRow") 438),Option.some (.str (os "NoRow") 446),Option.some (.builtin "ValueError.__new__"),Option.some (.bool true)]⟩) ::
 (nat_lit 215,⟨(.type "tuple"),none,(.seq #[.ref 31]),#[]⟩) ::
 (nat_lit 222,⟨(.type "tuple"),none,(.seq #[]),#[]⟩) ::
 (nat_lit 223,⟨(.type "dict"),none,.dict (List.toArray (⟨kh P (os "__module__"),(.str (os "__module__") 461),(.str (os "trueleaf.errors") 194)⟩ :: ⟨kh P (os "__firstlineno__"),(.str (os "__firstlineno__") 465),(.int 37 464)⟩ :: ⟨kh P (os "__static_attributes__"),(.str (os "__static_attributes__") 466),(.ref 222)⟩ :: ⟨kh P (os "__doc__"),(.str (os "__doc__") 467),(.none)⟩ :: [])) 2,#[]⟩) ::
 (nat_lit 224,⟨(.type "type"),none,(.cls (PySem.ClassData.mk (os "NothingDone") [.ref 31] [.ref 224,.ref 31,.type "ValueError",.type "Exception",.type "BaseException",.type "object"] 223 (os "NothingDone") true [] [] false none false)),#[Option.some (.ref 215),none,Option.some (.str (os "NothingDone") 454),Option.some (.str (os "NothingDone") 462),Option.some (.builtin "ValueError.__new__"),Option.some (.bool true)]⟩) ::
 (nat_lit 232,cO "check_form" 476 477 478 42 1 3 227 181 228 229 230 231 480 42 481) ::
 (nat_lit 233,fO "check_form" 22 (.none) "trueleaf.books" 470 232) ::
 (nat_lit 239,cO "check_number" 483 484 485 47 3 3 234 181 235 236 237 238 489 47 490) ::
 (nat_lit 240,fO "check_number" 23 (.none) "trueleaf.books" 470 239) ::
 (nat_lit 241,⟨(.type "dict"),none,.dict (List.toArray (⟨kh P (os "#"),(.str (os "#") 500),(.str (os "mark") 501)⟩ :: ⟨kh P (os "@"),(.str (os "@") 502),(.str (os "number") 503)⟩ :: ⟨kh P (os "&"),(.str (os "&") 504),(.str (os "page") 505)⟩ :: ⟨kh P (os "^"),(.str (os "^") 506),(.str (os "row") 507)⟩ :: ⟨kh P (os "~"),(.str (os "~") 508),(.str (os "foot") 509)⟩ :: [])) 5,#[]⟩) ::
 (nat_lit 245,⟨(.type "code"),none,(.fields #[.str (os "words_in") 516,.str (os "words_in") 517,.str (os "/claim/cut.py") 518,.int 55 0,.int 1 0,.int 0 0,.int 0 0,.int 3 0,.ref 242,.bool true,.int 181 0,.ref 243,.none,.none,.none,.ref 244,.int 519 0,.int 55 0,.str (os "/claim/cut.py") 520]),#[]⟩) ::
 (nat_lit 246,fO "words_in" 29 (.none) "trueleaf.signs" 492 245) ::
 (nat_lit 250,⟨(.type "code"),none,(.fields #[.str (os "is_name") 522,.str (os "is_name") 523,.str (os "/claim/cut.py") 524,.int 57 0,.int 1 0,.int 0 0,.int 0 0,.int 3 0,.ref 247,.bool true,.int 181 0,.ref 248,.none,.none,.none,.ref 249,.int 525 0,.int 57 0,.str (os "/claim/cut.py") 526]),#[]⟩) ::
 (nat_lit 251,fO "is_name" 30 (.none) "trueleaf.signs" 492 250) ::
 (nat_lit 257,cO "figures_of" 528 529 530 61 1 3 252 181 253 254 255 256 532 61 533) ::
 (nat_lit 258,fO "figures_of" 31 (.none) "trueleaf.signs" 492 257) ::
 (nat_lit 264,cO "kind_of" 535 536 537 63 1 3 259 181 260 261 262 263 541 63 542) ::
 (nat_lit 265,fO "kind_of" 32 (.none) "trueleaf.signs" 492 264) ::
 (nat_lit 271,cO "rows_in" 548 549 550 73 1 3 266 181 267 268 269 270 552 73 553) ::
 (nat_lit 272,fO "rows_in" 35 (.none) "trueleaf.parts" 544 271) ::
 (nat_lit 278,cO "joined" 555 556 557 75 2 3 273 181 274 275 276 277 561 75 562) ::
 (nat_lit 279,fO "joined" 36 (.none) "trueleaf.parts" 544 278) ::
 (nat_lit 285,cO "is_use" 564 565 566 83 1 3 280 181 281 282 283 284 568 83 569) ::
 (nat_lit 286,fO "is_use" 37 (.none) "trueleaf.parts" 544 285) ::
 (nat_lit 292,cO "is_good_use" 571 572 573 85 1 3 287 181 288 289 290 291 575 85 576) ::
 (nat_lit 293,fO "is_good_use" 38 (.none) "trueleaf.parts" 544 292) ::
 (nat_lit 299,cO "look_through" 578 579 580 87 3 3 294 181 295 296 297 298 588 87 589) ::
 (nat_lit 300,fO "look_through" 39 (.none) "trueleaf.parts" 544 299) ::
 (nat_lit 306,cO "used_part" 591 592 593 99 3 3 301 181 302 303 304 305 598 99 599) ::
 (nat_lit 307,fO "used_part" 40 (.none) "trueleaf.parts" 544 306) ::
 (nat_lit 313,cO "put_together" 601 602 603 108 2 3 308 181 309 310 311 312 610 108 611) ::
 (nat_lit 314,fO "put_together" 41 (.none) "trueleaf.parts" 544 313) ::
 (nat_lit 318,⟨(.type "code"),none,(.fields #[.str (os "numbers_of") 615,.str (os "numbers_of") 616,.str (os "/claim/cut.py") 617,.int 118 0,.int 1 0,.int 0 0,.int 0 0,.int 3 0,.ref 315,.bool true,.int 181 0,.ref 316,.none,.none,.none,.ref 317,.int 618 0,.int 118 0,.str (os "/claim/cut.py") 619]),#[]⟩) ::
 (nat_lit 319,fO "numbers_of" 43 (.none) "trueleaf.heads" 613 318) ::
 (nat_lit 320,⟨(.type "tuple"),none,(.seq #[.none]),#[]⟩) ::
 (nat_lit 326,cO "tree_of" 625 626 627 127 2 3 321 181 322 323 324 325 633 127 634) ::
 (nat_lit 327,fO "tree_of" 46 (.ref 320) "trueleaf.trees" 621 326) ::
 (nat_lit 331,⟨(.type "code"),none,(.fields #[.str (os "copied") 636,.str (os "copied") 637,.str (os "/claim/cut.py") 638,.int 146 0,.int 1 0,.int 0 0,.int 0 0,.int 3 0,.ref 328,.bool true,.int 181 0,.ref 329,.none,.none,.none,.ref 330,.int 639 0,.int 146 0,.str (os "/claim/cut.py") 640]),#[]⟩) ::
 (nat_lit 332,fO "copied" 47 (.none) "trueleaf.trees" 621 331) ::
 (nat_lit 338,cO "opens_call" 642 643 644 154 1 3 333 181 334 335 336 337 646 154 647) ::
 (nat_lit 339,fO "opens_call" 48 (.none) "trueleaf.trees" 621 338) ::
 (nat_lit 345,cO "with_closed" 649 650 651 156 2 3 340 181 341 342 343 344 656 156 657) ::
 (nat_lit 346,fO "with_closed" 49 (.none) "trueleaf.trees" 621 345) ::
 (nat_lit 352,cO "node_of" 659 660 661 163 2 3 347 181 348 349 350 351 665 163 666) ::
 (nat_lit 353,fO "node_of" 50 (.none) "trueleaf.trees" 621 352) ::
 (nat_lit 359,cO "looks_like_place" 668 669 670 170 1 3 354 181 355 356 357 358 672 170 673) ::
 (nat_lit 360,fO "looks_like_place" 51 (.none) "trueleaf.trees" 621 359) ::
 (nat_lit 361,⟨(.type "tuple"),none,(.seq #[.int 0 683]),#[]⟩) ::
 (nat_lit 367,cO "size_of" 684 685 686 176 3 3 362 181 363 364 365 366 690 176 691) ::
 (nat_lit 368,fO "size_of" 56 (.ref 361) "trueleaf.shorts" 675 367) ::
 (nat_lit 374,cO "new_short" 693 694 695 178 4 3 369 181 370 371 372 373 703 178 704) ::
 (nat_lit 375,fO "new_short" 57 (.none) "trueleaf.shorts" 675 374) ::
 (nat_lit 381,cO "put_out" 706 707 708 187 2 3 376 181 377 378 379 380 713 187 714) ::
 (nat_lit 382,fO "put_out" 58 (.none) "trueleaf.shorts" 675 381) ::
 (nat_lit 386,⟨(.type "code"),none,(.fields #[.str (os "by_name") 716,.str (os "by_name") 717,.str (os "/claim/cut.py") 718,.int 193 0,.int 1 0,.int 0 0,.int 0 0,.int 3 0,.ref 383,.bool true,.int 181 0,.ref 384,.none,.none,.none,.ref 385,.int 719 0,.int 193 0,.str (os "/claim/cut.py") 720]),#[]⟩) ::
 (nat_lit 387,fO "by_name" 59 (.none) "trueleaf.shorts" 675 386) ::
 (nat_lit 393,cO "short_called" 722 723 724 195 2 3 388 181 389 390 391 392 729 195 730) ::
 (nat_lit 394,fO "short_called" 60 (.none) "trueleaf.shorts" 675 393) ::
 (nat_lit 400,cO "size_among" 732 733 734 203 3 3 395 181 396 397 398 399 745 203 746) ::
 (nat_lit 401,fO "size_among" 61 (.none) "trueleaf.shorts" 675 400) ::
 (nat_lit 405,⟨(.type "code"),none,(.fields #[.str (os "sum_of_rows") 748,.str (os "sum_of_rows") 749,.str (os "/claim/cut.py") 750,.int 220 0,.int 3 0,.int 0 0,.int 0 0,.int 3 0,.ref 402,.bool true,.int 181 0,.ref 403,.none,.none,.none,.ref 404,.int 751 0,.int 220 0,.str (os "/claim/cut.py") 752]),#[]⟩) ::
 (nat_lit 406,fO "sum_of_rows" 62 (.none) "trueleaf.shorts" 675 405) ::
 (nat_lit 410,⟨(.type "code"),none,(.fields #[.str (os "words_out") 754,.str (os "words_out") 755,.str (os "/claim/cut.py") 756,.int 222 0,.int 3 0,.int 0 0,.int 0 0,.int 3 0,.ref 407,.bool true,.int 181 0,.ref 408,.none,.none,.none,.ref 409,.int 757 0,.int 222 0,.str (os "/claim/cut.py") 758]),#[]⟩) ::
 (nat_lit 411,fO "words_out" 63 (.none) "trueleaf.shorts" 675 410) ::
 (nat_lit 412,⟨(.type "tuple"),none,(.seq #[.str (os ".page") 762,.str (os ".odd") 763,.str (os ".list") 764]),#[]⟩) ::
 (nat_lit 413,⟨(.type "tuple"),none,(.seq #[.str (os "=") 766,.str (os "==") 767,.str (os "===") 768]),#[]⟩) ::
 (nat_lit 419,cO "read_rows" 772 773 774 237 1 3 414 181 415 416 417 418 778 237 779) ::
 (nat_lit 420,fO "read_rows" 68 (.none) "trueleaf.reading" 760 419) ::
 (nat_lit 433,cM "__init__" "Reader.__init__" 793 794 795 244 1 3 428 181 429 430 431 432 797 244 798) ::
 (nat_lit 434,fM "__init__" "Reader.__init__" (mtop 69 0) (.none) "trueleaf.reading" 760 433) ::
 (nat_lit 440,cM "read_row" "Reader.read_row" 800 801 802 250 2 3 435 181 436 437 438 439 806 250 807) ::
 (nat_lit 441,fM "read_row" "Reader.read_row" (mtop 69 1) (.none) "trueleaf.reading" 760 440) ::
 (nat_lit 445,⟨(.type "code"),none,(.fields #[.str (os "read_let") 809,.str (os "Reader.read_let") 810,.str (os "/claim/cut.py") 811,.int 268 0,.int 2 0,.int 0 0,.int 0 0,.int 3 0,.ref 442,.bool true,.int 181 0,.ref 443,.none,.none,.none,.ref 444,.int 812 0,.int 268 0,.str (os "/claim/cut.py") 813]),#[]⟩) ::
 (nat_lit 446,fM "read_let" "Reader.read_let" (mtop 69 2) (.none) "trueleaf.reading" 760 445) ::
 (nat_lit 452,cM "read_foot" "Reader.read_foot" 815 816 817 277 2 3 447 181 448 449 450 451 822 277 823) ::
 (nat_lit 453,fM "read_foot" "Reader.read_foot" (mtop 69 3) (.none) "trueleaf.reading" 760 452) ::
 (nat_lit 459,cM "read_alone" "Reader.read_alone" 825 826 827 288 2 3 454 181 455 456 457 458 831 288 832) ::
 (nat_lit 460,fM "read_alone" "Reader.read_alone" (mtop 69 4) (.none) "trueleaf.reading" 760 459) ::
 (nat_lit 466,cM "read_words" "Reader.read_words" 834 835 836 294 2 3 461 181 462 463 464 465 840 294 841) ::
 (nat_lit 467,fM "read_words" "Reader.read_words" (mtop 69 5) (.none) "trueleaf.reading" 760 466) ::
 (nat_lit 473,cM "add_thing" "Reader.add_thing" 843 844 845 302 2 3 468 181 469 470 471 472 848 302 849) ::
 (nat_lit 474,fM "add_thing" "Reader.add_thing" (mtop 69 6) (.none) "trueleaf.reading" 760 473) ::
 (nat_lit 478,⟨(.type "code"),none,(.fields #[.str (os "words_out") 851,.str (os "Reader.words_out") 852,.str (os "/claim/cut.py") 853,.int 306 0,.int 3 0,.int 0 0,.int 0 0,.int 3 0,.ref 475,.bool true,.int 181 0,.ref 476,.none,.none,.none,.ref 477,.int 854 0,.int 306 0,.str (os "/claim/cut.py") 855]),#[]⟩) ::
 (nat_lit 479,fM "words_out" "Reader.words_out" (mtop 69 7) (.none) "trueleaf.reading" 760 478) ::
 (nat_lit 480,⟨(.type "tuple"),none,(.seq #[.str (os "feet") 857,.str (os "going_on") 858,.str (os "shorts") 859,.str (os "things") 860]),#[]⟩) ::
 (nat_lit 481,⟨(.type "dict"),none,.dict (List.toArray (⟨kh P (os "__module__"),(.str (os "__module__") 788),(.str (os "trueleaf.reading") 760)⟩ :: ⟨kh P (os "__firstlineno__"),(.str (os "__firstlineno__") 792),(.int 242 791)⟩ :: ⟨kh P (os "__init__"),(.str (os "__init__") 799),(.ref 434)⟩ :: ⟨kh P (os "read_row"),(.str (os "read_row") 808),(.ref 441)⟩ :: ⟨kh P (os "read_let"),(.str (os "read_let") 814),(.ref 446)⟩ :: ⟨kh P (os "read_foot"),(.str (os "read_foot") 824),(.ref 453)⟩ :: ⟨kh P (os "read_alone"),(.str (os "read_alone") 833),(.ref 460)⟩ :: ⟨kh P (os "read_words"),(.str (os "read_words") 842),(.ref 467)⟩ :: ⟨kh P (os "add_thing"),(.str (os "add_thing") 850),(.ref 474)⟩ :: ⟨kh P (os "words_out"),(.str (os "words_out") 856),(.ref 479)⟩ :: ⟨kh P (os "__static_attributes__"),(.str (os "__static_attributes__") 861),(.ref 480)⟩ :: ⟨kh P (os "__dict__"),(.str (os "__dict__") 863),(.ref 483)⟩ :: ⟨kh P (os "__weakref__"),(.str (os "__weakref__") 865),(.ref 484)⟩ :: ⟨kh P (os "__doc__"),(.str (os "__doc__") 866),(.none)⟩ :: [])) 4,#[]⟩) ::
 (nat_lit 482,⟨(.type "type"),none,(.cls (PySem.ClassData.mk (os "Reader") [.type "object"] [.ref 482,.type "object"] 481 (os "Reader") true [] [] false none false)),#[none,none,Option.some (.str (os "Reader") 781),Option.some (.str (os "Reader") 789),Option.some (.builtin "object.__new__"),Option.some (.bool true)]⟩) ::
 (nat_lit 483,⟨(.type "getset_descriptor"),none,(.fields #[.str (os "__dict__") 862,.ref 482,.builtin "function.__dict__",.builtin "function.__dict__#set"]),#[]⟩) ::
 (nat_lit 484,⟨(.type "getset_descriptor"),none,(.fields #[.str (os "__weakref__") 864,.ref 482,.builtin "ExceptionGroup.__weakref__",.none]),#[]⟩) ::
 (nat_lit 492,cO "is_figure" 869 870 871 314 1 3 487 181 488 489 490 491 873 314 874) ::
 (nat_lit 493,fO "is_figure" 70 (.none) "trueleaf.reading" 760 492) ::
 (nat_lit 494,⟨(.type "dict"),none,.dict (List.toArray (⟨kh P (os "page"),(.str (os "page") 878),(.int 3 879)⟩ :: ⟨kh P (os "odd"),(.str (os "odd") 880),(.int 4 881)⟩ :: [])) 2,#[]⟩) ::
 (nat_lit 495,⟨(.type "tuple"),none,(.seq #[.str (os "number") 885,.str (os "page") 886,.str (os "row") 887]),#[]⟩) ::
 (nat_lit 499,⟨(.type "code"),none,(.fields #[.str (os "set_words") 889,.str (os "set_words") 890,.str (os "/claim/cut.py") 891,.int 319 0,.int 2 0,.int 0 0,.int 0 0,.int 3 0,.ref 496,.bool true,.int 181 0,.ref 497,.none,.none,.none,.ref 498,.int 892 0,.int 319 0,.str (os "/claim/cut.py") 893]),#[]⟩) ::
 (nat_lit 500,fO "set_words" 74 (.none) "trueleaf.setting" 876 499) ::
 (nat_lit 511,⟨(.type "code"),none,(.fields #[.str (os "__init__") 907,.str (os "Setter.__init__") 908,.str (os "/claim/cut.py") 909,.int 329 0,.int 3 0,.int 0 0,.int 0 0,.int 3 0,.ref 508,.bool true,.int 181 0,.ref 509,.none,.none,.none,.ref 510,.int 910 0,.int 329 0,.str (os "/claim/cut.py") 911]),#[]⟩) ::
 (nat_lit 512,fM "__init__" "Setter.__init__" (mtop 75 0) (.none) "trueleaf.setting" 876 511) ::
 (nat_lit 518,cM "set_thing" "Setter.set_thing" 913 914 915 340 2 3 513 181 514 515 516 517 919 340 920) ::
 (nat_lit 519,fM "set_thing" "Setter.set_thing" (mtop 75 1) (.none) "trueleaf.setting" 876 518) ::
 (nat_lit 525,cM "set_head" "Setter.set_head" 922 923 924 353 2 3 520 181 521 522 523 524 928 353 929) ::
 (nat_lit 526,fM "set_head" "Setter.set_head" (mtop 75 2) (.none) "trueleaf.setting" 876 525) ::
 (nat_lit 530,⟨(.type "code"),none,(.fields #[.str (os "set_list") 931,.str (os "Setter.set_list") 932,.str (os "/claim/cut.py") 933,.int 358 0,.int 1 0,.int 0 0,.int 0 0,.int 3 0,.ref 527,.bool true,.int 181 0,.ref 528,.none,.none,.none,.ref 529,.int 934 0,.int 358 0,.str (os "/claim/cut.py") 935]),#[]⟩) ::
 (nat_lit 531,fM "set_list" "Setter.set_list" (mtop 75 3) (.none) "trueleaf.setting" 876 530) ::
 (nat_lit 537,cM "set_run" "Setter.set_run" 937 938 939 365 4 3 532 181 533 534 535 536 945 365 946) ::
 (nat_lit 538,fM "set_run" "Setter.set_run" (mtop 75 4) (.none) "trueleaf.setting" 876 537) ::
 (nat_lit 544,cM "set_mark" "Setter.set_mark" 948 949 950 374 2 3 539 181 540 541 542 543 953 374 954) ::
 (nat_lit 545,fM "set_mark" "Setter.set_mark" (mtop 75 5) (.none) "trueleaf.setting" 876 544) ::
 (nat_lit 551,cM "set_word" "Setter.set_word" 956 957 958 379 3 3 546 181 547 548 549 550 963 379 964) ::
 (nat_lit 552,fM "set_word" "Setter.set_word" (mtop 75 6) (.none) "trueleaf.setting" 876 551) ::
 (nat_lit 558,cM "next_foot" "Setter.next_foot" 966 967 968 391 2 3 553 181 554 555 556 557 971 391 972) ::
 (nat_lit 559,fM "next_foot" "Setter.next_foot" (mtop 75 7) (.none) "trueleaf.setting" 876 558) ::
 (nat_lit 563,⟨(.type "code"),none,(.fields #[.str (os "check_marks") 974,.str (os "Setter.check_marks") 975,.str (os "/claim/cut.py") 976,.int 397 0,.int 1 0,.int 0 0,.int 0 0,.int 3 0,.ref 560,.bool true,.int 181 0,.ref 561,.none,.none,.none,.ref 562,.int 977 0,.int 397 0,.str (os "/claim/cut.py") 978]),#[]⟩) ::
 (nat_lit 564,fM "check_marks" "Setter.check_marks" (mtop 75 8) (.none) "trueleaf.setting" 876 563) ::
 (nat_lit 568,⟨(.type "code"),none,(.fields #[.str (os "words_told") 980,.str (os "Setter.words_told") 981,.str (os "/claim/cut.py") 982,.int 408 0,.int 1 0,.int 0 0,.int 0 0,.int 3 0,.ref 565,.bool true,.int 181 0,.ref 566,.none,.none,.none,.ref 567,.int 983 0,.int 408 0,.str (os "/claim/cut.py") 984]),#[]⟩) ::
 (nat_lit 569,fM "words_told" "Setter.words_told" (mtop 75 9) (.none) "trueleaf.setting" 876 568) ::
 (nat_lit 575,cM "saying_of" "Setter.saying_of" 986 987 988 414 2 3 570 181 571 572 573 574 993 414 994) ::
 (nat_lit 576,fM "saying_of" "Setter.saying_of" (mtop 75 10) (.none) "trueleaf.setting" 876 575) ::
 (nat_lit 582,cM "number_at" "Setter.number_at" 996 997 998 425 2 3 577 181 578 579 580 581 1004 425 1005) ::
 (nat_lit 583,fM "number_at" "Setter.number_at" (mtop 75 11) (.none) "trueleaf.setting" 876 582) ::
 (nat_lit 584,⟨(.type "tuple"),none,(.seq #[.str (os "behind_head") 1007,.str (os "feet") 1008,.str (os "feet_set") 1009,.str (os "heads") 1010,.str (os "leap") 1011,.str (os "marks") 1012,.str (os "numbers") 1013,.str (os "titles") 1014,.str (os "words") 1015]),#[]⟩) ::
 (nat_lit 585,⟨(.type "dict"),none,.dict (List.toArray (⟨kh P (os "__module__"),(.str (os "__module__") 902),(.str (os "trueleaf.setting") 876)⟩ :: ⟨kh P (os "__firstlineno__"),(.str (os "__firstlineno__") 906),(.int 327 905)⟩ :: ⟨kh P (os "__init__"),(.str (os "__init__") 912),(.ref 512)⟩ :: ⟨kh P (os "set_thing"),(.str (os "set_thing") 921),(.ref 519)⟩ :: ⟨kh P (os "set_head"),(.str (os "set_head") 930),(.ref 526)⟩ :: ⟨kh P (os "set_list"),(.str (os "set_list") 936),(.ref 531)⟩ :: ⟨kh P (os "set_run"),(.str (os "set_run") 947),(.ref 538)⟩ :: ⟨kh P (os "set_mark"),(.str (os "set_mark") 955),(.ref 545)⟩ :: ⟨kh P (os "set_word"),(.str (os "set_word") 965),(.ref 552)⟩ :: ⟨kh P (os "next_foot"),(.str (os "next_foot") 973),(.ref 559)⟩ :: ⟨kh P (os "check_marks"),(.str (os "check_marks") 979),(.ref 564)⟩ :: ⟨kh P (os "words_told"),(.str (os "words_told") 985),(.ref 569)⟩ :: ⟨kh P (os "saying_of"),(.str (os "saying_of") 995),(.ref 576)⟩ :: ⟨kh P (os "number_at"),(.str (os "number_at") 1006),(.ref 583)⟩ :: ⟨kh P (os "__static_attributes__"),(.str (os "__static_attributes__") 1016),(.ref 584)⟩ :: ⟨kh P (os "__dict__"),(.str (os "__dict__") 1018),(.ref 587)⟩ :: ⟨kh P (os "__weakref__"),(.str (os "__weakref__") 1020),(.ref 588)⟩ :: ⟨kh P (os "__doc__"),(.str (os "__doc__") 1021),(.none)⟩ :: [])) 4,#[]⟩) ::
 (nat_lit 586,⟨(.type "type"),none,(.cls (PySem.ClassData.mk (os "Setter") [.type "object"] [.ref 586,.type "object"] 585 (os "Setter") true [] [] false none false)),#[none,none,Option.some (.str (os "Setter") 895),Option.some (.str (os "Setter") 903),Option.some (.builtin "object.__new__"),Option.some (.bool true)]⟩) ::
 (nat_lit 587,⟨(.type "getset_descriptor"),none,(.fields #[.str (os "__dict__") 1017,.ref 586,.builtin "function.__dict__",.builtin "function.__dict__#set"]),#[]⟩) ::
 (nat_lit 588,⟨(.type "getset_descriptor"),none,(.fields #[.str (os "__weakref__") 1019,.ref 586,.builtin "ExceptionGroup.__weakref__",.none]),#[]⟩) ::
 (nat_lit 596,cO "later" 1026 1027 1028 432 2 3 591 181 592 593 594 595 1031 432 1032) ::
 (nat_lit 597,fO "later" 77 (.none) "trueleaf.places" 1024 596) ::
 (nat_lit 603,cO "behind" 1034 1035 1036 434 3 3 598 181 599 600 601 602 1040 434 1041) ::
 (nat_lit 604,fO "behind" 78 (.none) "trueleaf.places" 1024 603) ::
 (nat_lit 610,cO "first_from" 1043 1044 1045 442 3 3 605 181 606 607 608 609 1049 442 1050) ::
 (nat_lit 611,fO "first_from" 79 (.none) "trueleaf.places" 1024 610) ::
 (nat_lit 617,cO "rows_on" 1052 1053 1054 446 3 3 612 181 613 614 615 616 1059 446 1060) ::
 (nat_lit 618,fO "rows_on" 80 (.none) "trueleaf.places" 1024 617) ::
 (nat_lit 624,cO "next_top" 1062 1063 1064 451 1 3 619 181 620 621 622 623 1066 451 1067) ::
 (nat_lit 625,fO "next_top" 81 (.none) "trueleaf.places" 1024 624) ::
 (nat_lit 631,cO "said" 1071 1072 1073 454 3 3 626 181 627 628 629 630 1078 454 1079) ::
 (nat_lit 632,fO "said" 83 (.none) "trueleaf.widths" 1069 631) ::
 (nat_lit 638,cO "wide_of" 1081 1082 1083 461 3 3 633 181 634 635 636 637 1087 461 1088) ::
 (nat_lit 639,fO "wide_of" 84 (.none) "trueleaf.widths" 1069 638) ::
 (nat_lit 645,cO "together" 1090 1091 1092 463 1 3 640 181 641 642 643 644 1094 463 1095) ::
 (nat_lit 646,fO "together" 85 (.none) "trueleaf.widths" 1069 645) ::
 (nat_lit 652,cO "foot_rows" 1097 1098 1099 465 3 3 647 181 648 649 650 651 1106 465 1107) ::
 (nat_lit 653,fO "foot_rows" 86 (.none) "trueleaf.widths" 1069 652) ::
 (nat_lit 657,⟨(.type "code"),none,(.fields #[.str (os "foot_high") 1109,.str (os "foot_high") 1110,.str (os "/claim/cut.py") 1111,.int 474 0,.int 3 0,.int 0 0,.int 0 0,.int 3 0,.ref 654,.bool true,.int 181 0,.ref 655,.none,.none,.none,.ref 656,.int 1112 0,.int 474 0,.str (os "/claim/cut.py") 1113]),#[]⟩) ::
 (nat_lit 658,fO "foot_high" 87 (.none) "trueleaf.widths" 1069 657) ::
 (nat_lit 664,cO "first_bounds" 1117 1118 1119 480 1 3 659 181 660 661 662 663 1121 480 1122) ::
 (nat_lit 665,fO "first_bounds" 89 (.none) "trueleaf.bounds" 1115 664) ::
 (nat_lit 671,cO "reach" 1124 1125 1126 482 5 3 666 181 667 668 669 670 1133 482 1134) ::
 (nat_lit 672,fO "reach" 90 (.none) "trueleaf.bounds" 1115 671) ::
 (nat_lit 678,cO "told_by_kind" 1136 1137 1138 487 5 3 673 181 674 675 676 677 1144 487 1145) ::
 (nat_lit 679,fO "told_by_kind" 91 (.none) "trueleaf.bounds" 1115 678) ::
 (nat_lit 683,⟨(.type "code"),none,(.fields #[.str (os "wides_of") 1147,.str (os "wides_of") 1148,.str (os "/claim/cut.py") 1149,.int 499 0,.int 4 0,.int 0 0,.int 0 0,.int 3 0,.ref 680,.bool true,.int 181 0,.ref 681,.none,.none,.none,.ref 682,.int 1150 0,.int 499 0,.str (os "/claim/cut.py") 1151]),#[]⟩) ::
 (nat_lit 684,fO "wides_of" 92 (.none) "trueleaf.bounds" 1115 683) ::
 (nat_lit 688,⟨(.type "code"),none,(.fields #[.str (os "highs_of") 1153,.str (os "highs_of") 1154,.str (os "/claim/cut.py") 1155,.int 501 0,.int 4 0,.int 0 0,.int 0 0,.int 3 0,.ref 685,.bool true,.int 181 0,.ref 686,.none,.none,.none,.ref 687,.int 1156 0,.int 501 0,.str (os "/claim/cut.py") 1157]),#[]⟩) ::
 (nat_lit 689,fO "highs_of" 93 (.none) "trueleaf.bounds" 1115 688) ::
 (nat_lit 695,cO "told_behind" 1159 1160 1161 503 3 3 690 181 691 692 693 694 1168 503 1169) ::
 (nat_lit 696,fO "told_behind" 94 (.none) "trueleaf.bounds" 1115 695) ::
 (nat_lit 702,cO "told_wide" 1171 1172 1173 510 4 3 697 181 698 699 700 701 1179 510 1180) ::
 (nat_lit 703,fO "told_wide" 95 (.none) "trueleaf.bounds" 1115 702) ::
 (nat_lit 709,cO "told_high" 1182 1183 1184 515 5 3 704 181 705 706 707 708 1191 515 1192) ::
 (nat_lit 710,fO "told_high" 96 (.none) "trueleaf.bounds" 1115 709) ::
 (nat_lit 716,cO "told_kept" 1194 1195 1196 520 3 3 711 181 712 713 714 715 1202 520 1203) ::
 (nat_lit 717,fO "told_kept" 97 (.none) "trueleaf.bounds" 1115 716) ::
 (nat_lit 723,cO "told_never" 1205 1206 1207 526 3 3 718 181 719 720 721 722 1213 526 1214) ::
 (nat_lit 724,fO "told_never" 98 (.none) "trueleaf.bounds" 1115 723) ::
 (nat_lit 725,⟨(.type "tuple"),none,(.seq #[.none]),#[]⟩) ::
 (nat_lit 729,⟨(.type "code"),none,(.fields #[.str (os "settle") 1218,.str (os "settle") 1219,.str (os "/claim/cut.py") 1220,.int 533 0,.int 2 0,.int 0 0,.int 0 0,.int 3 0,.ref 726,.bool true,.int 181 0,.ref 727,.none,.none,.none,.ref 728,.int 1221 0,.int 533 0,.str (os "/claim/cut.py") 1222]),#[]⟩) ::
 (nat_lit 730,fO "settle" 100 (.ref 725) "trueleaf.settle" 1216 729) ::
 (nat_lit 736,cO "stands_beyond" 1224 1225 1226 549 2 3 731 181 732 733 734 735 1229 549 1230) ::
 (nat_lit 737,fO "stands_beyond" 101 (.none) "trueleaf.settle" 1216 736) ::
 (nat_lit 743,cO "sizes_under" 1232 1233 1234 551 2 3 738 181 739 740 741 742 1238 551 1239) ::
 (nat_lit 744,fO "sizes_under" 102 (.none) "trueleaf.settle" 1216 743) ::
 (nat_lit 750,cO "first_unlike" 1241 1242 1243 554 2 3 745 181 746 747 748 749 1247 554 1248) ::
 (nat_lit 751,fO "first_unlike" 103 (.none) "trueleaf.settle" 1216 750) ::
 (nat_lit 757,cO "raise_from" 1250 1251 1252 559 5 3 752 181 753 754 755 756 1259 559 1260) ::
 (nat_lit 758,fO "raise_from" 104 (.none) "trueleaf.settle" 1216 757) ::
 (nat_lit 764,cO "raise_word" 1262 1263 1264 567 5 3 759 181 760 761 762 763 1271 567 1272) ::
 (nat_lit 765,fO "raise_word" 105 (.none) "trueleaf.settle" 1216 764) ::
 (nat_lit 771,cO "raise_by" 1274 1275 1276 572 6 3 766 181 767 768 769 770 1284 572 1285) ::
 (nat_lit 772,fO "raise_by" 106 (.none) "trueleaf.settle" 1216 771) ::
 (nat_lit 778,cO "raise_kept" 1287 1288 1289 576 4 3 773 181 774 775 776 777 1295 576 1296) ::
 (nat_lit 779,fO "raise_kept" 107 (.none) "trueleaf.settle" 1216 778) ::
 (nat_lit 785,cO "reason_for" 1298 1299 1300 584 4 3 780 181 781 782 783 784 1307 584 1308) ::
 (nat_lit 786,fO "reason_for" 108 (.none) "trueleaf.settle" 1216 785) ::
 (nat_lit 792,cO "too_wide_from" 1310 1311 1312 599 4 3 787 181 788 789 790 791 1319 599 1320) ::
 (nat_lit 793,fO "too_wide_from" 109 (.none) "trueleaf.settle" 1216 792) ::
 (nat_lit 799,cO "too_high_from" 1322 1323 1324 608 4 3 794 181 795 796 797 798 1332 608 1333) ::
 (nat_lit 800,fO "too_high_from" 110 (.none) "trueleaf.settle" 1216 799) ::
 (nat_lit 804,⟨(.type "code"),none,(.fields #[.str (os "pages_of") 1337,.str (os "pages_of") 1338,.str (os "/claim/cut.py") 1339,.int 619 0,.int 2 0,.int 0 0,.int 0 0,.int 3 0,.ref 801,.bool true,.int 181 0,.ref 802,.none,.none,.none,.ref 803,.int 1340 0,.int 619 0,.str (os "/claim/cut.py") 1341]),#[]⟩) ::
 (nat_lit 805,fO "pages_of" 112 (.none) "trueleaf.pages" 1335 804) ::
 (nat_lit 809,⟨(.type "code"),none,(.fields #[.str (os "tell_pages") 1343,.str (os "tell_pages") 1344,.str (os "/claim/cut.py") 1345,.int 624 0,.int 3 0,.int 0 0,.int 0 0,.int 3 0,.ref 806,.bool true,.int 181 0,.ref 807,.none,.none,.none,.ref 808,.int 1346 0,.int 624 0,.str (os "/claim/cut.py") 1347]),#[]⟩) ::
 (nat_lit 810,fO "tell_pages" 113 (.none) "trueleaf.pages" 1335 809) ::
 (nat_lit 814,⟨(.type "code"),none,(.fields #[.str (os "page_rows") 1349,.str (os "page_rows") 1350,.str (os "/claim/cut.py") 1351,.int 631 0,.int 3 0,.int 0 0,.int 0 0,.int 3 0,.ref 811,.bool true,.int 181 0,.ref 812,.none,.none,.none,.ref 813,.int 1352 0,.int 631 0,.str (os "/claim/cut.py") 1353]),#[]⟩) ::
 (nat_lit 815,fO "page_rows" 114 (.none) "trueleaf.pages" 1335 814) ::
 (nat_lit 828,cM "__init__" "Desk.__init__" 1375 1376 1377 647 2 3 823 181 824 825 826 827 1380 647 1381) ::
 (nat_lit 829,fM "__init__" "Desk.__init__" (mtop 119 0) (.none) "trueleaf.desk" 1355 828) ::
 (nat_lit 835,cM "put_part" "Desk.put_part" 1383 1384 1385 654 3 3 830 181 831 832 833 834 1389 654 1390) ::
 (nat_lit 836,fM "put_part" "Desk.put_part" (mtop 119 1) (.none) "trueleaf.desk" 1355 835) ::
 (nat_lit 842,cM "drop_part" "Desk.drop_part" 1392 1393 1394 664 2 3 837 181 838 839 840 841 1397 664 1398) ::
 (nat_lit 843,fM "drop_part" "Desk.drop_part" (mtop 119 2) (.none) "trueleaf.desk" 1355 842) ::
 (nat_lit 849,cM "put_row" "Desk.put_row" 1400 1401 1402 669 4 3 844 181 845 846 847 848 1408 669 1409) ::
 (nat_lit 850,fM "put_row" "Desk.put_row" (mtop 119 3) (.none) "trueleaf.desk" 1355 849) ::
 (nat_lit 856,cM "cut_row" "Desk.cut_row" 1411 1412 1413 678 3 3 851 181 852 853 854 855 1418 678 1419) ::
 (nat_lit 857,fM "cut_row" "Desk.cut_row" (mtop 119 4) (.none) "trueleaf.desk" 1355 856) ::
 (nat_lit 863,cM "undo" "Desk.undo" 1421 1422 1423 685 1 3 858 181 859 860 861 862 1425 685 1426) ::
 (nat_lit 864,fM "undo" "Desk.undo" (mtop 119 5) (.none) "trueleaf.desk" 1355 863) ::
 (nat_lit 870,cM "shelf" "Desk.shelf" 1428 1429 1430 690 1 3 865 181 866 867 868 869 1432 690 1433) ::
 (nat_lit 871,fM "shelf" "Desk.shelf" (mtop 119 6) (.none) "trueleaf.desk" 1355 870) ::
 (nat_lit 877,cM "tell" "Desk.tell" 1435 1436 1437 693 1 3 872 181 873 874 875 876 1439 693 1440) ::
 (nat_lit 878,fM "tell" "Desk.tell" (mtop 119 7) (.none) "trueleaf.desk" 1355 877) ::
 (nat_lit 884,cM "issue" "Desk.issue" 1442 1443 1444 696 1 3 879 181 880 881 882 883 1446 696 1447) ::
 (nat_lit 885,fM "issue" "Desk.issue" (mtop 119 8) (.none) "trueleaf.desk" 1355 884) ::
 (nat_lit 891,cM "rows_of" "Desk.rows_of" 1449 1450 1451 699 2 3 886 181 887 888 889 890 1454 699 1455) ::
 (nat_lit 892,fM "rows_of" "Desk.rows_of" (mtop 119 9) (.none) "trueleaf.desk" 1355 891) ::
 (nat_lit 898,cM "do_deed" "Desk.do_deed" 1457 1458 1459 704 1 3 893 181 894 895 896 897 1461 704 1462) ::
 (nat_lit 899,fM "do_deed" "Desk.do_deed" (mtop 119 10) (.none) "trueleaf.desk" 1355 898) ::
 (nat_lit 900,⟨(.type "tuple"),none,(.seq #[.str (os "elder") 1464,.str (os "form") 1465,.str (os "issued") 1466,.str (os "parts") 1467]),#[]⟩) ::
 (nat_lit 901,⟨(.type "dict"),none,.dict (List.toArray (⟨kh P (os "__module__"),(.str (os "__module__") 1370),(.str (os "trueleaf.desk") 1355)⟩ :: ⟨kh P (os "__firstlineno__"),(.str (os "__firstlineno__") 1374),(.int 645 1373)⟩ :: ⟨kh P (os "__init__"),(.str (os "__init__") 1382),(.ref 829)⟩ :: ⟨kh P (os "put_part"),(.str (os "put_part") 1391),(.ref 836)⟩ :: ⟨kh P (os "drop_part"),(.str (os "drop_part") 1399),(.ref 843)⟩ :: ⟨kh P (os "put_row"),(.str (os "put_row") 1410),(.ref 850)⟩ :: ⟨kh P (os "cut_row"),(.str (os "cut_row") 1420),(.ref 857)⟩ :: ⟨kh P (os "undo"),(.str (os "undo") 1427),(.ref 864)⟩ :: ⟨kh P (os "shelf"),(.str (os "shelf") 1434),(.ref 871)⟩ :: ⟨kh P (os "tell"),(.str (os "tell") 1441),(.ref 878)⟩ :: ⟨kh P (os "issue"),(.str (os "issue") 1448),(.ref 885)⟩ :: ⟨kh P (os "rows_of"),(.str (os "rows_of") 1456),(.ref 892)⟩ :: ⟨kh P (os "do_deed"),(.str (os "do_deed") 1463),(.ref 899)⟩ :: ⟨kh P (os "__static_attributes__"),(.str (os "__static_attributes__") 1468),(.ref 900)⟩ :: ⟨kh P (os "__dict__"),(.str (os "__dict__") 1470),(.ref 903)⟩ :: ⟨kh P (os "__weakref__"),(.str (os "__weakref__") 1472),(.ref 904)⟩ :: ⟨kh P (os "__doc__"),(.str (os "__doc__") 1473),(.none)⟩ :: [])) 4,#[]⟩) ::
 (nat_lit 902,⟨(.type "type"),none,(.cls (PySem.ClassData.mk (os "Desk") [.type "object"] [.ref 902,.type "object"] 901 (os "Desk") true [] [] false none false)),#[none,none,Option.some (.str (os "Desk") 1363),Option.some (.str (os "Desk") 1371),Option.some (.builtin "object.__new__"),Option.some (.bool true)]⟩) ::
 (nat_lit 903,⟨(.type "getset_descriptor"),none,(.fields #[.str (os "__dict__") 1469,.ref 902,.builtin "function.__dict__",.builtin "function.__dict__#set"]),#[]⟩) ::
 (nat_lit 904,⟨(.type "getset_descriptor"),none,(.fields #[.str (os "__weakref__") 1471,.ref 902,.builtin "ExceptionGroup.__weakref__",.none]),#[]⟩) ::
 (nat_lit 912,cO "_law_cell_at" 1478 1479 1480 708 2 3 907 181 908 909 910 911 1483 708 1484) ::
 (nat_lit 913,fO "_law_cell_at" 121 (.none) "law_trueleaf_k74_whole_deeds_taken_back" 1476 912) ::
 (nat_lit 919,cO "_law_mixed" 1486 1487 1488 712 1 3 914 181 915 916 917 918 1490 712 1491) ::
 (nat_lit 920,fO "_law_mixed" 122 (.none) "law_trueleaf_k74_whole_deeds_taken_back" 1476 919) ::
 (nat_lit 924,⟨(.type "code"),none,(.fields #[.str (os "_law_signs") 1493,.str (os "_law_signs") 1494,.str (os "/claim/cut.py") 1495,.int 714 0,.int 2 0,.int 0 0,.int 0 0,.int 3 0,.ref 921,.bool true,.int 181 0,.ref 922,.none,.none,.none,.ref 923,.int 1496 0,.int 714 0,.str (os "/claim/cut.py") 1497]),#[]⟩) ::
 (nat_lit 925,fO "_law_signs" 123 (.none) "law_trueleaf_k74_whole_deeds_taken_back" 1476 924) ::
 (nat_lit 931,cO "_law_row" 1499 1500 1501 719 1 3 926 181 927 928 929 930 1504 719 1505) ::
 (nat_lit 932,fO "_law_row" 124 (.none) "law_trueleaf_k74_whole_deeds_taken_back" 1476 931) ::
 (nat_lit 936,⟨(.type "code"),none,(.fields #[.str (os "_law_text") 1507,.str (os "_law_text") 1508,.str (os "/claim/cut.py") 1509,.int 724 0,.int 1 0,.int 0 0,.int 0 0,.int 3 0,.ref 933,.bool true,.int 181 0,.ref 934,.none,.none,.none,.ref 935,.int 1510 0,.int 724 0,.str (os "/claim/cut.py") 1511]),#[]⟩) ::
 (nat_lit 937,fO "_law_text" 125 (.none) "law_trueleaf_k74_whole_deeds_taken_back" 1476 936) ::
 (nat_lit 943,cO "_law_name" 1513 1514 1515 730 2 3 938 181 939 940 941 942 1519 730 1520) ::
 (nat_lit 944,fO "_law_name" 126 (.none) "law_trueleaf_k74_whole_deeds_taken_back" 1476 943) ::
 (nat_lit 950,cO "_law_at" 1522 1523 1524 742 2 3 945 181 946 947 948 949 1527 742 1528) ::
 (nat_lit 951,fO "_law_at" 127 (.none) "law_trueleaf_k74_whole_deeds_taken_back" 1476 950) ::
 (nat_lit 955,⟨(.type "code"),none,(.fields #[.str (os "_law_is_name") 1530,.str (os "_law_is_name") 1531,.str (os "/claim/cut.py") 1532,.int 748 0,.int 1 0,.int 0 0,.int 0 0,.int 3 0,.ref 952,.bool true,.int 181 0,.ref 953,.none,.none,.none,.ref 954,.int 1533 0,.int 748 0,.str (os "/claim/cut.py") 1534]),#[]⟩) ::
 (nat_lit 956,fO "_law_is_name" 128 (.none) "law_trueleaf_k74_whole_deeds_taken_back" 1476 955) ::
 (nat_lit 962,cO "_law_put_by" 1536 1537 1538 753 3 3 957 181 958 959 960 961 1543 753 1544) ::
 (nat_lit 963,fO "_law_put_by" 129 (.none) "law_trueleaf_k74_whole_deeds_taken_back" 1476 962) ::
 (nat_lit 969,cO "_law_done_by" 1546 1547 1548 763 2 3 964 181 965 966 967 968 1557 763 1558) ::
 (nat_lit 970,fO "_law_done_by" 130 (.none) "law_trueleaf_k74_whole_deeds_taken_back" 1476 969) ::
 (nat_lit 976,cO "_law_did" 1560 1561 1562 786 2 3 971 181 972 973 974 975 1571 786 1572) ::
 (nat_lit 977,fO "_law_did" 131 (.none) "law_trueleaf_k74_whole_deeds_taken_back" 1476 976) ::
 (nat_lit 983,cO "_law_shelf_is" 1574 1575 1576 814 2 3 978 181 979 980 981 982 1581 814 1582) ::
 (nat_lit 984,fO "_law_shelf_is" 132 (.none) "law_trueleaf_k74_whole_deeds_taken_back" 1476 983) ::
 (nat_lit 990,cO "_law_deed" 1584 1585 1586 825 2 3 985 181 986 987 988 989 1594 825 1595) ::
 (nat_lit 991,fO "_law_deed" 133 (.none) "law_trueleaf_k74_whole_deeds_taken_back" 1476 990) ::
 (nat_lit 997,cO "_law_walk" 1597 1598 1599 835 3 3 992 181 993 994 995 996 1608 835 1609) ::
 (nat_lit 998,fO "_law_walk" 134 (.none) "law_trueleaf_k74_whole_deeds_taken_back" 1476 997) ::
 (nat_lit 1004,cO "law" 1611 1612 1613 853 1 3 999 181 1000 1001 1002 1003 1622 853 1623) ::
 (nat_lit 1005,fO "law" 135 (.none) "law_trueleaf_k74_whole_deeds_taken_back" 1476 1004) :: []
noncomputable def vw:Program:={ PySem.Challenge.pw_trueleaf_k74_whole_deeds_taken_back with main:={ PySem.Challenge.pw_trueleaf_k74_whole_deeds_taken_back.main with body:=top 0 :: top 2 :: top 3 :: top 4 :: top 5 :: top 6 :: top 7 :: top 8 :: top 9 :: top 10 :: top 11 :: top 12 :: top 13 :: top 14 :: top 15 :: top 16 :: top 17 :: top 18 :: top 20 :: top 21 :: top 22 :: top 23 :: top 25 :: top 26 :: top 27 :: top 28 :: top 29 :: top 30 :: top 31 :: top 32 :: top 34 :: top 35 :: top 36 :: top 37 :: top 38 :: top 39 :: top 40 :: top 41 :: top 43 :: top 45 :: top 47 :: top 48 :: top 49 :: top 50 :: top 51 :: top 53 :: top 54 :: top 55 :: top 57 :: top 58 :: top 59 :: top 60 :: top 61 :: top 62 :: top 63 :: top 65 :: top 66 :: top 67 :: top 68 :: top 69 :: top 70 :: top 72 :: top 73 :: top 74 :: top 75 :: top 77 :: top 78 :: top 79 :: top 80 :: top 81 :: top 83 :: top 84 :: top 85 :: top 86 :: top 87 :: top 89 :: top 90 :: top 91 :: top 92 :: top 93 :: top 94 :: top 95 :: top 96 :: top 97 :: top 98 :: top 101 :: top 102 :: top 103 :: top 104 :: top 105 :: top 106 :: top 107 :: top 108 :: top 109 :: top 110 :: top 112 :: top 113 :: top 114 :: top 116 :: top 117 :: top 118 :: top 119 :: top 121 :: top 122 :: top 123 :: top 124 :: top 125 :: top 126 :: top 127 :: top 128 :: top 129 :: top 130 :: top 131 :: top 132 :: top 133 :: top 134 :: top 135 :: [] } }
noncomputable abbrev ls:List Str:=[os "KINDS",os "tree_of",os "size_of",os "LEAPS",os "settle"]
noncomputable abbrev hk:Hook:=kHook kk (nat_lit 2 :: nat_lit 3 :: nat_lit 20 :: nat_lit 21 :: nat_lit 22 :: nat_lit 29 :: nat_lit 30 :: nat_lit 31 :: nat_lit 32 :: nat_lit 35 :: nat_lit 42 :: nat_lit 43 :: nat_lit 44 :: nat_lit 47 :: nat_lit 54 :: nat_lit 55 :: nat_lit 56 :: nat_lit 59 :: nat_lit 66 :: nat_lit 67 :: nat_lit 68 :: nat_lit 71 :: nat_lit 78 :: nat_lit 79 :: nat_lit 80 :: nat_lit 83 :: nat_lit 90 :: nat_lit 91 :: nat_lit 92 :: nat_lit 95 :: nat_lit 102 :: nat_lit 103 :: nat_lit 104 :: nat_lit 107 :: nat_lit 114 :: nat_lit 115 :: nat_lit 116 :: nat_lit 119 :: nat_lit 126 :: nat_lit 127 :: nat_lit 128 :: nat_lit 131 :: nat_lit 138 :: nat_lit 139 :: nat_lit 140 :: nat_lit 143 :: nat_lit 150 :: nat_lit 151 :: nat_lit 152 :: nat_lit 155 :: nat_lit 162 :: nat_lit 163 :: nat_lit 164 :: nat_lit 167 :: nat_lit 174 :: nat_lit 175 :: nat_lit 176 :: nat_lit 179 :: nat_lit 186 :: nat_lit 187 :: nat_lit 188 :: nat_lit 191 :: nat_lit 198 :: nat_lit 199 :: nat_lit 200 :: nat_lit 203 :: nat_lit 210 :: nat_lit 211 :: nat_lit 212 :: nat_lit 215 :: nat_lit 222 :: nat_lit 223 :: nat_lit 224 :: nat_lit 232 :: nat_lit 233 :: nat_lit 239 :: nat_lit 240 :: nat_lit 241 :: nat_lit 245 :: nat_lit 246 :: nat_lit 250 :: nat_lit 251 :: nat_lit 257 :: nat_lit 258 :: nat_lit 264 :: nat_lit 265 :: nat_lit 271 :: nat_lit 272 :: nat_lit 278 :: nat_lit 279 :: nat_lit 285 :: nat_lit 286 :: nat_lit 292 :: nat_lit 293 :: nat_lit 299 :: nat_lit 300 :: nat_lit 306 :: nat_lit 307 :: nat_lit 313 :: nat_lit 314 :: nat_lit 318 :: nat_lit 319 :: nat_lit 320 :: nat_lit 326 :: nat_lit 327 :: nat_lit 331 :: nat_lit 332 :: nat_lit 338 :: nat_lit 339 :: nat_lit 345 :: nat_lit 346 :: nat_lit 352 :: nat_lit 353 :: nat_lit 359 :: nat_lit 360 :: nat_lit 361 :: nat_lit 367 :: nat_lit 368 :: nat_lit 374 :: nat_lit 375 :: nat_lit 381 :: nat_lit 382 :: nat_lit 386 :: nat_lit 387 :: nat_lit 393 :: nat_lit 394 :: nat_lit 400 :: nat_lit 401 :: nat_lit 405 :: nat_lit 406 :: nat_lit 410 :: nat_lit 411 :: nat_lit 412 :: nat_lit 413 :: nat_lit 419 :: nat_lit 420 :: nat_lit 433 :: nat_lit 434 :: nat_lit 440 :: nat_lit 441 :: nat_lit 445 :: nat_lit 446 :: nat_lit 452 :: nat_lit 453 :: nat_lit 459 :: nat_lit 460 :: nat_lit 466 :: nat_lit 467 :: nat_lit 473 :: nat_lit 474 :: nat_lit 478 :: nat_lit 479 :: nat_lit 480 :: nat_lit 481 :: nat_lit 482 :: nat_lit 483 :: nat_lit 484 :: nat_lit 492 :: nat_lit 493 :: nat_lit 494 :: nat_lit 495 :: nat_lit 499 :: nat_lit 500 :: nat_lit 511 :: nat_lit 512 :: nat_lit 518 :: nat_lit 519 :: nat_lit 525 :: nat_lit 526 :: nat_lit 530 :: nat_lit 531 :: nat_lit 537 :: nat_lit 538 :: nat_lit 544 :: nat_lit 545 :: nat_lit 551 :: nat_lit 552 :: nat_lit 558 :: nat_lit 559 :: nat_lit 563 :: nat_lit 564 :: nat_lit 568 :: nat_lit 569 :: nat_lit 575 :: nat_lit 576 :: nat_lit 582 :: nat_lit 583 :: nat_lit 584 :: nat_lit 585 :: nat_lit 586 :: nat_lit 587 :: nat_lit 588 :: nat_lit 596 :: nat_lit 597 :: nat_lit 603 :: nat_lit 604 :: nat_lit 610 :: nat_lit 611 :: nat_lit 617 :: nat_lit 618 :: nat_lit 624 :: nat_lit 625 :: nat_lit 631 :: nat_lit 632 :: nat_lit 638 :: nat_lit 639 :: nat_lit 645 :: nat_lit 646 :: nat_lit 652 :: nat_lit 653 :: nat_lit 657 :: nat_lit 658 :: nat_lit 664 :: nat_lit 665 :: nat_lit 671 :: nat_lit 672 :: nat_lit 678 :: nat_lit 679 :: nat_lit 683 :: nat_lit 684 :: nat_lit 688 :: nat_lit 689 :: nat_lit 695 :: nat_lit 696 :: nat_lit 702 :: nat_lit 703 :: nat_lit 709 :: nat_lit 710 :: nat_lit 716 :: nat_lit 717 :: nat_lit 723 :: nat_lit 724 :: nat_lit 725 :: nat_lit 729 :: nat_lit 730 :: nat_lit 736 :: nat_lit 737 :: nat_lit 743 :: nat_lit 744 :: nat_lit 750 :: nat_lit 751 :: nat_lit 757 :: nat_lit 758 :: nat_lit 764 :: nat_lit 765 :: nat_lit 771 :: nat_lit 772 :: nat_lit 778 :: nat_lit 779 :: nat_lit 785 :: nat_lit 786 :: nat_lit 792 :: nat_lit 793 :: nat_lit 799 :: nat_lit 800 :: nat_lit 804 :: nat_lit 805 :: nat_lit 809 :: nat_lit 810 :: nat_lit 814 :: nat_lit 815 :: nat_lit 828 :: nat_lit 829 :: nat_lit 835 :: nat_lit 836 :: nat_lit 842 :: nat_lit 843 :: nat_lit 849 :: nat_lit 850 :: nat_lit 856 :: nat_lit 857 :: nat_lit 863 :: nat_lit 864 :: nat_lit 870 :: nat_lit 871 :: nat_lit 877 :: nat_lit 878 :: nat_lit 884 :: nat_lit 885 :: nat_lit 891 :: nat_lit 892 :: nat_lit 898 :: nat_lit 899 :: nat_lit 900 :: nat_lit 901 :: nat_lit 902 :: nat_lit 903 :: nat_lit 904 :: nat_lit 912 :: nat_lit 913 :: nat_lit 919 :: nat_lit 920 :: nat_lit 924 :: nat_lit 925 :: nat_lit 931 :: nat_lit 932 :: nat_lit 936 :: nat_lit 937 :: nat_lit 943 :: nat_lit 944 :: nat_lit 950 :: nat_lit 951 :: nat_lit 955 :: nat_lit 956 :: nat_lit 962 :: nat_lit 963 :: nat_lit 969 :: nat_lit 970 :: nat_lit 976 :: nat_lit 977 :: nat_lit 983 :: nat_lit 984 :: nat_lit 990 :: nat_lit 991 :: nat_lit 997 :: nat_lit 998 :: nat_lit 1004 :: nat_lit 1005 :: []) (fun _=>by kernel_rfl)
noncomputable abbrev rr:RowW:=OpenRow.toRowW (OpenLaw.row PySem.Challenge.rw_trueleaf_k74_whole_deeds_taken_back)
noncomputable abbrev xt:Shared→Bool:=fun s=>xlAt vw [] s && recOk (RowW.records rr) s
noncomputable def zzqA_11 (P:Params) : Obj:=⟨(.type "tuple"),none,(.seq #[]),#[]⟩
noncomputable def zzqA_12 (P:Params) : Obj:=⟨(.none),none,(.fields #[]),#[]⟩
noncomputable def zzqA_13 (P:Params) : Obj:=⟨(.type "code"),none,(.fields #[.str (os "<module>") 182,.str (os "<module>") 183,.str (os "/claim/cut.py") 184,.int 1 0,.int 0 0,.int 0 0,.int 0 0,.int 0 0,.ref 11,.bool false,.int 181 0,.ref 12,.none,.none,.none,.none,.int 185 0,.int 1 0,.str (os "/claim/cut.py") 186]),#[]⟩
noncomputable def zzqA_14 (P:Params) : Obj:=⟨(.type "frame"),none,(.plain),#[Option.some (.ref 13),Option.some (.ref 3),Option.some (.ref 3),none,Option.some (.str (os "__main__") 164),none,Option.some (.ref 0)]⟩
noncomputable def zzhY0 (P:Params) (t:List Obj) : List Obj:=PySem.W.boot_o_0 P :: PySem.W.boot_o_1 P :: PySem.W.boot_o_2 P :: PySem.W.boot_o_3 P :: PySem.W.boot_o_4 P :: PySem.W.boot_o_5 P :: PySem.W.boot_o_6 P :: PySem.W.boot_o_7 P :: PySem.W.boot_o_8 P :: PySem.W.boot_o_9 P :: PySem.W.boot_o_10 P :: zzqA_11 P :: zzqA_12 P :: zzqA_13 P :: zzqA_14 P :: t
noncomputable def zzhA (P:Params) : Heap:=⟨⟨(zzhY0 P [])⟩,{}⟩
noncomputable def zzhB (P:Params) : Heap:=⟨⟨(zzhY0 P [])⟩,{}⟩
noncomputable def zzq1_3 (P:Params) : Obj:=⟨(.type "dict"),none,.dict (List.toArray (⟨kh P (os "__name__"),(.str (os "__name__") 165),(.str (os "trueleaf.errors") 194)⟩ :: ⟨kh P (os "__doc__"),(.str (os "__doc__") 166),(.none)⟩ :: ⟨kh P (os "__package__"),(.str (os "__package__") 167),(.none)⟩ :: ⟨kh P (os "__loader__"),(.str (os "__loader__") 168),(.builtin "__main__.__loader__#opaque")⟩ :: ⟨kh P (os "__spec__"),(.str (os "__spec__") 169),(.none)⟩ :: ⟨kh P (os "__annotations__"),(.str (os "__annotations__") 170),(.ref 6)⟩ :: ⟨kh P (os "__builtins__"),(.str (os "__builtins__") 171),(.ref 4)⟩ :: ⟨kh P (os "__file__"),(.str (os "__file__") 173),(.str (os "/claim/cut.py") 172)⟩ :: ⟨kh P (os "__cached__"),(.str (os "__cached__") 174),(.none)⟩ :: ⟨kh P (os "_wall"),(.str (os "_wall") 193),(.ref 21)⟩ :: ⟨kh P (os "TrueleafError"),(.str (os "TrueleafError") 213),(.ref 31)⟩ :: ⟨kh P (os "BadRow"),(.str (os "BadRow") 229),(.ref 44)⟩ :: ⟨kh P (os "NoPart"),(.str (os "NoPart") 245),(.ref 56)⟩ :: [])) 13,#[]⟩
noncomputable def zzq1_12 (P:Params) : Obj:=⟨(.none),none,(.fields #[.int 1 0,.int 0 0,.ref 20,.int 5 0,.int 0 0,.ref 27,.int 7 0,.int 0 0,.ref 40,.int 9 0,.int 0 0,.ref 52]),#[]⟩
noncomputable def zzq1_15 (P:Params) : Obj:=⟨(.type "tuple"),none,(.seq #[]),#[]⟩
noncomputable def zzq1_16 (P:Params) : Obj:=⟨(.none),none,(.fields #[]),#[]⟩
noncomputable def zzq1_17 (P:Params) : Obj:=⟨(.type "tuple"),none,(.seq #[.str (os "k") 190]),#[]⟩
noncomputable def zzq1_18 (P:Params) : Obj:=⟨(.type "tuple"),none,(.seq #[]),#[]⟩
noncomputable def zzq1_19 (P:Params) : Obj:=gA "_wall" "_wall" (top 0)
noncomputable def zzq1_20 (P:Params) : Obj:=cO "_wall" 187 188 189 1 1 3 15 181 16 17 18 19 191 1 192
noncomputable def zzq1_21 (P:Params) : Obj:=gB "_wall" "_wall" (top 0) (.none) "__main__" 164 20
noncomputable def zzq1_22 (P:Params) : Obj:=⟨(.type "tuple"),none,(.seq #[.type "ValueError"]),#[]⟩
noncomputable def zzq1_23 (P:Params) : Obj:=⟨(.type "builtin_function_or_method"),none,(.fields #[.builtin "type.__prepare__",.type "type"]),#[]⟩
noncomputable def zzq1_24 (P:Params) : Obj:=⟨(.type "dict"),none,.dict (List.toArray (⟨kh P (os "__module__"),(.str (os "__module__") 203),(.str (os "trueleaf.errors") 194)⟩ :: ⟨kh P (os "__qualname__"),(.str (os "__qualname__") 205),(.str (os "TrueleafError") 204)⟩ :: ⟨kh P (os "__firstlineno__"),(.str (os "__firstlineno__") 207),(.int 5 206)⟩ :: ⟨kh P (os "__static_attributes__"),(.str (os "__static_attributes__") 208),(.ref 29)⟩ :: [])) 4,#[]⟩
noncomputable def zzq1_25 (P:Params) : Obj:=⟨(.type "tuple"),none,(.seq #[]),#[]⟩
noncomputable def zzq1_26 (P:Params) : Obj:=⟨(.none),none,(.fields #[]),#[]⟩
noncomputable def zzq1_27 (P:Params) : Obj:=⟨(.type "code"),none,(.fields #[.str (os "TrueleafError") 198,.str (os "TrueleafError") 199,.str (os "/claim/cut.py") 200,.int 5 0,.int 0 0,.int 0 0,.int 0 0,.int 0 0,.ref 25,.bool false,.int 181 0,.ref 26,.none,.none,.none,.none,.int 201 0,.int 5 0,.str (os "/claim/cut.py") 202]),#[]⟩
noncomputable def zzq1_28 (P:Params) : Obj:=⟨(.type "frame"),none,(.plain),#[Option.some (.ref 27),Option.some (.ref 3),Option.some (.ref 24),none,Option.some (.str (os "trueleaf.errors") 194),none,Option.some (.ref 0)]⟩
noncomputable def zzq1_29 (P:Params) : Obj:=⟨(.type "tuple"),none,(.seq #[]),#[]⟩
noncomputable def zzq1_30 (P:Params) : Obj:=⟨(.type "dict"),none,.dict (List.toArray (⟨kh P (os "__module__"),(.str (os "__module__") 203),(.str (os "trueleaf.errors") 194)⟩ :: ⟨kh P (os "__firstlineno__"),(.str (os "__firstlineno__") 207),(.int 5 206)⟩ :: ⟨kh P (os "__static_attributes__"),(.str (os "__static_attributes__") 208),(.ref 29)⟩ :: ⟨kh P (os "__weakref__"),(.str (os "__weakref__") 210),(.ref 32)⟩ :: ⟨kh P (os "__doc__"),(.str (os "__doc__") 211),(.none)⟩ :: [])) 3,#[]⟩
noncomputable def zzq1_31 (P:Params) : Obj:=⟨(.type "type"),none,(.cls (PySem.ClassData.mk (os "TrueleafError") [.type "ValueError"] [.ref 31,.type "ValueError",.type "Exception",.type "BaseException",.type "object"] 30 (os "TrueleafError") true [] [.ref 44,.ref 56] false none false)),#[Option.some (.ref 22),none,Option.some (.str (os "TrueleafError") 196),Option.some (.str (os "TrueleafError") 204),Option.some (.builtin "ValueError.__new__"),Option.some (.bool true)]⟩
noncomputable def zzq1_32 (P:Params) : Obj:=⟨(.type "getset_descriptor"),none,(.fields #[.str (os "__weakref__") 209,.ref 31,.builtin "ExceptionGroup.__weakref__",.none]),#[]⟩
noncomputable def zzq1_33 (P:Params) : Obj:=⟨(.type "super"),none,(.fields #[.ref 31,.ref 31,.ref 31]),#[]⟩
noncomputable def zzq1_34 (P:Params) : Obj:=⟨(.type "builtin_function_or_method"),none,(.fields #[.builtin "object.__init_subclass__",.ref 31]),#[]⟩
noncomputable def zzq1_35 (P:Params) : Obj:=⟨(.type "tuple"),none,(.seq #[.ref 31]),#[]⟩
noncomputable def zzq1_36 (P:Params) : Obj:=⟨(.type "builtin_function_or_method"),none,(.fields #[.builtin "type.__prepare__",.type "type"]),#[]⟩
noncomputable def zzq1_37 (P:Params) : Obj:=⟨(.type "dict"),none,.dict (List.toArray (⟨kh P (os "__module__"),(.str (os "__module__") 221),(.str (os "trueleaf.errors") 194)⟩ :: ⟨kh P (os "__qualname__"),(.str (os "__qualname__") 223),(.str (os "BadRow") 222)⟩ :: ⟨kh P (os "__firstlineno__"),(.str (os "__firstlineno__") 225),(.int 7 224)⟩ :: ⟨kh P (os "__static_attributes__"),(.str (os "__static_attributes__") 226),(.ref 42)⟩ :: [])) 4,#[]⟩
noncomputable def zzq1_38 (P:Params) : Obj:=⟨(.type "tuple"),none,(.seq #[]),#[]⟩
noncomputable def zzq1_39 (P:Params) : Obj:=⟨(.none),none,(.fields #[]),#[]⟩
noncomputable def zzq1_40 (P:Params) : Obj:=⟨(.type "code"),none,(.fields #[.str (os "BadRow") 216,.str (os "BadRow") 217,.str (os "/claim/cut.py") 218,.int 7 0,.int 0 0,.int 0 0,.int 0 0,.int 0 0,.ref 38,.bool false,.int 181 0,.ref 39,.none,.none,.none,.none,.int 219 0,.int 7 0,.str (os "/claim/cut.py") 220]),#[]⟩
noncomputable def zzq1_41 (P:Params) : Obj:=⟨(.type "frame"),none,(.plain),#[Option.some (.ref 40),Option.some (.ref 3),Option.some (.ref 37),none,Option.some (.str (os "trueleaf.errors") 194),none,Option.some (.ref 0)]⟩
noncomputable def zzq1_42 (P:Params) : Obj:=⟨(.type "tuple"),none,(.seq #[]),#[]⟩
noncomputable def zzq1_43 (P:Params) : Obj:=⟨(.type "dict"),none,.dict (List.toArray (⟨kh P (os "__module__"),(.str (os "__module__") 221),(.str (os "trueleaf.errors") 194)⟩ :: ⟨kh P (os "__firstlineno__"),(.str (os "__firstlineno__") 225),(.int 7 224)⟩ :: ⟨kh P (os "__static_attributes__"),(.str (os "__static_attributes__") 226),(.ref 42)⟩ :: ⟨kh P (os "__doc__"),(.str (os "__doc__") 227),(.none)⟩ :: [])) 2,#[]⟩
noncomputable def zzq1_44 (P:Params) : Obj:=⟨(.type "type"),none,(.cls (PySem.ClassData.mk (os "BadRow") [.ref 31] [.ref 44,.ref 31,.type "ValueError",.type "Exception",.type "BaseException",.type "object"] 43 (os "BadRow") true [] [] false none false)),#[Option.some (.ref 35),none,Option.some (.str (os "BadRow") 214),Option.some (.str (os "BadRow") 222),Option.some (.builtin "ValueError.__new__"),Option.some (.bool true)]⟩
noncomputable def zzq1_45 (P:Params) : Obj:=⟨(.type "super"),none,(.fields #[.ref 44,.ref 44,.ref 44]),#[]⟩
noncomputable def zzq1_46 (P:Params) : Obj:=⟨(.type "builtin_function_or_method"),none,(.fields #[.builtin "object.__init_subclass__",.ref 44]),#[]⟩
noncomputable def zzq1_47 (P:Params) : Obj:=⟨(.type "tuple"),none,(.seq #[.ref 31]),#[]⟩
noncomputable def zzq1_48 (P:Params) : Obj:=⟨(.type "builtin_function_or_method"),none,(.fields #[.builtin "type.__prepare__",.type "type"]),#[]⟩
noncomputable def zzq1_49 (P:Params) : Obj:=⟨(.type "dict"),none,.dict (List.toArray (⟨kh P (os "__module__"),(.str (os "__module__") 237),(.str (os "trueleaf.errors") 194)⟩ :: ⟨kh P (os "__qualname__"),(.str (os "__qualname__") 239),(.str (os "NoPart") 238)⟩ :: ⟨kh P (os "__firstlineno__"),(.str (os "__firstlineno__") 241),(.int 9 240)⟩ :: ⟨kh P (os "__static_attributes__"),(.str (os "__static_attributes__") 242),(.ref 54)⟩ :: [])) 4,#[]⟩
noncomputable def zzq1_50 (P:Params) : Obj:=⟨(.type "tuple"),none,(.seq #[]),#[]⟩
noncomputable def zzq1_51 (P:Params) : Obj:=⟨(.none),none,(.fields #[]),#[]⟩
noncomputable def zzq1_52 (P:Params) : Obj:=⟨(.type "code"),none,(.fields #[.str (os "NoPart") 232,.str (os "NoPart") 233,.str (os "/claim/cut.py") 234,.int 9 0,.int 0 0,.int 0 0,.int 0 0,.int 0 0,.ref 50,.bool false,.int 181 0,.ref 51,.none,.none,.none,.none,.int 235 0,.int 9 0,.str (os "/claim/cut.py") 236]),#[]⟩
noncomputable def zzq1_53 (P:Params) : Obj:=⟨(.type "frame"),none,(.plain),#[Option.some (.ref 52),Option.some (.ref 3),Option.some (.ref 49),none,Option.some (.str (os "trueleaf.errors") 194),none,Option.some (.ref 0)]⟩
noncomputable def zzq1_54 (P:Params) : Obj:=⟨(.type "tuple"),none,(.seq #[]),#[]⟩
noncomputable def zzq1_55 (P:Params) : Obj:=⟨(.type "dict"),none,.dict (List.toArray (⟨kh P (os "__module__"),(.str (os "__module__") 237),(.str (os "trueleaf.errors") 194)⟩ :: ⟨kh P (os "__firstlineno__"),(.str (os "__firstlineno__") 241),(.int 9 240)⟩ :: ⟨kh P (os "__static_attributes__"),(.str (os "__static_attributes__") 242),(.ref 54)⟩ :: ⟨kh P (os "__doc__"),(.str (os "__doc__") 243),(.none)⟩ :: [])) 2,#[]⟩
noncomputable def zzq1_56 (P:Params) : Obj:=⟨(.type "type"),none,(.cls (PySem.ClassData.mk (os "NoPart") [.ref 31] [.ref 56,.ref 31,.type "ValueError",.type "Exception",.type "BaseException",.type "object"] 55 (os "NoPart") true [] [] false none false)),#[Option.some (.ref 47),none,Option.some (.str (os "NoPart") 230),Option.some (.str (os "NoPart") 238),Option.some (.builtin "ValueError.__new__"),Option.some (.bool true)]⟩
noncomputable def zzq1_57 (P:Params) : Obj:=⟨(.type "super"),none,(.fields #[.ref 56,.ref 56,.ref 56]),#[]⟩
noncomputable def zzq1_58 (P:Params) : Obj:=⟨(.type "builtin_function_or_method"),none,(.fields #[.builtin "object.__init_subclass__",.ref 56]),#[]⟩
noncomputable def zzhY1 (P:Params) (t:List Obj) : List Obj:=PySem.W.boot_o_0 P :: PySem.W.boot_o_1 P :: PySem.W.boot_o_2 P :: zzq1_3 P :: PySem.W.boot_o_4 P :: PySem.W.boot_o_5 P :: PySem.W.boot_o_6 P :: PySem.W.boot_o_7 P :: PySem.W.boot_o_8 P :: PySem.W.boot_o_9 P :: PySem.W.boot_o_10 P :: zzqA_11 P :: zzq1_12 P :: zzqA_13 P :: zzqA_14 P :: zzq1_15 P :: t
noncomputable def zzhY2 (P:Params) (t:List Obj) : List Obj:=zzq1_16 P :: zzq1_17 P :: zzq1_18 P :: zzq1_19 P :: zzq1_20 P :: zzq1_21 P :: zzq1_22 P :: zzq1_23 P :: zzq1_24 P :: zzq1_25 P :: zzq1_26 P :: zzq1_27 P :: zzq1_28 P :: zzq1_29 P :: zzq1_30 P :: zzq1_31 P :: t
noncomputable def zzhY3 (P:Params) (t:List Obj) : List Obj:=zzq1_32 P :: zzq1_33 P :: zzq1_34 P :: zzq1_35 P :: zzq1_36 P :: zzq1_37 P :: zzq1_38 P :: zzq1_39 P :: zzq1_40 P :: zzq1_41 P :: zzq1_42 P :: zzq1_43 P :: zzq1_44 P :: zzq1_45 P :: zzq1_46 P :: zzq1_47 P :: t
noncomputable def zzhY4 (P:Params) (t:List Obj) : List Obj:=zzq1_48 P :: zzq1_49 P :: zzq1_50 P :: zzq1_51 P :: zzq1_52 P :: zzq1_53 P :: zzq1_54 P :: zzq1_55 P :: zzq1_56 P :: zzq1_57 P :: zzq1_58 P :: t
noncomputable def zzh1 (P:Params) : Heap:=⟨⟨(zzhY1 P (zzhY2 P (zzhY3 P (zzhY4 P []))))⟩,{}⟩
noncomputable def zzq2_3 (P:Params) : Obj:=⟨(.type "dict"),none,.dict (List.toArray (⟨kh P (os "__name__"),(.str (os "__name__") 165),(.str (os "trueleaf.errors") 194)⟩ :: ⟨kh P (os "__doc__"),(.str (os "__doc__") 166),(.none)⟩ :: ⟨kh P (os "__package__"),(.str (os "__package__") 167),(.none)⟩ :: ⟨kh P (os "__loader__"),(.str (os "__loader__") 168),(.builtin "__main__.__loader__#opaque")⟩ :: ⟨kh P (os "__spec__"),(.str (os "__spec__") 169),(.none)⟩ :: ⟨kh P (os "__annotations__"),(.str (os "__annotations__") 170),(.ref 6)⟩ :: ⟨kh P (os "__builtins__"),(.str (os "__builtins__") 171),(.ref 4)⟩ :: ⟨kh P (os "__file__"),(.str (os "__file__") 173),(.str (os "/claim/cut.py") 172)⟩ :: ⟨kh P (os "__cached__"),(.str (os "__cached__") 174),(.none)⟩ :: ⟨kh P (os "_wall"),(.str (os "_wall") 193),(.ref 21)⟩ :: ⟨kh P (os "TrueleafError"),(.str (os "TrueleafError") 213),(.ref 31)⟩ :: ⟨kh P (os "BadRow"),(.str (os "BadRow") 229),(.ref 44)⟩ :: ⟨kh P (os "NoPart"),(.str (os "NoPart") 245),(.ref 56)⟩ :: ⟨kh P (os "Ring"),(.str (os "Ring") 261),(.ref 68)⟩ :: ⟨kh P (os "TooLong"),(.str (os "TooLong") 277),(.ref 80)⟩ :: ⟨kh P (os "BadCall"),(.str (os "BadCall") 293),(.ref 92)⟩ :: [])) 16,#[]⟩
noncomputable def zzq2_12 (P:Params) : Obj:=⟨(.none),none,(.fields #[.int 1 0,.int 0 0,.ref 20,.int 5 0,.int 0 0,.ref 27,.int 7 0,.int 0 0,.ref 40,.int 9 0,.int 0 0,.ref 52,.int 11 0,.int 0 0,.ref 64,.int 13 0,.int 0 0,.ref 76,.int 15 0,.int 0 0,.ref 88]),#[]⟩
noncomputable def zzq2_31 (P:Params) : Obj:=⟨(.type "type"),none,(.cls (PySem.ClassData.mk (os "TrueleafError") [.type "ValueError"] [.ref 31,.type "ValueError",.type "Exception",.type "BaseException",.type "object"] 30 (os "TrueleafError") true [] [.ref 44,.ref 56,.ref 68,.ref 80,.ref 92] false none false)),#[Option.some (.ref 22),none,Option.some (.str (os "TrueleafError") 196),Option.some (.str (os "TrueleafError") 204),Option.some (.builtin "ValueError.__new__"),Option.some (.bool true)]⟩
noncomputable def zzq2_59 (P:Params) : Obj:=⟨(.type "tuple"),none,(.seq #[.ref 31]),#[]⟩
noncomputable def zzq2_60 (P:Params) : Obj:=⟨(.type "builtin_function_or_method"),none,(.fields #[.builtin "type.__prepare__",.type "type"]),#[]⟩
noncomputable def zzq2_61 (P:Params) : Obj:=⟨(.type "dict"),none,.dict (List.toArray (⟨kh P (os "__module__"),(.str (os "__module__") 253),(.str (os "trueleaf.errors") 194)⟩ :: ⟨kh P (os "__qualname__"),(.str (os "__qualname__") 255),(.str (os "Ring") 254)⟩ :: ⟨kh P (os "__firstlineno__"),(.str (os "__firstlineno__") 257),(.int 11 256)⟩ :: ⟨kh P (os "__static_attributes__"),(.str (os "__static_attributes__") 258),(.ref 66)⟩ :: [])) 4,#[]⟩
noncomputable def zzq2_62 (P:Params) : Obj:=⟨(.type "tuple"),none,(.seq #[]),#[]⟩
noncomputable def zzq2_63 (P:Params) : Obj:=⟨(.none),none,(.fields #[]),#[]⟩
noncomputable def zzq2_64 (P:Params) : Obj:=⟨(.type "code"),none,(.fields #[.str (os "Ring") 248,.str (os "Ring") 249,.str (os "/claim/cut.py") 250,.int 11 0,.int 0 0,.int 0 0,.int 0 0,.int 0 0,.ref 62,.bool false,.int 181 0,.ref 63,.none,.none,.none,.none,.int 251 0,.int 11 0,.str (os "/claim/cut.py") 252]),#[]⟩
noncomputable def zzq2_65 (P:Params) : Obj:=⟨(.type "frame"),none,(.plain),#[Option.some (.ref 64),Option.some (.ref 3),Option.some (.ref 61),none,Option.some (.str (os "trueleaf.errors") 194),none,Option.some (.ref 0)]⟩
noncomputable def zzq2_66 (P:Params) : Obj:=⟨(.type "tuple"),none,(.seq #[]),#[]⟩
noncomputable def zzq2_67 (P:Params) : Obj:=⟨(.type "dict"),none,.dict (List.toArray (⟨kh P (os "__module__"),(.str (os "__module__") 253),(.str (os "trueleaf.errors") 194)⟩ :: ⟨kh P (os "__firstlineno__"),(.str (os "__firstlineno__") 257),(.int 11 256)⟩ :: ⟨kh P (os "__static_attributes__"),(.str (os "__static_attributes__") 258),(.ref 66)⟩ :: ⟨kh P (os "__doc__"),(.str (os "__doc__") 259),(.none)⟩ :: [])) 2,#[]⟩
noncomputable def zzq2_68 (P:Params) : Obj:=⟨(.type "type"),none,(.cls (PySem.ClassData.mk (os "Ring") [.ref 31] [.ref 68,.ref 31,.type "ValueError",.type "Exception",.type "BaseException",.type "object"] 67 (os "Ring") true [] [] false none false)),#[Option.some (.ref 59),none,Option.some (.str (os "Ring") 246),Option.some (.str (os "Ring") 254),Option.some (.builtin "ValueError.__new__"),Option.some (.bool true)]⟩
noncomputable def zzq2_69 (P:Params) : Obj:=⟨(.type "super"),none,(.fields #[.ref 68,.ref 68,.ref 68]),#[]⟩
noncomputable def zzq2_70 (P:Params) : Obj:=⟨(.type "builtin_function_or_method"),none,(.fields #[.builtin "object.__init_subclass__",.ref 68]),#[]⟩
noncomputable def zzq2_71 (P:Params) : Obj:=⟨(.type "tuple"),none,(.seq #[.ref 31]),#[]⟩
noncomputable def zzq2_72 (P:Params) : Obj:=⟨(.type "builtin_function_or_method"),none,(.fields #[.builtin "type.__prepare__",.type "type"]),#[]⟩
noncomputable def zzq2_73 (P:Params) : Obj:=⟨(.type "dict"),none,.dict (List.toArray (⟨kh P (os "__module__"),(.str (os "__module__") 269),(.str (os "trueleaf.errors") 194)⟩ :: ⟨kh P (os "__qualname__"),(.str (os "__qualname__") 271),(.str (os "TooLong") 270)⟩ :: ⟨kh P (os "__firstlineno__"),(.str (os "__firstlineno__") 273),(.int 13 272)⟩ :: ⟨kh P (os "__static_attributes__"),(.str (os "__static_attributes__") 274),(.ref 78)⟩ :: [])) 4,#[]⟩
noncomputable def zzq2_74 (P:Params) : Obj:=⟨(.type "tuple"),none,(.seq #[]),#[]⟩
noncomputable def zzq2_75 (P:Params) : Obj:=⟨(.none),none,(.fields #[]),#[]⟩
noncomputable def zzq2_76 (P:Params) : Obj:=⟨(.type "code"),none,(.fields #[.str (os "TooLong") 264,.str (os "TooLong") 265,.str (os "/claim/cut.py") 266,.int 13 0,.int 0 0,.int 0 0,.int 0 0,.int 0 0,.ref 74,.bool false,.int 181 0,.ref 75,.none,.none,.none,.none,.int 267 0,.int 13 0,.str (os "/claim/cut.py") 268]),#[]⟩
noncomputable def zzq2_77 (P:Params) : Obj:=⟨(.type "frame"),none,(.plain),#[Option.some (.ref 76),Option.some (.ref 3),Option.some (.ref 73),none,Option.some (.str (os "trueleaf.errors") 194),none,Option.some (.ref 0)]⟩
noncomputable def zzq2_78 (P:Params) : Obj:=⟨(.type "tuple"),none,(.seq #[]),#[]⟩
noncomputable def zzq2_79 (P:Params) : Obj:=⟨(.type "dict"),none,.dict (List.toArray (⟨kh P (os "__module__"),(.str (os "__module__") 269),(.str (os "trueleaf.errors") 194)⟩ :: ⟨kh P (os "__firstlineno__"),(.str (os "__firstlineno__") 273),(.int 13 272)⟩ :: ⟨kh P (os "__static_attributes__"),(.str (os "__static_attributes__") 274),(.ref 78)⟩ :: ⟨kh P (os "__doc__"),(.str (os "__doc__") 275),(.none)⟩ :: [])) 2,#[]⟩
noncomputable def zzq2_80 (P:Params) : Obj:=⟨(.type "type"),none,(.cls (PySem.ClassData.mk (os "TooLong") [.ref 31] [.ref 80,.ref 31,.type "ValueError",.type "Exception",.type "BaseException",.type "object"] 79 (os "TooLong") true [] [] false none false)),#[Option.some (.ref 71),none,Option.some (.str (os "TooLong") 262),Option.some (.str (os "TooLong") 270),Option.some (.builtin "ValueError.__new__"),Option.some (.bool true)]⟩
noncomputable def zzq2_81 (P:Params) : Obj:=⟨(.type "super"),none,(.fields #[.ref 80,.ref 80,.ref 80]),#[]⟩
noncomputable def zzq2_82 (P:Params) : Obj:=⟨(.type "builtin_function_or_method"),none,(.fields #[.builtin "object.__init_subclass__",.ref 80]),#[]⟩
noncomputable def zzq2_83 (P:Params) : Obj:=⟨(.type "tuple"),none,(.seq #[.ref 31]),#[]⟩
noncomputable def zzq2_84 (P:Params) : Obj:=⟨(.type "builtin_function_or_method"),none,(.fields #[.builtin "type.__prepare__",.type "type"]),#[]⟩
noncomputable def zzq2_85 (P:Params) : Obj:=⟨(.type "dict"),none,.dict (List.toArray (⟨kh P (os "__module__"),(.str (os "__module__") 285),(.str (os "trueleaf.errors") 194)⟩ :: ⟨kh P (os "__qualname__"),(.str (os "__qualname__") 287),(.str (os "BadCall") 286)⟩ :: ⟨kh P (os "__firstlineno__"),(.str (os "__firstlineno__") 289),(.int 15 288)⟩ :: ⟨kh P (os "__static_attributes__"),(.str (os "__static_attributes__") 290),(.ref 90)⟩ :: [])) 4,#[]⟩
noncomputable def zzq2_86 (P:Params) : Obj:=⟨(.type "tuple"),none,(.seq #[]),#[]⟩
noncomputable def zzq2_87 (P:Params) : Obj:=⟨(.none),none,(.fields #[]),#[]⟩
noncomputable def zzq2_88 (P:Params) : Obj:=⟨(.type "code"),none,(.fields #[.str (os "BadCall") 280,.str (os "BadCall") 281,.str (os "/claim/cut.py") 282,.int 15 0,.int 0 0,.int 0 0,.int 0 0,.int 0 0,.ref 86,.bool false,.int 181 0,.ref 87,.none,.none,.none,.none,.int 283 0,.int 15 0,.str (os "/claim/cut.py") 284]),#[]⟩
noncomputable def zzq2_89 (P:Params) : Obj:=⟨(.type "frame"),none,(.plain),#[Option.some (.ref 88),Option.some (.ref 3),Option.some (.ref 85),none,Option.some (.str (os "trueleaf.errors") 194),none,Option.some (.ref 0)]⟩
noncomputable def zzq2_90 (P:Params) : Obj:=⟨(.type "tuple"),none,(.seq #[]),#[]⟩
noncomputable def zzq2_91 (P:Params) : Obj:=⟨(.type "dict"),none,.dict (List.toArray (⟨kh P (os "__module__"),(.str (os "__module__") 285),(.str (os "trueleaf.errors") 194)⟩ :: ⟨kh P (os "__firstlineno__"),(.str (os "__firstlineno__") 289),(.int 15 288)⟩ :: ⟨kh P (os "__static_attributes__"),(.str (os "__static_attributes__") 290),(.ref 90)⟩ :: ⟨kh P (os "__doc__"),(.str (os "__doc__") 291),(.none)⟩ :: [])) 2,#[]⟩
noncomputable def zzq2_92 (P:Params) : Obj:=⟨(.type "type"),none,(.cls (PySem.ClassData.mk (os "BadCall") [.ref 31] [.ref 92,.ref 31,.type "ValueError",.type "Exception",.type "BaseException",.type "object"] 91 (os "BadCall") true [] [] false none false)),#[Option.some (.ref 83),none,Option.some (.str (os "BadCall") 278),Option.some (.str (os "BadCall") 286),Option.some (.builtin "ValueError.__new__"),Option.some (.bool true)]⟩
noncomputable def zzq2_93 (P:Params) : Obj:=⟨(.type "super"),none,(.fields #[.ref 92,.ref 92,.ref 92]),#[]⟩
noncomputable def zzq2_94 (P:Params) : Obj:=⟨(.type "builtin_function_or_method"),none,(.fields #[.builtin "object.__init_subclass__",.ref 92]),#[]⟩
noncomputable def zzhY5 (P:Params) (t:List Obj) : List Obj:=PySem.W.boot_o_0 P :: PySem.W.boot_o_1 P :: PySem.W.boot_o_2 P :: zzq2_3 P :: PySem.W.boot_o_4 P :: PySem.W.boot_o_5 P :: PySem.W.boot_o_6 P :: PySem.W.boot_o_7 P :: PySem.W.boot_o_8 P :: PySem.W.boot_o_9 P :: PySem.W.boot_o_10 P :: zzqA_11 P :: zzq2_12 P :: zzqA_13 P :: zzqA_14 P :: zzq1_15 P :: t
noncomputable def zzhY6 (P:Params) (t:List Obj) : List Obj:=zzq1_16 P :: zzq1_17 P :: zzq1_18 P :: zzq1_19 P :: zzq1_20 P :: zzq1_21 P :: zzq1_22 P :: zzq1_23 P :: zzq1_24 P :: zzq1_25 P :: zzq1_26 P :: zzq1_27 P :: zzq1_28 P :: zzq1_29 P :: zzq1_30 P :: zzq2_31 P :: t
noncomputable def zzhY7 (P:Params) (t:List Obj) : List Obj:=zzq1_48 P :: zzq1_49 P :: zzq1_50 P :: zzq1_51 P :: zzq1_52 P :: zzq1_53 P :: zzq1_54 P :: zzq1_55 P :: zzq1_56 P :: zzq1_57 P :: zzq1_58 P :: zzq2_59 P :: zzq2_60 P :: zzq2_61 P :: zzq2_62 P :: zzq2_63 P :: t
noncomputable def zzhY8 (P:Params) (t:List Obj) : List Obj:=zzq2_64 P :: zzq2_65 P :: zzq2_66 P :: zzq2_67 P :: zzq2_68 P :: zzq2_69 P :: zzq2_70 P :: zzq2_71 P :: zzq2_72 P :: zzq2_73 P :: zzq2_74 P :: zzq2_75 P :: zzq2_76 P :: zzq2_77 P :: zzq2_78 P :: zzq2_79 P :: t
noncomputable def zzhY9 (P:Params) (t:List Obj) : List Obj:=zzq2_80 P :: zzq2_81 P :: zzq2_82 P :: zzq2_83 P :: zzq2_84 P :: zzq2_85 P :: zzq2_86 P :: zzq2_87 P :: zzq2_88 P :: zzq2_89 P :: zzq2_90 P :: zzq2_91 P :: zzq2_92 P :: zzq2_93 P :: zzq2_94 P :: t
noncomputable def zzh2 (P:Params) : Heap:=⟨⟨(zzhY5 P (zzhY6 P (zzhY3 P (zzhY7 P (zzhY8 P (zzhY9 P []))))))⟩,{}⟩
noncomputable def zzq3_3 (P:Params) : Obj:=⟨(.type "dict"),none,.dict (List.toArray (⟨kh P (os "__name__"),(.str (os "__name__") 165),(.str (os "trueleaf.errors") 194)⟩ :: ⟨kh P (os "__doc__"),(.str (os "__doc__") 166),(.none)⟩ :: ⟨kh P (os "__package__"),(.str (os "__package__") 167),(.none)⟩ :: ⟨kh P (os "__loader__"),(.str (os "__loader__") 168),(.builtin "__main__.__loader__#opaque")⟩ :: ⟨kh P (os "__spec__"),(.str (os "__spec__") 169),(.none)⟩ :: ⟨kh P (os "__annotations__"),(.str (os "__annotations__") 170),(.ref 6)⟩ :: ⟨kh P (os "__builtins__"),(.str (os "__builtins__") 171),(.ref 4)⟩ :: ⟨kh P (os "__file__"),(.str (os "__file__") 173),(.str (os "/claim/cut.py") 172)⟩ :: ⟨kh P (os "__cached__"),(.str (os "__cached__") 174),(.none)⟩ :: ⟨kh P (os "_wall"),(.str (os "_wall") 193),(.ref 21)⟩ :: ⟨kh P (os "TrueleafError"),(.str (os "TrueleafError") 213),(.ref 31)⟩ :: ⟨kh P (os "BadRow"),(.str (os "BadRow") 229),(.ref 44)⟩ :: ⟨kh P (os "NoPart"),(.str (os "NoPart") 245),(.ref 56)⟩ :: ⟨kh P (os "Ring"),(.str (os "Ring") 261),(.ref 68)⟩ :: ⟨kh P (os "TooLong"),(.str (os "TooLong") 277),(.ref 80)⟩ :: ⟨kh P (os "BadCall"),(.str (os "BadCall") 293),(.ref 92)⟩ :: ⟨kh P (os "Deep"),(.str (os "Deep") 309),(.ref 104)⟩ :: ⟨kh P (os "NoShort"),(.str (os "NoShort") 325),(.ref 116)⟩ :: ⟨kh P (os "BadForm"),(.str (os "BadForm") 341),(.ref 128)⟩ :: [])) 19,#[]⟩
noncomputable def zzq3_12 (P:Params) : Obj:=⟨(.none),none,(.fields #[.int 1 0,.int 0 0,.ref 20,.int 5 0,.int 0 0,.ref 27,.int 7 0,.int 0 0,.ref 40,.int 9 0,.int 0 0,.ref 52,.int 11 0,.int 0 0,.ref 64,.int 13 0,.int 0 0,.ref 76,.int 15 0,.int 0 0,.ref 88,.int 17 0,.int 0 0,.ref 100,.int 19 0,.int 0 0,.ref 112,.int 21 0,.int 0 0,.ref 124]),#[]⟩
noncomputable def zzq3_31 (P:Params) : Obj:=⟨(.type "type"),none,(.cls (PySem.ClassData.mk (os "TrueleafError") [.type "ValueError"] [.ref 31,.type "ValueError",.type "Exception",.type "BaseException",.type "object"] 30 (os "TrueleafError") true [] [.ref 44,.ref 56,.ref 68,.ref 80,.ref 92,.ref 104,.ref 116,.ref 128] false none false)),#[Option.some (.ref 22),none,Option.some (.str (os "TrueleafError") 196),Option.some (.str (os "TrueleafError") 204),Option.some (.builtin "ValueError.__new__"),Option.some (.bool true)]⟩
noncomputable def zzq3_95 (P:Params) : Obj:=⟨(.type "tuple"),none,(.seq #[.ref 31]),#[]⟩
noncomputable def zzq3_96 (P:Params) : Obj:=⟨(.type "builtin_function_or_method"),none,(.fields #[.builtin "type.__prepare__",.type "type"]),#[]⟩
noncomputable def zzq3_97 (P:Params) : Obj:=⟨(.type "dict"),none,.dict (List.toArray (⟨kh P (os "__module__"),(.str (os "__module__") 301),(.str (os "trueleaf.errors") 194)⟩ :: ⟨kh P (os "__qualname__"),(.str (os "__qualname__") 303),(.str (os "Deep") 302)⟩ :: ⟨kh P (os "__firstlineno__"),(.str (os "__firstlineno__") 305),(.int 17 304)⟩ :: ⟨kh P (os "__static_attributes__"),(.str (os "__static_attributes__") 306),(.ref 102)⟩ :: [])) 4,#[]⟩
noncomputable def zzq3_98 (P:Params) : Obj:=⟨(.type "tuple"),none,(.seq #[]),#[]⟩
noncomputable def zzq3_99 (P:Params) : Obj:=⟨(.none),none,(.fields #[]),#[]⟩
noncomputable def zzq3_100 (P:Params) : Obj:=⟨(.type "code"),none,(.fields #[.str (os "Deep") 296,.str (os "Deep") 297,.str (os "/claim/cut.py") 298,.int 17 0,.int 0 0,.int 0 0,.int 0 0,.int 0 0,.ref 98,.bool false,.int 181 0,.ref 99,.none,.none,.none,.none,.int 299 0,.int 17 0,.str (os "/claim/cut.py") 300]),#[]⟩
noncomputable def zzq3_101 (P:Params) : Obj:=⟨(.type "frame"),none,(.plain),#[Option.some (.ref 100),Option.some (.ref 3),Option.some (.ref 97),none,Option.some (.str (os "trueleaf.errors") 194),none,Option.some (.ref 0)]⟩
noncomputable def zzq3_102 (P:Params) : Obj:=⟨(.type "tuple"),none,(.seq #[]),#[]⟩
noncomputable def zzq3_103 (P:Params) : Obj:=⟨(.type "dict"),none,.dict (List.toArray (⟨kh P (os "__module__"),(.str (os "__module__") 301),(.str (os "trueleaf.errors") 194)⟩ :: ⟨kh P (os "__firstlineno__"),(.str (os "__firstlineno__") 305),(.int 17 304)⟩ :: ⟨kh P (os "__static_attributes__"),(.str (os "__static_attributes__") 306),(.ref 102)⟩ :: ⟨kh P (os "__doc__"),(.str (os "__doc__") 307),(.none)⟩ :: [])) 2,#[]⟩
noncomputable def zzq3_104 (P:Params) : Obj:=⟨(.type "type"),none,(.cls (PySem.ClassData.mk (os "Deep") [.ref 31] [.ref 104,.ref 31,.type "ValueError",.type "Exception",.type "BaseException",.type "object"] 103 (os "Deep") true [] [] false none false)),#[Option.some (.ref 95),none,Option.some (.str (os "Deep") 294),Option.some (.str (os "Deep") 302),Option.some (.builtin "ValueError.__new__"),Option.some (.bool true)]⟩
noncomputable def zzq3_105 (P:Params) : Obj:=⟨(.type "super"),none,(.fields #[.ref 104,.ref 104,.ref 104]),#[]⟩
noncomputable def zzq3_106 (P:Params) : Obj:=⟨(.type "builtin_function_or_method"),none,(.fields #[.builtin "object.__init_subclass__",.ref 104]),#[]⟩
noncomputable def zzq3_107 (P:Params) : Obj:=⟨(.type "tuple"),none,(.seq #[.ref 31]),#[]⟩
noncomputable def zzq3_108 (P:Params) : Obj:=⟨(.type "builtin_function_or_method"),none,(.fields #[.builtin "type.__prepare__",.type "type"]),#[]⟩
noncomputable def zzq3_109 (P:Params) : Obj:=⟨(.type "dict"),none,.dict (List.toArray (⟨kh P (os "__module__"),(.str (os "__module__") 317),(.str (os "trueleaf.errors") 194)⟩ :: ⟨kh P (os "__qualname__"),(.str (os "__qualname__") 319),(.str (os "NoShort") 318)⟩ :: ⟨kh P (os "__firstlineno__"),(.str (os "__firstlineno__") 321),(.int 19 320)⟩ :: ⟨kh P (os "__static_attributes__"),(.str (os "__static_attributes__") 322),(.ref 114)⟩ :: [])) 4,#[]⟩
noncomputable def zzq3_110 (P:Params) : Obj:=⟨(.type "tuple"),none,(.seq #[]),#[]⟩
noncomputable def zzq3_111 (P:Params) : Obj:=⟨(.none),none,(.fields #[]),#[]⟩
noncomputable def zzq3_112 (P:Params) : Obj:=⟨(.type "code"),none,(.fields #[.str (os "NoShort") 312,.str (os "NoShort") 313,.str (os "/claim/cut.py") 314,.int 19 0,.int 0 0,.int 0 0,.int 0 0,.int 0 0,.ref 110,.bool false,.int 181 0,.ref 111,.none,.none,.none,.none,.int 315 0,.int 19 0,.str (os "/claim/cut.py") 316]),#[]⟩
noncomputable def zzq3_113 (P:Params) : Obj:=⟨(.type "frame"),none,(.plain),#[Option.some (.ref 112),Option.some (.ref 3),Option.some (.ref 109),none,Option.some (.str (os "trueleaf.errors") 194),none,Option.some (.ref 0)]⟩
noncomputable def zzq3_114 (P:Params) : Obj:=⟨(.type "tuple"),none,(.seq #[]),#[]⟩
noncomputable def zzq3_115 (P:Params) : Obj:=⟨(.type "dict"),none,.dict (List.toArray (⟨kh P (os "__module__"),(.str (os "__module__") 317),(.str (os "trueleaf.errors") 194)⟩ :: ⟨kh P (os "__firstlineno__"),(.str (os "__firstlineno__") 321),(.int 19 320)⟩ :: ⟨kh P (os "__static_attributes__"),(.str (os "__static_attributes__") 322),(.ref 114)⟩ :: ⟨kh P (os "__doc__"),(.str (os "__doc__") 323),(.none)⟩ :: [])) 2,#[]⟩
noncomputable def zzq3_116 (P:Params) : Obj:=⟨(.type "type"),none,(.cls (PySem.ClassData.mk (os "NoShort") [.ref 31] [.ref 116,.ref 31,.type "ValueError",.type "Exception",.type "BaseException",.type "object"] 115 (os "NoShort") true [] [] false none false)),#[Option.some (.ref 107),none,Option.some (.str (os "NoShort") 310),Option.some (.str (os "NoShort") 318),Option.some (.builtin "ValueError.__new__"),Option.some (.bool true)]⟩
noncomputable def zzq3_117 (P:Params) : Obj:=⟨(.type "super"),none,(.fields #[.ref 116,.ref 116,.ref 116]),#[]⟩
noncomputable def zzq3_118 (P:Params) : Obj:=⟨(.type "builtin_function_or_method"),none,(.fields #[.builtin "object.__init_subclass__",.ref 116]),#[]⟩
noncomputable def zzq3_119 (P:Params) : Obj:=⟨(.type "tuple"),none,(.seq #[.ref 31]),#[]⟩
noncomputable def zzq3_120 (P:Params) : Obj:=⟨(.type "builtin_function_or_method"),none,(.fields #[.builtin "type.__prepare__",.type "type"]),#[]⟩
noncomputable def zzq3_121 (P:Params) : Obj:=⟨(.type "dict"),none,.dict (List.toArray (⟨kh P (os "__module__"),(.str (os "__module__") 333),(.str (os "trueleaf.errors") 194)⟩ :: ⟨kh P (os "__qualname__"),(.str (os "__qualname__") 335),(.str (os "BadForm") 334)⟩ :: ⟨kh P (os "__firstlineno__"),(.str (os "__firstlineno__") 337),(.int 21 336)⟩ :: ⟨kh P (os "__static_attributes__"),(.str (os "__static_attributes__") 338),(.ref 126)⟩ :: [])) 4,#[]⟩
noncomputable def zzq3_122 (P:Params) : Obj:=⟨(.type "tuple"),none,(.seq #[]),#[]⟩
noncomputable def zzq3_123 (P:Params) : Obj:=⟨(.none),none,(.fields #[]),#[]⟩
noncomputable def zzq3_124 (P:Params) : Obj:=⟨(.type "code"),none,(.fields #[.str (os "BadForm") 328,.str (os "BadForm") 329,.str (os "/claim/cut.py") 330,.int 21 0,.int 0 0,.int 0 0,.int 0 0,.int 0 0,.ref 122,.bool false,.int 181 0,.ref 123,.none,.none,.none,.none,.int 331 0,.int 21 0,.str (os "/claim/cut.py") 332]),#[]⟩
noncomputable def zzq3_125 (P:Params) : Obj:=⟨(.type "frame"),none,(.plain),#[Option.some (.ref 124),Option.some (.ref 3),Option.some (.ref 121),none,Option.some (.str (os "trueleaf.errors") 194),none,Option.some (.ref 0)]⟩
noncomputable def zzq3_126 (P:Params) : Obj:=⟨(.type "tuple"),none,(.seq #[]),#[]⟩
noncomputable def zzq3_127 (P:Params) : Obj:=⟨(.type "dict"),none,.dict (List.toArray (⟨kh P (os "__module__"),(.str (os "__module__") 333),(.str (os "trueleaf.errors") 194)⟩ :: ⟨kh P (os "__firstlineno__"),(.str (os "__firstlineno__") 337),(.int 21 336)⟩ :: ⟨kh P (os "__static_attributes__"),(.str (os "__static_attributes__") 338),(.ref 126)⟩ :: ⟨kh P (os "__doc__"),(.str (os "__doc__") 339),(.none)⟩ :: [])) 2,#[]⟩
noncomputable def zzq3_128 (P:Params) : Obj:=⟨(.type "type"),none,(.cls (PySem.ClassData.mk (os "BadForm") [.ref 31] [.ref 128,.ref 31,.type "ValueError",.type "Exception",.type "BaseException",.type "object"] 127 (os "BadForm") true [] [] false none false)),#[Option.some (.ref 119),none,Option.some (.str (os "BadForm") 326),Option.some (.str (os "BadForm") 334),Option.some (.builtin "ValueError.__new__"),Option.some (.bool true)]⟩
noncomputable def zzq3_129 (P:Params) : Obj:=⟨(.type "super"),none,(.fields #[.ref 128,.ref 128,.ref 128]),#[]⟩
noncomputable def zzq3_130 (P:Params) : Obj:=⟨(.type "builtin_function_or_method"),none,(.fields #[.builtin "object.__init_subclass__",.ref 128]),#[]⟩
noncomputable def zzhY10 (P:Params) (t:List Obj) : List Obj:=PySem.W.boot_o_0 P :: PySem.W.boot_o_1 P :: PySem.W.boot_o_2 P :: zzq3_3 P :: PySem.W.boot_o_4 P :: PySem.W.boot_o_5 P :: PySem.W.boot_o_6 P :: PySem.W.boot_o_7 P :: PySem.W.boot_o_8 P :: PySem.W.boot_o_9 P :: PySem.W.boot_o_10 P :: zzqA_11 P :: zzq3_12 P :: zzqA_13 P :: zzqA_14 P :: zzq1_15 P :: t
noncomputable def zzhY11 (P:Params) (t:List Obj) : List Obj:=zzq1_16 P :: zzq1_17 P :: zzq1_18 P :: zzq1_19 P :: zzq1_20 P :: zzq1_21 P :: zzq1_22 P :: zzq1_23 P :: zzq1_24 P :: zzq1_25 P :: zzq1_26 P :: zzq1_27 P :: zzq1_28 P :: zzq1_29 P :: zzq1_30 P :: zzq3_31 P :: t
noncomputable def zzhY12 (P:Params) (t:List Obj) : List Obj:=zzq2_80 P :: zzq2_81 P :: zzq2_82 P :: zzq2_83 P :: zzq2_84 P :: zzq2_85 P :: zzq2_86 P :: zzq2_87 P :: zzq2_88 P :: zzq2_89 P :: zzq2_90 P :: zzq2_91 P :: zzq2_92 P :: zzq2_93 P :: zzq2_94 P :: zzq3_95 P :: t
noncomputable def zzhY13 (P:Params) (t:List Obj) : List Obj:=zzq3_96 P :: zzq3_97 P :: zzq3_98 P :: zzq3_99 P :: zzq3_100 P :: zzq3_101 P :: zzq3_102 P :: zzq3_103 P :: zzq3_104 P :: zzq3_105 P :: zzq3_106 P :: zzq3_107 P :: zzq3_108 P :: zzq3_109 P :: zzq3_110 P :: zzq3_111 P :: t
noncomputable def zzhY14 (P:Params) (t:List Obj) : List Obj:=zzq3_112 P :: zzq3_113 P :: zzq3_114 P :: zzq3_115 P :: zzq3_116 P :: zzq3_117 P :: zzq3_118 P :: zzq3_119 P :: zzq3_120 P :: zzq3_121 P :: zzq3_122 P :: zzq3_123 P :: zzq3_124 P :: zzq3_125 P :: zzq3_126 P :: zzq3_127 P :: t
noncomputable def zzhY15 (P:Params) (t:List Obj) : List Obj:=zzq3_128 P :: zzq3_129 P :: zzq3_130 P :: t
noncomputable def zzh3 (P:Params) : Heap:=⟨⟨(zzhY10 P (zzhY11 P (zzhY3 P (zzhY7 P (zzhY8 P (zzhY12 P (zzhY13 P (zzhY14 P (zzhY15 P [])))))))))⟩,{}⟩
noncomputable def zzhZ0 (P:Params) (t:List DictEntry) : List DictEntry:=⟨kh P (os "__name__"),(.str (os "__name__") 165),(.str (os "trueleaf.errors") 194)⟩ :: ⟨kh P (os "__doc__"),(.str (os "__doc__") 166),(.none)⟩ :: ⟨kh P (os "__package__"),(.str (os "__package__") 167),(.none)⟩ :: ⟨kh P (os "__loader__"),(.str (os "__loader__") 168),(.builtin "__main__.__loader__#opaque")⟩ :: ⟨kh P (os "__spec__"),(.str (os "__spec__") 169),(.none)⟩ :: ⟨kh P (os "__annotations__"),(.str (os "__annotations__") 170),(.ref 6)⟩ :: ⟨kh P (os "__builtins__"),(.str (os "__builtins__") 171),(.ref 4)⟩ :: ⟨kh P (os "__file__"),(.str (os "__file__") 173),(.str (os "/claim/cut.py") 172)⟩ :: t
noncomputable def zzhZ1 (P:Params) (t:List DictEntry) : List DictEntry:=⟨kh P (os "__cached__"),(.str (os "__cached__") 174),(.none)⟩ :: ⟨kh P (os "_wall"),(.str (os "_wall") 193),(.ref 21)⟩ :: ⟨kh P (os "TrueleafError"),(.str (os "TrueleafError") 213),(.ref 31)⟩ :: ⟨kh P (os "BadRow"),(.str (os "BadRow") 229),(.ref 44)⟩ :: ⟨kh P (os "NoPart"),(.str (os "NoPart") 245),(.ref 56)⟩ :: ⟨kh P (os "Ring"),(.str (os "Ring") 261),(.ref 68)⟩ :: ⟨kh P (os "TooLong"),(.str (os "TooLong") 277),(.ref 80)⟩ :: ⟨kh P (os "BadCall"),(.str (os "BadCall") 293),(.ref 92)⟩ :: t
noncomputable def zzhZ2 (P:Params) (t:List DictEntry) : List DictEntry:=⟨kh P (os "Deep"),(.str (os "Deep") 309),(.ref 104)⟩ :: ⟨kh P (os "NoShort"),(.str (os "NoShort") 325),(.ref 116)⟩ :: ⟨kh P (os "BadForm"),(.str (os "BadForm") 341),(.ref 128)⟩ :: ⟨kh P (os "BadWord"),(.str (os "BadWord") 357),(.ref 140)⟩ :: ⟨kh P (os "Twice"),(.str (os "Twice") 373),(.ref 152)⟩ :: ⟨kh P (os "NoFoot"),(.str (os "NoFoot") 389),(.ref 164)⟩ :: t
noncomputable def zzq4_3 (P:Params) : Obj:=⟨(.type "dict"),none,.dict (List.toArray (zzhZ0 P (zzhZ1 P (zzhZ2 P [])))) 22,#[]⟩
noncomputable def zzq4_12 (P:Params) : Obj:=⟨(.none),none,(.fields #[.int 1 0,.int 0 0,.ref 20,.int 5 0,.int 0 0,.ref 27,.int 7 0,.int 0 0,.ref 40,.int 9 0,.int 0 0,.ref 52,.int 11 0,.int 0 0,.ref 64,.int 13 0,.int 0 0,.ref 76,.int 15 0,.int 0 0,.ref 88,.int 17 0,.int 0 0,.ref 100,.int 19 0,.int 0 0,.ref 112,.int 21 0,.int 0 0,.ref 124,.int 23 0,.int 0 0,.ref 136,.int 25 0,.int 0 0,.ref 148,.int 27 0,.int 0 0,.ref 160]),#[]⟩
noncomputable def zzq4_31 (P:Params) : Obj:=⟨(.type "type"),none,(.cls (PySem.ClassData.mk (os "TrueleafError") [.type "ValueError"] [.ref 31,.type "ValueError",.type "Exception",.type "BaseException",.type "object"] 30 (os "TrueleafError") true [] [.ref 44,.ref 56,.ref 68,.ref 80,.ref 92,.ref 104,.ref 116,.ref 128,.ref 140,.ref 152,.ref 164] false none false)),#[Option.some (.ref 22),none,Option.some (.str (os "TrueleafError") 196),Option.some (.str (os "TrueleafError") 204),Option.some (.builtin "ValueError.__new__"),Option.some (.bool true)]⟩
noncomputable def zzq4_131 (P:Params) : Obj:=⟨(.type "tuple"),none,(.seq #[.ref 31]),#[]⟩
noncomputable def zzq4_132 (P:Params) : Obj:=⟨(.type "builtin_function_or_method"),none,(.fields #[.builtin "type.__prepare__",.type "type"]),#[]⟩
noncomputable def zzq4_133 (P:Params) : Obj:=⟨(.type "dict"),none,.dict (List.toArray (⟨kh P (os "__module__"),(.str (os "__module__") 349),(.str (os "trueleaf.errors") 194)⟩ :: ⟨kh P (os "__qualname__"),(.str (os "__qualname__") 351),(.str (os "BadWord") 350)⟩ :: ⟨kh P (os "__firstlineno__"),(.str (os "__firstlineno__") 353),(.int 23 352)⟩ :: ⟨kh P (os "__static_attributes__"),(.str (os "__static_attributes__") 354),(.ref 138)⟩ :: [])) 4,#[]⟩
noncomputable def zzq4_134 (P:Params) : Obj:=⟨(.type "tuple"),none,(.seq #[]),#[]⟩
noncomputable def zzq4_135 (P:Params) : Obj:=⟨(.none),none,(.fields #[]),#[]⟩
noncomputable def zzq4_136 (P:Params) : Obj:=⟨(.type "code"),none,(.fields #[.str (os "BadWord") 344,.str (os "BadWord") 345,.str (os "/claim/cut.py") 346,.int 23 0,.int 0 0,.int 0 0,.int 0 0,.int 0 0,.ref 134,.bool false,.int 181 0,.ref 135,.none,.none,.none,.none,.int 347 0,.int 23 0,.str (os "/claim/cut.py") 348]),#[]⟩
noncomputable def zzq4_137 (P:Params) : Obj:=⟨(.type "frame"),none,(.plain),#[Option.some (.ref 136),Option.some (.ref 3),Option.some (.ref 133),none,Option.some (.str (os "trueleaf.errors") 194),none,Option.some (.ref 0)]⟩
noncomputable def zzq4_138 (P:Params) : Obj:=⟨(.type "tuple"),none,(.seq #[]),#[]⟩
noncomputable def zzq4_139 (P:Params) : Obj:=⟨(.type "dict"),none,.dict (List.toArray (⟨kh P (os "__module__"),(.str (os "__module__") 349),(.str (os "trueleaf.errors") 194)⟩ :: ⟨kh P (os "__firstlineno__"),(.str (os "__firstlineno__") 353),(.int 23 352)⟩ :: ⟨kh P (os "__static_attributes__"),(.str (os "__static_attributes__") 354),(.ref 138)⟩ :: ⟨kh P (os "__doc__"),(.str (os "__doc__") 355),(.none)⟩ :: [])) 2,#[]⟩
noncomputable def zzq4_140 (P:Params) : Obj:=⟨(.type "type"),none,(.cls (PySem.ClassData.mk (os "BadWord") [.ref 31] [.ref 140,.ref 31,.type "ValueError",.type "Exception",.type "BaseException",.type "object"] 139 (os "BadWord") true [] [] false none false)),#[Option.some (.ref 131),none,Option.some (.str (os "BadWord") 342),Option.some (.str (os "BadWord") 350),Option.some (.builtin "ValueError.__new__"),Option.some (.bool true)]⟩
noncomputable def zzq4_141 (P:Params) : Obj:=⟨(.type "super"),none,(.fields #[.ref 140,.ref 140,.ref 140]),#[]⟩
noncomputable def zzq4_142 (P:Params) : Obj:=⟨(.type "builtin_function_or_method"),none,(.fields #[.builtin "object.__init_subclass__",.ref 140]),#[]⟩
noncomputable def zzq4_143 (P:Params) : Obj:=⟨(.type "tuple"),none,(.seq #[.ref 31]),#[]⟩
noncomputable def zzq4_144 (P:Params) : Obj:=⟨(.type "builtin_function_or_method"),none,(.fields #[.builtin "type.__prepare__",.type "type"]),#[]⟩
noncomputable def zzq4_145 (P:Params) : Obj:=⟨(.type "dict"),none,.dict (List.toArray (⟨kh P (os "__module__"),(.str (os "__module__") 365),(.str (os "trueleaf.errors") 194)⟩ :: ⟨kh P (os "__qualname__"),(.str (os "__qualname__") 367),(.str (os "Twice") 366)⟩ :: ⟨kh P (os "__firstlineno__"),(.str (os "__firstlineno__") 369),(.int 25 368)⟩ :: ⟨kh P (os "__static_attributes__"),(.str (os "__static_attributes__") 370),(.ref 150)⟩ :: [])) 4,#[]⟩
noncomputable def zzq4_146 (P:Params) : Obj:=⟨(.type "tuple"),none,(.seq #[]),#[]⟩
noncomputable def zzq4_147 (P:Params) : Obj:=⟨(.none),none,(.fields #[]),#[]⟩
noncomputable def zzq4_148 (P:Params) : Obj:=⟨(.type "code"),none,(.fields #[.str (os "Twice") 360,.str (os "Twice") 361,.str (os "/claim/cut.py") 362,.int 25 0,.int 0 0,.int 0 0,.int 0 0,.int 0 0,.ref 146,.bool false,.int 181 0,.ref 147,.none,.none,.none,.none,.int 363 0,.int 25 0,.str (os "/claim/cut.py") 364]),#[]⟩
noncomputable def zzq4_149 (P:Params) : Obj:=⟨(.type "frame"),none,(.plain),#[Option.some (.ref 148),Option.some (.ref 3),Option.some (.ref 145),none,Option.some (.str (os "trueleaf.errors") 194),none,Option.some (.ref 0)]⟩
noncomputable def zzq4_150 (P:Params) : Obj:=⟨(.type "tuple"),none,(.seq #[]),#[]⟩
noncomputable def zzq4_151 (P:Params) : Obj:=⟨(.type "dict"),none,.dict (List.toArray (⟨kh P (os "__module__"),(.str (os "__module__") 365),(.str (os "trueleaf.errors") 194)⟩ :: ⟨kh P (os "__firstlineno__"),(.str (os "__firstlineno__") 369),(.int 25 368)⟩ :: ⟨kh P (os "__static_attributes__"),(.str (os "__static_attributes__") 370),(.ref 150)⟩ :: ⟨kh P (os "__doc__"),(.str (os "__doc__") 371),(.none)⟩ :: [])) 2,#[]⟩
noncomputable def zzq4_152 (P:Params) : Obj:=⟨(.type "type"),none,(.cls (PySem.ClassData.mk (os "Twice") [.ref 31] [.ref 152,.ref 31,.type "ValueError",.type "Exception",.type "BaseException",.type "object"] 151 (os "Twice") true [] [] false none false)),#[Option.some (.ref 143),none,Option.some (.str (os "Twice") 358),Option.some (.str (os "Twice") 366),Option.some (.builtin "ValueError.__new__"),Option.some (.bool true)]⟩
noncomputable def zzq4_153 (P:Params) : Obj:=⟨(.type "super"),none,(.fields #[.ref 152,.ref 152,.ref 152]),#[]⟩
noncomputable def zzq4_154 (P:Params) : Obj:=⟨(.type "builtin_function_or_method"),none,(.fields #[.builtin "object.__init_subclass__",.ref 152]),#[]⟩
noncomputable def zzq4_155 (P:Params) : Obj:=⟨(.type "tuple"),none,(.seq #[.ref 31]),#[]⟩
noncomputable def zzq4_156 (P:Params) : Obj:=⟨(.type "builtin_function_or_method"),none,(.fields #[.builtin "type.__prepare__",.type "type"]),#[]⟩
noncomputable def zzq4_157 (P:Params) : Obj:=⟨(.type "dict"),none,.dict (List.toArray (⟨kh P (os "__module__"),(.str (os "__module__") 381),(.str (os "trueleaf.errors") 194)⟩ :: ⟨kh P (os "__qualname__"),(.str (os "__qualname__") 383),(.str (os "NoFoot") 382)⟩ :: ⟨kh P (os "__firstlineno__"),(.str (os "__firstlineno__") 385),(.int 27 384)⟩ :: ⟨kh P (os "__static_attributes__"),(.str (os "__static_attributes__") 386),(.ref 162)⟩ :: [])) 4,#[]⟩
noncomputable def zzq4_158 (P:Params) : Obj:=⟨(.type "tuple"),none,(.seq #[]),#[]⟩
noncomputable def zzq4_159 (P:Params) : Obj:=⟨(.none),none,(.fields #[]),#[]⟩
noncomputable def zzq4_160 (P:Params) : Obj:=⟨(.type "code"),none,(.fields #[.str (os "NoFoot") 376,.str (os "NoFoot") 377,.str (os "/claim/cut.py") 378,.int 27 0,.int 0 0,.int 0 0,.int 0 0,.int 0 0,.ref 158,.bool false,.int 181 0,.ref 159,.none,.none,.none,.none,.int 379 0,.int 27 0,.str (os "/claim/cut.py") 380]),#[]⟩
noncomputable def zzq4_161 (P:Params) : Obj:=⟨(.type "frame"),none,(.plain),#[Option.some (.ref 160),Option.some (.ref 3),Option.some (.ref 157),none,Option.some (.str (os "trueleaf.errors") 194),none,Option.some (.ref 0)]⟩
noncomputable def zzq4_162 (P:Params) : Obj:=⟨(.type "tuple"),none,(.seq #[]),#[]⟩
noncomputable def zzq4_163 (P:Params) : Obj:=⟨(.type "dict"),none,.dict (List.toArray (⟨kh P (os "__module__"),(.str (os "__module__") 381),(.str (os "trueleaf.errors") 194)⟩ :: ⟨kh P (os "__firstlineno__"),(.str (os "__firstlineno__") 385),(.int 27 384)⟩ :: ⟨kh P (os "__static_attributes__"),(.str (os "__static_attributes__") 386),(.ref 162)⟩ :: ⟨kh P (os "__doc__"),(.str (os "__doc__") 387),(.none)⟩ :: [])) 2,#[]⟩
noncomputable def zzq4_164 (P:Params) : Obj:=⟨(.type "type"),none,(.cls (PySem.ClassData.mk (os "NoFoot") [.ref 31] [.ref 164,.ref 31,.type "ValueError",.type "Exception",.type "BaseException",.type "object"] 163 (os "NoFoot") true [] [] false none false)),#[Option.some (.ref 155),none,Option.some (.str (os "NoFoot") 374),Option.some (.str (os "NoFoot") 382),Option.some (.builtin "ValueError.__new__"),Option.some (.bool true)]⟩
noncomputable def zzq4_165 (P:Params) : Obj:=⟨(.type "super"),none,(.fields #[.ref 164,.ref 164,.ref 164]),#[]⟩
noncomputable def zzq4_166 (P:Params) : Obj:=⟨(.type "builtin_function_or_method"),none,(.fields #[.builtin "object.__init_subclass__",.ref 164]),#[]⟩
noncomputable def zzhY16 (P:Params) (t:List Obj) : List Obj:=PySem.W.boot_o_0 P :: PySem.W.boot_o_1 P :: PySem.W.boot_o_2 P :: zzq4_3 P :: PySem.W.boot_o_4 P :: PySem.W.boot_o_5 P :: PySem.W.boot_o_6 P :: PySem.W.boot_o_7 P :: PySem.W.boot_o_8 P :: PySem.W.boot_o_9 P :: PySem.W.boot_o_10 P :: zzqA_11 P :: zzq4_12 P :: zzqA_13 P :: zzqA_14 P :: zzq1_15 P :: t
noncomputable def zzhY17 (P:Params) (t:List Obj) : List Obj:=zzq1_16 P :: zzq1_17 P :: zzq1_18 P :: zzq1_19 P :: zzq1_20 P :: zzq1_21 P :: zzq1_22 P :: zzq1_23 P :: zzq1_24 P :: zzq1_25 P :: zzq1_26 P :: zzq1_27 P :: zzq1_28 P :: zzq1_29 P :: zzq1_30 P :: zzq4_31 P :: t
noncomputable def zzhY18 (P:Params) (t:List Obj) : List Obj:=zzq3_128 P :: zzq3_129 P :: zzq3_130 P :: zzq4_131 P :: zzq4_132 P :: zzq4_133 P :: zzq4_134 P :: zzq4_135 P :: zzq4_136 P :: zzq4_137 P :: zzq4_138 P :: zzq4_139 P :: zzq4_140 P :: zzq4_141 P :: zzq4_142 P :: zzq4_143 P :: t
noncomputable def zzhY19 (P:Params) (t:List Obj) : List Obj:=zzq4_144 P :: zzq4_145 P :: zzq4_146 P :: zzq4_147 P :: zzq4_148 P :: zzq4_149 P :: zzq4_150 P :: zzq4_151 P :: zzq4_152 P :: zzq4_153 P :: zzq4_154 P :: zzq4_155 P :: zzq4_156 P :: zzq4_157 P :: zzq4_158 P :: zzq4_159 P :: t
noncomputable def zzhY20 (P:Params) (t:List Obj) : List Obj:=zzq4_160 P :: zzq4_161 P :: zzq4_162 P :: zzq4_163 P :: zzq4_164 P :: zzq4_165 P :: zzq4_166 P :: t
noncomputable def zzh4 (P:Params) : Heap:=⟨⟨(zzhY16 P (zzhY17 P (zzhY3 P (zzhY7 P (zzhY8 P (zzhY12 P (zzhY13 P (zzhY14 P (zzhY18 P (zzhY19 P (zzhY20 P [])))))))))))⟩,{}⟩
noncomputable def zzhZ3 (P:Params) (t:List DictEntry) : List DictEntry:=⟨kh P (os "Deep"),(.str (os "Deep") 309),(.ref 104)⟩ :: ⟨kh P (os "NoShort"),(.str (os "NoShort") 325),(.ref 116)⟩ :: ⟨kh P (os "BadForm"),(.str (os "BadForm") 341),(.ref 128)⟩ :: ⟨kh P (os "BadWord"),(.str (os "BadWord") 357),(.ref 140)⟩ :: ⟨kh P (os "Twice"),(.str (os "Twice") 373),(.ref 152)⟩ :: ⟨kh P (os "NoFoot"),(.str (os "NoFoot") 389),(.ref 164)⟩ :: ⟨kh P (os "NoMark"),(.str (os "NoMark") 405),(.ref 176)⟩ :: ⟨kh P (os "NoLaying"),(.str (os "NoLaying") 421),(.ref 188)⟩ :: t
noncomputable def zzhZ4 (P:Params) (t:List DictEntry) : List DictEntry:=⟨kh P (os "BadName"),(.str (os "BadName") 437),(.ref 200)⟩ :: t
noncomputable def zzq5_3 (P:Params) : Obj:=⟨(.type "dict"),none,.dict (List.toArray (zzhZ0 P (zzhZ1 P (zzhZ3 P (zzhZ4 P []))))) 25,#[]⟩
noncomputable def zzq5_12 (P:Params) : Obj:=⟨(.none),none,(.fields #[.int 1 0,.int 0 0,.ref 20,.int 5 0,.int 0 0,.ref 27,.int 7 0,.int 0 0,.ref 40,.int 9 0,.int 0 0,.ref 52,.int 11 0,.int 0 0,.ref 64,.int 13 0,.int 0 0,.ref 76,.int 15 0,.int 0 0,.ref 88,.int 17 0,.int 0 0,.ref 100,.int 19 0,.int 0 0,.ref 112,.int 21 0,.int 0 0,.ref 124,.int 23 0,.int 0 0,.ref 136,.int 25 0,.int 0 0,.ref 148,.int 27 0,.int 0 0,.ref 160,.int 29 0,.int 0 0,.ref 172,.int 31 0,.int 0 0,.ref 184,.int 33 0,.int 0 0,.ref 196]),#[]⟩
noncomputable def zzq5_31 (P:Params) : Obj:=⟨(.type "type"),none,(.cls (PySem.ClassData.mk (os "TrueleafError") [.type "ValueError"] [.ref 31,.type "ValueError",.type "Exception",.type "BaseException",.type "object"] 30 (os "TrueleafError") true [] [.ref 44,.ref 56,.ref 68,.ref 80,.ref 92,.ref 104,.ref 116,.ref 128,.ref 140,.ref 152,.ref 164,.ref 176,.ref 188,.ref 200] false none false)),#[Option.some (.ref 22),none,Option.some (.str (os "TrueleafError") 196),Option.some (.str (os "TrueleafError") 204),Option.some (.builtin "ValueError.__new__"),Option.some (.bool true)]⟩
noncomputable def zzq5_167 (P:Params) : Obj:=⟨(.type "tuple"),none,(.seq #[.ref 31]),#[]⟩
noncomputable def zzq5_168 (P:Params) : Obj:=⟨(.type "builtin_function_or_method"),none,(.fields #[.builtin "type.__prepare__",.type "type"]),#[]⟩
noncomputable def zzq5_169 (P:Params) : Obj:=⟨(.type "dict"),none,.dict (List.toArray (⟨kh P (os "__module__"),(.str (os "__module__") 397),(.str (os "trueleaf.errors") 194)⟩ :: ⟨kh P (os "__qualname__"),(.str (os "__qualname__") 399),(.str (os "NoMark") 398)⟩ :: ⟨kh P (os "__firstlineno__"),(.str (os "__firstlineno__") 401),(.int 29 400)⟩ :: ⟨kh P (os "__static_attributes__"),(.str (os "__static_attributes__") 402),(.ref 174)⟩ :: [])) 4,#[]⟩
noncomputable def zzq5_170 (P:Params) : Obj:=⟨(.type "tuple"),none,(.seq #[]),#[]⟩
noncomputable def zzq5_171 (P:Params) : Obj:=⟨(.none),none,(.fields #[]),#[]⟩
noncomputable def zzq5_172 (P:Params) : Obj:=⟨(.type "code"),none,(.fields #[.str (os "NoMark") 392,.str (os "NoMark") 393,.str (os "/claim/cut.py") 394,.int 29 0,.int 0 0,.int 0 0,.int 0 0,.int 0 0,.ref 170,.bool false,.int 181 0,.ref 171,.none,.none,.none,.none,.int 395 0,.int 29 0,.str (os "/claim/cut.py") 396]),#[]⟩
noncomputable def zzq5_173 (P:Params) : Obj:=⟨(.type "frame"),none,(.plain),#[Option.some (.ref 172),Option.some (.ref 3),Option.some (.ref 169),none,Option.some (.str (os "trueleaf.errors") 194),none,Option.some (.ref 0)]⟩
noncomputable def zzq5_174 (P:Params) : Obj:=⟨(.type "tuple"),none,(.seq #[]),#[]⟩
noncomputable def zzq5_175 (P:Params) : Obj:=⟨(.type "dict"),none,.dict (List.toArray (⟨kh P (os "__module__"),(.str (os "__module__") 397),(.str (os "trueleaf.errors") 194)⟩ :: ⟨kh P (os "__firstlineno__"),(.str (os "__firstlineno__") 401),(.int 29 400)⟩ :: ⟨kh P (os "__static_attributes__"),(.str (os "__static_attributes__") 402),(.ref 174)⟩ :: ⟨kh P (os "__doc__"),(.str (os "__doc__") 403),(.none)⟩ :: [])) 2,#[]⟩
noncomputable def zzq5_176 (P:Params) : Obj:=⟨(.type "type"),none,(.cls (PySem.ClassData.mk (os "NoMark") [.ref 31] [.ref 176,.ref 31,.type "ValueError",.type "Exception",.type "BaseException",.type "object"] 175 (os "NoMark") true [] [] false none false)),#[Option.some (.ref 167),none,Option.some (.str (os "NoMark") 390),Option.some (.str (os "NoMark") 398),Option.some (.builtin "ValueError.__new__"),Option.some (.bool true)]⟩
noncomputable def zzq5_177 (P:Params) : Obj:=⟨(.type "super"),none,(.fields #[.ref 176,.ref 176,.ref 176]),#[]⟩
noncomputable def zzq5_178 (P:Params) : Obj:=⟨(.type "builtin_function_or_method"),none,(.fields #[.builtin "object.__init_subclass__",.ref 176]),#[]⟩
noncomputable def zzq5_179 (P:Params) : Obj:=⟨(.type "tuple"),none,(.seq #[.ref 31]),#[]⟩
noncomputable def zzq5_180 (P:Params) : Obj:=⟨(.type "builtin_function_or_method"),none,(.fields #[.builtin "type.__prepare__",.type "type"]),#[]⟩
noncomputable def zzq5_181 (P:Params) : Obj:=⟨(.type "dict"),none,.dict (List.toArray (⟨kh P (os "__module__"),(.str (os "__module__") 413),(.str (os "trueleaf.errors") 194)⟩ :: ⟨kh P (os "__qualname__"),(.str (os "__qualname__") 415),(.str (os "NoLaying") 414)⟩ :: ⟨kh P (os "__firstlineno__"),(.str (os "__firstlineno__") 417),(.int 31 416)⟩ :: ⟨kh P (os "__static_attributes__"),(.str (os "__static_attributes__") 418),(.ref 186)⟩ :: [])) 4,#[]⟩
noncomputable def zzq5_182 (P:Params) : Obj:=⟨(.type "tuple"),none,(.seq #[]),#[]⟩
noncomputable def zzq5_183 (P:Params) : Obj:=⟨(.none),none,(.fields #[]),#[]⟩
noncomputable def zzq5_184 (P:Params) : Obj:=⟨(.type "code"),none,(.fields #[.str (os "NoLaying") 408,.str (os "NoLaying") 409,.str (os "/claim/cut.py") 410,.int 31 0,.int 0 0,.int 0 0,.int 0 0,.int 0 0,.ref 182,.bool false,.int 181 0,.ref 183,.none,.none,.none,.none,.int 411 0,.int 31 0,.str (os "/claim/cut.py") 412]),#[]⟩
noncomputable def zzq5_185 (P:Params) : Obj:=⟨(.type "frame"),none,(.plain),#[Option.some (.ref 184),Option.some (.ref 3),Option.some (.ref 181),none,Option.some (.str (os "trueleaf.errors") 194),none,Option.some (.ref 0)]⟩
noncomputable def zzq5_186 (P:Params) : Obj:=⟨(.type "tuple"),none,(.seq #[]),#[]⟩
noncomputable def zzq5_187 (P:Params) : Obj:=⟨(.type "dict"),none,.dict (List.toArray (⟨kh P (os "__module__"),(.str (os "__module__") 413),(.str (os "trueleaf.errors") 194)⟩ :: ⟨kh P (os "__firstlineno__"),(.str (os "__firstlineno__") 417),(.int 31 416)⟩ :: ⟨kh P (os "__static_attributes__"),(.str (os "__static_attributes__") 418),(.ref 186)⟩ :: ⟨kh P (os "__doc__"),(.str (os "__doc__") 419),(.none)⟩ :: [])) 2,#[]⟩
noncomputable def zzq5_188 (P:Params) : Obj:=⟨(.type "type"),none,(.cls (PySem.ClassData.mk (os "NoLaying") [.ref 31] [.ref 188,.ref 31,.type "ValueError",.type "Exception",.type "BaseException",.type "object"] 187 (os "NoLaying") true [] [] false none false)),#[Option.some (.ref 179),none,Option.some (.str (os "NoLaying") 406),Option.some (.str (os "NoLaying") 414),Option.some (.builtin "ValueError.__new__"),Option.some (.bool true)]⟩
noncomputable def zzq5_189 (P:Params) : Obj:=⟨(.type "super"),none,(.fields #[.ref 188,.ref 188,.ref 188]),#[]⟩
noncomputable def zzq5_190 (P:Params) : Obj:=⟨(.type "builtin_function_or_method"),none,(.fields #[.builtin "object.__init_subclass__",.ref 188]),#[]⟩
noncomputable def zzq5_191 (P:Params) : Obj:=⟨(.type "tuple"),none,(.seq #[.ref 31]),#[]⟩
noncomputable def zzq5_192 (P:Params) : Obj:=⟨(.type "builtin_function_or_method"),none,(.fields #[.builtin "type.__prepare__",.type "type"]),#[]⟩
noncomputable def zzq5_193 (P:Params) : Obj:=⟨(.type "dict"),none,.dict (List.toArray (⟨kh P (os "__module__"),(.str (os "__module__") 429),(.str (os "trueleaf.errors") 194)⟩ :: ⟨kh P (os "__qualname__"),(.str (os "__qualname__") 431),(.str (os "BadName") 430)⟩ :: ⟨kh P (os "__firstlineno__"),(.str (os "__firstlineno__") 433),(.int 33 432)⟩ :: ⟨kh P (os "__static_attributes__"),(.str (os "__static_attributes__") 434),(.ref 198)⟩ :: [])) 4,#[]⟩
noncomputable def zzq5_194 (P:Params) : Obj:=⟨(.type "tuple"),none,(.seq #[]),#[]⟩
noncomputable def zzq5_195 (P:Params) : Obj:=⟨(.none),none,(.fields #[]),#[]⟩
noncomputable def zzq5_196 (P:Params) : Obj:=⟨(.type "code"),none,(.fields #[.str (os "BadName") 424,.str (os "BadName") 425,.str (os "/claim/cut.py") 426,.int 33 0,.int 0 0,.int 0 0,.int 0 0,.int 0 0,.ref 194,.bool false,.int 181 0,.ref 195,.none,.none,.none,.none,.int 427 0,.int 33 0,.str (os "/claim/cut.py") 428]),#[]⟩
noncomputable def zzq5_197 (P:Params) : Obj:=⟨(.type "frame"),none,(.plain),#[Option.some (.ref 196),Option.some (.ref 3),Option.some (.ref 193),none,Option.some (.str (os "trueleaf.errors") 194),none,Option.some (.ref 0)]⟩
noncomputable def zzq5_198 (P:Params) : Obj:=⟨(.type "tuple"),none,(.seq #[]),#[]⟩
noncomputable def zzq5_199 (P:Params) : Obj:=⟨(.type "dict"),none,.dict (List.toArray (⟨kh P (os "__module__"),(.str (os "__module__") 429),(.str (os "trueleaf.errors") 194)⟩ :: ⟨kh P (os "__firstlineno__"),(.str (os "__firstlineno__") 433),(.int 33 432)⟩ :: ⟨kh P (os "__static_attributes__"),(.str (os "__static_attributes__") 434),(.ref 198)⟩ :: ⟨kh P (os "__doc__"),(.str (os "__doc__") 435),(.none)⟩ :: [])) 2,#[]⟩
noncomputable def zzq5_200 (P:Params) : Obj:=⟨(.type "type"),none,(.cls (PySem.ClassData.mk (os "BadName") [.ref 31] [.ref 200,.ref 31,.type "ValueError",.type "Exception",.type "BaseException",.type "object"] 199 (os "BadName") true [] [] false none false)),#[Option.some (.ref 191),none,Option.some (.str (os "BadName") 422),Option.some (.str (os "BadName") 430),Option.some (.builtin "ValueError.__new__"),Option.some (.bool true)]⟩
noncomputable def zzq5_201 (P:Params) : Obj:=⟨(.type "super"),none,(.fields #[.ref 200,.ref 200,.ref 200]),#[]⟩
noncomputable def zzq5_202 (P:Params) : Obj:=⟨(.type "builtin_function_or_method"),none,(.fields #[.builtin "object.__init_subclass__",.ref 200]),#[]⟩
noncomputable def zzhY21 (P:Params) (t:List Obj) : List Obj:=PySem.W.boot_o_0 P :: PySem.W.boot_o_1 P :: PySem.W.boot_o_2 P :: zzq5_3 P :: PySem.W.boot_o_4 P :: PySem.W.boot_o_5 P :: PySem.W.boot_o_6 P :: PySem.W.boot_o_7 P :: PySem.W.boot_o_8 P :: PySem.W.boot_o_9 P :: PySem.W.boot_o_10 P :: zzqA_11 P :: zzq5_12 P :: zzqA_13 P :: zzqA_14 P :: zzq1_15 P :: t
noncomputable def zzhY22 (P:Params) (t:List Obj) : List Obj:=zzq1_16 P :: zzq1_17 P :: zzq1_18 P :: zzq1_19 P :: zzq1_20 P :: zzq1_21 P :: zzq1_22 P :: zzq1_23 P :: zzq1_24 P :: zzq1_25 P :: zzq1_26 P :: zzq1_27 P :: zzq1_28 P :: zzq1_29 P :: zzq1_30 P :: zzq5_31 P :: t
noncomputable def zzhY23 (P:Params) (t:List Obj) : List Obj:=zzq4_160 P :: zzq4_161 P :: zzq4_162 P :: zzq4_163 P :: zzq4_164 P :: zzq4_165 P :: zzq4_166 P :: zzq5_167 P :: zzq5_168 P :: zzq5_169 P :: zzq5_170 P :: zzq5_171 P :: zzq5_172 P :: zzq5_173 P :: zzq5_174 P :: zzq5_175 P :: t
noncomputable def zzhY24 (P:Params) (t:List Obj) : List Obj:=zzq5_176 P :: zzq5_177 P :: zzq5_178 P :: zzq5_179 P :: zzq5_180 P :: zzq5_181 P :: zzq5_182 P :: zzq5_183 P :: zzq5_184 P :: zzq5_185 P :: zzq5_186 P :: zzq5_187 P :: zzq5_188 P :: zzq5_189 P :: zzq5_190 P :: zzq5_191 P :: t
noncomputable def zzhY25 (P:Params) (t:List Obj) : List Obj:=zzq5_192 P :: zzq5_193 P :: zzq5_194 P :: zzq5_195 P :: zzq5_196 P :: zzq5_197 P :: zzq5_198 P :: zzq5_199 P :: zzq5_200 P :: zzq5_201 P :: zzq5_202 P :: t
noncomputable def zzh5 (P:Params) : Heap:=⟨⟨(zzhY21 P (zzhY22 P (zzhY3 P (zzhY7 P (zzhY8 P (zzhY12 P (zzhY13 P (zzhY14 P (zzhY18 P (zzhY19 P (zzhY23 P (zzhY24 P (zzhY25 P [])))))))))))))⟩,{}⟩
noncomputable def zzhZ5 (P:Params) (t:List DictEntry) : List DictEntry:=⟨kh P (os "__name__"),(.str (os "__name__") 165),(.str (os "trueleaf.books") 470)⟩ :: ⟨kh P (os "__doc__"),(.str (os "__doc__") 166),(.none)⟩ :: ⟨kh P (os "__package__"),(.str (os "__package__") 167),(.none)⟩ :: ⟨kh P (os "__loader__"),(.str (os "__loader__") 168),(.builtin "__main__.__loader__#opaque")⟩ :: ⟨kh P (os "__spec__"),(.str (os "__spec__") 169),(.none)⟩ :: ⟨kh P (os "__annotations__"),(.str (os "__annotations__") 170),(.ref 6)⟩ :: ⟨kh P (os "__builtins__"),(.str (os "__builtins__") 171),(.ref 4)⟩ :: ⟨kh P (os "__file__"),(.str (os "__file__") 173),(.str (os "/claim/cut.py") 172)⟩ :: t
noncomputable def zzhZ6 (P:Params) (t:List DictEntry) : List DictEntry:=⟨kh P (os "BadName"),(.str (os "BadName") 437),(.ref 200)⟩ :: ⟨kh P (os "NoRow"),(.str (os "NoRow") 453),(.ref 212)⟩ :: ⟨kh P (os "NothingDone"),(.str (os "NothingDone") 469),(.ref 224)⟩ :: ⟨kh P (os "MOST_WORDS_books"),(.str (os "MOST_WORDS_books") 473),(.int 400 472)⟩ :: ⟨kh P (os "LONGEST_TEXT"),(.str (os "LONGEST_TEXT") 475),(.int 60 474)⟩ :: ⟨kh P (os "check_form"),(.str (os "check_form") 482),(.ref 233)⟩ :: ⟨kh P (os "check_number"),(.str (os "check_number") 491),(.ref 240)⟩ :: t
noncomputable def zzq6_3 (P:Params) : Obj:=⟨(.type "dict"),none,.dict (List.toArray (zzhZ5 P (zzhZ1 P (zzhZ3 P (zzhZ6 P []))))) 31,#[]⟩
noncomputable def zzq6_12 (P:Params) : Obj:=⟨(.none),none,(.fields #[.int 1 0,.int 0 0,.ref 20,.int 5 0,.int 0 0,.ref 27,.int 7 0,.int 0 0,.ref 40,.int 9 0,.int 0 0,.ref 52,.int 11 0,.int 0 0,.ref 64,.int 13 0,.int 0 0,.ref 76,.int 15 0,.int 0 0,.ref 88,.int 17 0,.int 0 0,.ref 100,.int 19 0,.int 0 0,.ref 112,.int 21 0,.int 0 0,.ref 124,.int 23 0,.int 0 0,.ref 136,.int 25 0,.int 0 0,.ref 148,.int 27 0,.int 0 0,.ref 160,.int 29 0,.int 0 0,.ref 172,.int 31 0,.int 0 0,.ref 184,.int 33 0,.int 0 0,.ref 196,.int 35 0,.int 0 0,.ref 208,.int 37 0,.int 0 0,.ref 220,.int 42 0,.int 0 0,.ref 232,.int 47 0,.int 0 0,.ref 239]),#[]⟩
noncomputable def zzq6_31 (P:Params) : Obj:=⟨(.type "type"),none,(.cls (PySem.ClassData.mk (os "TrueleafError") [.type "ValueError"] [.ref 31,.type "ValueError",.type "Exception",.type "BaseException",.type "object"] 30 (os "TrueleafError") true [] [.ref 44,.ref 56,.ref 68,.ref 80,.ref 92,.ref 104,.ref 116,.ref 128,.ref 140,.ref 152,.ref 164,.ref 176,.ref 188,.ref 200,.ref 212,.ref 224] false none false)),#[Option.some (.ref 22),none,Option.some (.str (os "TrueleafError") 196),Option.some (.str (os "TrueleafError") 204),Option.some (.builtin "ValueError.__new__"),Option.some (.bool true)]⟩
noncomputable def zzq6_203 (P:Params) : Obj:=⟨(.type "tuple"),none,(.seq #[.ref 31]),#[]⟩
noncomputable def zzq6_204 (P:Params) : Obj:=⟨(.type "builtin_function_or_method"),none,(.fields #[.builtin "type.__prepare__",.type "type"]),#[]⟩
noncomputable def zzq6_205 (P:Params) : Obj:=⟨(.type "dict"),none,.dict (List.toArray (⟨kh P (os "__module__"),(.str (os "__module__") 445),(.str (os "trueleaf.errors") 194)⟩ :: ⟨kh P (os "__qualname__"),(.str (os "__qualname__") 447),(.str (os "NoRow") 446)⟩ :: ⟨kh P (os "__firstlineno__"),(.str (os "__firstlineno__") 449),(.int 35 448)⟩ :: ⟨kh P (os "__static_attributes__"),(.str (os "__static_attributes__") 450),(.ref 210)⟩ :: [])) 4,#[]⟩
noncomputable def zzq6_206 (P:Params) : Obj:=⟨(.type "tuple"),none,(.seq #[]),#[]⟩
noncomputable def zzq6_207 (P:Params) : Obj:=⟨(.none),none,(.fields #[]),#[]⟩
noncomputable def zzq6_208 (P:Params) : Obj:=⟨(.type "code"),none,(.fields #[.str (os "NoRow") 440,.str (os "NoRow") 441,.str (os "/claim/cut.py") 442,.int 35 0,.int 0 0,.int 0 0,.int 0 0,.int 0 0,.ref 206,.bool false,.int 181 0,.ref 207,.none,.none,.none,.none,.int 443 0,.int 35 0,.str (os "/claim/cut.py") 444]),#[]⟩
noncomputable def zzq6_209 (P:Params) : Obj:=⟨(.type "frame"),none,(.plain),#[Option.some (.ref 208),Option.some (.ref 3),Option.some (.ref 205),none,Option.some (.str (os "trueleaf.errors") 194),none,Option.some (.ref 0)]⟩
noncomputable def zzq6_210 (P:Params) : Obj:=⟨(.type "tuple"),none,(.seq #[]),#[]⟩
noncomputable def zzq6_211 (P:Params) : Obj:=⟨(.type "dict"),none,.dict (List.toArray (⟨kh P (os "__module__"),(.str (os "__module__") 445),(.str (os "trueleaf.errors") 194)⟩ :: ⟨kh P (os "__firstlineno__"),(.str (os "__firstlineno__") 449),(.int 35 448)⟩ :: ⟨kh P (os "__static_attributes__"),(.str (os "__static_attributes__") 450),(.ref 210)⟩ :: ⟨kh P (os "__doc__"),(.str (os "__doc__") 451),(.none)⟩ :: [])) 2,#[]⟩
noncomputable def zzq6_212 (P:Params) : Obj:=⟨(.type "type"),none,(.cls (PySem.ClassData.mk (os "NoRow") [.ref 31] [.ref 212,.ref 31,.type "ValueError",.type "Exception",.type "BaseException",.type "object"] 211 (os "NoRow") true [] [] false none false)),#[Option.some (.ref 203),none,Option.some (.str (os "NoRow") 438),Option.some (.str (os "NoRow") 446),Option.some (.builtin "ValueError.__new__"),Option.some (.bool true)]⟩
noncomputable def zzq6_213 (P:Params) : Obj:=⟨(.type "super"),none,(.fields #[.ref 212,.ref 212,.ref 212]),#[]⟩
noncomputable def zzq6_214 (P:Params) : Obj:=⟨(.type "builtin_function_or_method"),none,(.fields #[.builtin "object.__init_subclass__",.ref 212]),#[]⟩
noncomputable def zzq6_215 (P:Params) : Obj:=⟨(.type "tuple"),none,(.seq #[.ref 31]),#[]⟩
noncomputable def zzq6_216 (P:Params) : Obj:=⟨(.type "builtin_function_or_method"),none,(.fields #[.builtin "type.__prepare__",.type "type"]),#[]⟩
noncomputable def zzq6_217 (P:Params) : Obj:=⟨(.type "dict"),none,.dict (List.toArray (⟨kh P (os "__module__"),(.str (os "__module__") 461),(.str (os "trueleaf.errors") 194)⟩ :: ⟨kh P (os "__qualname__"),(.str (os "__qualname__") 463),(.str (os "NothingDone") 462)⟩ :: ⟨kh P (os "__firstlineno__"),(.str (os "__firstlineno__") 465),(.int 37 464)⟩ :: ⟨kh P (os "__static_attributes__"),(.str (os "__static_attributes__") 466),(.ref 222)⟩ :: [])) 4,#[]⟩
noncomputable def zzq6_218 (P:Params) : Obj:=⟨(.type "tuple"),none,(.seq #[]),#[]⟩
noncomputable def zzq6_219 (P:Params) : Obj:=⟨(.none),none,(.fields #[]),#[]⟩
noncomputable def zzq6_220 (P:Params) : Obj:=⟨(.type "code"),none,(.fields #[.str (os "NothingDone") 456,.str (os "NothingDone") 457,.str (os "/claim/cut.py") 458,.int 37 0,.int 0 0,.int 0 0,.int 0 0,.int 0 0,.ref 218,.bool false,.int 181 0,.ref 219,.none,.none,.none,.none,.int 459 0,.int 37 0,.str (os "/claim/cut.py") 460]),#[]⟩
noncomputable def zzq6_221 (P:Params) : Obj:=⟨(.type "frame"),none,(.plain),#[Option.some (.ref 220),Option.some (.ref 3),Option.some (.ref 217),none,Option.some (.str (os "trueleaf.errors") 194),none,Option.some (.ref 0)]⟩
noncomputable def zzq6_222 (P:Params) : Obj:=⟨(.type "tuple"),none,(.seq #[]),#[]⟩
noncomputable def zzq6_223 (P:Params) : Obj:=⟨(.type "dict"),none,.dict (List.toArray (⟨kh P (os "__module__"),(.str (os "__module__") 461),(.str (os "trueleaf.errors") 194)⟩ :: ⟨kh P (os "__firstlineno__"),(.str (os "__firstlineno__") 465),(.int 37 464)⟩ :: ⟨kh P (os "__static_attributes__"),(.str (os "__static_attributes__") 466),(.ref 222)⟩ :: ⟨kh P (os "__doc__"),(.str (os "__doc__") 467),(.none)⟩ :: [])) 2,#[]⟩
noncomputable def zzq6_224 (P:Params) : Obj:=⟨(.type "type"),none,(.cls (PySem.ClassData.mk (os "NothingDone") [.ref 31] [.ref 224,.ref 31,.type "ValueError",.type "Exception",.type "BaseException",.type "object"] 223 (os "NothingDone") true [] [] false none false)),#[Option.some (.ref 215),none,Option.some (.str (os "NothingDone") 454),Option.some (.str (os "NothingDone") 462),Option.some (.builtin "ValueError.__new__"),Option.some (.bool true)]⟩
noncomputable def zzq6_225 (P:Params) : Obj:=⟨(.type "super"),none,(.fields #[.ref 224,.ref 224,.ref 224]),#[]⟩
noncomputable def zzq6_226 (P:Params) : Obj:=⟨(.type "builtin_function_or_method"),none,(.fields #[.builtin "object.__init_subclass__",.ref 224]),#[]⟩
noncomputable def zzq6_227 (P:Params) : Obj:=⟨(.type "tuple"),none,(.seq #[]),#[]⟩
noncomputable def zzq6_228 (P:Params) : Obj:=⟨(.none),none,(.fields #[]),#[]⟩
noncomputable def zzq6_229 (P:Params) : Obj:=⟨(.type "tuple"),none,(.seq #[.str (os "form") 479]),#[]⟩
noncomputable def zzq6_230 (P:Params) : Obj:=⟨(.type "tuple"),none,(.seq #[]),#[]⟩
noncomputable def zzq6_231 (P:Params) : Obj:=gA "check_form" "check_form" (top 22)
noncomputable def zzq6_232 (P:Params) : Obj:=cO "check_form" 476 477 478 42 1 3 227 181 228 229 230 231 480 42 481
noncomputable def zzq6_233 (P:Params) : Obj:=gB "check_form" "check_form" (top 22) (.none) "trueleaf.books" 470 232
noncomputable def zzq6_234 (P:Params) : Obj:=⟨(.type "tuple"),none,(.seq #[]),#[]⟩
noncomputable def zzq6_235 (P:Params) : Obj:=⟨(.none),none,(.fields #[]),#[]⟩
noncomputable def zzq6_236 (P:Params) : Obj:=⟨(.type "tuple"),none,(.seq #[.str (os "number") 486,.str (os "least") 487,.str (os "most") 488]),#[]⟩
noncomputable def zzq6_237 (P:Params) : Obj:=⟨(.type "tuple"),none,(.seq #[]),#[]⟩
noncomputable def zzq6_238 (P:Params) : Obj:=gA "check_number" "check_number" (top 23)
noncomputable def zzq6_239 (P:Params) : Obj:=cO "check_number" 483 484 485 47 3 3 234 181 235 236 237 238 489 47 490
noncomputable def zzq6_240 (P:Params) : Obj:=gB "check_number" "check_number" (top 23) (.none) "trueleaf.books" 470 239
noncomputable def zzhY26 (P:Params) (t:List Obj) : List Obj:=PySem.W.boot_o_0 P :: PySem.W.boot_o_1 P :: PySem.W.boot_o_2 P :: zzq6_3 P :: PySem.W.boot_o_4 P :: PySem.W.boot_o_5 P :: PySem.W.boot_o_6 P :: PySem.W.boot_o_7 P :: PySem.W.boot_o_8 P :: PySem.W.boot_o_9 P :: PySem.W.boot_o_10 P :: zzqA_11 P :: zzq6_12 P :: zzqA_13 P :: zzqA_14 P :: zzq1_15 P :: t
noncomputable def zzhY27 (P:Params) (t:List Obj) : List Obj:=zzq1_16 P :: zzq1_17 P :: zzq1_18 P :: zzq1_19 P :: zzq1_20 P :: zzq1_21 P :: zzq1_22 P :: zzq1_23 P :: zzq1_24 P :: zzq1_25 P :: zzq1_26 P :: zzq1_27 P :: zzq1_28 P :: zzq1_29 P :: zzq1_30 P :: zzq6_31 P :: t
noncomputable def zzhY28 (P:Params) (t:List Obj) : List Obj:=zzq5_192 P :: zzq5_193 P :: zzq5_194 P :: zzq5_195 P :: zzq5_196 P :: zzq5_197 P :: zzq5_198 P :: zzq5_199 P :: zzq5_200 P :: zzq5_201 P :: zzq5_202 P :: zzq6_203 P :: zzq6_204 P :: zzq6_205 P :: zzq6_206 P :: zzq6_207 P :: t
noncomputable def zzhY29 (P:Params) (t:List Obj) : List Obj:=zzq6_208 P :: zzq6_209 P :: zzq6_210 P :: zzq6_211 P :: zzq6_212 P :: zzq6_213 P :: zzq6_214 P :: zzq6_215 P :: zzq6_216 P :: zzq6_217 P :: zzq6_218 P :: zzq6_219 P :: zzq6_220 P :: zzq6_221 P :: zzq6_222 P :: zzq6_223 P :: t
noncomputable def zzhY30 (P:Params) (t:List Obj) : List Obj:=zzq6_224 P :: zzq6_225 P :: zzq6_226 P :: zzq6_227 P :: zzq6_228 P :: zzq6_229 P :: zzq6_230 P :: zzq6_231 P :: zzq6_232 P :: zzq6_233 P :: zzq6_234 P :: zzq6_235 P :: zzq6_236 P :: zzq6_237 P :: zzq6_238 P :: zzq6_239 P :: t
noncomputable def zzhY31 (P:Params) (t:List Obj) : List Obj:=zzq6_240 P :: t
noncomputable def zzh6 (P:Params) : Heap:=⟨⟨(zzhY26 P (zzhY27 P (zzhY3 P (zzhY7 P (zzhY8 P (zzhY12 P (zzhY13 P (zzhY14 P (zzhY18 P (zzhY19 P (zzhY23 P (zzhY24 P (zzhY28 P (zzhY29 P (zzhY30 P (zzhY31 P []))))))))))))))))⟩,{}⟩
noncomputable def zzhZ7 (P:Params) (t:List DictEntry) : List DictEntry:=⟨kh P (os "__name__"),(.str (os "__name__") 165),(.str (os "trueleaf.trees") 621)⟩ :: ⟨kh P (os "__doc__"),(.str (os "__doc__") 166),(.none)⟩ :: ⟨kh P (os "__package__"),(.str (os "__package__") 167),(.none)⟩ :: ⟨kh P (os "__loader__"),(.str (os "__loader__") 168),(.builtin "__main__.__loader__#opaque")⟩ :: ⟨kh P (os "__spec__"),(.str (os "__spec__") 169),(.none)⟩ :: ⟨kh P (os "__annotations__"),(.str (os "__annotations__") 170),(.ref 6)⟩ :: ⟨kh P (os "__builtins__"),(.str (os "__builtins__") 171),(.ref 4)⟩ :: ⟨kh P (os "__file__"),(.str (os "__file__") 173),(.str (os "/claim/cut.py") 172)⟩ :: t
noncomputable def zzhZ8 (P:Params) (t:List DictEntry) : List DictEntry:=⟨kh P (os "BadName"),(.str (os "BadName") 437),(.ref 200)⟩ :: ⟨kh P (os "NoRow"),(.str (os "NoRow") 453),(.ref 212)⟩ :: ⟨kh P (os "NothingDone"),(.str (os "NothingDone") 469),(.ref 224)⟩ :: ⟨kh P (os "MOST_WORDS_books"),(.str (os "MOST_WORDS_books") 473),(.int 400 472)⟩ :: ⟨kh P (os "LONGEST_TEXT"),(.str (os "LONGEST_TEXT") 475),(.int 60 474)⟩ :: ⟨kh P (os "check_form"),(.str (os "check_form") 482),(.ref 233)⟩ :: ⟨kh P (os "check_number"),(.str (os "check_number") 491),(.ref 240)⟩ :: ⟨kh P (os "LETTERS"),(.str (os "LETTERS") 495),(.str (os "abcdefghijklmnopqrstuvwxyz") 494)⟩ :: t
noncomputable def zzhZ9 (P:Params) (t:List DictEntry) : List DictEntry:=⟨kh P (os "FIGURES"),(.str (os "FIGURES") 497),(.str (os "0123456789") 496)⟩ :: ⟨kh P (os "LONGEST_NAME"),(.str (os "LONGEST_NAME") 499),(.int 12 498)⟩ :: ⟨kh P (os "KINDS"),(.str (os "KINDS") 515),(.ref 241)⟩ :: ⟨kh P (os "words_in"),(.str (os "words_in") 521),(.ref 246)⟩ :: ⟨kh P (os "is_name"),(.str (os "is_name") 527),(.ref 251)⟩ :: ⟨kh P (os "figures_of"),(.str (os "figures_of") 534),(.ref 258)⟩ :: ⟨kh P (os "kind_of"),(.str (os "kind_of") 543),(.ref 265)⟩ :: ⟨kh P (os "MOST_ROWS_parts"),(.str (os "MOST_ROWS_parts") 547),(.int 400 546)⟩ :: t
noncomputable def zzhZ10 (P:Params) (t:List DictEntry) : List DictEntry:=⟨kh P (os "rows_in"),(.str (os "rows_in") 554),(.ref 272)⟩ :: ⟨kh P (os "joined"),(.str (os "joined") 563),(.ref 279)⟩ :: ⟨kh P (os "is_use"),(.str (os "is_use") 570),(.ref 286)⟩ :: ⟨kh P (os "is_good_use"),(.str (os "is_good_use") 577),(.ref 293)⟩ :: ⟨kh P (os "look_through"),(.str (os "look_through") 590),(.ref 300)⟩ :: ⟨kh P (os "used_part"),(.str (os "used_part") 600),(.ref 307)⟩ :: ⟨kh P (os "put_together"),(.str (os "put_together") 612),(.ref 314)⟩ :: ⟨kh P (os "numbers_of"),(.str (os "numbers_of") 620),(.ref 319)⟩ :: t
noncomputable def zzq7_3 (P:Params) : Obj:=⟨(.type "dict"),none,.dict (List.toArray (zzhZ7 P (zzhZ1 P (zzhZ3 P (zzhZ8 P (zzhZ9 P (zzhZ10 P []))))))) 48,#[]⟩
noncomputable def zzq7_12 (P:Params) : Obj:=⟨(.none),none,(.fields #[.int 1 0,.int 0 0,.ref 20,.int 5 0,.int 0 0,.ref 27,.int 7 0,.int 0 0,.ref 40,.int 9 0,.int 0 0,.ref 52,.int 11 0,.int 0 0,.ref 64,.int 13 0,.int 0 0,.ref 76,.int 15 0,.int 0 0,.ref 88,.int 17 0,.int 0 0,.ref 100,.int 19 0,.int 0 0,.ref 112,.int 21 0,.int 0 0,.ref 124,.int 23 0,.int 0 0,.ref 136,.int 25 0,.int 0 0,.ref 148,.int 27 0,.int 0 0,.ref 160,.int 29 0,.int 0 0,.ref 172,.int 31 0,.int 0 0,.ref 184,.int 33 0,.int 0 0,.ref 196,.int 35 0,.int 0 0,.ref 208,.int 37 0,.int 0 0,.ref 220,.int 42 0,.int 0 0,.ref 232,.int 47 0,.int 0 0,.ref 239,.int 55 0,.int 0 0,.ref 245,.int 57 0,.int 0 0,.ref 250,.int 61 0,.int 0 0,.ref 257,.int 63 0,.int 0 0,.ref 264,.int 73 0,.int 0 0,.ref 271,.int 75 0,.int 0 0,.ref 278,.int 83 0,.int 0 0,.ref 285,.int 85 0,.int 0 0,.ref 292,.int 87 0,.int 0 0,.ref 299,.int 99 0,.int 0 0,.ref 306,.int 108 0,.int 0 0,.ref 313,.int 118 0,.int 0 0,.ref 318]),#[]⟩
noncomputable def zzq7_241 (P:Params) : Obj:=⟨(.type "dict"),none,.dict (List.toArray (⟨kh P (os "#"),(.str (os "#") 500),(.str (os "mark") 501)⟩ :: ⟨kh P (os "@"),(.str (os "@") 502),(.str (os "number") 503)⟩ :: ⟨kh P (os "&"),(.str (os "&") 504),(.str (os "page") 505)⟩ :: ⟨kh P (os "^"),(.str (os "^") 506),(.str (os "row") 507)⟩ :: ⟨kh P (os "~"),(.str (os "~") 508),(.str (os "foot") 509)⟩ :: [])) 5,#[]⟩
noncomputable def zzq7_242 (P:Params) : Obj:=⟨(.type "tuple"),none,(.seq #[]),#[]⟩
noncomputable def zzq7_243 (P:Params) : Obj:=⟨(.none),none,(.fields #[]),#[]⟩
noncomputable def zzq7_244 (P:Params) : Obj:=gA "words_in" "words_in" (top 29)
noncomputable def zzq7_245 (P:Params) : Obj:=⟨(.type "code"),none,(.fields #[.str (os "words_in") 516,.str (os "words_in") 517,.str (os "/claim/cut.py") 518,.int 55 0,.int 1 0,.int 0 0,.int 0 0,.int 3 0,.ref 242,.bool true,.int 181 0,.ref 243,.none,.none,.none,.ref 244,.int 519 0,.int 55 0,.str (os "/claim/cut.py") 520]),#[]⟩
noncomputable def zzq7_246 (P:Params) : Obj:=gB "words_in" "words_in" (top 29) (.none) "trueleaf.signs" 492 245
noncomputable def zzq7_247 (P:Params) : Obj:=⟨(.type "tuple"),none,(.seq #[]),#[]⟩
noncomputable def zzq7_248 (P:Params) : Obj:=⟨(.none),none,(.fields #[]),#[]⟩
noncomputable def zzq7_249 (P:Params) : Obj:=gA "is_name" "is_name" (top 30)
noncomputable def zzq7_250 (P:Params) : Obj:=⟨(.type "code"),none,(.fields #[.str (os "is_name") 522,.str (os "is_name") 523,.str (os "/claim/cut.py") 524,.int 57 0,.int 1 0,.int 0 0,.int 0 0,.int 3 0,.ref 247,.bool true,.int 181 0,.ref 248,.none,.none,.none,.ref 249,.int 525 0,.int 57 0,.str (os "/claim/cut.py") 526]),#[]⟩
noncomputable def zzq7_251 (P:Params) : Obj:=gB "is_name" "is_name" (top 30) (.none) "trueleaf.signs" 492 250
noncomputable def zzq7_252 (P:Params) : Obj:=⟨(.type "tuple"),none,(.seq #[]),#[]⟩
noncomputable def zzq7_253 (P:Params) : Obj:=⟨(.none),none,(.fields #[]),#[]⟩
noncomputable def zzq7_254 (P:Params) : Obj:=⟨(.type "tuple"),none,(.seq #[.str (os "number") 531]),#[]⟩
noncomputable def zzq7_255 (P:Params) : Obj:=⟨(.type "tuple"),none,(.seq #[]),#[]⟩
noncomputable def zzq7_256 (P:Params) : Obj:=gA "figures_of" "figures_of" (top 31)
noncomputable def zzq7_257 (P:Params) : Obj:=cO "figures_of" 528 529 530 61 1 3 252 181 253 254 255 256 532 61 533
noncomputable def zzq7_258 (P:Params) : Obj:=gB "figures_of" "figures_of" (top 31) (.none) "trueleaf.signs" 492 257
noncomputable def zzq7_259 (P:Params) : Obj:=⟨(.type "tuple"),none,(.seq #[]),#[]⟩
noncomputable def zzq7_260 (P:Params) : Obj:=⟨(.none),none,(.fields #[]),#[]⟩
noncomputable def zzq7_261 (P:Params) : Obj:=⟨(.type "tuple"),none,(.seq #[.str (os "word") 538,.str (os "first") 539,.str (os "rest") 540]),#[]⟩
noncomputable def zzq7_262 (P:Params) : Obj:=⟨(.type "tuple"),none,(.seq #[]),#[]⟩
noncomputable def zzq7_263 (P:Params) : Obj:=gA "kind_of" "kind_of" (top 32)
noncomputable def zzq7_264 (P:Params) : Obj:=cO "kind_of" 535 536 537 63 1 3 259 181 260 261 262 263 541 63 542
noncomputable def zzq7_265 (P:Params) : Obj:=gB "kind_of" "kind_of" (top 32) (.none) "trueleaf.signs" 492 264
noncomputable def zzq7_266 (P:Params) : Obj:=⟨(.type "tuple"),none,(.seq #[]),#[]⟩
noncomputable def zzq7_267 (P:Params) : Obj:=⟨(.none),none,(.fields #[]),#[]⟩
noncomputable def zzq7_268 (P:Params) : Obj:=⟨(.type "tuple"),none,(.seq #[.str (os "text") 551]),#[]⟩
noncomputable def zzq7_269 (P:Params) : Obj:=⟨(.type "tuple"),none,(.seq #[]),#[]⟩
noncomputable def zzq7_270 (P:Params) : Obj:=gA "rows_in" "rows_in" (top 35)
noncomputable def zzq7_271 (P:Params) : Obj:=cO "rows_in" 548 549 550 73 1 3 266 181 267 268 269 270 552 73 553
noncomputable def zzq7_272 (P:Params) : Obj:=gB "rows_in" "rows_in" (top 35) (.none) "trueleaf.parts" 544 271
noncomputable def zzq7_273 (P:Params) : Obj:=⟨(.type "tuple"),none,(.seq #[]),#[]⟩
noncomputable def zzq7_274 (P:Params) : Obj:=⟨(.none),none,(.fields #[]),#[]⟩
noncomputable def zzq7_275 (P:Params) : Obj:=⟨(.type "tuple"),none,(.seq #[.str (os "parts") 558,.str (os "name") 559,.str (os "counts") 560]),#[]⟩
noncomputable def zzq7_276 (P:Params) : Obj:=⟨(.type "tuple"),none,(.seq #[]),#[]⟩
noncomputable def zzq7_277 (P:Params) : Obj:=gA "joined" "joined" (top 36)
noncomputable def zzq7_278 (P:Params) : Obj:=cO "joined" 555 556 557 75 2 3 273 181 274 275 276 277 561 75 562
noncomputable def zzq7_279 (P:Params) : Obj:=gB "joined" "joined" (top 36) (.none) "trueleaf.parts" 544 278
noncomputable def zzq7_280 (P:Params) : Obj:=⟨(.type "tuple"),none,(.seq #[]),#[]⟩
noncomputable def zzq7_281 (P:Params) : Obj:=⟨(.none),none,(.fields #[]),#[]⟩
noncomputable def zzq7_282 (P:Params) : Obj:=⟨(.type "tuple"),none,(.seq #[.str (os "words") 567]),#[]⟩
noncomputable def zzq7_283 (P:Params) : Obj:=⟨(.type "tuple"),none,(.seq #[]),#[]⟩
noncomputable def zzq7_284 (P:Params) : Obj:=gA "is_use" "is_use" (top 37)
noncomputable def zzq7_285 (P:Params) : Obj:=cO "is_use" 564 565 566 83 1 3 280 181 281 282 283 284 568 83 569
noncomputable def zzq7_286 (P:Params) : Obj:=gB "is_use" "is_use" (top 37) (.none) "trueleaf.parts" 544 285
noncomputable def zzq7_287 (P:Params) : Obj:=⟨(.type "tuple"),none,(.seq #[]),#[]⟩
noncomputable def zzq7_288 (P:Params) : Obj:=⟨(.none),none,(.fields #[]),#[]⟩
noncomputable def zzq7_289 (P:Params) : Obj:=⟨(.type "tuple"),none,(.seq #[.str (os "words") 574]),#[]⟩
noncomputable def zzq7_290 (P:Params) : Obj:=⟨(.type "tuple"),none,(.seq #[]),#[]⟩
noncomputable def zzq7_291 (P:Params) : Obj:=gA "is_good_use" "is_good_use" (top 38)
noncomputable def zzq7_292 (P:Params) : Obj:=cO "is_good_use" 571 572 573 85 1 3 287 181 288 289 290 291 575 85 576
noncomputable def zzq7_293 (P:Params) : Obj:=gB "is_good_use" "is_good_use" (top 38) (.none) "trueleaf.parts" 544 292
noncomputable def zzq7_294 (P:Params) : Obj:=⟨(.type "tuple"),none,(.seq #[]),#[]⟩
noncomputable def zzq7_295 (P:Params) : Obj:=⟨(.none),none,(.fields #[]),#[]⟩
noncomputable def zzq7_296 (P:Params) : Obj:=⟨(.type "tuple"),none,(.seq #[.str (os "parts") 581,.str (os "path") 582,.str (os "counts") 583,.str (os "rows") 584,.str (os "row") 585,.str (os "words") 586,.str (os "used") 587]),#[]⟩
noncomputable def zzq7_297 (P:Params) : Obj:=⟨(.type "tuple"),none,(.seq #[]),#[]⟩
noncomputable def zzq7_298 (P:Params) : Obj:=gA "look_through" "look_through" (top 39)
noncomputable def zzq7_299 (P:Params) : Obj:=cO "look_through" 578 579 580 87 3 3 294 181 295 296 297 298 588 87 589
noncomputable def zzq7_300 (P:Params) : Obj:=gB "look_through" "look_through" (top 39) (.none) "trueleaf.parts" 544 299
noncomputable def zzq7_301 (P:Params) : Obj:=⟨(.type "tuple"),none,(.seq #[]),#[]⟩
noncomputable def zzq7_302 (P:Params) : Obj:=⟨(.none),none,(.fields #[]),#[]⟩
noncomputable def zzq7_303 (P:Params) : Obj:=⟨(.type "tuple"),none,(.seq #[.str (os "parts") 594,.str (os "words") 595,.str (os "path") 596,.str (os "used") 597]),#[]⟩
noncomputable def zzq7_304 (P:Params) : Obj:=⟨(.type "tuple"),none,(.seq #[]),#[]⟩
noncomputable def zzq7_305 (P:Params) : Obj:=gA "used_part" "used_part" (top 40)
noncomputable def zzq7_306 (P:Params) : Obj:=cO "used_part" 591 592 593 99 3 3 301 181 302 303 304 305 598 99 599
noncomputable def zzq7_307 (P:Params) : Obj:=gB "used_part" "used_part" (top 40) (.none) "trueleaf.parts" 544 306
noncomputable def zzq7_308 (P:Params) : Obj:=⟨(.type "tuple"),none,(.seq #[]),#[]⟩
noncomputable def zzq7_309 (P:Params) : Obj:=⟨(.none),none,(.fields #[]),#[]⟩
noncomputable def zzq7_310 (P:Params) : Obj:=⟨(.type "tuple"),none,(.seq #[.str (os "parts") 604,.str (os "name") 605,.str (os "told") 606,.str (os "k") 607,.str (os "row") 608,.str (os "words") 609]),#[]⟩
noncomputable def zzq7_311 (P:Params) : Obj:=⟨(.type "tuple"),none,(.seq #[]),#[]⟩
noncomputable def zzq7_312 (P:Params) : Obj:=gA "put_together" "put_together" (top 41)
noncomputable def zzq7_313 (P:Params) : Obj:=cO "put_together" 601 602 603 108 2 3 308 181 309 310 311 312 610 108 611
noncomputable def zzq7_314 (P:Params) : Obj:=gB "put_together" "put_together" (top 41) (.none) "trueleaf.parts" 544 313
noncomputable def zzq7_315 (P:Params) : Obj:=⟨(.type "tuple"),none,(.seq #[]),#[]⟩
noncomputable def zzq7_316 (P:Params) : Obj:=⟨(.none),none,(.fields #[]),#[]⟩
noncomputable def zzq7_317 (P:Params) : Obj:=gA "numbers_of" "numbers_of" (top 43)
noncomputable def zzq7_318 (P:Params) : Obj:=⟨(.type "code"),none,(.fields #[.str (os "numbers_of") 615,.str (os "numbers_of") 616,.str (os "/claim/cut.py") 617,.int 118 0,.int 1 0,.int 0 0,.int 0 0,.int 3 0,.ref 315,.bool true,.int 181 0,.ref 316,.none,.none,.none,.ref 317,.int 618 0,.int 118 0,.str (os "/claim/cut.py") 619]),#[]⟩
noncomputable def zzq7_319 (P:Params) : Obj:=gB "numbers_of" "numbers_of" (top 43) (.none) "trueleaf.heads" 613 318
noncomputable def zzhY32 (P:Params) (t:List Obj) : List Obj:=PySem.W.boot_o_0 P :: PySem.W.boot_o_1 P :: PySem.W.boot_o_2 P :: zzq7_3 P :: PySem.W.boot_o_4 P :: PySem.W.boot_o_5 P :: PySem.W.boot_o_6 P :: PySem.W.boot_o_7 P :: PySem.W.boot_o_8 P :: PySem.W.boot_o_9 P :: PySem.W.boot_o_10 P :: zzqA_11 P :: zzq7_12 P :: zzqA_13 P :: zzqA_14 P :: zzq1_15 P :: t
noncomputable def zzhY33 (P:Params) (t:List Obj) : List Obj:=zzq6_240 P :: zzq7_241 P :: zzq7_242 P :: zzq7_243 P :: zzq7_244 P :: zzq7_245 P :: zzq7_246 P :: zzq7_247 P :: zzq7_248 P :: zzq7_249 P :: zzq7_250 P :: zzq7_251 P :: zzq7_252 P :: zzq7_253 P :: zzq7_254 P :: zzq7_255 P :: t
noncomputable def zzhY34 (P:Params) (t:List Obj) : List Obj:=zzq7_256 P :: zzq7_257 P :: zzq7_258 P :: zzq7_259 P :: zzq7_260 P :: zzq7_261 P :: zzq7_262 P :: zzq7_263 P :: zzq7_264 P :: zzq7_265 P :: zzq7_266 P :: zzq7_267 P :: zzq7_268 P :: zzq7_269 P :: zzq7_270 P :: zzq7_271 P :: t
noncomputable def zzhY35 (P:Params) (t:List Obj) : List Obj:=zzq7_272 P :: zzq7_273 P :: zzq7_274 P :: zzq7_275 P :: zzq7_276 P :: zzq7_277 P :: zzq7_278 P :: zzq7_279 P :: zzq7_280 P :: zzq7_281 P :: zzq7_282 P :: zzq7_283 P :: zzq7_284 P :: zzq7_285 P :: zzq7_286 P :: zzq7_287 P :: t
noncomputable def zzhY36 (P:Params) (t:List Obj) : List Obj:=zzq7_288 P :: zzq7_289 P :: zzq7_290 P :: zzq7_291 P :: zzq7_292 P :: zzq7_293 P :: zzq7_294 P :: zzq7_295 P :: zzq7_296 P :: zzq7_297 P :: zzq7_298 P :: zzq7_299 P :: zzq7_300 P :: zzq7_301 P :: zzq7_302 P :: zzq7_303 P :: t
noncomputable def zzhY37 (P:Params) (t:List Obj) : List Obj:=zzq7_304 P :: zzq7_305 P :: zzq7_306 P :: zzq7_307 P :: zzq7_308 P :: zzq7_309 P :: zzq7_310 P :: zzq7_311 P :: zzq7_312 P :: zzq7_313 P :: zzq7_314 P :: zzq7_315 P :: zzq7_316 P :: zzq7_317 P :: zzq7_318 P :: zzq7_319 P :: t
noncomputable def zzh7 (P:Params) : Heap:=⟨⟨(zzhY32 P (zzhY27 P (zzhY3 P (zzhY7 P (zzhY8 P (zzhY12 P (zzhY13 P (zzhY14 P (zzhY18 P (zzhY19 P (zzhY23 P (zzhY24 P (zzhY28 P (zzhY29 P (zzhY30 P (zzhY33 P (zzhY34 P (zzhY35 P (zzhY36 P (zzhY37 P []))))))))))))))))))))⟩,{}⟩
noncomputable def zzhZ11 (P:Params) (t:List DictEntry) : List DictEntry:=⟨kh P (os "__name__"),(.str (os "__name__") 165),(.str (os "trueleaf.reading") 760)⟩ :: ⟨kh P (os "__doc__"),(.str (os "__doc__") 166),(.none)⟩ :: ⟨kh P (os "__package__"),(.str (os "__package__") 167),(.none)⟩ :: ⟨kh P (os "__loader__"),(.str (os "__loader__") 168),(.builtin "__main__.__loader__#opaque")⟩ :: ⟨kh P (os "__spec__"),(.str (os "__spec__") 169),(.none)⟩ :: ⟨kh P (os "__annotations__"),(.str (os "__annotations__") 170),(.ref 6)⟩ :: ⟨kh P (os "__builtins__"),(.str (os "__builtins__") 171),(.ref 4)⟩ :: ⟨kh P (os "__file__"),(.str (os "__file__") 173),(.str (os "/claim/cut.py") 172)⟩ :: t
noncomputable def zzhZ12 (P:Params) (t:List DictEntry) : List DictEntry:=⟨kh P (os "MOST_DEEP"),(.str (os "MOST_DEEP") 624),(.int 20 623)⟩ :: ⟨kh P (os "tree_of"),(.str (os "tree_of") 635),(.ref 327)⟩ :: ⟨kh P (os "copied"),(.str (os "copied") 641),(.ref 332)⟩ :: ⟨kh P (os "opens_call"),(.str (os "opens_call") 648),(.ref 339)⟩ :: ⟨kh P (os "with_closed"),(.str (os "with_closed") 658),(.ref 346)⟩ :: ⟨kh P (os "node_of"),(.str (os "node_of") 667),(.ref 353)⟩ :: ⟨kh P (os "looks_like_place"),(.str (os "looks_like_place") 674),(.ref 360)⟩ :: ⟨kh P (os "MOST_WORDS_shorts"),(.str (os "MOST_WORDS_shorts") 678),(.int 400 677)⟩ :: t
noncomputable def zzhZ13 (P:Params) (t:List DictEntry) : List DictEntry:=⟨kh P (os "MOST_CALLS"),(.str (os "MOST_CALLS") 680),(.int 400 679)⟩ :: ⟨kh P (os "MOST_CALLS_OF_SHORT"),(.str (os "MOST_CALLS_OF_SHORT") 682),(.int 60 681)⟩ :: ⟨kh P (os "size_of"),(.str (os "size_of") 692),(.ref 368)⟩ :: ⟨kh P (os "new_short"),(.str (os "new_short") 705),(.ref 375)⟩ :: ⟨kh P (os "put_out"),(.str (os "put_out") 715),(.ref 382)⟩ :: ⟨kh P (os "by_name"),(.str (os "by_name") 721),(.ref 387)⟩ :: ⟨kh P (os "short_called"),(.str (os "short_called") 731),(.ref 394)⟩ :: ⟨kh P (os "size_among"),(.str (os "size_among") 747),(.ref 401)⟩ :: t
noncomputable def zzhZ14 (P:Params) (t:List DictEntry) : List DictEntry:=⟨kh P (os "sum_of_rows"),(.str (os "sum_of_rows") 753),(.ref 406)⟩ :: ⟨kh P (os "words_out"),(.str (os "words_out") 759),(.ref 411)⟩ :: ⟨kh P (os "ALONE"),(.str (os "ALONE") 765),(.ref 412)⟩ :: ⟨kh P (os "HEADS"),(.str (os "HEADS") 769),(.ref 413)⟩ :: t
noncomputable def zzq8_3 (P:Params) : Obj:=⟨(.type "dict"),none,.dict (List.toArray (zzhZ11 P (zzhZ1 P (zzhZ3 P (zzhZ8 P (zzhZ9 P (zzhZ10 P (zzhZ12 P (zzhZ13 P (zzhZ14 P [])))))))))) 68,#[]⟩
noncomputable def zzq8_12 (P:Params) : Obj:=⟨(.none),none,(.fields #[.int 1 0,.int 0 0,.ref 20,.int 5 0,.int 0 0,.ref 27,.int 7 0,.int 0 0,.ref 40,.int 9 0,.int 0 0,.ref 52,.int 11 0,.int 0 0,.ref 64,.int 13 0,.int 0 0,.ref 76,.int 15 0,.int 0 0,.ref 88,.int 17 0,.int 0 0,.ref 100,.int 19 0,.int 0 0,.ref 112,.int 21 0,.int 0 0,.ref 124,.int 23 0,.int 0 0,.ref 136,.int 25 0,.int 0 0,.ref 148,.int 27 0,.int 0 0,.ref 160,.int 29 0,.int 0 0,.ref 172,.int 31 0,.int 0 0,.ref 184,.int 33 0,.int 0 0,.ref 196,.int 35 0,.int 0 0,.ref 208,.int 37 0,.int 0 0,.ref 220,.int 42 0,.int 0 0,.ref 232,.int 47 0,.int 0 0,.ref 239,.int 55 0,.int 0 0,.ref 245,.int 57 0,.int 0 0,.ref 250,.int 61 0,.int 0 0,.ref 257,.int 63 0,.int 0 0,.ref 264,.int 73 0,.int 0 0,.ref 271,.int 75 0,.int 0 0,.ref 278,.int 83 0,.int 0 0,.ref 285,.int 85 0,.int 0 0,.ref 292,.int 87 0,.int 0 0,.ref 299,.int 99 0,.int 0 0,.ref 306,.int 108 0,.int 0 0,.ref 313,.int 118 0,.int 0 0,.ref 318,.int 127 0,.int 0 0,.ref 326,.int 146 0,.int 0 0,.ref 331,.int 154 0,.int 0 0,.ref 338,.int 156 0,.int 0 0,.ref 345,.int 163 0,.int 0 0,.ref 352,.int 170 0,.int 0 0,.ref 359,.int 176 0,.int 0 0,.ref 367,.int 178 0,.int 0 0,.ref 374,.int 187 0,.int 0 0,.ref 381,.int 193 0,.int 0 0,.ref 386,.int 195 0,.int 0 0,.ref 393,.int 203 0,.int 0 0,.ref 400,.int 220 0,.int 0 0,.ref 405,.int 222 0,.int 0 0,.ref 410]),#[]⟩
noncomputable def zzq8_320 (P:Params) : Obj:=⟨(.type "tuple"),none,(.seq #[.none]),#[]⟩
noncomputable def zzq8_321 (P:Params) : Obj:=⟨(.type "tuple"),none,(.seq #[]),#[]⟩
noncomputable def zzq8_322 (P:Params) : Obj:=⟨(.none),none,(.fields #[]),#[]⟩
noncomputable def zzq8_323 (P:Params) : Obj:=⟨(.type "tuple"),none,(.seq #[.str (os "words") 628,.str (os "count") 629,.str (os "nodes") 630,.str (os "pending") 631,.str (os "word") 632]),#[]⟩
noncomputable def zzq8_324 (P:Params) : Obj:=⟨(.type "tuple"),none,(.seq #[]),#[]⟩
noncomputable def zzq8_325 (P:Params) : Obj:=gA "tree_of" "tree_of" (top 46)
noncomputable def zzq8_326 (P:Params) : Obj:=cO "tree_of" 625 626 627 127 2 3 321 181 322 323 324 325 633 127 634
noncomputable def zzq8_327 (P:Params) : Obj:=gB "tree_of" "tree_of" (top 46) (.ref 320) "trueleaf.trees" 621 326
noncomputable def zzq8_328 (P:Params) : Obj:=⟨(.type "tuple"),none,(.seq #[]),#[]⟩
noncomputable def zzq8_329 (P:Params) : Obj:=⟨(.none),none,(.fields #[]),#[]⟩
noncomputable def zzq8_330 (P:Params) : Obj:=gA "copied" "copied" (top 47)
noncomputable def zzq8_331 (P:Params) : Obj:=⟨(.type "code"),none,(.fields #[.str (os "copied") 636,.str (os "copied") 637,.str (os "/claim/cut.py") 638,.int 146 0,.int 1 0,.int 0 0,.int 0 0,.int 3 0,.ref 328,.bool true,.int 181 0,.ref 329,.none,.none,.none,.ref 330,.int 639 0,.int 146 0,.str (os "/claim/cut.py") 640]),#[]⟩
noncomputable def zzq8_332 (P:Params) : Obj:=gB "copied" "copied" (top 47) (.none) "trueleaf.trees" 621 331
noncomputable def zzq8_333 (P:Params) : Obj:=⟨(.type "tuple"),none,(.seq #[]),#[]⟩
noncomputable def zzq8_334 (P:Params) : Obj:=⟨(.none),none,(.fields #[]),#[]⟩
noncomputable def zzq8_335 (P:Params) : Obj:=⟨(.type "tuple"),none,(.seq #[.str (os "word") 645]),#[]⟩
noncomputable def zzq8_336 (P:Params) : Obj:=⟨(.type "tuple"),none,(.seq #[]),#[]⟩
noncomputable def zzq8_337 (P:Params) : Obj:=gA "opens_call" "opens_call" (top 48)
noncomputable def zzq8_338 (P:Params) : Obj:=cO "opens_call" 642 643 644 154 1 3 333 181 334 335 336 337 646 154 647
noncomputable def zzq8_339 (P:Params) : Obj:=gB "opens_call" "opens_call" (top 48) (.none) "trueleaf.trees" 621 338
noncomputable def zzq8_340 (P:Params) : Obj:=⟨(.type "tuple"),none,(.seq #[]),#[]⟩
noncomputable def zzq8_341 (P:Params) : Obj:=⟨(.none),none,(.fields #[]),#[]⟩
noncomputable def zzq8_342 (P:Params) : Obj:=⟨(.type "tuple"),none,(.seq #[.str (os "call") 652,.str (os "last") 653,.str (os "arguments") 654,.str (os "nodes") 655]),#[]⟩
noncomputable def zzq8_343 (P:Params) : Obj:=⟨(.type "tuple"),none,(.seq #[]),#[]⟩
noncomputable def zzq8_344 (P:Params) : Obj:=gA "with_closed" "with_closed" (top 49)
noncomputable def zzq8_345 (P:Params) : Obj:=cO "with_closed" 649 650 651 156 2 3 340 181 341 342 343 344 656 156 657
noncomputable def zzq8_346 (P:Params) : Obj:=gB "with_closed" "with_closed" (top 49) (.none) "trueleaf.trees" 621 345
noncomputable def zzq8_347 (P:Params) : Obj:=⟨(.type "tuple"),none,(.seq #[]),#[]⟩
noncomputable def zzq8_348 (P:Params) : Obj:=⟨(.none),none,(.fields #[]),#[]⟩
noncomputable def zzq8_349 (P:Params) : Obj:=⟨(.type "tuple"),none,(.seq #[.str (os "word") 662,.str (os "count") 663,.str (os "k") 664]),#[]⟩
noncomputable def zzq8_350 (P:Params) : Obj:=⟨(.type "tuple"),none,(.seq #[]),#[]⟩
noncomputable def zzq8_351 (P:Params) : Obj:=gA "node_of" "node_of" (top 50)
noncomputable def zzq8_352 (P:Params) : Obj:=cO "node_of" 659 660 661 163 2 3 347 181 348 349 350 351 665 163 666
noncomputable def zzq8_353 (P:Params) : Obj:=gB "node_of" "node_of" (top 50) (.none) "trueleaf.trees" 621 352
noncomputable def zzq8_354 (P:Params) : Obj:=⟨(.type "tuple"),none,(.seq #[]),#[]⟩
noncomputable def zzq8_355 (P:Params) : Obj:=⟨(.none),none,(.fields #[]),#[]⟩
noncomputable def zzq8_356 (P:Params) : Obj:=⟨(.type "tuple"),none,(.seq #[.str (os "word") 671]),#[]⟩
noncomputable def zzq8_357 (P:Params) : Obj:=⟨(.type "tuple"),none,(.seq #[]),#[]⟩
noncomputable def zzq8_358 (P:Params) : Obj:=gA "looks_like_place" "looks_like_place" (top 51)
noncomputable def zzq8_359 (P:Params) : Obj:=cO "looks_like_place" 668 669 670 170 1 3 354 181 355 356 357 358 672 170 673
noncomputable def zzq8_360 (P:Params) : Obj:=gB "looks_like_place" "looks_like_place" (top 51) (.none) "trueleaf.trees" 621 359
noncomputable def zzq8_361 (P:Params) : Obj:=⟨(.type "tuple"),none,(.seq #[.int 0 683]),#[]⟩
noncomputable def zzq8_362 (P:Params) : Obj:=⟨(.type "tuple"),none,(.seq #[]),#[]⟩
noncomputable def zzq8_363 (P:Params) : Obj:=⟨(.none),none,(.fields #[]),#[]⟩
noncomputable def zzq8_364 (P:Params) : Obj:=⟨(.type "tuple"),none,(.seq #[.str (os "shorts") 687,.str (os "nodes") 688,.str (os "count") 689]),#[]⟩
noncomputable def zzq8_365 (P:Params) : Obj:=⟨(.type "tuple"),none,(.seq #[]),#[]⟩
noncomputable def zzq8_366 (P:Params) : Obj:=gA "size_of" "size_of" (top 56)
noncomputable def zzq8_367 (P:Params) : Obj:=cO "size_of" 684 685 686 176 3 3 362 181 363 364 365 366 690 176 691
noncomputable def zzq8_368 (P:Params) : Obj:=gB "size_of" "size_of" (top 56) (.ref 361) "trueleaf.shorts" 675 367
noncomputable def zzq8_369 (P:Params) : Obj:=⟨(.type "tuple"),none,(.seq #[]),#[]⟩
noncomputable def zzq8_370 (P:Params) : Obj:=⟨(.none),none,(.fields #[]),#[]⟩
noncomputable def zzq8_371 (P:Params) : Obj:=⟨(.type "tuple"),none,(.seq #[.str (os "shorts") 696,.str (os "name") 697,.str (os "count") 698,.str (os "nodes") 699,.str (os "size") 700,.str (os "row") 701,.str (os "calls") 702]),#[]⟩
noncomputable def zzq8_372 (P:Params) : Obj:=⟨(.type "tuple"),none,(.seq #[]),#[]⟩
noncomputable def zzq8_373 (P:Params) : Obj:=gA "new_short" "new_short" (top 57)
noncomputable def zzq8_374 (P:Params) : Obj:=cO "new_short" 693 694 695 178 4 3 369 181 370 371 372 373 703 178 704
noncomputable def zzq8_375 (P:Params) : Obj:=gB "new_short" "new_short" (top 57) (.none) "trueleaf.shorts" 675 374
noncomputable def zzq8_376 (P:Params) : Obj:=⟨(.type "tuple"),none,(.seq #[]),#[]⟩
noncomputable def zzq8_377 (P:Params) : Obj:=⟨(.none),none,(.fields #[]),#[]⟩
noncomputable def zzq8_378 (P:Params) : Obj:=⟨(.type "tuple"),none,(.seq #[.str (os "shorts") 709,.str (os "nodes") 710,.str (os "named") 711,.str (os "size") 712]),#[]⟩
noncomputable def zzq8_379 (P:Params) : Obj:=⟨(.type "tuple"),none,(.seq #[]),#[]⟩
noncomputable def zzq8_380 (P:Params) : Obj:=gA "put_out" "put_out" (top 58)
noncomputable def zzq8_381 (P:Params) : Obj:=cO "put_out" 706 707 708 187 2 3 376 181 377 378 379 380 713 187 714
noncomputable def zzq8_382 (P:Params) : Obj:=gB "put_out" "put_out" (top 58) (.none) "trueleaf.shorts" 675 381
noncomputable def zzq8_383 (P:Params) : Obj:=⟨(.type "tuple"),none,(.seq #[]),#[]⟩
noncomputable def zzq8_384 (P:Params) : Obj:=⟨(.none),none,(.fields #[]),#[]⟩
noncomputable def zzq8_385 (P:Params) : Obj:=gA "by_name" "by_name" (top 59)
noncomputable def zzq8_386 (P:Params) : Obj:=⟨(.type "code"),none,(.fields #[.str (os "by_name") 716,.str (os "by_name") 717,.str (os "/claim/cut.py") 718,.int 193 0,.int 1 0,.int 0 0,.int 0 0,.int 3 0,.ref 383,.bool true,.int 181 0,.ref 384,.none,.none,.none,.ref 385,.int 719 0,.int 193 0,.str (os "/claim/cut.py") 720]),#[]⟩
noncomputable def zzq8_387 (P:Params) : Obj:=gB "by_name" "by_name" (top 59) (.none) "trueleaf.shorts" 675 386
noncomputable def zzq8_388 (P:Params) : Obj:=⟨(.type "tuple"),none,(.seq #[]),#[]⟩
noncomputable def zzq8_389 (P:Params) : Obj:=⟨(.none),none,(.fields #[]),#[]⟩
noncomputable def zzq8_390 (P:Params) : Obj:=⟨(.type "tuple"),none,(.seq #[.str (os "named") 725,.str (os "call") 726,.str (os "name") 727,.str (os "short") 728]),#[]⟩
noncomputable def zzq8_391 (P:Params) : Obj:=⟨(.type "tuple"),none,(.seq #[]),#[]⟩
noncomputable def zzq8_392 (P:Params) : Obj:=gA "short_called" "short_called" (top 60)
noncomputable def zzq8_393 (P:Params) : Obj:=cO "short_called" 722 723 724 195 2 3 388 181 389 390 391 392 729 195 730
noncomputable def zzq8_394 (P:Params) : Obj:=gB "short_called" "short_called" (top 60) (.none) "trueleaf.shorts" 675 393
noncomputable def zzq8_395 (P:Params) : Obj:=⟨(.type "tuple"),none,(.seq #[]),#[]⟩
noncomputable def zzq8_396 (P:Params) : Obj:=⟨(.none),none,(.fields #[]),#[]⟩
noncomputable def zzq8_397 (P:Params) : Obj:=⟨(.type "tuple"),none,(.seq #[.str (os "named") 735,.str (os "nodes") 736,.str (os "count") 737,.str (os "row") 738,.str (os "calls") 739,.str (os "node") 740,.str (os "short") 741,.str (os "k") 742,.str (os "argument") 743,.str (os "size") 744]),#[]⟩
noncomputable def zzq8_398 (P:Params) : Obj:=⟨(.type "tuple"),none,(.seq #[]),#[]⟩
noncomputable def zzq8_399 (P:Params) : Obj:=gA "size_among" "size_among" (top 61)
noncomputable def zzq8_400 (P:Params) : Obj:=cO "size_among" 732 733 734 203 3 3 395 181 396 397 398 399 745 203 746
noncomputable def zzq8_401 (P:Params) : Obj:=gB "size_among" "size_among" (top 61) (.none) "trueleaf.shorts" 675 400
noncomputable def zzq8_402 (P:Params) : Obj:=⟨(.type "tuple"),none,(.seq #[]),#[]⟩
noncomputable def zzq8_403 (P:Params) : Obj:=⟨(.none),none,(.fields #[]),#[]⟩
noncomputable def zzq8_404 (P:Params) : Obj:=gA "sum_of_rows" "sum_of_rows" (top 62)
noncomputable def zzq8_405 (P:Params) : Obj:=⟨(.type "code"),none,(.fields #[.str (os "sum_of_rows") 748,.str (os "sum_of_rows") 749,.str (os "/claim/cut.py") 750,.int 220 0,.int 3 0,.int 0 0,.int 0 0,.int 3 0,.ref 402,.bool true,.int 181 0,.ref 403,.none,.none,.none,.ref 404,.int 751 0,.int 220 0,.str (os "/claim/cut.py") 752]),#[]⟩
noncomputable def zzq8_406 (P:Params) : Obj:=gB "sum_of_rows" "sum_of_rows" (top 62) (.none) "trueleaf.shorts" 675 405
noncomputable def zzq8_407 (P:Params) : Obj:=⟨(.type "tuple"),none,(.seq #[]),#[]⟩
noncomputable def zzq8_408 (P:Params) : Obj:=⟨(.none),none,(.fields #[]),#[]⟩
noncomputable def zzq8_409 (P:Params) : Obj:=gA "words_out" "words_out" (top 63)
noncomputable def zzq8_410 (P:Params) : Obj:=⟨(.type "code"),none,(.fields #[.str (os "words_out") 754,.str (os "words_out") 755,.str (os "/claim/cut.py") 756,.int 222 0,.int 3 0,.int 0 0,.int 0 0,.int 3 0,.ref 407,.bool true,.int 181 0,.ref 408,.none,.none,.none,.ref 409,.int 757 0,.int 222 0,.str (os "/claim/cut.py") 758]),#[]⟩
noncomputable def zzq8_411 (P:Params) : Obj:=gB "words_out" "words_out" (top 63) (.none) "trueleaf.shorts" 675 410
noncomputable def zzq8_412 (P:Params) : Obj:=⟨(.type "tuple"),none,(.seq #[.str (os ".page") 762,.str (os ".odd") 763,.str (os ".list") 764]),#[]⟩
noncomputable def zzq8_413 (P:Params) : Obj:=⟨(.type "tuple"),none,(.seq #[.str (os "=") 766,.str (os "==") 767,.str (os "===") 768]),#[]⟩
noncomputable def zzhY38 (P:Params) (t:List Obj) : List Obj:=PySem.W.boot_o_0 P :: PySem.W.boot_o_1 P :: PySem.W.boot_o_2 P :: zzq8_3 P :: PySem.W.boot_o_4 P :: PySem.W.boot_o_5 P :: PySem.W.boot_o_6 P :: PySem.W.boot_o_7 P :: PySem.W.boot_o_8 P :: PySem.W.boot_o_9 P :: PySem.W.boot_o_10 P :: zzqA_11 P :: zzq8_12 P :: zzqA_13 P :: zzqA_14 P :: zzq1_15 P :: t
noncomputable def zzhY39 (P:Params) (t:List Obj) : List Obj:=zzq8_320 P :: zzq8_321 P :: zzq8_322 P :: zzq8_323 P :: zzq8_324 P :: zzq8_325 P :: zzq8_326 P :: zzq8_327 P :: zzq8_328 P :: zzq8_329 P :: zzq8_330 P :: zzq8_331 P :: zzq8_332 P :: zzq8_333 P :: zzq8_334 P :: zzq8_335 P :: t
noncomputable def zzhY40 (P:Params) (t:List Obj) : List Obj:=zzq8_336 P :: zzq8_337 P :: zzq8_338 P :: zzq8_339 P :: zzq8_340 P :: zzq8_341 P :: zzq8_342 P :: zzq8_343 P :: zzq8_344 P :: zzq8_345 P :: zzq8_346 P :: zzq8_347 P :: zzq8_348 P :: zzq8_349 P :: zzq8_350 P :: zzq8_351 P :: t
noncomputable def zzhY41 (P:Params) (t:List Obj) : List Obj:=zzq8_352 P :: zzq8_353 P :: zzq8_354 P :: zzq8_355 P :: zzq8_356 P :: zzq8_357 P :: zzq8_358 P :: zzq8_359 P :: zzq8_360 P :: zzq8_361 P :: zzq8_362 P :: zzq8_363 P :: zzq8_364 P :: zzq8_365 P :: zzq8_366 P :: zzq8_367 P :: t
noncomputable def zzhY42 (P:Params) (t:List Obj) : List Obj:=zzq8_368 P :: zzq8_369 P :: zzq8_370 P :: zzq8_371 P :: zzq8_372 P :: zzq8_373 P :: zzq8_374 P :: zzq8_375 P :: zzq8_376 P :: zzq8_377 P :: zzq8_378 P :: zzq8_379 P :: zzq8_380 P :: zzq8_381 P :: zzq8_382 P :: zzq8_383 P :: t
noncomputable def zzhY43 (P:Params) (t:List Obj) : List Obj:=zzq8_384 P :: zzq8_385 P :: zzq8_386 P :: zzq8_387 P :: zzq8_388 P :: zzq8_389 P :: zzq8_390 P :: zzq8_391 P :: zzq8_392 P :: zzq8_393 P :: zzq8_394 P :: zzq8_395 P :: zzq8_396 P :: zzq8_397 P :: zzq8_398 P :: zzq8_399 P :: t
noncomputable def zzhY44 (P:Params) (t:List Obj) : List Obj:=zzq8_400 P :: zzq8_401 P :: zzq8_402 P :: zzq8_403 P :: zzq8_404 P :: zzq8_405 P :: zzq8_406 P :: zzq8_407 P :: zzq8_408 P :: zzq8_409 P :: zzq8_410 P :: zzq8_411 P :: zzq8_412 P :: zzq8_413 P :: t
noncomputable def zzh8 (P:Params) : Heap:=⟨⟨(zzhY38 P (zzhY27 P (zzhY3 P (zzhY7 P (zzhY8 P (zzhY12 P (zzhY13 P (zzhY14 P (zzhY18 P (zzhY19 P (zzhY23 P (zzhY24 P (zzhY28 P (zzhY29 P (zzhY30 P (zzhY33 P (zzhY34 P (zzhY35 P (zzhY36 P (zzhY37 P (zzhY39 P (zzhY40 P (zzhY41 P (zzhY42 P (zzhY43 P (zzhY44 P []))))))))))))))))))))))))))⟩,{}⟩
noncomputable def zzhZ15 (P:Params) (t:List DictEntry) : List DictEntry:=⟨kh P (os "sum_of_rows"),(.str (os "sum_of_rows") 753),(.ref 406)⟩ :: ⟨kh P (os "words_out"),(.str (os "words_out") 759),(.ref 411)⟩ :: ⟨kh P (os "ALONE"),(.str (os "ALONE") 765),(.ref 412)⟩ :: ⟨kh P (os "HEADS"),(.str (os "HEADS") 769),(.ref 413)⟩ :: ⟨kh P (os "MOST_FOOT_WORDS"),(.str (os "MOST_FOOT_WORDS") 771),(.int 39 770)⟩ :: ⟨kh P (os "read_rows"),(.str (os "read_rows") 780),(.ref 420)⟩ :: ⟨kh P (os "Reader"),(.str (os "Reader") 868),(.ref 482)⟩ :: ⟨kh P (os "is_figure"),(.str (os "is_figure") 875),(.ref 493)⟩ :: t
noncomputable def zzq9_3 (P:Params) : Obj:=⟨(.type "dict"),none,.dict (List.toArray (zzhZ11 P (zzhZ1 P (zzhZ3 P (zzhZ8 P (zzhZ9 P (zzhZ10 P (zzhZ12 P (zzhZ13 P (zzhZ15 P [])))))))))) 72,#[]⟩
noncomputable def zzq9_12 (P:Params) : Obj:=⟨(.none),none,(.fields #[.int 1 0,.int 0 0,.ref 20,.int 5 0,.int 0 0,.ref 27,.int 7 0,.int 0 0,.ref 40,.int 9 0,.int 0 0,.ref 52,.int 11 0,.int 0 0,.ref 64,.int 13 0,.int 0 0,.ref 76,.int 15 0,.int 0 0,.ref 88,.int 17 0,.int 0 0,.ref 100,.int 19 0,.int 0 0,.ref 112,.int 21 0,.int 0 0,.ref 124,.int 23 0,.int 0 0,.ref 136,.int 25 0,.int 0 0,.ref 148,.int 27 0,.int 0 0,.ref 160,.int 29 0,.int 0 0,.ref 172,.int 31 0,.int 0 0,.ref 184,.int 33 0,.int 0 0,.ref 196,.int 35 0,.int 0 0,.ref 208,.int 37 0,.int 0 0,.ref 220,.int 42 0,.int 0 0,.ref 232,.int 47 0,.int 0 0,.ref 239,.int 55 0,.int 0 0,.ref 245,.int 57 0,.int 0 0,.ref 250,.int 61 0,.int 0 0,.ref 257,.int 63 0,.int 0 0,.ref 264,.int 73 0,.int 0 0,.ref 271,.int 75 0,.int 0 0,.ref 278,.int 83 0,.int 0 0,.ref 285,.int 85 0,.int 0 0,.ref 292,.int 87 0,.int 0 0,.ref 299,.int 99 0,.int 0 0,.ref 306,.int 108 0,.int 0 0,.ref 313,.int 118 0,.int 0 0,.ref 318,.int 127 0,.int 0 0,.ref 326,.int 146 0,.int 0 0,.ref 331,.int 154 0,.int 0 0,.ref 338,.int 156 0,.int 0 0,.ref 345,.int 163 0,.int 0 0,.ref 352,.int 170 0,.int 0 0,.ref 359,.int 176 0,.int 0 0,.ref 367,.int 178 0,.int 0 0,.ref 374,.int 187 0,.int 0 0,.ref 381,.int 193 0,.int 0 0,.ref 386,.int 195 0,.int 0 0,.ref 393,.int 203 0,.int 0 0,.ref 400,.int 220 0,.int 0 0,.ref 405,.int 222 0,.int 0 0,.ref 410,.int 237 0,.int 0 0,.ref 419,.int 242 0,.int 0 0,.ref 426,.int 314 0,.int 0 0,.ref 492]),#[]⟩
noncomputable def zzq9_414 (P:Params) : Obj:=⟨(.type "tuple"),none,(.seq #[]),#[]⟩
noncomputable def zzq9_415 (P:Params) : Obj:=⟨(.none),none,(.fields #[]),#[]⟩
noncomputable def zzq9_416 (P:Params) : Obj:=⟨(.type "tuple"),none,(.seq #[.str (os "rows") 775,.str (os "reader") 776,.str (os "row") 777]),#[]⟩
noncomputable def zzq9_417 (P:Params) : Obj:=⟨(.type "tuple"),none,(.seq #[]),#[]⟩
noncomputable def zzq9_418 (P:Params) : Obj:=gA "read_rows" "read_rows" (top 68)
noncomputable def zzq9_419 (P:Params) : Obj:=cO "read_rows" 772 773 774 237 1 3 414 181 415 416 417 418 778 237 779
noncomputable def zzq9_420 (P:Params) : Obj:=gB "read_rows" "read_rows" (top 68) (.none) "trueleaf.reading" 760 419
noncomputable def zzq9_421 (P:Params) : Obj:=⟨(.type "tuple"),none,(.seq #[]),#[]⟩
noncomputable def zzq9_422 (P:Params) : Obj:=⟨(.type "builtin_function_or_method"),none,(.fields #[.builtin "type.__prepare__",.type "type"]),#[]⟩
noncomputable def zzq9_423 (P:Params) : Obj:=⟨(.type "dict"),none,.dict (List.toArray (⟨kh P (os "__module__"),(.str (os "__module__") 788),(.str (os "trueleaf.reading") 760)⟩ :: ⟨kh P (os "__qualname__"),(.str (os "__qualname__") 790),(.str (os "Reader") 789)⟩ :: ⟨kh P (os "__firstlineno__"),(.str (os "__firstlineno__") 792),(.int 242 791)⟩ :: ⟨kh P (os "__init__"),(.str (os "__init__") 799),(.ref 434)⟩ :: ⟨kh P (os "read_row"),(.str (os "read_row") 808),(.ref 441)⟩ :: ⟨kh P (os "read_let"),(.str (os "read_let") 814),(.ref 446)⟩ :: ⟨kh P (os "read_foot"),(.str (os "read_foot") 824),(.ref 453)⟩ :: ⟨kh P (os "read_alone"),(.str (os "read_alone") 833),(.ref 460)⟩ :: ⟨kh P (os "read_words"),(.str (os "read_words") 842),(.ref 467)⟩ :: ⟨kh P (os "add_thing"),(.str (os "add_thing") 850),(.ref 474)⟩ :: ⟨kh P (os "words_out"),(.str (os "words_out") 856),(.ref 479)⟩ :: ⟨kh P (os "__static_attributes__"),(.str (os "__static_attributes__") 861),(.ref 480)⟩ :: [])) 12,#[]⟩
noncomputable def zzq9_424 (P:Params) : Obj:=⟨(.type "tuple"),none,(.seq #[]),#[]⟩
noncomputable def zzq9_425 (P:Params) : Obj:=⟨(.none),none,(.fields #[.int 244 0,.int 4 0,.ref 433,.int 250 0,.int 4 0,.ref 440,.int 268 0,.int 4 0,.ref 445,.int 277 0,.int 4 0,.ref 452,.int 288 0,.int 4 0,.ref 459,.int 294 0,.int 4 0,.ref 466,.int 302 0,.int 4 0,.ref 473,.int 306 0,.int 4 0,.ref 478]),#[]⟩
noncomputable def zzq9_426 (P:Params) : Obj:=⟨(.type "code"),none,(.fields #[.str (os "Reader") 783,.str (os "Reader") 784,.str (os "/claim/cut.py") 785,.int 242 0,.int 0 0,.int 0 0,.int 0 0,.int 0 0,.ref 424,.bool false,.int 181 0,.ref 425,.none,.none,.none,.none,.int 786 0,.int 242 0,.str (os "/claim/cut.py") 787]),#[]⟩
noncomputable def zzq9_427 (P:Params) : Obj:=⟨(.type "frame"),none,(.plain),#[Option.some (.ref 426),Option.some (.ref 3),Option.some (.ref 423),none,Option.some (.str (os "trueleaf.reading") 760),none,Option.some (.ref 0)]⟩
noncomputable def zzq9_428 (P:Params) : Obj:=⟨(.type "tuple"),none,(.seq #[]),#[]⟩
noncomputable def zzq9_429 (P:Params) : Obj:=⟨(.none),none,(.fields #[]),#[]⟩
noncomputable def zzq9_430 (P:Params) : Obj:=⟨(.type "tuple"),none,(.seq #[.str (os "self") 796]),#[]⟩
noncomputable def zzq9_431 (P:Params) : Obj:=⟨(.type "tuple"),none,(.seq #[]),#[]⟩
noncomputable def zzq9_432 (P:Params) : Obj:=gA "__init__" "Reader.__init__" (mtop 69 0)
noncomputable def zzq9_433 (P:Params) : Obj:=cM "__init__" "Reader.__init__" 793 794 795 244 1 3 428 181 429 430 431 432 797 244 798
noncomputable def zzq9_434 (P:Params) : Obj:=gB "__init__" "Reader.__init__" (mtop 69 0) (.none) "trueleaf.reading" 760 433
noncomputable def zzq9_435 (P:Params) : Obj:=⟨(.type "tuple"),none,(.seq #[]),#[]⟩
noncomputable def zzq9_436 (P:Params) : Obj:=⟨(.none),none,(.fields #[]),#[]⟩
noncomputable def zzq9_437 (P:Params) : Obj:=⟨(.type "tuple"),none,(.seq #[.str (os "self") 803,.str (os "words") 804,.str (os "first") 805]),#[]⟩
noncomputable def zzq9_438 (P:Params) : Obj:=⟨(.type "tuple"),none,(.seq #[]),#[]⟩
noncomputable def zzq9_439 (P:Params) : Obj:=gA "read_row" "Reader.read_row" (mtop 69 1)
noncomputable def zzq9_440 (P:Params) : Obj:=cM "read_row" "Reader.read_row" 800 801 802 250 2 3 435 181 436 437 438 439 806 250 807
noncomputable def zzq9_441 (P:Params) : Obj:=gB "read_row" "Reader.read_row" (mtop 69 1) (.none) "trueleaf.reading" 760 440
noncomputable def zzq9_442 (P:Params) : Obj:=⟨(.type "tuple"),none,(.seq #[]),#[]⟩
noncomputable def zzq9_443 (P:Params) : Obj:=⟨(.none),none,(.fields #[]),#[]⟩
noncomputable def zzq9_444 (P:Params) : Obj:=gA "read_let" "Reader.read_let" (mtop 69 2)
noncomputable def zzq9_445 (P:Params) : Obj:=⟨(.type "code"),none,(.fields #[.str (os "read_let") 809,.str (os "Reader.read_let") 810,.str (os "/claim/cut.py") 811,.int 268 0,.int 2 0,.int 0 0,.int 0 0,.int 3 0,.ref 442,.bool true,.int 181 0,.ref 443,.none,.none,.none,.ref 444,.int 812 0,.int 268 0,.str (os "/claim/cut.py") 813]),#[]⟩
noncomputable def zzq9_446 (P:Params) : Obj:=gB "read_let" "Reader.read_let" (mtop 69 2) (.none) "trueleaf.reading" 760 445
noncomputable def zzq9_447 (P:Params) : Obj:=⟨(.type "tuple"),none,(.seq #[]),#[]⟩
noncomputable def zzq9_448 (P:Params) : Obj:=⟨(.none),none,(.fields #[]),#[]⟩
noncomputable def zzq9_449 (P:Params) : Obj:=⟨(.type "tuple"),none,(.seq #[.str (os "self") 818,.str (os "words") 819,.str (os "name") 820,.str (os "text") 821]),#[]⟩
noncomputable def zzq9_450 (P:Params) : Obj:=⟨(.type "tuple"),none,(.seq #[]),#[]⟩
noncomputable def zzq9_451 (P:Params) : Obj:=gA "read_foot" "Reader.read_foot" (mtop 69 3)
noncomputable def zzq9_452 (P:Params) : Obj:=cM "read_foot" "Reader.read_foot" 815 816 817 277 2 3 447 181 448 449 450 451 822 277 823
noncomputable def zzq9_453 (P:Params) : Obj:=gB "read_foot" "Reader.read_foot" (mtop 69 3) (.none) "trueleaf.reading" 760 452
noncomputable def zzq9_454 (P:Params) : Obj:=⟨(.type "tuple"),none,(.seq #[]),#[]⟩
noncomputable def zzq9_455 (P:Params) : Obj:=⟨(.none),none,(.fields #[]),#[]⟩
noncomputable def zzq9_456 (P:Params) : Obj:=⟨(.type "tuple"),none,(.seq #[.str (os "self") 828,.str (os "words") 829,.str (os "first") 830]),#[]⟩
noncomputable def zzq9_457 (P:Params) : Obj:=⟨(.type "tuple"),none,(.seq #[]),#[]⟩
noncomputable def zzq9_458 (P:Params) : Obj:=gA "read_alone" "Reader.read_alone" (mtop 69 4)
noncomputable def zzq9_459 (P:Params) : Obj:=cM "read_alone" "Reader.read_alone" 825 826 827 288 2 3 454 181 455 456 457 458 831 288 832
noncomputable def zzq9_460 (P:Params) : Obj:=gB "read_alone" "Reader.read_alone" (mtop 69 4) (.none) "trueleaf.reading" 760 459
noncomputable def zzq9_461 (P:Params) : Obj:=⟨(.type "tuple"),none,(.seq #[]),#[]⟩
noncomputable def zzq9_462 (P:Params) : Obj:=⟨(.none),none,(.fields #[]),#[]⟩
noncomputable def zzq9_463 (P:Params) : Obj:=⟨(.type "tuple"),none,(.seq #[.str (os "self") 837,.str (os "words") 838,.str (os "read") 839]),#[]⟩
noncomputable def zzq9_464 (P:Params) : Obj:=⟨(.type "tuple"),none,(.seq #[]),#[]⟩
noncomputable def zzq9_465 (P:Params) : Obj:=gA "read_words" "Reader.read_words" (mtop 69 5)
noncomputable def zzq9_466 (P:Params) : Obj:=cM "read_words" "Reader.read_words" 834 835 836 294 2 3 461 181 462 463 464 465 840 294 841
noncomputable def zzq9_467 (P:Params) : Obj:=gB "read_words" "Reader.read_words" (mtop 69 5) (.none) "trueleaf.reading" 760 466
noncomputable def zzq9_468 (P:Params) : Obj:=⟨(.type "tuple"),none,(.seq #[]),#[]⟩
noncomputable def zzq9_469 (P:Params) : Obj:=⟨(.none),none,(.fields #[]),#[]⟩
noncomputable def zzq9_470 (P:Params) : Obj:=⟨(.type "tuple"),none,(.seq #[.str (os "self") 846,.str (os "thing") 847]),#[]⟩
noncomputable def zzq9_471 (P:Params) : Obj:=⟨(.type "tuple"),none,(.seq #[]),#[]⟩
noncomputable def zzq9_472 (P:Params) : Obj:=gA "add_thing" "Reader.add_thing" (mtop 69 6)
noncomputable def zzq9_473 (P:Params) : Obj:=cM "add_thing" "Reader.add_thing" 843 844 845 302 2 3 468 181 469 470 471 472 848 302 849
noncomputable def zzq9_474 (P:Params) : Obj:=gB "add_thing" "Reader.add_thing" (mtop 69 6) (.none) "trueleaf.reading" 760 473
noncomputable def zzq9_475 (P:Params) : Obj:=⟨(.type "tuple"),none,(.seq #[]),#[]⟩
noncomputable def zzq9_476 (P:Params) : Obj:=⟨(.none),none,(.fields #[]),#[]⟩
noncomputable def zzq9_477 (P:Params) : Obj:=gA "words_out" "Reader.words_out" (mtop 69 7)
noncomputable def zzq9_478 (P:Params) : Obj:=⟨(.type "code"),none,(.fields #[.str (os "words_out") 851,.str (os "Reader.words_out") 852,.str (os "/claim/cut.py") 853,.int 306 0,.int 3 0,.int 0 0,.int 0 0,.int 3 0,.ref 475,.bool true,.int 181 0,.ref 476,.none,.none,.none,.ref 477,.int 854 0,.int 306 0,.str (os "/claim/cut.py") 855]),#[]⟩
noncomputable def zzq9_479 (P:Params) : Obj:=gB "words_out" "Reader.words_out" (mtop 69 7) (.none) "trueleaf.reading" 760 478
noncomputable def zzq9_480 (P:Params) : Obj:=⟨(.type "tuple"),none,(.seq #[.str (os "feet") 857,.str (os "going_on") 858,.str (os "shorts") 859,.str (os "things") 860]),#[]⟩
noncomputable def zzq9_481 (P:Params) : Obj:=⟨(.type "dict"),none,.dict (List.toArray (⟨kh P (os "__module__"),(.str (os "__module__") 788),(.str (os "trueleaf.reading") 760)⟩ :: ⟨kh P (os "__firstlineno__"),(.str (os "__firstlineno__") 792),(.int 242 791)⟩ :: ⟨kh P (os "__init__"),(.str (os "__init__") 799),(.ref 434)⟩ :: ⟨kh P (os "read_row"),(.str (os "read_row") 808),(.ref 441)⟩ :: ⟨kh P (os "read_let"),(.str (os "read_let") 814),(.ref 446)⟩ :: ⟨kh P (os "read_foot"),(.str (os "read_foot") 824),(.ref 453)⟩ :: ⟨kh P (os "read_alone"),(.str (os "read_alone") 833),(.ref 460)⟩ :: ⟨kh P (os "read_words"),(.str (os "read_words") 842),(.ref 467)⟩ :: ⟨kh P (os "add_thing"),(.str (os "add_thing") 850),(.ref 474)⟩ :: ⟨kh P (os "words_out"),(.str (os "words_out") 856),(.ref 479)⟩ :: ⟨kh P (os "__static_attributes__"),(.str (os "__static_attributes__") 861),(.ref 480)⟩ :: ⟨kh P (os "__dict__"),(.str (os "__dict__") 863),(.ref 483)⟩ :: ⟨kh P (os "__weakref__"),(.str (os "__weakref__") 865),(.ref 484)⟩ :: ⟨kh P (os "__doc__"),(.str (os "__doc__") 866),(.none)⟩ :: [])) 4,#[]⟩
noncomputable def zzq9_482 (P:Params) : Obj:=⟨(.type "type"),none,(.cls (PySem.ClassData.mk (os "Reader") [.type "object"] [.ref 482,.type "object"] 481 (os "Reader") true [] [] false none false)),#[none,none,Option.some (.str (os "Reader") 781),Option.some (.str (os "Reader") 789),Option.some (.builtin "object.__new__"),Option.some (.bool true)]⟩
noncomputable def zzq9_483 (P:Params) : Obj:=⟨(.type "getset_descriptor"),none,(.fields #[.str (os "__dict__") 862,.ref 482,.builtin "function.__dict__",.builtin "function.__dict__#set"]),#[]⟩
noncomputable def zzq9_484 (P:Params) : Obj:=⟨(.type "getset_descriptor"),none,(.fields #[.str (os "__weakref__") 864,.ref 482,.builtin "ExceptionGroup.__weakref__",.none]),#[]⟩
noncomputable def zzq9_485 (P:Params) : Obj:=⟨(.type "super"),none,(.fields #[.ref 482,.ref 482,.ref 482]),#[]⟩
noncomputable def zzq9_486 (P:Params) : Obj:=⟨(.type "builtin_function_or_method"),none,(.fields #[.builtin "object.__init_subclass__",.ref 482]),#[]⟩
noncomputable def zzq9_487 (P:Params) : Obj:=⟨(.type "tuple"),none,(.seq #[]),#[]⟩
noncomputable def zzq9_488 (P:Params) : Obj:=⟨(.none),none,(.fields #[]),#[]⟩
noncomputable def zzq9_489 (P:Params) : Obj:=⟨(.type "tuple"),none,(.seq #[.str (os "word") 872]),#[]⟩
noncomputable def zzq9_490 (P:Params) : Obj:=⟨(.type "tuple"),none,(.seq #[]),#[]⟩
noncomputable def zzq9_491 (P:Params) : Obj:=gA "is_figure" "is_figure" (top 70)
noncomputable def zzq9_492 (P:Params) : Obj:=cO "is_figure" 869 870 871 314 1 3 487 181 488 489 490 491 873 314 874
noncomputable def zzq9_493 (P:Params) : Obj:=gB "is_figure" "is_figure" (top 70) (.none) "trueleaf.reading" 760 492
noncomputable def zzhY45 (P:Params) (t:List Obj) : List Obj:=PySem.W.boot_o_0 P :: PySem.W.boot_o_1 P :: PySem.W.boot_o_2 P :: zzq9_3 P :: PySem.W.boot_o_4 P :: PySem.W.boot_o_5 P :: PySem.W.boot_o_6 P :: PySem.W.boot_o_7 P :: PySem.W.boot_o_8 P :: PySem.W.boot_o_9 P :: PySem.W.boot_o_10 P :: zzqA_11 P :: zzq9_12 P :: zzqA_13 P :: zzqA_14 P :: zzq1_15 P :: t
noncomputable def zzhY46 (P:Params) (t:List Obj) : List Obj:=zzq8_400 P :: zzq8_401 P :: zzq8_402 P :: zzq8_403 P :: zzq8_404 P :: zzq8_405 P :: zzq8_406 P :: zzq8_407 P :: zzq8_408 P :: zzq8_409 P :: zzq8_410 P :: zzq8_411 P :: zzq8_412 P :: zzq8_413 P :: zzq9_414 P :: zzq9_415 P :: t
noncomputable def zzhY47 (P:Params) (t:List Obj) : List Obj:=zzq9_416 P :: zzq9_417 P :: zzq9_418 P :: zzq9_419 P :: zzq9_420 P :: zzq9_421 P :: zzq9_422 P :: zzq9_423 P :: zzq9_424 P :: zzq9_425 P :: zzq9_426 P :: zzq9_427 P :: zzq9_428 P :: zzq9_429 P :: zzq9_430 P :: zzq9_431 P :: t
noncomputable def zzhY48 (P:Params) (t:List Obj) : List Obj:=zzq9_432 P :: zzq9_433 P :: zzq9_434 P :: zzq9_435 P :: zzq9_436 P :: zzq9_437 P :: zzq9_438 P :: zzq9_439 P :: zzq9_440 P :: zzq9_441 P :: zzq9_442 P :: zzq9_443 P :: zzq9_444 P :: zzq9_445 P :: zzq9_446 P :: zzq9_447 P :: t
noncomputable def zzhY49 (P:Params) (t:List Obj) : List Obj:=zzq9_448 P :: zzq9_449 P :: zzq9_450 P :: zzq9_451 P :: zzq9_452 P :: zzq9_453 P :: zzq9_454 P :: zzq9_455 P :: zzq9_456 P :: zzq9_457 P :: zzq9_458 P :: zzq9_459 P :: zzq9_460 P :: zzq9_461 P :: zzq9_462 P :: zzq9_463 P :: t
noncomputable def zzhY50 (P:Params) (t:List Obj) : List Obj:=zzq9_464 P :: zzq9_465 P :: zzq9_466 P :: zzq9_467 P :: zzq9_468 P :: zzq9_469 P :: zzq9_470 P :: zzq9_471 P :: zzq9_472 P :: zzq9_473 P :: zzq9_474 P :: zzq9_475 P :: zzq9_476 P :: zzq9_477 P :: zzq9_478 P :: zzq9_479 P :: t
noncomputable def zzhY51 (P:Params) (t:List Obj) : List Obj:=zzq9_480 P :: zzq9_481 P :: zzq9_482 P :: zzq9_483 P :: zzq9_484 P :: zzq9_485 P :: zzq9_486 P :: zzq9_487 P :: zzq9_488 P :: zzq9_489 P :: zzq9_490 P :: zzq9_491 P :: zzq9_492 P :: zzq9_493 P :: t
noncomputable def zzh9 (P:Params) : Heap:=⟨⟨(zzhY45 P (zzhY27 P (zzhY3 P (zzhY7 P (zzhY8 P (zzhY12 P (zzhY13 P (zzhY14 P (zzhY18 P (zzhY19 P (zzhY23 P (zzhY24 P (zzhY28 P (zzhY29 P (zzhY30 P (zzhY33 P (zzhY34 P (zzhY35 P (zzhY36 P (zzhY37 P (zzhY39 P (zzhY40 P (zzhY41 P (zzhY42 P (zzhY43 P (zzhY46 P (zzhY47 P (zzhY48 P (zzhY49 P (zzhY50 P (zzhY51 P [])))))))))))))))))))))))))))))))⟩,{}⟩
noncomputable def zzhZ16 (P:Params) (t:List DictEntry) : List DictEntry:=⟨kh P (os "__name__"),(.str (os "__name__") 165),(.str (os "trueleaf.setting") 876)⟩ :: ⟨kh P (os "__doc__"),(.str (os "__doc__") 166),(.none)⟩ :: ⟨kh P (os "__package__"),(.str (os "__package__") 167),(.none)⟩ :: ⟨kh P (os "__loader__"),(.str (os "__loader__") 168),(.builtin "__main__.__loader__#opaque")⟩ :: ⟨kh P (os "__spec__"),(.str (os "__spec__") 169),(.none)⟩ :: ⟨kh P (os "__annotations__"),(.str (os "__annotations__") 170),(.ref 6)⟩ :: ⟨kh P (os "__builtins__"),(.str (os "__builtins__") 171),(.ref 4)⟩ :: ⟨kh P (os "__file__"),(.str (os "__file__") 173),(.str (os "/claim/cut.py") 172)⟩ :: t
noncomputable def zzhZ17 (P:Params) (t:List DictEntry) : List DictEntry:=⟨kh P (os "LEAPS"),(.str (os "LEAPS") 884),(.ref 494)⟩ :: ⟨kh P (os "POINTING"),(.str (os "POINTING") 888),(.ref 495)⟩ :: ⟨kh P (os "set_words"),(.str (os "set_words") 894),(.ref 500)⟩ :: ⟨kh P (os "Setter"),(.str (os "Setter") 1023),(.ref 586)⟩ :: t
noncomputable def zzq10_3 (P:Params) : Obj:=⟨(.type "dict"),none,.dict (List.toArray (zzhZ16 P (zzhZ1 P (zzhZ3 P (zzhZ8 P (zzhZ9 P (zzhZ10 P (zzhZ12 P (zzhZ13 P (zzhZ15 P (zzhZ17 P []))))))))))) 76,#[]⟩
noncomputable def zzq10_12 (P:Params) : Obj:=⟨(.none),none,(.fields #[.int 1 0,.int 0 0,.ref 20,.int 5 0,.int 0 0,.ref 27,.int 7 0,.int 0 0,.ref 40,.int 9 0,.int 0 0,.ref 52,.int 11 0,.int 0 0,.ref 64,.int 13 0,.int 0 0,.ref 76,.int 15 0,.int 0 0,.ref 88,.int 17 0,.int 0 0,.ref 100,.int 19 0,.int 0 0,.ref 112,.int 21 0,.int 0 0,.ref 124,.int 23 0,.int 0 0,.ref 136,.int 25 0,.int 0 0,.ref 148,.int 27 0,.int 0 0,.ref 160,.int 29 0,.int 0 0,.ref 172,.int 31 0,.int 0 0,.ref 184,.int 33 0,.int 0 0,.ref 196,.int 35 0,.int 0 0,.ref 208,.int 37 0,.int 0 0,.ref 220,.int 42 0,.int 0 0,.ref 232,.int 47 0,.int 0 0,.ref 239,.int 55 0,.int 0 0,.ref 245,.int 57 0,.int 0 0,.ref 250,.int 61 0,.int 0 0,.ref 257,.int 63 0,.int 0 0,.ref 264,.int 73 0,.int 0 0,.ref 271,.int 75 0,.int 0 0,.ref 278,.int 83 0,.int 0 0,.ref 285,.int 85 0,.int 0 0,.ref 292,.int 87 0,.int 0 0,.ref 299,.int 99 0,.int 0 0,.ref 306,.int 108 0,.int 0 0,.ref 313,.int 118 0,.int 0 0,.ref 318,.int 127 0,.int 0 0,.ref 326,.int 146 0,.int 0 0,.ref 331,.int 154 0,.int 0 0,.ref 338,.int 156 0,.int 0 0,.ref 345,.int 163 0,.int 0 0,.ref 352,.int 170 0,.int 0 0,.ref 359,.int 176 0,.int 0 0,.ref 367,.int 178 0,.int 0 0,.ref 374,.int 187 0,.int 0 0,.ref 381,.int 193 0,.int 0 0,.ref 386,.int 195 0,.int 0 0,.ref 393,.int 203 0,.int 0 0,.ref 400,.int 220 0,.int 0 0,.ref 405,.int 222 0,.int 0 0,.ref 410,.int 237 0,.int 0 0,.ref 419,.int 242 0,.int 0 0,.ref 426,.int 314 0,.int 0 0,.ref 492,.int 319 0,.int 0 0,.ref 499,.int 327 0,.int 0 0,.ref 506]),#[]⟩
noncomputable def zzq10_494 (P:Params) : Obj:=⟨(.type "dict"),none,.dict (List.toArray (⟨kh P (os "page"),(.str (os "page") 878),(.int 3 879)⟩ :: ⟨kh P (os "odd"),(.str (os "odd") 880),(.int 4 881)⟩ :: [])) 2,#[]⟩
noncomputable def zzq10_495 (P:Params) : Obj:=⟨(.type "tuple"),none,(.seq #[.str (os "number") 885,.str (os "page") 886,.str (os "row") 887]),#[]⟩
noncomputable def zzq10_496 (P:Params) : Obj:=⟨(.type "tuple"),none,(.seq #[]),#[]⟩
noncomputable def zzq10_497 (P:Params) : Obj:=⟨(.none),none,(.fields #[]),#[]⟩
noncomputable def zzq10_498 (P:Params) : Obj:=gA "set_words" "set_words" (top 74)
noncomputable def zzq10_499 (P:Params) : Obj:=⟨(.type "code"),none,(.fields #[.str (os "set_words") 889,.str (os "set_words") 890,.str (os "/claim/cut.py") 891,.int 319 0,.int 2 0,.int 0 0,.int 0 0,.int 3 0,.ref 496,.bool true,.int 181 0,.ref 497,.none,.none,.none,.ref 498,.int 892 0,.int 319 0,.str (os "/claim/cut.py") 893]),#[]⟩
noncomputable def zzq10_500 (P:Params) : Obj:=gB "set_words" "set_words" (top 74) (.none) "trueleaf.setting" 876 499
noncomputable def zzq10_501 (P:Params) : Obj:=⟨(.type "tuple"),none,(.seq #[]),#[]⟩
noncomputable def zzq10_502 (P:Params) : Obj:=⟨(.type "builtin_function_or_method"),none,(.fields #[.builtin "type.__prepare__",.type "type"]),#[]⟩
noncomputable def zzq10_503 (P:Params) : Obj:=⟨(.type "dict"),none,.dict (List.toArray (⟨kh P (os "__module__"),(.str (os "__module__") 902),(.str (os "trueleaf.setting") 876)⟩ :: ⟨kh P (os "__qualname__"),(.str (os "__qualname__") 904),(.str (os "Setter") 903)⟩ :: ⟨kh P (os "__firstlineno__"),(.str (os "__firstlineno__") 906),(.int 327 905)⟩ :: ⟨kh P (os "__init__"),(.str (os "__init__") 912),(.ref 512)⟩ :: ⟨kh P (os "set_thing"),(.str (os "set_thing") 921),(.ref 519)⟩ :: ⟨kh P (os "set_head"),(.str (os "set_head") 930),(.ref 526)⟩ :: ⟨kh P (os "set_list"),(.str (os "set_list") 936),(.ref 531)⟩ :: ⟨kh P (os "set_run"),(.str (os "set_run") 947),(.ref 538)⟩ :: ⟨kh P (os "set_mark"),(.str (os "set_mark") 955),(.ref 545)⟩ :: ⟨kh P (os "set_word"),(.str (os "set_word") 965),(.ref 552)⟩ :: ⟨kh P (os "next_foot"),(.str (os "next_foot") 973),(.ref 559)⟩ :: ⟨kh P (os "check_marks"),(.str (os "check_marks") 979),(.ref 564)⟩ :: ⟨kh P (os "words_told"),(.str (os "words_told") 985),(.ref 569)⟩ :: ⟨kh P (os "saying_of"),(.str (os "saying_of") 995),(.ref 576)⟩ :: ⟨kh P (os "number_at"),(.str (os "number_at") 1006),(.ref 583)⟩ :: ⟨kh P (os "__static_attributes__"),(.str (os "__static_attributes__") 1016),(.ref 584)⟩ :: [])) 16,#[]⟩
noncomputable def zzq10_504 (P:Params) : Obj:=⟨(.type "tuple"),none,(.seq #[]),#[]⟩
noncomputable def zzq10_505 (P:Params) : Obj:=⟨(.none),none,(.fields #[.int 329 0,.int 4 0,.ref 511,.int 340 0,.int 4 0,.ref 518,.int 353 0,.int 4 0,.ref 525,.int 358 0,.int 4 0,.ref 530,.int 365 0,.int 4 0,.ref 537,.int 374 0,.int 4 0,.ref 544,.int 379 0,.int 4 0,.ref 551,.int 391 0,.int 4 0,.ref 558,.int 397 0,.int 4 0,.ref 563,.int 408 0,.int 4 0,.ref 568,.int 414 0,.int 4 0,.ref 575,.int 425 0,.int 4 0,.ref 582]),#[]⟩
noncomputable def zzq10_506 (P:Params) : Obj:=⟨(.type "code"),none,(.fields #[.str (os "Setter") 897,.str (os "Setter") 898,.str (os "/claim/cut.py") 899,.int 327 0,.int 0 0,.int 0 0,.int 0 0,.int 0 0,.ref 504,.bool false,.int 181 0,.ref 505,.none,.none,.none,.none,.int 900 0,.int 327 0,.str (os "/claim/cut.py") 901]),#[]⟩
noncomputable def zzq10_507 (P:Params) : Obj:=⟨(.type "frame"),none,(.plain),#[Option.some (.ref 506),Option.some (.ref 3),Option.some (.ref 503),none,Option.some (.str (os "trueleaf.setting") 876),none,Option.some (.ref 0)]⟩
noncomputable def zzq10_508 (P:Params) : Obj:=⟨(.type "tuple"),none,(.seq #[]),#[]⟩
noncomputable def zzq10_509 (P:Params) : Obj:=⟨(.none),none,(.fields #[]),#[]⟩
noncomputable def zzq10_510 (P:Params) : Obj:=gA "__init__" "Setter.__init__" (mtop 75 0)
noncomputable def zzq10_511 (P:Params) : Obj:=⟨(.type "code"),none,(.fields #[.str (os "__init__") 907,.str (os "Setter.__init__") 908,.str (os "/claim/cut.py") 909,.int 329 0,.int 3 0,.int 0 0,.int 0 0,.int 3 0,.ref 508,.bool true,.int 181 0,.ref 509,.none,.none,.none,.ref 510,.int 910 0,.int 329 0,.str (os "/claim/cut.py") 911]),#[]⟩
noncomputable def zzq10_512 (P:Params) : Obj:=gB "__init__" "Setter.__init__" (mtop 75 0) (.none) "trueleaf.setting" 876 511
noncomputable def zzq10_513 (P:Params) : Obj:=⟨(.type "tuple"),none,(.seq #[]),#[]⟩
noncomputable def zzq10_514 (P:Params) : Obj:=⟨(.none),none,(.fields #[]),#[]⟩
noncomputable def zzq10_515 (P:Params) : Obj:=⟨(.type "tuple"),none,(.seq #[.str (os "self") 916,.str (os "thing") 917,.str (os "kind") 918]),#[]⟩
noncomputable def zzq10_516 (P:Params) : Obj:=⟨(.type "tuple"),none,(.seq #[]),#[]⟩
noncomputable def zzq10_517 (P:Params) : Obj:=gA "set_thing" "Setter.set_thing" (mtop 75 1)
noncomputable def zzq10_518 (P:Params) : Obj:=cM "set_thing" "Setter.set_thing" 913 914 915 340 2 3 513 181 514 515 516 517 919 340 920
noncomputable def zzq10_519 (P:Params) : Obj:=gB "set_thing" "Setter.set_thing" (mtop 75 1) (.none) "trueleaf.setting" 876 518
noncomputable def zzq10_520 (P:Params) : Obj:=⟨(.type "tuple"),none,(.seq #[]),#[]⟩
noncomputable def zzq10_521 (P:Params) : Obj:=⟨(.none),none,(.fields #[]),#[]⟩
noncomputable def zzq10_522 (P:Params) : Obj:=⟨(.type "tuple"),none,(.seq #[.str (os "self") 925,.str (os "k") 926,.str (os "number") 927]),#[]⟩
noncomputable def zzq10_523 (P:Params) : Obj:=⟨(.type "tuple"),none,(.seq #[]),#[]⟩
noncomputable def zzq10_524 (P:Params) : Obj:=gA "set_head" "Setter.set_head" (mtop 75 2)
noncomputable def zzq10_525 (P:Params) : Obj:=cM "set_head" "Setter.set_head" 922 923 924 353 2 3 520 181 521 522 523 524 928 353 929
noncomputable def zzq10_526 (P:Params) : Obj:=gB "set_head" "Setter.set_head" (mtop 75 2) (.none) "trueleaf.setting" 876 525
noncomputable def zzq10_527 (P:Params) : Obj:=⟨(.type "tuple"),none,(.seq #[]),#[]⟩
noncomputable def zzq10_528 (P:Params) : Obj:=⟨(.none),none,(.fields #[]),#[]⟩
noncomputable def zzq10_529 (P:Params) : Obj:=gA "set_list" "Setter.set_list" (mtop 75 3)
noncomputable def zzq10_530 (P:Params) : Obj:=⟨(.type "code"),none,(.fields #[.str (os "set_list") 931,.str (os "Setter.set_list") 932,.str (os "/claim/cut.py") 933,.int 358 0,.int 1 0,.int 0 0,.int 0 0,.int 3 0,.ref 527,.bool true,.int 181 0,.ref 528,.none,.none,.none,.ref 529,.int 934 0,.int 358 0,.str (os "/claim/cut.py") 935]),#[]⟩
noncomputable def zzq10_531 (P:Params) : Obj:=gB "set_list" "Setter.set_list" (mtop 75 3) (.none) "trueleaf.setting" 876 530
noncomputable def zzq10_532 (P:Params) : Obj:=⟨(.type "tuple"),none,(.seq #[]),#[]⟩
noncomputable def zzq10_533 (P:Params) : Obj:=⟨(.none),none,(.fields #[]),#[]⟩
noncomputable def zzq10_534 (P:Params) : Obj:=⟨(.type "tuple"),none,(.seq #[.str (os "self") 940,.str (os "lead") 941,.str (os "words") 942,.str (os "by_head") 943,.str (os "word") 944]),#[]⟩
noncomputable def zzq10_535 (P:Params) : Obj:=⟨(.type "tuple"),none,(.seq #[]),#[]⟩
noncomputable def zzq10_536 (P:Params) : Obj:=gA "set_run" "Setter.set_run" (mtop 75 4)
noncomputable def zzq10_537 (P:Params) : Obj:=cM "set_run" "Setter.set_run" 937 938 939 365 4 3 532 181 533 534 535 536 945 365 946
noncomputable def zzq10_538 (P:Params) : Obj:=gB "set_run" "Setter.set_run" (mtop 75 4) (.none) "trueleaf.setting" 876 537
noncomputable def zzq10_539 (P:Params) : Obj:=⟨(.type "tuple"),none,(.seq #[]),#[]⟩
noncomputable def zzq10_540 (P:Params) : Obj:=⟨(.none),none,(.fields #[]),#[]⟩
noncomputable def zzq10_541 (P:Params) : Obj:=⟨(.type "tuple"),none,(.seq #[.str (os "self") 951,.str (os "name") 952]),#[]⟩
noncomputable def zzq10_542 (P:Params) : Obj:=⟨(.type "tuple"),none,(.seq #[]),#[]⟩
noncomputable def zzq10_543 (P:Params) : Obj:=gA "set_mark" "Setter.set_mark" (mtop 75 5)
noncomputable def zzq10_544 (P:Params) : Obj:=cM "set_mark" "Setter.set_mark" 948 949 950 374 2 3 539 181 540 541 542 543 953 374 954
noncomputable def zzq10_545 (P:Params) : Obj:=gB "set_mark" "Setter.set_mark" (mtop 75 5) (.none) "trueleaf.setting" 876 544
noncomputable def zzq10_546 (P:Params) : Obj:=⟨(.type "tuple"),none,(.seq #[]),#[]⟩
noncomputable def zzq10_547 (P:Params) : Obj:=⟨(.none),none,(.fields #[]),#[]⟩
noncomputable def zzq10_548 (P:Params) : Obj:=⟨(.type "tuple"),none,(.seq #[.str (os "self") 959,.str (os "lead") 960,.str (os "word") 961,.str (os "foot") 962]),#[]⟩
noncomputable def zzq10_549 (P:Params) : Obj:=⟨(.type "tuple"),none,(.seq #[]),#[]⟩
noncomputable def zzq10_550 (P:Params) : Obj:=gA "set_word" "Setter.set_word" (mtop 75 6)
noncomputable def zzq10_551 (P:Params) : Obj:=cM "set_word" "Setter.set_word" 956 957 958 379 3 3 546 181 547 548 549 550 963 379 964
noncomputable def zzq10_552 (P:Params) : Obj:=gB "set_word" "Setter.set_word" (mtop 75 6) (.none) "trueleaf.setting" 876 551
noncomputable def zzq10_553 (P:Params) : Obj:=⟨(.type "tuple"),none,(.seq #[]),#[]⟩
noncomputable def zzq10_554 (P:Params) : Obj:=⟨(.none),none,(.fields #[]),#[]⟩
noncomputable def zzq10_555 (P:Params) : Obj:=⟨(.type "tuple"),none,(.seq #[.str (os "self") 969,.str (os "name") 970]),#[]⟩
noncomputable def zzq10_556 (P:Params) : Obj:=⟨(.type "tuple"),none,(.seq #[]),#[]⟩
noncomputable def zzq10_557 (P:Params) : Obj:=gA "next_foot" "Setter.next_foot" (mtop 75 7)
noncomputable def zzq10_558 (P:Params) : Obj:=cM "next_foot" "Setter.next_foot" 966 967 968 391 2 3 553 181 554 555 556 557 971 391 972
noncomputable def zzq10_559 (P:Params) : Obj:=gB "next_foot" "Setter.next_foot" (mtop 75 7) (.none) "trueleaf.setting" 876 558
noncomputable def zzq10_560 (P:Params) : Obj:=⟨(.type "tuple"),none,(.seq #[]),#[]⟩
noncomputable def zzq10_561 (P:Params) : Obj:=⟨(.none),none,(.fields #[]),#[]⟩
noncomputable def zzq10_562 (P:Params) : Obj:=gA "check_marks" "Setter.check_marks" (mtop 75 8)
noncomputable def zzq10_563 (P:Params) : Obj:=⟨(.type "code"),none,(.fields #[.str (os "check_marks") 974,.str (os "Setter.check_marks") 975,.str (os "/claim/cut.py") 976,.int 397 0,.int 1 0,.int 0 0,.int 0 0,.int 3 0,.ref 560,.bool true,.int 181 0,.ref 561,.none,.none,.none,.ref 562,.int 977 0,.int 397 0,.str (os "/claim/cut.py") 978]),#[]⟩
noncomputable def zzq10_564 (P:Params) : Obj:=gB "check_marks" "Setter.check_marks" (mtop 75 8) (.none) "trueleaf.setting" 876 563
noncomputable def zzq10_565 (P:Params) : Obj:=⟨(.type "tuple"),none,(.seq #[]),#[]⟩
noncomputable def zzq10_566 (P:Params) : Obj:=⟨(.none),none,(.fields #[]),#[]⟩
noncomputable def zzq10_567 (P:Params) : Obj:=gA "words_told" "Setter.words_told" (mtop 75 9)
noncomputable def zzq10_568 (P:Params) : Obj:=⟨(.type "code"),none,(.fields #[.str (os "words_told") 980,.str (os "Setter.words_told") 981,.str (os "/claim/cut.py") 982,.int 408 0,.int 1 0,.int 0 0,.int 0 0,.int 3 0,.ref 565,.bool true,.int 181 0,.ref 566,.none,.none,.none,.ref 567,.int 983 0,.int 408 0,.str (os "/claim/cut.py") 984]),#[]⟩
noncomputable def zzq10_569 (P:Params) : Obj:=gB "words_told" "Setter.words_told" (mtop 75 9) (.none) "trueleaf.setting" 876 568
noncomputable def zzq10_570 (P:Params) : Obj:=⟨(.type "tuple"),none,(.seq #[]),#[]⟩
noncomputable def zzq10_571 (P:Params) : Obj:=⟨(.none),none,(.fields #[]),#[]⟩
noncomputable def zzq10_572 (P:Params) : Obj:=⟨(.type "tuple"),none,(.seq #[.str (os "self") 989,.str (os "word") 990,.str (os "kind") 991,.str (os "rest") 992]),#[]⟩
noncomputable def zzq10_573 (P:Params) : Obj:=⟨(.type "tuple"),none,(.seq #[]),#[]⟩
noncomputable def zzq10_574 (P:Params) : Obj:=gA "saying_of" "Setter.saying_of" (mtop 75 10)
noncomputable def zzq10_575 (P:Params) : Obj:=cM "saying_of" "Setter.saying_of" 986 987 988 414 2 3 570 181 571 572 573 574 993 414 994
noncomputable def zzq10_576 (P:Params) : Obj:=gB "saying_of" "Setter.saying_of" (mtop 75 10) (.none) "trueleaf.setting" 876 575
noncomputable def zzq10_577 (P:Params) : Obj:=⟨(.type "tuple"),none,(.seq #[]),#[]⟩
noncomputable def zzq10_578 (P:Params) : Obj:=⟨(.none),none,(.fields #[]),#[]⟩
noncomputable def zzq10_579 (P:Params) : Obj:=⟨(.type "tuple"),none,(.seq #[.str (os "self") 999,.str (os "k") 1000,.str (os "number") 1001,.str (os "text") 1002,.str (os "at") 1003]),#[]⟩
noncomputable def zzq10_580 (P:Params) : Obj:=⟨(.type "tuple"),none,(.seq #[]),#[]⟩
noncomputable def zzq10_581 (P:Params) : Obj:=gA "number_at" "Setter.number_at" (mtop 75 11)
noncomputable def zzq10_582 (P:Params) : Obj:=cM "number_at" "Setter.number_at" 996 997 998 425 2 3 577 181 578 579 580 581 1004 425 1005
noncomputable def zzq10_583 (P:Params) : Obj:=gB "number_at" "Setter.number_at" (mtop 75 11) (.none) "trueleaf.setting" 876 582
noncomputable def zzq10_584 (P:Params) : Obj:=⟨(.type "tuple"),none,(.seq #[.str (os "behind_head") 1007,.str (os "feet") 1008,.str (os "feet_set") 1009,.str (os "heads") 1010,.str (os "leap") 1011,.str (os "marks") 1012,.str (os "numbers") 1013,.str (os "titles") 1014,.str (os "words") 1015]),#[]⟩
noncomputable def zzq10_585 (P:Params) : Obj:=⟨(.type "dict"),none,.dict (List.toArray (⟨kh P (os "__module__"),(.str (os "__module__") 902),(.str (os "trueleaf.setting") 876)⟩ :: ⟨kh P (os "__firstlineno__"),(.str (os "__firstlineno__") 906),(.int 327 905)⟩ :: ⟨kh P (os "__init__"),(.str (os "__init__") 912),(.ref 512)⟩ :: ⟨kh P (os "set_thing"),(.str (os "set_thing") 921),(.ref 519)⟩ :: ⟨kh P (os "set_head"),(.str (os "set_head") 930),(.ref 526)⟩ :: ⟨kh P (os "set_list"),(.str (os "set_list") 936),(.ref 531)⟩ :: ⟨kh P (os "set_run"),(.str (os "set_run") 947),(.ref 538)⟩ :: ⟨kh P (os "set_mark"),(.str (os "set_mark") 955),(.ref 545)⟩ :: ⟨kh P (os "set_word"),(.str (os "set_word") 965),(.ref 552)⟩ :: ⟨kh P (os "next_foot"),(.str (os "next_foot") 973),(.ref 559)⟩ :: ⟨kh P (os "check_marks"),(.str (os "check_marks") 979),(.ref 564)⟩ :: ⟨kh P (os "words_told"),(.str (os "words_told") 985),(.ref 569)⟩ :: ⟨kh P (os "saying_of"),(.str (os "saying_of") 995),(.ref 576)⟩ :: ⟨kh P (os "number_at"),(.str (os "number_at") 1006),(.ref 583)⟩ :: ⟨kh P (os "__static_attributes__"),(.str (os "__static_attributes__") 1016),(.ref 584)⟩ :: ⟨kh P (os "__dict__"),(.str (os "__dict__") 1018),(.ref 587)⟩ :: ⟨kh P (os "__weakref__"),(.str (os "__weakref__") 1020),(.ref 588)⟩ :: ⟨kh P (os "__doc__"),(.str (os "__doc__") 1021),(.none)⟩ :: [])) 4,#[]⟩
noncomputable def zzq10_586 (P:Params) : Obj:=⟨(.type "type"),none,(.cls (PySem.ClassData.mk (os "Setter") [.type "object"] [.ref 586,.type "object"] 585 (os "Setter") true [] [] false none false)),#[none,none,Option.some (.str (os "Setter") 895),Option.some (.str (os "Setter") 903),Option.some (.builtin "object.__new__"),Option.some (.bool true)]⟩
noncomputable def zzq10_587 (P:Params) : Obj:=⟨(.type "getset_descriptor"),none,(.fields #[.str (os "__dict__") 1017,.ref 586,.builtin "function.__dict__",.builtin "function.__dict__#set"]),#[]⟩
noncomputable def zzq10_588 (P:Params) : Obj:=⟨(.type "getset_descriptor"),none,(.fields #[.str (os "__weakref__") 1019,.ref 586,.builtin "ExceptionGroup.__weakref__",.none]),#[]⟩
noncomputable def zzq10_589 (P:Params) : Obj:=⟨(.type "super"),none,(.fields #[.ref 586,.ref 586,.ref 586]),#[]⟩
noncomputable def zzq10_590 (P:Params) : Obj:=⟨(.type "builtin_function_or_method"),none,(.fields #[.builtin "object.__init_subclass__",.ref 586]),#[]⟩
noncomputable def zzhY52 (P:Params) (t:List Obj) : List Obj:=PySem.W.boot_o_0 P :: PySem.W.boot_o_1 P :: PySem.W.boot_o_2 P :: zzq10_3 P :: PySem.W.boot_o_4 P :: PySem.W.boot_o_5 P :: PySem.W.boot_o_6 P :: PySem.W.boot_o_7 P :: PySem.W.boot_o_8 P :: PySem.W.boot_o_9 P :: PySem.W.boot_o_10 P :: zzqA_11 P :: zzq10_12 P :: zzqA_13 P :: zzqA_14 P :: zzq1_15 P :: t
noncomputable def zzhY53 (P:Params) (t:List Obj) : List Obj:=zzq9_480 P :: zzq9_481 P :: zzq9_482 P :: zzq9_483 P :: zzq9_484 P :: zzq9_485 P :: zzq9_486 P :: zzq9_487 P :: zzq9_488 P :: zzq9_489 P :: zzq9_490 P :: zzq9_491 P :: zzq9_492 P :: zzq9_493 P :: zzq10_494 P :: zzq10_495 P :: t
noncomputable def zzhY54 (P:Params) (t:List Obj) : List Obj:=zzq10_496 P :: zzq10_497 P :: zzq10_498 P :: zzq10_499 P :: zzq10_500 P :: zzq10_501 P :: zzq10_502 P :: zzq10_503 P :: zzq10_504 P :: zzq10_505 P :: zzq10_506 P :: zzq10_507 P :: zzq10_508 P :: zzq10_509 P :: zzq10_510 P :: zzq10_511 P :: t
noncomputable def zzhY55 (P:Params) (t:List Obj) : List Obj:=zzq10_512 P :: zzq10_513 P :: zzq10_514 P :: zzq10_515 P :: zzq10_516 P :: zzq10_517 P :: zzq10_518 P :: zzq10_519 P :: zzq10_520 P :: zzq10_521 P :: zzq10_522 P :: zzq10_523 P :: zzq10_524 P :: zzq10_525 P :: zzq10_526 P :: zzq10_527 P :: t
noncomputable def zzhY56 (P:Params) (t:List Obj) : List Obj:=zzq10_528 P :: zzq10_529 P :: zzq10_530 P :: zzq10_531 P :: zzq10_532 P :: zzq10_533 P :: zzq10_534 P :: zzq10_535 P :: zzq10_536 P :: zzq10_537 P :: zzq10_538 P :: zzq10_539 P :: zzq10_540 P :: zzq10_541 P :: zzq10_542 P :: zzq10_543 P :: t
noncomputable def zzhY57 (P:Params) (t:List Obj) : List Obj:=zzq10_544 P :: zzq10_545 P :: zzq10_546 P :: zzq10_547 P :: zzq10_548 P :: zzq10_549 P :: zzq10_550 P :: zzq10_551 P :: zzq10_552 P :: zzq10_553 P :: zzq10_554 P :: zzq10_555 P :: zzq10_556 P :: zzq10_557 P :: zzq10_558 P :: zzq10_559 P :: t
noncomputable def zzhY58 (P:Params) (t:List Obj) : List Obj:=zzq10_560 P :: zzq10_561 P :: zzq10_562 P :: zzq10_563 P :: zzq10_564 P :: zzq10_565 P :: zzq10_566 P :: zzq10_567 P :: zzq10_568 P :: zzq10_569 P :: zzq10_570 P :: zzq10_571 P :: zzq10_572 P :: zzq10_573 P :: zzq10_574 P :: zzq10_575 P :: t
noncomputable def zzhY59 (P:Params) (t:List Obj) : List Obj:=zzq10_576 P :: zzq10_577 P :: zzq10_578 P :: zzq10_579 P :: zzq10_580 P :: zzq10_581 P :: zzq10_582 P :: zzq10_583 P :: zzq10_584 P :: zzq10_585 P :: zzq10_586 P :: zzq10_587 P :: zzq10_588 P :: zzq10_589 P :: zzq10_590 P :: t
noncomputable def zzh10 (P:Params) : Heap:=⟨⟨(zzhY52 P (zzhY27 P (zzhY3 P (zzhY7 P (zzhY8 P (zzhY12 P (zzhY13 P (zzhY14 P (zzhY18 P (zzhY19 P (zzhY23 P (zzhY24 P (zzhY28 P (zzhY29 P (zzhY30 P (zzhY33 P (zzhY34 P (zzhY35 P (zzhY36 P (zzhY37 P (zzhY39 P (zzhY40 P (zzhY41 P (zzhY42 P (zzhY43 P (zzhY46 P (zzhY47 P (zzhY48 P (zzhY49 P (zzhY50 P (zzhY53 P (zzhY54 P (zzhY55 P (zzhY56 P (zzhY57 P (zzhY58 P (zzhY59 P [])))))))))))))))))))))))))))))))))))))⟩,{}⟩
noncomputable def zzhZ18 (P:Params) (t:List DictEntry) : List DictEntry:=⟨kh P (os "__name__"),(.str (os "__name__") 165),(.str (os "trueleaf.bounds") 1115)⟩ :: ⟨kh P (os "__doc__"),(.str (os "__doc__") 166),(.none)⟩ :: ⟨kh P (os "__package__"),(.str (os "__package__") 167),(.none)⟩ :: ⟨kh P (os "__loader__"),(.str (os "__loader__") 168),(.builtin "__main__.__loader__#opaque")⟩ :: ⟨kh P (os "__spec__"),(.str (os "__spec__") 169),(.none)⟩ :: ⟨kh P (os "__annotations__"),(.str (os "__annotations__") 170),(.ref 6)⟩ :: ⟨kh P (os "__builtins__"),(.str (os "__builtins__") 171),(.ref 4)⟩ :: ⟨kh P (os "__file__"),(.str (os "__file__") 173),(.str (os "/claim/cut.py") 172)⟩ :: t
noncomputable def zzhZ19 (P:Params) (t:List DictEntry) : List DictEntry:=⟨kh P (os "LEAPS"),(.str (os "LEAPS") 884),(.ref 494)⟩ :: ⟨kh P (os "POINTING"),(.str (os "POINTING") 888),(.ref 495)⟩ :: ⟨kh P (os "set_words"),(.str (os "set_words") 894),(.ref 500)⟩ :: ⟨kh P (os "Setter"),(.str (os "Setter") 1023),(.ref 586)⟩ :: ⟨kh P (os "later"),(.str (os "later") 1033),(.ref 597)⟩ :: ⟨kh P (os "behind"),(.str (os "behind") 1042),(.ref 604)⟩ :: ⟨kh P (os "first_from"),(.str (os "first_from") 1051),(.ref 611)⟩ :: ⟨kh P (os "rows_on"),(.str (os "rows_on") 1061),(.ref 618)⟩ :: t
noncomputable def zzhZ20 (P:Params) (t:List DictEntry) : List DictEntry:=⟨kh P (os "next_top"),(.str (os "next_top") 1068),(.ref 625)⟩ :: ⟨kh P (os "said"),(.str (os "said") 1080),(.ref 632)⟩ :: ⟨kh P (os "wide_of"),(.str (os "wide_of") 1089),(.ref 639)⟩ :: ⟨kh P (os "together"),(.str (os "together") 1096),(.ref 646)⟩ :: ⟨kh P (os "foot_rows"),(.str (os "foot_rows") 1108),(.ref 653)⟩ :: ⟨kh P (os "foot_high"),(.str (os "foot_high") 1114),(.ref 658)⟩ :: ⟨kh P (os "first_bounds"),(.str (os "first_bounds") 1123),(.ref 665)⟩ :: ⟨kh P (os "reach"),(.str (os "reach") 1135),(.ref 672)⟩ :: t
noncomputable def zzhZ21 (P:Params) (t:List DictEntry) : List DictEntry:=⟨kh P (os "told_by_kind"),(.str (os "told_by_kind") 1146),(.ref 679)⟩ :: ⟨kh P (os "wides_of"),(.str (os "wides_of") 1152),(.ref 684)⟩ :: ⟨kh P (os "highs_of"),(.str (os "highs_of") 1158),(.ref 689)⟩ :: ⟨kh P (os "told_behind"),(.str (os "told_behind") 1170),(.ref 696)⟩ :: t
noncomputable def zzq11_3 (P:Params) : Obj:=⟨(.type "dict"),none,.dict (List.toArray (zzhZ18 P (zzhZ1 P (zzhZ3 P (zzhZ8 P (zzhZ9 P (zzhZ10 P (zzhZ12 P (zzhZ13 P (zzhZ15 P (zzhZ19 P (zzhZ20 P (zzhZ21 P []))))))))))))) 92,#[]⟩
noncomputable def zzq11_12 (P:Params) : Obj:=⟨(.none),none,(.fields #[.int 1 0,.int 0 0,.ref 20,.int 5 0,.int 0 0,.ref 27,.int 7 0,.int 0 0,.ref 40,.int 9 0,.int 0 0,.ref 52,.int 11 0,.int 0 0,.ref 64,.int 13 0,.int 0 0,.ref 76,.int 15 0,.int 0 0,.ref 88,.int 17 0,.int 0 0,.ref 100,.int 19 0,.int 0 0,.ref 112,.int 21 0,.int 0 0,.ref 124,.int 23 0,.int 0 0,.ref 136,.int 25 0,.int 0 0,.ref 148,.int 27 0,.int 0 0,.ref 160,.int 29 0,.int 0 0,.ref 172,.int 31 0,.int 0 0,.ref 184,.int 33 0,.int 0 0,.ref 196,.int 35 0,.int 0 0,.ref 208,.int 37 0,.int 0 0,.ref 220,.int 42 0,.int 0 0,.ref 232,.int 47 0,.int 0 0,.ref 239,.int 55 0,.int 0 0,.ref 245,.int 57 0,.int 0 0,.ref 250,.int 61 0,.int 0 0,.ref 257,.int 63 0,.int 0 0,.ref 264,.int 73 0,.int 0 0,.ref 271,.int 75 0,.int 0 0,.ref 278,.int 83 0,.int 0 0,.ref 285,.int 85 0,.int 0 0,.ref 292,.int 87 0,.int 0 0,.ref 299,.int 99 0,.int 0 0,.ref 306,.int 108 0,.int 0 0,.ref 313,.int 118 0,.int 0 0,.ref 318,.int 127 0,.int 0 0,.ref 326,.int 146 0,.int 0 0,.ref 331,.int 154 0,.int 0 0,.ref 338,.int 156 0,.int 0 0,.ref 345,.int 163 0,.int 0 0,.ref 352,.int 170 0,.int 0 0,.ref 359,.int 176 0,.int 0 0,.ref 367,.int 178 0,.int 0 0,.ref 374,.int 187 0,.int 0 0,.ref 381,.int 193 0,.int 0 0,.ref 386,.int 195 0,.int 0 0,.ref 393,.int 203 0,.int 0 0,.ref 400,.int 220 0,.int 0 0,.ref 405,.int 222 0,.int 0 0,.ref 410,.int 237 0,.int 0 0,.ref 419,.int 242 0,.int 0 0,.ref 426,.int 314 0,.int 0 0,.ref 492,.int 319 0,.int 0 0,.ref 499,.int 327 0,.int 0 0,.ref 506,.int 432 0,.int 0 0,.ref 596,.int 434 0,.int 0 0,.ref 603,.int 442 0,.int 0 0,.ref 610,.int 446 0,.int 0 0,.ref 617,.int 451 0,.int 0 0,.ref 624,.int 454 0,.int 0 0,.ref 631,.int 461 0,.int 0 0,.ref 638,.int 463 0,.int 0 0,.ref 645,.int 465 0,.int 0 0,.ref 652,.int 474 0,.int 0 0,.ref 657,.int 480 0,.int 0 0,.ref 664,.int 482 0,.int 0 0,.ref 671,.int 487 0,.int 0 0,.ref 678,.int 499 0,.int 0 0,.ref 683,.int 501 0,.int 0 0,.ref 688,.int 503 0,.int 0 0,.ref 695]),#[]⟩
noncomputable def zzq11_591 (P:Params) : Obj:=⟨(.type "tuple"),none,(.seq #[]),#[]⟩
noncomputable def zzq11_592 (P:Params) : Obj:=⟨(.none),none,(.fields #[]),#[]⟩
noncomputable def zzq11_593 (P:Params) : Obj:=⟨(.type "tuple"),none,(.seq #[.str (os "one") 1029,.str (os "other") 1030]),#[]⟩
noncomputable def zzq11_594 (P:Params) : Obj:=⟨(.type "tuple"),none,(.seq #[]),#[]⟩
noncomputable def zzq11_595 (P:Params) : Obj:=gA "later" "later" (top 77)
noncomputable def zzq11_596 (P:Params) : Obj:=cO "later" 1026 1027 1028 432 2 3 591 181 592 593 594 595 1031 432 1032
noncomputable def zzq11_597 (P:Params) : Obj:=gB "later" "later" (top 77) (.none) "trueleaf.places" 1024 596
noncomputable def zzq11_598 (P:Params) : Obj:=⟨(.type "tuple"),none,(.seq #[]),#[]⟩
noncomputable def zzq11_599 (P:Params) : Obj:=⟨(.none),none,(.fields #[]),#[]⟩
noncomputable def zzq11_600 (P:Params) : Obj:=⟨(.type "tuple"),none,(.seq #[.str (os "form") 1037,.str (os "place") 1038,.str (os "lead") 1039]),#[]⟩
noncomputable def zzq11_601 (P:Params) : Obj:=⟨(.type "tuple"),none,(.seq #[]),#[]⟩
noncomputable def zzq11_602 (P:Params) : Obj:=gA "behind" "behind" (top 78)
noncomputable def zzq11_603 (P:Params) : Obj:=cO "behind" 1034 1035 1036 434 3 3 598 181 599 600 601 602 1040 434 1041
noncomputable def zzq11_604 (P:Params) : Obj:=gB "behind" "behind" (top 78) (.none) "trueleaf.places" 1024 603
noncomputable def zzq11_605 (P:Params) : Obj:=⟨(.type "tuple"),none,(.seq #[]),#[]⟩
noncomputable def zzq11_606 (P:Params) : Obj:=⟨(.none),none,(.fields #[]),#[]⟩
noncomputable def zzq11_607 (P:Params) : Obj:=⟨(.type "tuple"),none,(.seq #[.str (os "form") 1046,.str (os "place") 1047,.str (os "lead") 1048]),#[]⟩
noncomputable def zzq11_608 (P:Params) : Obj:=⟨(.type "tuple"),none,(.seq #[]),#[]⟩
noncomputable def zzq11_609 (P:Params) : Obj:=gA "first_from" "first_from" (top 79)
noncomputable def zzq11_610 (P:Params) : Obj:=cO "first_from" 1043 1044 1045 442 3 3 605 181 606 607 608 609 1049 442 1050
noncomputable def zzq11_611 (P:Params) : Obj:=gB "first_from" "first_from" (top 79) (.none) "trueleaf.places" 1024 610
noncomputable def zzq11_612 (P:Params) : Obj:=⟨(.type "tuple"),none,(.seq #[]),#[]⟩
noncomputable def zzq11_613 (P:Params) : Obj:=⟨(.none),none,(.fields #[]),#[]⟩
noncomputable def zzq11_614 (P:Params) : Obj:=⟨(.type "tuple"),none,(.seq #[.str (os "form") 1055,.str (os "place") 1056,.str (os "rows") 1057,.str (os "row") 1058]),#[]⟩
noncomputable def zzq11_615 (P:Params) : Obj:=⟨(.type "tuple"),none,(.seq #[]),#[]⟩
noncomputable def zzq11_616 (P:Params) : Obj:=gA "rows_on" "rows_on" (top 80)
noncomputable def zzq11_617 (P:Params) : Obj:=cO "rows_on" 1052 1053 1054 446 3 3 612 181 613 614 615 616 1059 446 1060
noncomputable def zzq11_618 (P:Params) : Obj:=gB "rows_on" "rows_on" (top 80) (.none) "trueleaf.places" 1024 617
noncomputable def zzq11_619 (P:Params) : Obj:=⟨(.type "tuple"),none,(.seq #[]),#[]⟩
noncomputable def zzq11_620 (P:Params) : Obj:=⟨(.none),none,(.fields #[]),#[]⟩
noncomputable def zzq11_621 (P:Params) : Obj:=⟨(.type "tuple"),none,(.seq #[.str (os "place") 1065]),#[]⟩
noncomputable def zzq11_622 (P:Params) : Obj:=⟨(.type "tuple"),none,(.seq #[]),#[]⟩
noncomputable def zzq11_623 (P:Params) : Obj:=gA "next_top" "next_top" (top 81)
noncomputable def zzq11_624 (P:Params) : Obj:=cO "next_top" 1062 1063 1064 451 1 3 619 181 620 621 622 623 1066 451 1067
noncomputable def zzq11_625 (P:Params) : Obj:=gB "next_top" "next_top" (top 81) (.none) "trueleaf.places" 1024 624
noncomputable def zzq11_626 (P:Params) : Obj:=⟨(.type "tuple"),none,(.seq #[]),#[]⟩
noncomputable def zzq11_627 (P:Params) : Obj:=⟨(.none),none,(.fields #[]),#[]⟩
noncomputable def zzq11_628 (P:Params) : Obj:=⟨(.type "tuple"),none,(.seq #[.str (os "form") 1074,.str (os "saying") 1075,.str (os "places") 1076,.str (os "place") 1077]),#[]⟩
noncomputable def zzq11_629 (P:Params) : Obj:=⟨(.type "tuple"),none,(.seq #[]),#[]⟩
noncomputable def zzq11_630 (P:Params) : Obj:=gA "said" "said" (top 83)
noncomputable def zzq11_631 (P:Params) : Obj:=cO "said" 1071 1072 1073 454 3 3 626 181 627 628 629 630 1078 454 1079
noncomputable def zzq11_632 (P:Params) : Obj:=gB "said" "said" (top 83) (.none) "trueleaf.widths" 1069 631
noncomputable def zzq11_633 (P:Params) : Obj:=⟨(.type "tuple"),none,(.seq #[]),#[]⟩
noncomputable def zzq11_634 (P:Params) : Obj:=⟨(.none),none,(.fields #[]),#[]⟩
noncomputable def zzq11_635 (P:Params) : Obj:=⟨(.type "tuple"),none,(.seq #[.str (os "form") 1084,.str (os "saying") 1085,.str (os "places") 1086]),#[]⟩
noncomputable def zzq11_636 (P:Params) : Obj:=⟨(.type "tuple"),none,(.seq #[]),#[]⟩
noncomputable def zzq11_637 (P:Params) : Obj:=gA "wide_of" "wide_of" (top 84)
noncomputable def zzq11_638 (P:Params) : Obj:=cO "wide_of" 1081 1082 1083 461 3 3 633 181 634 635 636 637 1087 461 1088
noncomputable def zzq11_639 (P:Params) : Obj:=gB "wide_of" "wide_of" (top 84) (.none) "trueleaf.widths" 1069 638
noncomputable def zzq11_640 (P:Params) : Obj:=⟨(.type "tuple"),none,(.seq #[]),#[]⟩
noncomputable def zzq11_641 (P:Params) : Obj:=⟨(.none),none,(.fields #[]),#[]⟩
noncomputable def zzq11_642 (P:Params) : Obj:=⟨(.type "tuple"),none,(.seq #[.str (os "wides") 1093]),#[]⟩
noncomputable def zzq11_643 (P:Params) : Obj:=⟨(.type "tuple"),none,(.seq #[]),#[]⟩
noncomputable def zzq11_644 (P:Params) : Obj:=gA "together" "together" (top 85)
noncomputable def zzq11_645 (P:Params) : Obj:=cO "together" 1090 1091 1092 463 1 3 640 181 641 642 643 644 1094 463 1095
noncomputable def zzq11_646 (P:Params) : Obj:=gB "together" "together" (top 85) (.none) "trueleaf.widths" 1069 645
noncomputable def zzq11_647 (P:Params) : Obj:=⟨(.type "tuple"),none,(.seq #[]),#[]⟩
noncomputable def zzq11_648 (P:Params) : Obj:=⟨(.none),none,(.fields #[]),#[]⟩
noncomputable def zzq11_649 (P:Params) : Obj:=⟨(.type "tuple"),none,(.seq #[.str (os "form") 1100,.str (os "foot") 1101,.str (os "places") 1102,.str (os "rows") 1103,.str (os "saying") 1104,.str (os "text") 1105]),#[]⟩
noncomputable def zzq11_650 (P:Params) : Obj:=⟨(.type "tuple"),none,(.seq #[]),#[]⟩
noncomputable def zzq11_651 (P:Params) : Obj:=gA "foot_rows" "foot_rows" (top 86)
noncomputable def zzq11_652 (P:Params) : Obj:=cO "foot_rows" 1097 1098 1099 465 3 3 647 181 648 649 650 651 1106 465 1107
noncomputable def zzq11_653 (P:Params) : Obj:=gB "foot_rows" "foot_rows" (top 86) (.none) "trueleaf.widths" 1069 652
noncomputable def zzq11_654 (P:Params) : Obj:=⟨(.type "tuple"),none,(.seq #[]),#[]⟩
noncomputable def zzq11_655 (P:Params) : Obj:=⟨(.none),none,(.fields #[]),#[]⟩
noncomputable def zzq11_656 (P:Params) : Obj:=gA "foot_high" "foot_high" (top 87)
noncomputable def zzq11_657 (P:Params) : Obj:=⟨(.type "code"),none,(.fields #[.str (os "foot_high") 1109,.str (os "foot_high") 1110,.str (os "/claim/cut.py") 1111,.int 474 0,.int 3 0,.int 0 0,.int 0 0,.int 3 0,.ref 654,.bool true,.int 181 0,.ref 655,.none,.none,.none,.ref 656,.int 1112 0,.int 474 0,.str (os "/claim/cut.py") 1113]),#[]⟩
noncomputable def zzq11_658 (P:Params) : Obj:=gB "foot_high" "foot_high" (top 87) (.none) "trueleaf.widths" 1069 657
noncomputable def zzq11_659 (P:Params) : Obj:=⟨(.type "tuple"),none,(.seq #[]),#[]⟩
noncomputable def zzq11_660 (P:Params) : Obj:=⟨(.none),none,(.fields #[]),#[]⟩
noncomputable def zzq11_661 (P:Params) : Obj:=⟨(.type "tuple"),none,(.seq #[.str (os "book") 1120]),#[]⟩
noncomputable def zzq11_662 (P:Params) : Obj:=⟨(.type "tuple"),none,(.seq #[]),#[]⟩
noncomputable def zzq11_663 (P:Params) : Obj:=gA "first_bounds" "first_bounds" (top 89)
noncomputable def zzq11_664 (P:Params) : Obj:=cO "first_bounds" 1117 1118 1119 480 1 3 659 181 660 661 662 663 1121 480 1122
noncomputable def zzq11_665 (P:Params) : Obj:=gB "first_bounds" "first_bounds" (top 89) (.none) "trueleaf.bounds" 1115 664
noncomputable def zzq11_666 (P:Params) : Obj:=⟨(.type "tuple"),none,(.seq #[]),#[]⟩
noncomputable def zzq11_667 (P:Params) : Obj:=⟨(.none),none,(.fields #[]),#[]⟩
noncomputable def zzq11_668 (P:Params) : Obj:=⟨(.type "tuple"),none,(.seq #[.str (os "book") 1127,.str (os "low") 1128,.str (os "kind") 1129,.str (os "i") 1130,.str (os "j") 1131,.str (os "place") 1132]),#[]⟩
noncomputable def zzq11_669 (P:Params) : Obj:=⟨(.type "tuple"),none,(.seq #[]),#[]⟩
noncomputable def zzq11_670 (P:Params) : Obj:=gA "reach" "reach" (top 90)
noncomputable def zzq11_671 (P:Params) : Obj:=cO "reach" 1124 1125 1126 482 5 3 666 181 667 668 669 670 1133 482 1134
noncomputable def zzq11_672 (P:Params) : Obj:=gB "reach" "reach" (top 90) (.none) "trueleaf.bounds" 1115 671
noncomputable def zzq11_673 (P:Params) : Obj:=⟨(.type "tuple"),none,(.seq #[]),#[]⟩
noncomputable def zzq11_674 (P:Params) : Obj:=⟨(.none),none,(.fields #[]),#[]⟩
noncomputable def zzq11_675 (P:Params) : Obj:=⟨(.type "tuple"),none,(.seq #[.str (os "book") 1139,.str (os "low") 1140,.str (os "kind") 1141,.str (os "i") 1142,.str (os "j") 1143]),#[]⟩
noncomputable def zzq11_676 (P:Params) : Obj:=⟨(.type "tuple"),none,(.seq #[]),#[]⟩
noncomputable def zzq11_677 (P:Params) : Obj:=gA "told_by_kind" "told_by_kind" (top 91)
noncomputable def zzq11_678 (P:Params) : Obj:=cO "told_by_kind" 1136 1137 1138 487 5 3 673 181 674 675 676 677 1144 487 1145
noncomputable def zzq11_679 (P:Params) : Obj:=gB "told_by_kind" "told_by_kind" (top 91) (.none) "trueleaf.bounds" 1115 678
noncomputable def zzq11_680 (P:Params) : Obj:=⟨(.type "tuple"),none,(.seq #[]),#[]⟩
noncomputable def zzq11_681 (P:Params) : Obj:=⟨(.none),none,(.fields #[]),#[]⟩
noncomputable def zzq11_682 (P:Params) : Obj:=gA "wides_of" "wides_of" (top 92)
noncomputable def zzq11_683 (P:Params) : Obj:=⟨(.type "code"),none,(.fields #[.str (os "wides_of") 1147,.str (os "wides_of") 1148,.str (os "/claim/cut.py") 1149,.int 499 0,.int 4 0,.int 0 0,.int 0 0,.int 3 0,.ref 680,.bool true,.int 181 0,.ref 681,.none,.none,.none,.ref 682,.int 1150 0,.int 499 0,.str (os "/claim/cut.py") 1151]),#[]⟩
noncomputable def zzq11_684 (P:Params) : Obj:=gB "wides_of" "wides_of" (top 92) (.none) "trueleaf.bounds" 1115 683
noncomputable def zzq11_685 (P:Params) : Obj:=⟨(.type "tuple"),none,(.seq #[]),#[]⟩
noncomputable def zzq11_686 (P:Params) : Obj:=⟨(.none),none,(.fields #[]),#[]⟩
noncomputable def zzq11_687 (P:Params) : Obj:=gA "highs_of" "highs_of" (top 93)
noncomputable def zzq11_688 (P:Params) : Obj:=⟨(.type "code"),none,(.fields #[.str (os "highs_of") 1153,.str (os "highs_of") 1154,.str (os "/claim/cut.py") 1155,.int 501 0,.int 4 0,.int 0 0,.int 0 0,.int 3 0,.ref 685,.bool true,.int 181 0,.ref 686,.none,.none,.none,.ref 687,.int 1156 0,.int 501 0,.str (os "/claim/cut.py") 1157]),#[]⟩
noncomputable def zzq11_689 (P:Params) : Obj:=gB "highs_of" "highs_of" (top 93) (.none) "trueleaf.bounds" 1115 688
noncomputable def zzq11_690 (P:Params) : Obj:=⟨(.type "tuple"),none,(.seq #[]),#[]⟩
noncomputable def zzq11_691 (P:Params) : Obj:=⟨(.none),none,(.fields #[]),#[]⟩
noncomputable def zzq11_692 (P:Params) : Obj:=⟨(.type "tuple"),none,(.seq #[.str (os "book") 1162,.str (os "low") 1163,.str (os "i") 1164,.str (os "form") 1165,.str (os "lead") 1166,.str (os "place") 1167]),#[]⟩
noncomputable def zzq11_693 (P:Params) : Obj:=⟨(.type "tuple"),none,(.seq #[]),#[]⟩
noncomputable def zzq11_694 (P:Params) : Obj:=gA "told_behind" "told_behind" (top 94)
noncomputable def zzq11_695 (P:Params) : Obj:=cO "told_behind" 1159 1160 1161 503 3 3 690 181 691 692 693 694 1168 503 1169
noncomputable def zzq11_696 (P:Params) : Obj:=gB "told_behind" "told_behind" (top 94) (.none) "trueleaf.bounds" 1115 695
noncomputable def zzhY60 (P:Params) (t:List Obj) : List Obj:=PySem.W.boot_o_0 P :: PySem.W.boot_o_1 P :: PySem.W.boot_o_2 P :: zzq11_3 P :: PySem.W.boot_o_4 P :: PySem.W.boot_o_5 P :: PySem.W.boot_o_6 P :: PySem.W.boot_o_7 P :: PySem.W.boot_o_8 P :: PySem.W.boot_o_9 P :: PySem.W.boot_o_10 P :: zzqA_11 P :: zzq11_12 P :: zzqA_13 P :: zzqA_14 P :: zzq1_15 P :: t
noncomputable def zzhY61 (P:Params) (t:List Obj) : List Obj:=zzq10_576 P :: zzq10_577 P :: zzq10_578 P :: zzq10_579 P :: zzq10_580 P :: zzq10_581 P :: zzq10_582 P :: zzq10_583 P :: zzq10_584 P :: zzq10_585 P :: zzq10_586 P :: zzq10_587 P :: zzq10_588 P :: zzq10_589 P :: zzq10_590 P :: zzq11_591 P :: t
noncomputable def zzhY62 (P:Params) (t:List Obj) : List Obj:=zzq11_592 P :: zzq11_593 P :: zzq11_594 P :: zzq11_595 P :: zzq11_596 P :: zzq11_597 P :: zzq11_598 P :: zzq11_599 P :: zzq11_600 P :: zzq11_601 P :: zzq11_602 P :: zzq11_603 P :: zzq11_604 P :: zzq11_605 P :: zzq11_606 P :: zzq11_607 P :: t
noncomputable def zzhY63 (P:Params) (t:List Obj) : List Obj:=zzq11_608 P :: zzq11_609 P :: zzq11_610 P :: zzq11_611 P :: zzq11_612 P :: zzq11_613 P :: zzq11_614 P :: zzq11_615 P :: zzq11_616 P :: zzq11_617 P :: zzq11_618 P :: zzq11_619 P :: zzq11_620 P :: zzq11_621 P :: zzq11_622 P :: zzq11_623 P :: t
noncomputable def zzhY64 (P:Params) (t:List Obj) : List Obj:=zzq11_624 P :: zzq11_625 P :: zzq11_626 P :: zzq11_627 P :: zzq11_628 P :: zzq11_629 P :: zzq11_630 P :: zzq11_631 P :: zzq11_632 P :: zzq11_633 P :: zzq11_634 P :: zzq11_635 P :: zzq11_636 P :: zzq11_637 P :: zzq11_638 P :: zzq11_639 P :: t
noncomputable def zzhY65 (P:Params) (t:List Obj) : List Obj:=zzq11_640 P :: zzq11_641 P :: zzq11_642 P :: zzq11_643 P :: zzq11_644 P :: zzq11_645 P :: zzq11_646 P :: zzq11_647 P :: zzq11_648 P :: zzq11_649 P :: zzq11_650 P :: zzq11_651 P :: zzq11_652 P :: zzq11_653 P :: zzq11_654 P :: zzq11_655 P :: t
noncomputable def zzhY66 (P:Params) (t:List Obj) : List Obj:=zzq11_656 P :: zzq11_657 P :: zzq11_658 P :: zzq11_659 P :: zzq11_660 P :: zzq11_661 P :: zzq11_662 P :: zzq11_663 P :: zzq11_664 P :: zzq11_665 P :: zzq11_666 P :: zzq11_667 P :: zzq11_668 P :: zzq11_669 P :: zzq11_670 P :: zzq11_671 P :: t
noncomputable def zzhY67 (P:Params) (t:List Obj) : List Obj:=zzq11_672 P :: zzq11_673 P :: zzq11_674 P :: zzq11_675 P :: zzq11_676 P :: zzq11_677 P :: zzq11_678 P :: zzq11_679 P :: zzq11_680 P :: zzq11_681 P :: zzq11_682 P :: zzq11_683 P :: zzq11_684 P :: zzq11_685 P :: zzq11_686 P :: zzq11_687 P :: t
noncomputable def zzhY68 (P:Params) (t:List Obj) : List Obj:=zzq11_688 P :: zzq11_689 P :: zzq11_690 P :: zzq11_691 P :: zzq11_692 P :: zzq11_693 P :: zzq11_694 P :: zzq11_695 P :: zzq11_696 P :: t
noncomputable def zzh11 (P:Params) : Heap:=⟨⟨(zzhY60 P (zzhY27 P (zzhY3 P (zzhY7 P (zzhY8 P (zzhY12 P (zzhY13 P (zzhY14 P (zzhY18 P (zzhY19 P (zzhY23 P (zzhY24 P (zzhY28 P (zzhY29 P (zzhY30 P (zzhY33 P (zzhY34 P (zzhY35 P (zzhY36 P (zzhY37 P (zzhY39 P (zzhY40 P (zzhY41 P (zzhY42 P (zzhY43 P (zzhY46 P (zzhY47 P (zzhY48 P (zzhY49 P (zzhY50 P (zzhY53 P (zzhY54 P (zzhY55 P (zzhY56 P (zzhY57 P (zzhY58 P (zzhY61 P (zzhY62 P (zzhY63 P (zzhY64 P (zzhY65 P (zzhY66 P (zzhY67 P (zzhY68 P []))))))))))))))))))))))))))))))))))))))))))))⟩,{}⟩
noncomputable def zzhZ22 (P:Params) (t:List DictEntry) : List DictEntry:=⟨kh P (os "__name__"),(.str (os "__name__") 165),(.str (os "trueleaf.pages") 1335)⟩ :: ⟨kh P (os "__doc__"),(.str (os "__doc__") 166),(.none)⟩ :: ⟨kh P (os "__package__"),(.str (os "__package__") 167),(.none)⟩ :: ⟨kh P (os "__loader__"),(.str (os "__loader__") 168),(.builtin "__main__.__loader__#opaque")⟩ :: ⟨kh P (os "__spec__"),(.str (os "__spec__") 169),(.none)⟩ :: ⟨kh P (os "__annotations__"),(.str (os "__annotations__") 170),(.ref 6)⟩ :: ⟨kh P (os "__builtins__"),(.str (os "__builtins__") 171),(.ref 4)⟩ :: ⟨kh P (os "__file__"),(.str (os "__file__") 173),(.str (os "/claim/cut.py") 172)⟩ :: t
noncomputable def zzhZ23 (P:Params) (t:List DictEntry) : List DictEntry:=⟨kh P (os "told_by_kind"),(.str (os "told_by_kind") 1146),(.ref 679)⟩ :: ⟨kh P (os "wides_of"),(.str (os "wides_of") 1152),(.ref 684)⟩ :: ⟨kh P (os "highs_of"),(.str (os "highs_of") 1158),(.ref 689)⟩ :: ⟨kh P (os "told_behind"),(.str (os "told_behind") 1170),(.ref 696)⟩ :: ⟨kh P (os "told_wide"),(.str (os "told_wide") 1181),(.ref 703)⟩ :: ⟨kh P (os "told_high"),(.str (os "told_high") 1193),(.ref 710)⟩ :: ⟨kh P (os "told_kept"),(.str (os "told_kept") 1204),(.ref 717)⟩ :: ⟨kh P (os "told_never"),(.str (os "told_never") 1215),(.ref 724)⟩ :: t
noncomputable def zzhZ24 (P:Params) (t:List DictEntry) : List DictEntry:=⟨kh P (os "settle"),(.str (os "settle") 1223),(.ref 730)⟩ :: ⟨kh P (os "stands_beyond"),(.str (os "stands_beyond") 1231),(.ref 737)⟩ :: ⟨kh P (os "sizes_under"),(.str (os "sizes_under") 1240),(.ref 744)⟩ :: ⟨kh P (os "first_unlike"),(.str (os "first_unlike") 1249),(.ref 751)⟩ :: ⟨kh P (os "raise_from"),(.str (os "raise_from") 1261),(.ref 758)⟩ :: ⟨kh P (os "raise_word"),(.str (os "raise_word") 1273),(.ref 765)⟩ :: ⟨kh P (os "raise_by"),(.str (os "raise_by") 1286),(.ref 772)⟩ :: ⟨kh P (os "raise_kept"),(.str (os "raise_kept") 1297),(.ref 779)⟩ :: t
noncomputable def zzhZ25 (P:Params) (t:List DictEntry) : List DictEntry:=⟨kh P (os "reason_for"),(.str (os "reason_for") 1309),(.ref 786)⟩ :: ⟨kh P (os "too_wide_from"),(.str (os "too_wide_from") 1321),(.ref 793)⟩ :: ⟨kh P (os "too_high_from"),(.str (os "too_high_from") 1334),(.ref 800)⟩ :: t
noncomputable def zzq12_3 (P:Params) : Obj:=⟨(.type "dict"),none,.dict (List.toArray (zzhZ22 P (zzhZ1 P (zzhZ3 P (zzhZ8 P (zzhZ9 P (zzhZ10 P (zzhZ12 P (zzhZ13 P (zzhZ15 P (zzhZ19 P (zzhZ20 P (zzhZ23 P (zzhZ24 P (zzhZ25 P []))))))))))))))) 107,#[]⟩
noncomputable def zzq12_12 (P:Params) : Obj:=⟨(.none),none,(.fields #[.int 1 0,.int 0 0,.ref 20,.int 5 0,.int 0 0,.ref 27,.int 7 0,.int 0 0,.ref 40,.int 9 0,.int 0 0,.ref 52,.int 11 0,.int 0 0,.ref 64,.int 13 0,.int 0 0,.ref 76,.int 15 0,.int 0 0,.ref 88,.int 17 0,.int 0 0,.ref 100,.int 19 0,.int 0 0,.ref 112,.int 21 0,.int 0 0,.ref 124,.int 23 0,.int 0 0,.ref 136,.int 25 0,.int 0 0,.ref 148,.int 27 0,.int 0 0,.ref 160,.int 29 0,.int 0 0,.ref 172,.int 31 0,.int 0 0,.ref 184,.int 33 0,.int 0 0,.ref 196,.int 35 0,.int 0 0,.ref 208,.int 37 0,.int 0 0,.ref 220,.int 42 0,.int 0 0,.ref 232,.int 47 0,.int 0 0,.ref 239,.int 55 0,.int 0 0,.ref 245,.int 57 0,.int 0 0,.ref 250,.int 61 0,.int 0 0,.ref 257,.int 63 0,.int 0 0,.ref 264,.int 73 0,.int 0 0,.ref 271,.int 75 0,.int 0 0,.ref 278,.int 83 0,.int 0 0,.ref 285,.int 85 0,.int 0 0,.ref 292,.int 87 0,.int 0 0,.ref 299,.int 99 0,.int 0 0,.ref 306,.int 108 0,.int 0 0,.ref 313,.int 118 0,.int 0 0,.ref 318,.int 127 0,.int 0 0,.ref 326,.int 146 0,.int 0 0,.ref 331,.int 154 0,.int 0 0,.ref 338,.int 156 0,.int 0 0,.ref 345,.int 163 0,.int 0 0,.ref 352,.int 170 0,.int 0 0,.ref 359,.int 176 0,.int 0 0,.ref 367,.int 178 0,.int 0 0,.ref 374,.int 187 0,.int 0 0,.ref 381,.int 193 0,.int 0 0,.ref 386,.int 195 0,.int 0 0,.ref 393,.int 203 0,.int 0 0,.ref 400,.int 220 0,.int 0 0,.ref 405,.int 222 0,.int 0 0,.ref 410,.int 237 0,.int 0 0,.ref 419,.int 242 0,.int 0 0,.ref 426,.int 314 0,.int 0 0,.ref 492,.int 319 0,.int 0 0,.ref 499,.int 327 0,.int 0 0,.ref 506,.int 432 0,.int 0 0,.ref 596,.int 434 0,.int 0 0,.ref 603,.int 442 0,.int 0 0,.ref 610,.int 446 0,.int 0 0,.ref 617,.int 451 0,.int 0 0,.ref 624,.int 454 0,.int 0 0,.ref 631,.int 461 0,.int 0 0,.ref 638,.int 463 0,.int 0 0,.ref 645,.int 465 0,.int 0 0,.ref 652,.int 474 0,.int 0 0,.ref 657,.int 480 0,.int 0 0,.ref 664,.int 482 0,.int 0 0,.ref 671,.int 487 0,.int 0 0,.ref 678,.int 499 0,.int 0 0,.ref 683,.int 501 0,.int 0 0,.ref 688,.int 503 0,.int 0 0,.ref 695,.int 510 0,.int 0 0,.ref 702,.int 515 0,.int 0 0,.ref 709,.int 520 0,.int 0 0,.ref 716,.int 526 0,.int 0 0,.ref 723,.int 533 0,.int 0 0,.ref 729,.int 549 0,.int 0 0,.ref 736,.int 551 0,.int 0 0,.ref 743,.int 554 0,.int 0 0,.ref 750,.int 559 0,.int 0 0,.ref 757,.int 567 0,.int 0 0,.ref 764,.int 572 0,.int 0 0,.ref 771,.int 576 0,.int 0 0,.ref 778,.int 584 0,.int 0 0,.ref 785,.int 599 0,.int 0 0,.ref 792,.int 608 0,.int 0 0,.ref 799]),#[]⟩
noncomputable def zzq12_697 (P:Params) : Obj:=⟨(.type "tuple"),none,(.seq #[]),#[]⟩
noncomputable def zzq12_698 (P:Params) : Obj:=⟨(.none),none,(.fields #[]),#[]⟩
noncomputable def zzq12_699 (P:Params) : Obj:=⟨(.type "tuple"),none,(.seq #[.str (os "book") 1174,.str (os "low") 1175,.str (os "j") 1176,.str (os "wide") 1177,.str (os "form") 1178]),#[]⟩
noncomputable def zzq12_700 (P:Params) : Obj:=⟨(.type "tuple"),none,(.seq #[]),#[]⟩
noncomputable def zzq12_701 (P:Params) : Obj:=gA "told_wide" "told_wide" (top 95)
noncomputable def zzq12_702 (P:Params) : Obj:=cO "told_wide" 1171 1172 1173 510 4 3 697 181 698 699 700 701 1179 510 1180
noncomputable def zzq12_703 (P:Params) : Obj:=gB "told_wide" "told_wide" (top 95) (.none) "trueleaf.bounds" 1115 702
noncomputable def zzq12_704 (P:Params) : Obj:=⟨(.type "tuple"),none,(.seq #[]),#[]⟩
noncomputable def zzq12_705 (P:Params) : Obj:=⟨(.none),none,(.fields #[]),#[]⟩
noncomputable def zzq12_706 (P:Params) : Obj:=⟨(.type "tuple"),none,(.seq #[.str (os "book") 1185,.str (os "low") 1186,.str (os "i") 1187,.str (os "j") 1188,.str (os "high") 1189,.str (os "page") 1190]),#[]⟩
noncomputable def zzq12_707 (P:Params) : Obj:=⟨(.type "tuple"),none,(.seq #[]),#[]⟩
noncomputable def zzq12_708 (P:Params) : Obj:=gA "told_high" "told_high" (top 96)
noncomputable def zzq12_709 (P:Params) : Obj:=cO "told_high" 1182 1183 1184 515 5 3 704 181 705 706 707 708 1191 515 1192
noncomputable def zzq12_710 (P:Params) : Obj:=gB "told_high" "told_high" (top 96) (.none) "trueleaf.bounds" 1115 709
noncomputable def zzq12_711 (P:Params) : Obj:=⟨(.type "tuple"),none,(.seq #[]),#[]⟩
noncomputable def zzq12_712 (P:Params) : Obj:=⟨(.none),none,(.fields #[]),#[]⟩
noncomputable def zzq12_713 (P:Params) : Obj:=⟨(.type "tuple"),none,(.seq #[.str (os "book") 1197,.str (os "low") 1198,.str (os "i") 1199,.str (os "words") 1200,.str (os "j") 1201]),#[]⟩
noncomputable def zzq12_714 (P:Params) : Obj:=⟨(.type "tuple"),none,(.seq #[]),#[]⟩
noncomputable def zzq12_715 (P:Params) : Obj:=gA "told_kept" "told_kept" (top 97)
noncomputable def zzq12_716 (P:Params) : Obj:=cO "told_kept" 1194 1195 1196 520 3 3 711 181 712 713 714 715 1202 520 1203
noncomputable def zzq12_717 (P:Params) : Obj:=gB "told_kept" "told_kept" (top 97) (.none) "trueleaf.bounds" 1115 716
noncomputable def zzq12_718 (P:Params) : Obj:=⟨(.type "tuple"),none,(.seq #[]),#[]⟩
noncomputable def zzq12_719 (P:Params) : Obj:=⟨(.none),none,(.fields #[]),#[]⟩
noncomputable def zzq12_720 (P:Params) : Obj:=⟨(.type "tuple"),none,(.seq #[.str (os "book") 1208,.str (os "low") 1209,.str (os "i") 1210,.str (os "form") 1211,.str (os "word") 1212]),#[]⟩
noncomputable def zzq12_721 (P:Params) : Obj:=⟨(.type "tuple"),none,(.seq #[]),#[]⟩
noncomputable def zzq12_722 (P:Params) : Obj:=gA "told_never" "told_never" (top 98)
noncomputable def zzq12_723 (P:Params) : Obj:=cO "told_never" 1205 1206 1207 526 3 3 718 181 719 720 721 722 1213 526 1214
noncomputable def zzq12_724 (P:Params) : Obj:=gB "told_never" "told_never" (top 98) (.none) "trueleaf.bounds" 1115 723
noncomputable def zzq12_725 (P:Params) : Obj:=⟨(.type "tuple"),none,(.seq #[.none]),#[]⟩
noncomputable def zzq12_726 (P:Params) : Obj:=⟨(.type "tuple"),none,(.seq #[]),#[]⟩
noncomputable def zzq12_727 (P:Params) : Obj:=⟨(.none),none,(.fields #[]),#[]⟩
noncomputable def zzq12_728 (P:Params) : Obj:=gA "settle" "settle" (top 100)
noncomputable def zzq12_729 (P:Params) : Obj:=⟨(.type "code"),none,(.fields #[.str (os "settle") 1218,.str (os "settle") 1219,.str (os "/claim/cut.py") 1220,.int 533 0,.int 2 0,.int 0 0,.int 0 0,.int 3 0,.ref 726,.bool true,.int 181 0,.ref 727,.none,.none,.none,.ref 728,.int 1221 0,.int 533 0,.str (os "/claim/cut.py") 1222]),#[]⟩
noncomputable def zzq12_730 (P:Params) : Obj:=gB "settle" "settle" (top 100) (.ref 725) "trueleaf.settle" 1216 729
noncomputable def zzq12_731 (P:Params) : Obj:=⟨(.type "tuple"),none,(.seq #[]),#[]⟩
noncomputable def zzq12_732 (P:Params) : Obj:=⟨(.none),none,(.fields #[]),#[]⟩
noncomputable def zzq12_733 (P:Params) : Obj:=⟨(.type "tuple"),none,(.seq #[.str (os "book") 1227,.str (os "place") 1228]),#[]⟩
noncomputable def zzq12_734 (P:Params) : Obj:=⟨(.type "tuple"),none,(.seq #[]),#[]⟩
noncomputable def zzq12_735 (P:Params) : Obj:=gA "stands_beyond" "stands_beyond" (top 101)
noncomputable def zzq12_736 (P:Params) : Obj:=cO "stands_beyond" 1224 1225 1226 549 2 3 731 181 732 733 734 735 1229 549 1230
noncomputable def zzq12_737 (P:Params) : Obj:=gB "stands_beyond" "stands_beyond" (top 101) (.none) "trueleaf.settle" 1216 736
noncomputable def zzq12_738 (P:Params) : Obj:=⟨(.type "tuple"),none,(.seq #[]),#[]⟩
noncomputable def zzq12_739 (P:Params) : Obj:=⟨(.none),none,(.fields #[]),#[]⟩
noncomputable def zzq12_740 (P:Params) : Obj:=⟨(.type "tuple"),none,(.seq #[.str (os "book") 1235,.str (os "bounds") 1236,.str (os "last") 1237]),#[]⟩
noncomputable def zzq12_741 (P:Params) : Obj:=⟨(.type "tuple"),none,(.seq #[]),#[]⟩
noncomputable def zzq12_742 (P:Params) : Obj:=gA "sizes_under" "sizes_under" (top 102)
noncomputable def zzq12_743 (P:Params) : Obj:=cO "sizes_under" 1232 1233 1234 551 2 3 738 181 739 740 741 742 1238 551 1239
noncomputable def zzq12_744 (P:Params) : Obj:=gB "sizes_under" "sizes_under" (top 102) (.none) "trueleaf.settle" 1216 743
noncomputable def zzq12_745 (P:Params) : Obj:=⟨(.type "tuple"),none,(.seq #[]),#[]⟩
noncomputable def zzq12_746 (P:Params) : Obj:=⟨(.none),none,(.fields #[]),#[]⟩
noncomputable def zzq12_747 (P:Params) : Obj:=⟨(.type "tuple"),none,(.seq #[.str (os "sizes") 1244,.str (os "newer") 1245,.str (os "k") 1246]),#[]⟩
noncomputable def zzq12_748 (P:Params) : Obj:=⟨(.type "tuple"),none,(.seq #[]),#[]⟩
noncomputable def zzq12_749 (P:Params) : Obj:=gA "first_unlike" "first_unlike" (top 103)
noncomputable def zzq12_750 (P:Params) : Obj:=cO "first_unlike" 1241 1242 1243 554 2 3 745 181 746 747 748 749 1247 554 1248
noncomputable def zzq12_751 (P:Params) : Obj:=gB "first_unlike" "first_unlike" (top 103) (.none) "trueleaf.settle" 1216 750
noncomputable def zzq12_752 (P:Params) : Obj:=⟨(.type "tuple"),none,(.seq #[]),#[]⟩
noncomputable def zzq12_753 (P:Params) : Obj:=⟨(.none),none,(.fields #[]),#[]⟩
noncomputable def zzq12_754 (P:Params) : Obj:=⟨(.type "tuple"),none,(.seq #[.str (os "book") 1253,.str (os "sizes") 1254,.str (os "bounds") 1255,.str (os "paper") 1256,.str (os "start") 1257,.str (os "i") 1258]),#[]⟩
noncomputable def zzq12_755 (P:Params) : Obj:=⟨(.type "tuple"),none,(.seq #[]),#[]⟩
noncomputable def zzq12_756 (P:Params) : Obj:=gA "raise_from" "raise_from" (top 104)
noncomputable def zzq12_757 (P:Params) : Obj:=cO "raise_from" 1250 1251 1252 559 5 3 752 181 753 754 755 756 1259 559 1260
noncomputable def zzq12_758 (P:Params) : Obj:=gB "raise_from" "raise_from" (top 104) (.none) "trueleaf.settle" 1216 757
noncomputable def zzq12_759 (P:Params) : Obj:=⟨(.type "tuple"),none,(.seq #[]),#[]⟩
noncomputable def zzq12_760 (P:Params) : Obj:=⟨(.none),none,(.fields #[]),#[]⟩
noncomputable def zzq12_761 (P:Params) : Obj:=⟨(.type "tuple"),none,(.seq #[.str (os "book") 1265,.str (os "sizes") 1266,.str (os "bounds") 1267,.str (os "paper") 1268,.str (os "i") 1269,.str (os "reason") 1270]),#[]⟩
noncomputable def zzq12_762 (P:Params) : Obj:=⟨(.type "tuple"),none,(.seq #[]),#[]⟩
noncomputable def zzq12_763 (P:Params) : Obj:=gA "raise_word" "raise_word" (top 105)
noncomputable def zzq12_764 (P:Params) : Obj:=cO "raise_word" 1262 1263 1264 567 5 3 759 181 760 761 762 763 1271 567 1272
noncomputable def zzq12_765 (P:Params) : Obj:=gB "raise_word" "raise_word" (top 105) (.none) "trueleaf.settle" 1216 764
noncomputable def zzq12_766 (P:Params) : Obj:=⟨(.type "tuple"),none,(.seq #[]),#[]⟩
noncomputable def zzq12_767 (P:Params) : Obj:=⟨(.none),none,(.fields #[]),#[]⟩
noncomputable def zzq12_768 (P:Params) : Obj:=⟨(.type "tuple"),none,(.seq #[.str (os "book") 1277,.str (os "bounds") 1278,.str (os "paper") 1279,.str (os "kind") 1280,.str (os "i") 1281,.str (os "j") 1282,.str (os "place") 1283]),#[]⟩
noncomputable def zzq12_769 (P:Params) : Obj:=⟨(.type "tuple"),none,(.seq #[]),#[]⟩
noncomputable def zzq12_770 (P:Params) : Obj:=gA "raise_by" "raise_by" (top 106)
noncomputable def zzq12_771 (P:Params) : Obj:=cO "raise_by" 1274 1275 1276 572 6 3 766 181 767 768 769 770 1284 572 1285
noncomputable def zzq12_772 (P:Params) : Obj:=gB "raise_by" "raise_by" (top 106) (.none) "trueleaf.settle" 1216 771
noncomputable def zzq12_773 (P:Params) : Obj:=⟨(.type "tuple"),none,(.seq #[]),#[]⟩
noncomputable def zzq12_774 (P:Params) : Obj:=⟨(.none),none,(.fields #[]),#[]⟩
noncomputable def zzq12_775 (P:Params) : Obj:=⟨(.type "tuple"),none,(.seq #[.str (os "book") 1290,.str (os "bounds") 1291,.str (os "paper") 1292,.str (os "i") 1293,.str (os "first") 1294]),#[]⟩
noncomputable def zzq12_776 (P:Params) : Obj:=⟨(.type "tuple"),none,(.seq #[]),#[]⟩
noncomputable def zzq12_777 (P:Params) : Obj:=gA "raise_kept" "raise_kept" (top 107)
noncomputable def zzq12_778 (P:Params) : Obj:=cO "raise_kept" 1287 1288 1289 576 4 3 773 181 774 775 776 777 1295 576 1296
noncomputable def zzq12_779 (P:Params) : Obj:=gB "raise_kept" "raise_kept" (top 107) (.none) "trueleaf.settle" 1216 778
noncomputable def zzq12_780 (P:Params) : Obj:=⟨(.type "tuple"),none,(.seq #[]),#[]⟩
noncomputable def zzq12_781 (P:Params) : Obj:=⟨(.none),none,(.fields #[]),#[]⟩
noncomputable def zzq12_782 (P:Params) : Obj:=⟨(.type "tuple"),none,(.seq #[.str (os "book") 1301,.str (os "sizes") 1302,.str (os "bounds") 1303,.str (os "i") 1304,.str (os "form") 1305,.str (os "j") 1306]),#[]⟩
noncomputable def zzq12_783 (P:Params) : Obj:=⟨(.type "tuple"),none,(.seq #[]),#[]⟩
noncomputable def zzq12_784 (P:Params) : Obj:=gA "reason_for" "reason_for" (top 108)
noncomputable def zzq12_785 (P:Params) : Obj:=cO "reason_for" 1298 1299 1300 584 4 3 780 181 781 782 783 784 1307 584 1308
noncomputable def zzq12_786 (P:Params) : Obj:=gB "reason_for" "reason_for" (top 108) (.none) "trueleaf.settle" 1216 785
noncomputable def zzq12_787 (P:Params) : Obj:=⟨(.type "tuple"),none,(.seq #[]),#[]⟩
noncomputable def zzq12_788 (P:Params) : Obj:=⟨(.none),none,(.fields #[]),#[]⟩
noncomputable def zzq12_789 (P:Params) : Obj:=⟨(.type "tuple"),none,(.seq #[.str (os "form") 1313,.str (os "sizes") 1314,.str (os "bounds") 1315,.str (os "i") 1316,.str (os "wide") 1317,.str (os "j") 1318]),#[]⟩
noncomputable def zzq12_790 (P:Params) : Obj:=⟨(.type "tuple"),none,(.seq #[]),#[]⟩
noncomputable def zzq12_791 (P:Params) : Obj:=gA "too_wide_from" "too_wide_from" (top 109)
noncomputable def zzq12_792 (P:Params) : Obj:=cO "too_wide_from" 1310 1311 1312 599 4 3 787 181 788 789 790 791 1319 599 1320
noncomputable def zzq12_793 (P:Params) : Obj:=gB "too_wide_from" "too_wide_from" (top 109) (.none) "trueleaf.settle" 1216 792
noncomputable def zzq12_794 (P:Params) : Obj:=⟨(.type "tuple"),none,(.seq #[]),#[]⟩
noncomputable def zzq12_795 (P:Params) : Obj:=⟨(.none),none,(.fields #[]),#[]⟩
noncomputable def zzq12_796 (P:Params) : Obj:=⟨(.type "tuple"),none,(.seq #[.str (os "form") 1325,.str (os "sizes") 1326,.str (os "bounds") 1327,.str (os "i") 1328,.str (os "page") 1329,.str (os "high") 1330,.str (os "j") 1331]),#[]⟩
noncomputable def zzq12_797 (P:Params) : Obj:=⟨(.type "tuple"),none,(.seq #[]),#[]⟩
noncomputable def zzq12_798 (P:Params) : Obj:=gA "too_high_from" "too_high_from" (top 110)
noncomputable def zzq12_799 (P:Params) : Obj:=cO "too_high_from" 1322 1323 1324 608 4 3 794 181 795 796 797 798 1332 608 1333
noncomputable def zzq12_800 (P:Params) : Obj:=gB "too_high_from" "too_high_from" (top 110) (.none) "trueleaf.settle" 1216 799
noncomputable def zzhY69 (P:Params) (t:List Obj) : List Obj:=PySem.W.boot_o_0 P :: PySem.W.boot_o_1 P :: PySem.W.boot_o_2 P :: zzq12_3 P :: PySem.W.boot_o_4 P :: PySem.W.boot_o_5 P :: PySem.W.boot_o_6 P :: PySem.W.boot_o_7 P :: PySem.W.boot_o_8 P :: PySem.W.boot_o_9 P :: PySem.W.boot_o_10 P :: zzqA_11 P :: zzq12_12 P :: zzqA_13 P :: zzqA_14 P :: zzq1_15 P :: t
noncomputable def zzhY70 (P:Params) (t:List Obj) : List Obj:=zzq11_688 P :: zzq11_689 P :: zzq11_690 P :: zzq11_691 P :: zzq11_692 P :: zzq11_693 P :: zzq11_694 P :: zzq11_695 P :: zzq11_696 P :: zzq12_697 P :: zzq12_698 P :: zzq12_699 P :: zzq12_700 P :: zzq12_701 P :: zzq12_702 P :: zzq12_703 P :: t
noncomputable def zzhY71 (P:Params) (t:List Obj) : List Obj:=zzq12_704 P :: zzq12_705 P :: zzq12_706 P :: zzq12_707 P :: zzq12_708 P :: zzq12_709 P :: zzq12_710 P :: zzq12_711 P :: zzq12_712 P :: zzq12_713 P :: zzq12_714 P :: zzq12_715 P :: zzq12_716 P :: zzq12_717 P :: zzq12_718 P :: zzq12_719 P :: t
noncomputable def zzhY72 (P:Params) (t:List Obj) : List Obj:=zzq12_720 P :: zzq12_721 P :: zzq12_722 P :: zzq12_723 P :: zzq12_724 P :: zzq12_725 P :: zzq12_726 P :: zzq12_727 P :: zzq12_728 P :: zzq12_729 P :: zzq12_730 P :: zzq12_731 P :: zzq12_732 P :: zzq12_733 P :: zzq12_734 P :: zzq12_735 P :: t
noncomputable def zzhY73 (P:Params) (t:List Obj) : List Obj:=zzq12_736 P :: zzq12_737 P :: zzq12_738 P :: zzq12_739 P :: zzq12_740 P :: zzq12_741 P :: zzq12_742 P :: zzq12_743 P :: zzq12_744 P :: zzq12_745 P :: zzq12_746 P :: zzq12_747 P :: zzq12_748 P :: zzq12_749 P :: zzq12_750 P :: zzq12_751 P :: t
noncomputable def zzhY74 (P:Params) (t:List Obj) : List Obj:=zzq12_752 P :: zzq12_753 P :: zzq12_754 P :: zzq12_755 P :: zzq12_756 P :: zzq12_757 P :: zzq12_758 P :: zzq12_759 P :: zzq12_760 P :: zzq12_761 P :: zzq12_762 P :: zzq12_763 P :: zzq12_764 P :: zzq12_765 P :: zzq12_766 P :: zzq12_767 P :: t
noncomputable def zzhY75 (P:Params) (t:List Obj) : List Obj:=zzq12_768 P :: zzq12_769 P :: zzq12_770 P :: zzq12_771 P :: zzq12_772 P :: zzq12_773 P :: zzq12_774 P :: zzq12_775 P :: zzq12_776 P :: zzq12_777 P :: zzq12_778 P :: zzq12_779 P :: zzq12_780 P :: zzq12_781 P :: zzq12_782 P :: zzq12_783 P :: t
noncomputable def zzhY76 (P:Params) (t:List Obj) : List Obj:=zzq12_784 P :: zzq12_785 P :: zzq12_786 P :: zzq12_787 P :: zzq12_788 P :: zzq12_789 P :: zzq12_790 P :: zzq12_791 P :: zzq12_792 P :: zzq12_793 P :: zzq12_794 P :: zzq12_795 P :: zzq12_796 P :: zzq12_797 P :: zzq12_798 P :: zzq12_799 P :: t
noncomputable def zzhY77 (P:Params) (t:List Obj) : List Obj:=zzq12_800 P :: t
noncomputable def zzh12 (P:Params) : Heap:=⟨⟨(zzhY69 P (zzhY27 P (zzhY3 P (zzhY7 P (zzhY8 P (zzhY12 P (zzhY13 P (zzhY14 P (zzhY18 P (zzhY19 P (zzhY23 P (zzhY24 P (zzhY28 P (zzhY29 P (zzhY30 P (zzhY33 P (zzhY34 P (zzhY35 P (zzhY36 P (zzhY37 P (zzhY39 P (zzhY40 P (zzhY41 P (zzhY42 P (zzhY43 P (zzhY46 P (zzhY47 P (zzhY48 P (zzhY49 P (zzhY50 P (zzhY53 P (zzhY54 P (zzhY55 P (zzhY56 P (zzhY57 P (zzhY58 P (zzhY61 P (zzhY62 P (zzhY63 P (zzhY64 P (zzhY65 P (zzhY66 P (zzhY67 P (zzhY70 P (zzhY71 P (zzhY72 P (zzhY73 P (zzhY74 P (zzhY75 P (zzhY76 P (zzhY77 P [])))))))))))))))))))))))))))))))))))))))))))))))))))⟩,{}⟩
noncomputable def zzhZ26 (P:Params) (t:List DictEntry) : List DictEntry:=⟨kh P (os "__name__"),(.str (os "__name__") 165),(.str (os "trueleaf.desk") 1355)⟩ :: ⟨kh P (os "__doc__"),(.str (os "__doc__") 166),(.none)⟩ :: ⟨kh P (os "__package__"),(.str (os "__package__") 167),(.none)⟩ :: ⟨kh P (os "__loader__"),(.str (os "__loader__") 168),(.builtin "__main__.__loader__#opaque")⟩ :: ⟨kh P (os "__spec__"),(.str (os "__spec__") 169),(.none)⟩ :: ⟨kh P (os "__annotations__"),(.str (os "__annotations__") 170),(.ref 6)⟩ :: ⟨kh P (os "__builtins__"),(.str (os "__builtins__") 171),(.ref 4)⟩ :: ⟨kh P (os "__file__"),(.str (os "__file__") 173),(.str (os "/claim/cut.py") 172)⟩ :: t
noncomputable def zzhZ27 (P:Params) (t:List DictEntry) : List DictEntry:=⟨kh P (os "reason_for"),(.str (os "reason_for") 1309),(.ref 786)⟩ :: ⟨kh P (os "too_wide_from"),(.str (os "too_wide_from") 1321),(.ref 793)⟩ :: ⟨kh P (os "too_high_from"),(.str (os "too_high_from") 1334),(.ref 800)⟩ :: ⟨kh P (os "pages_of"),(.str (os "pages_of") 1342),(.ref 805)⟩ :: ⟨kh P (os "tell_pages"),(.str (os "tell_pages") 1348),(.ref 810)⟩ :: ⟨kh P (os "page_rows"),(.str (os "page_rows") 1354),(.ref 815)⟩ :: ⟨kh P (os "MOST_PARTS"),(.str (os "MOST_PARTS") 1358),(.int 20 1357)⟩ :: ⟨kh P (os "MOST_ROWS_desk"),(.str (os "MOST_ROWS_desk") 1360),(.int 200 1359)⟩ :: t
noncomputable def zzhZ28 (P:Params) (t:List DictEntry) : List DictEntry:=⟨kh P (os "TOLD_PART"),(.str (os "TOLD_PART") 1362),(.str (os "main") 1361)⟩ :: ⟨kh P (os "Desk"),(.str (os "Desk") 1475),(.ref 902)⟩ :: t
noncomputable def zzq13_3 (P:Params) : Obj:=⟨(.type "dict"),none,.dict (List.toArray (zzhZ26 P (zzhZ1 P (zzhZ3 P (zzhZ8 P (zzhZ9 P (zzhZ10 P (zzhZ12 P (zzhZ13 P (zzhZ15 P (zzhZ19 P (zzhZ20 P (zzhZ23 P (zzhZ24 P (zzhZ27 P (zzhZ28 P [])))))))))))))))) 114,#[]⟩
noncomputable def zzq13_12 (P:Params) : Obj:=⟨(.none),none,(.fields #[.int 1 0,.int 0 0,.ref 20,.int 5 0,.int 0 0,.ref 27,.int 7 0,.int 0 0,.ref 40,.int 9 0,.int 0 0,.ref 52,.int 11 0,.int 0 0,.ref 64,.int 13 0,.int 0 0,.ref 76,.int 15 0,.int 0 0,.ref 88,.int 17 0,.int 0 0,.ref 100,.int 19 0,.int 0 0,.ref 112,.int 21 0,.int 0 0,.ref 124,.int 23 0,.int 0 0,.ref 136,.int 25 0,.int 0 0,.ref 148,.int 27 0,.int 0 0,.ref 160,.int 29 0,.int 0 0,.ref 172,.int 31 0,.int 0 0,.ref 184,.int 33 0,.int 0 0,.ref 196,.int 35 0,.int 0 0,.ref 208,.int 37 0,.int 0 0,.ref 220,.int 42 0,.int 0 0,.ref 232,.int 47 0,.int 0 0,.ref 239,.int 55 0,.int 0 0,.ref 245,.int 57 0,.int 0 0,.ref 250,.int 61 0,.int 0 0,.ref 257,.int 63 0,.int 0 0,.ref 264,.int 73 0,.int 0 0,.ref 271,.int 75 0,.int 0 0,.ref 278,.int 83 0,.int 0 0,.ref 285,.int 85 0,.int 0 0,.ref 292,.int 87 0,.int 0 0,.ref 299,.int 99 0,.int 0 0,.ref 306,.int 108 0,.int 0 0,.ref 313,.int 118 0,.int 0 0,.ref 318,.int 127 0,.int 0 0,.ref 326,.int 146 0,.int 0 0,.ref 331,.int 154 0,.int 0 0,.ref 338,.int 156 0,.int 0 0,.ref 345,.int 163 0,.int 0 0,.ref 352,.int 170 0,.int 0 0,.ref 359,.int 176 0,.int 0 0,.ref 367,.int 178 0,.int 0 0,.ref 374,.int 187 0,.int 0 0,.ref 381,.int 193 0,.int 0 0,.ref 386,.int 195 0,.int 0 0,.ref 393,.int 203 0,.int 0 0,.ref 400,.int 220 0,.int 0 0,.ref 405,.int 222 0,.int 0 0,.ref 410,.int 237 0,.int 0 0,.ref 419,.int 242 0,.int 0 0,.ref 426,.int 314 0,.int 0 0,.ref 492,.int 319 0,.int 0 0,.ref 499,.int 327 0,.int 0 0,.ref 506,.int 432 0,.int 0 0,.ref 596,.int 434 0,.int 0 0,.ref 603,.int 442 0,.int 0 0,.ref 610,.int 446 0,.int 0 0,.ref 617,.int 451 0,.int 0 0,.ref 624,.int 454 0,.int 0 0,.ref 631,.int 461 0,.int 0 0,.ref 638,.int 463 0,.int 0 0,.ref 645,.int 465 0,.int 0 0,.ref 652,.int 474 0,.int 0 0,.ref 657,.int 480 0,.int 0 0,.ref 664,.int 482 0,.int 0 0,.ref 671,.int 487 0,.int 0 0,.ref 678,.int 499 0,.int 0 0,.ref 683,.int 501 0,.int 0 0,.ref 688,.int 503 0,.int 0 0,.ref 695,.int 510 0,.int 0 0,.ref 702,.int 515 0,.int 0 0,.ref 709,.int 520 0,.int 0 0,.ref 716,.int 526 0,.int 0 0,.ref 723,.int 533 0,.int 0 0,.ref 729,.int 549 0,.int 0 0,.ref 736,.int 551 0,.int 0 0,.ref 743,.int 554 0,.int 0 0,.ref 750,.int 559 0,.int 0 0,.ref 757,.int 567 0,.int 0 0,.ref 764,.int 572 0,.int 0 0,.ref 771,.int 576 0,.int 0 0,.ref 778,.int 584 0,.int 0 0,.ref 785,.int 599 0,.int 0 0,.ref 792,.int 608 0,.int 0 0,.ref 799,.int 619 0,.int 0 0,.ref 804,.int 624 0,.int 0 0,.ref 809,.int 631 0,.int 0 0,.ref 814,.int 645 0,.int 0 0,.ref 821]),#[]⟩
noncomputable def zzq13_801 (P:Params) : Obj:=⟨(.type "tuple"),none,(.seq #[]),#[]⟩
noncomputable def zzq13_802 (P:Params) : Obj:=⟨(.none),none,(.fields #[]),#[]⟩
noncomputable def zzq13_803 (P:Params) : Obj:=gA "pages_of" "pages_of" (top 112)
noncomputable def zzq13_804 (P:Params) : Obj:=⟨(.type "code"),none,(.fields #[.str (os "pages_of") 1337,.str (os "pages_of") 1338,.str (os "/claim/cut.py") 1339,.int 619 0,.int 2 0,.int 0 0,.int 0 0,.int 3 0,.ref 801,.bool true,.int 181 0,.ref 802,.none,.none,.none,.ref 803,.int 1340 0,.int 619 0,.str (os "/claim/cut.py") 1341]),#[]⟩
noncomputable def zzq13_805 (P:Params) : Obj:=gB "pages_of" "pages_of" (top 112) (.none) "trueleaf.pages" 1335 804
noncomputable def zzq13_806 (P:Params) : Obj:=⟨(.type "tuple"),none,(.seq #[]),#[]⟩
noncomputable def zzq13_807 (P:Params) : Obj:=⟨(.none),none,(.fields #[]),#[]⟩
noncomputable def zzq13_808 (P:Params) : Obj:=gA "tell_pages" "tell_pages" (top 113)
noncomputable def zzq13_809 (P:Params) : Obj:=⟨(.type "code"),none,(.fields #[.str (os "tell_pages") 1343,.str (os "tell_pages") 1344,.str (os "/claim/cut.py") 1345,.int 624 0,.int 3 0,.int 0 0,.int 0 0,.int 3 0,.ref 806,.bool true,.int 181 0,.ref 807,.none,.none,.none,.ref 808,.int 1346 0,.int 624 0,.str (os "/claim/cut.py") 1347]),#[]⟩
noncomputable def zzq13_810 (P:Params) : Obj:=gB "tell_pages" "tell_pages" (top 113) (.none) "trueleaf.pages" 1335 809
noncomputable def zzq13_811 (P:Params) : Obj:=⟨(.type "tuple"),none,(.seq #[]),#[]⟩
noncomputable def zzq13_812 (P:Params) : Obj:=⟨(.none),none,(.fields #[]),#[]⟩
noncomputable def zzq13_813 (P:Params) : Obj:=gA "page_rows" "page_rows" (top 114)
noncomputable def zzq13_814 (P:Params) : Obj:=⟨(.type "code"),none,(.fields #[.str (os "page_rows") 1349,.str (os "page_rows") 1350,.str (os "/claim/cut.py") 1351,.int 631 0,.int 3 0,.int 0 0,.int 0 0,.int 3 0,.ref 811,.bool true,.int 181 0,.ref 812,.none,.none,.none,.ref 813,.int 1352 0,.int 631 0,.str (os "/claim/cut.py") 1353]),#[]⟩
noncomputable def zzq13_815 (P:Params) : Obj:=gB "page_rows" "page_rows" (top 114) (.none) "trueleaf.pages" 1335 814
noncomputable def zzq13_816 (P:Params) : Obj:=⟨(.type "tuple"),none,(.seq #[]),#[]⟩
noncomputable def zzq13_817 (P:Params) : Obj:=⟨(.type "builtin_function_or_method"),none,(.fields #[.builtin "type.__prepare__",.type "type"]),#[]⟩
noncomputable def zzq13_818 (P:Params) : Obj:=⟨(.type "dict"),none,.dict (List.toArray (⟨kh P (os "__module__"),(.str (os "__module__") 1370),(.str (os "trueleaf.desk") 1355)⟩ :: ⟨kh P (os "__qualname__"),(.str (os "__qualname__") 1372),(.str (os "Desk") 1371)⟩ :: ⟨kh P (os "__firstlineno__"),(.str (os "__firstlineno__") 1374),(.int 645 1373)⟩ :: ⟨kh P (os "__init__"),(.str (os "__init__") 1382),(.ref 829)⟩ :: ⟨kh P (os "put_part"),(.str (os "put_part") 1391),(.ref 836)⟩ :: ⟨kh P (os "drop_part"),(.str (os "drop_part") 1399),(.ref 843)⟩ :: ⟨kh P (os "put_row"),(.str (os "put_row") 1410),(.ref 850)⟩ :: ⟨kh P (os "cut_row"),(.str (os "cut_row") 1420),(.ref 857)⟩ :: ⟨kh P (os "undo"),(.str (os "undo") 1427),(.ref 864)⟩ :: ⟨kh P (os "shelf"),(.str (os "shelf") 1434),(.ref 871)⟩ :: ⟨kh P (os "tell"),(.str (os "tell") 1441),(.ref 878)⟩ :: ⟨kh P (os "issue"),(.str (os "issue") 1448),(.ref 885)⟩ :: ⟨kh P (os "rows_of"),(.str (os "rows_of") 1456),(.ref 892)⟩ :: ⟨kh P (os "do_deed"),(.str (os "do_deed") 1463),(.ref 899)⟩ :: ⟨kh P (os "__static_attributes__"),(.str (os "__static_attributes__") 1468),(.ref 900)⟩ :: [])) 15,#[]⟩
noncomputable def zzq13_819 (P:Params) : Obj:=⟨(.type "tuple"),none,(.seq #[]),#[]⟩
noncomputable def zzq13_820 (P:Params) : Obj:=⟨(.none),none,(.fields #[.int 647 0,.int 4 0,.ref 828,.int 654 0,.int 4 0,.ref 835,.int 664 0,.int 4 0,.ref 842,.int 669 0,.int 4 0,.ref 849,.int 678 0,.int 4 0,.ref 856,.int 685 0,.int 4 0,.ref 863,.int 690 0,.int 4 0,.ref 870,.int 693 0,.int 4 0,.ref 877,.int 696 0,.int 4 0,.ref 884,.int 699 0,.int 4 0,.ref 891,.int 704 0,.int 4 0,.ref 898]),#[]⟩
noncomputable def zzq13_821 (P:Params) : Obj:=⟨(.type "code"),none,(.fields #[.str (os "Desk") 1365,.str (os "Desk") 1366,.str (os "/claim/cut.py") 1367,.int 645 0,.int 0 0,.int 0 0,.int 0 0,.int 0 0,.ref 819,.bool false,.int 181 0,.ref 820,.none,.none,.none,.none,.int 1368 0,.int 645 0,.str (os "/claim/cut.py") 1369]),#[]⟩
noncomputable def zzq13_822 (P:Params) : Obj:=⟨(.type "frame"),none,(.plain),#[Option.some (.ref 821),Option.some (.ref 3),Option.some (.ref 818),none,Option.some (.str (os "trueleaf.desk") 1355),none,Option.some (.ref 0)]⟩
noncomputable def zzq13_823 (P:Params) : Obj:=⟨(.type "tuple"),none,(.seq #[]),#[]⟩
noncomputable def zzq13_824 (P:Params) : Obj:=⟨(.none),none,(.fields #[]),#[]⟩
noncomputable def zzq13_825 (P:Params) : Obj:=⟨(.type "tuple"),none,(.seq #[.str (os "self") 1378,.str (os "form") 1379]),#[]⟩
noncomputable def zzq13_826 (P:Params) : Obj:=⟨(.type "tuple"),none,(.seq #[]),#[]⟩
noncomputable def zzq13_827 (P:Params) : Obj:=gA "__init__" "Desk.__init__" (mtop 119 0)
noncomputable def zzq13_828 (P:Params) : Obj:=cM "__init__" "Desk.__init__" 1375 1376 1377 647 2 3 823 181 824 825 826 827 1380 647 1381
noncomputable def zzq13_829 (P:Params) : Obj:=gB "__init__" "Desk.__init__" (mtop 119 0) (.none) "trueleaf.desk" 1355 828
noncomputable def zzq13_830 (P:Params) : Obj:=⟨(.type "tuple"),none,(.seq #[]),#[]⟩
noncomputable def zzq13_831 (P:Params) : Obj:=⟨(.none),none,(.fields #[]),#[]⟩
noncomputable def zzq13_832 (P:Params) : Obj:=⟨(.type "tuple"),none,(.seq #[.str (os "self") 1386,.str (os "name") 1387,.str (os "text") 1388]),#[]⟩
noncomputable def zzq13_833 (P:Params) : Obj:=⟨(.type "tuple"),none,(.seq #[]),#[]⟩
noncomputable def zzq13_834 (P:Params) : Obj:=gA "put_part" "Desk.put_part" (mtop 119 1)
noncomputable def zzq13_835 (P:Params) : Obj:=cM "put_part" "Desk.put_part" 1383 1384 1385 654 3 3 830 181 831 832 833 834 1389 654 1390
noncomputable def zzq13_836 (P:Params) : Obj:=gB "put_part" "Desk.put_part" (mtop 119 1) (.none) "trueleaf.desk" 1355 835
noncomputable def zzq13_837 (P:Params) : Obj:=⟨(.type "tuple"),none,(.seq #[]),#[]⟩
noncomputable def zzq13_838 (P:Params) : Obj:=⟨(.none),none,(.fields #[]),#[]⟩
noncomputable def zzq13_839 (P:Params) : Obj:=⟨(.type "tuple"),none,(.seq #[.str (os "self") 1395,.str (os "name") 1396]),#[]⟩
noncomputable def zzq13_840 (P:Params) : Obj:=⟨(.type "tuple"),none,(.seq #[]),#[]⟩
noncomputable def zzq13_841 (P:Params) : Obj:=gA "drop_part" "Desk.drop_part" (mtop 119 2)
noncomputable def zzq13_842 (P:Params) : Obj:=cM "drop_part" "Desk.drop_part" 1392 1393 1394 664 2 3 837 181 838 839 840 841 1397 664 1398
noncomputable def zzq13_843 (P:Params) : Obj:=gB "drop_part" "Desk.drop_part" (mtop 119 2) (.none) "trueleaf.desk" 1355 842
noncomputable def zzq13_844 (P:Params) : Obj:=⟨(.type "tuple"),none,(.seq #[]),#[]⟩
noncomputable def zzq13_845 (P:Params) : Obj:=⟨(.none),none,(.fields #[]),#[]⟩
noncomputable def zzq13_846 (P:Params) : Obj:=⟨(.type "tuple"),none,(.seq #[.str (os "self") 1403,.str (os "name") 1404,.str (os "at") 1405,.str (os "row") 1406,.str (os "rows") 1407]),#[]⟩
noncomputable def zzq13_847 (P:Params) : Obj:=⟨(.type "tuple"),none,(.seq #[]),#[]⟩
noncomputable def zzq13_848 (P:Params) : Obj:=gA "put_row" "Desk.put_row" (mtop 119 3)
noncomputable def zzq13_849 (P:Params) : Obj:=cM "put_row" "Desk.put_row" 1400 1401 1402 669 4 3 844 181 845 846 847 848 1408 669 1409
noncomputable def zzq13_850 (P:Params) : Obj:=gB "put_row" "Desk.put_row" (mtop 119 3) (.none) "trueleaf.desk" 1355 849
noncomputable def zzq13_851 (P:Params) : Obj:=⟨(.type "tuple"),none,(.seq #[]),#[]⟩
noncomputable def zzq13_852 (P:Params) : Obj:=⟨(.none),none,(.fields #[]),#[]⟩
noncomputable def zzq13_853 (P:Params) : Obj:=⟨(.type "tuple"),none,(.seq #[.str (os "self") 1414,.str (os "name") 1415,.str (os "at") 1416,.str (os "rows") 1417]),#[]⟩
noncomputable def zzq13_854 (P:Params) : Obj:=⟨(.type "tuple"),none,(.seq #[]),#[]⟩
noncomputable def zzq13_855 (P:Params) : Obj:=gA "cut_row" "Desk.cut_row" (mtop 119 4)
noncomputable def zzq13_856 (P:Params) : Obj:=cM "cut_row" "Desk.cut_row" 1411 1412 1413 678 3 3 851 181 852 853 854 855 1418 678 1419
noncomputable def zzq13_857 (P:Params) : Obj:=gB "cut_row" "Desk.cut_row" (mtop 119 4) (.none) "trueleaf.desk" 1355 856
noncomputable def zzq13_858 (P:Params) : Obj:=⟨(.type "tuple"),none,(.seq #[]),#[]⟩
noncomputable def zzq13_859 (P:Params) : Obj:=⟨(.none),none,(.fields #[]),#[]⟩
noncomputable def zzq13_860 (P:Params) : Obj:=⟨(.type "tuple"),none,(.seq #[.str (os "self") 1424]),#[]⟩
noncomputable def zzq13_861 (P:Params) : Obj:=⟨(.type "tuple"),none,(.seq #[]),#[]⟩
noncomputable def zzq13_862 (P:Params) : Obj:=gA "undo" "Desk.undo" (mtop 119 5)
noncomputable def zzq13_863 (P:Params) : Obj:=cM "undo" "Desk.undo" 1421 1422 1423 685 1 3 858 181 859 860 861 862 1425 685 1426
noncomputable def zzq13_864 (P:Params) : Obj:=gB "undo" "Desk.undo" (mtop 119 5) (.none) "trueleaf.desk" 1355 863
noncomputable def zzq13_865 (P:Params) : Obj:=⟨(.type "tuple"),none,(.seq #[]),#[]⟩
noncomputable def zzq13_866 (P:Params) : Obj:=⟨(.none),none,(.fields #[]),#[]⟩
noncomputable def zzq13_867 (P:Params) : Obj:=⟨(.type "tuple"),none,(.seq #[.str (os "self") 1431]),#[]⟩
noncomputable def zzq13_868 (P:Params) : Obj:=⟨(.type "tuple"),none,(.seq #[]),#[]⟩
noncomputable def zzq13_869 (P:Params) : Obj:=gA "shelf" "Desk.shelf" (mtop 119 6)
noncomputable def zzq13_870 (P:Params) : Obj:=cM "shelf" "Desk.shelf" 1428 1429 1430 690 1 3 865 181 866 867 868 869 1432 690 1433
noncomputable def zzq13_871 (P:Params) : Obj:=gB "shelf" "Desk.shelf" (mtop 119 6) (.none) "trueleaf.desk" 1355 870
noncomputable def zzq13_872 (P:Params) : Obj:=⟨(.type "tuple"),none,(.seq #[]),#[]⟩
noncomputable def zzq13_873 (P:Params) : Obj:=⟨(.none),none,(.fields #[]),#[]⟩
noncomputable def zzq13_874 (P:Params) : Obj:=⟨(.type "tuple"),none,(.seq #[.str (os "self") 1438]),#[]⟩
noncomputable def zzq13_875 (P:Params) : Obj:=⟨(.type "tuple"),none,(.seq #[]),#[]⟩
noncomputable def zzq13_876 (P:Params) : Obj:=gA "tell" "Desk.tell" (mtop 119 7)
noncomputable def zzq13_877 (P:Params) : Obj:=cM "tell" "Desk.tell" 1435 1436 1437 693 1 3 872 181 873 874 875 876 1439 693 1440
noncomputable def zzq13_878 (P:Params) : Obj:=gB "tell" "Desk.tell" (mtop 119 7) (.none) "trueleaf.desk" 1355 877
noncomputable def zzq13_879 (P:Params) : Obj:=⟨(.type "tuple"),none,(.seq #[]),#[]⟩
noncomputable def zzq13_880 (P:Params) : Obj:=⟨(.none),none,(.fields #[]),#[]⟩
noncomputable def zzq13_881 (P:Params) : Obj:=⟨(.type "tuple"),none,(.seq #[.str (os "self") 1445]),#[]⟩
noncomputable def zzq13_882 (P:Params) : Obj:=⟨(.type "tuple"),none,(.seq #[]),#[]⟩
noncomputable def zzq13_883 (P:Params) : Obj:=gA "issue" "Desk.issue" (mtop 119 8)
noncomputable def zzq13_884 (P:Params) : Obj:=cM "issue" "Desk.issue" 1442 1443 1444 696 1 3 879 181 880 881 882 883 1446 696 1447
noncomputable def zzq13_885 (P:Params) : Obj:=gB "issue" "Desk.issue" (mtop 119 8) (.none) "trueleaf.desk" 1355 884
noncomputable def zzq13_886 (P:Params) : Obj:=⟨(.type "tuple"),none,(.seq #[]),#[]⟩
noncomputable def zzq13_887 (P:Params) : Obj:=⟨(.none),none,(.fields #[]),#[]⟩
noncomputable def zzq13_888 (P:Params) : Obj:=⟨(.type "tuple"),none,(.seq #[.str (os "self") 1452,.str (os "name") 1453]),#[]⟩
noncomputable def zzq13_889 (P:Params) : Obj:=⟨(.type "tuple"),none,(.seq #[]),#[]⟩
noncomputable def zzq13_890 (P:Params) : Obj:=gA "rows_of" "Desk.rows_of" (mtop 119 9)
noncomputable def zzq13_891 (P:Params) : Obj:=cM "rows_of" "Desk.rows_of" 1449 1450 1451 699 2 3 886 181 887 888 889 890 1454 699 1455
noncomputable def zzq13_892 (P:Params) : Obj:=gB "rows_of" "Desk.rows_of" (mtop 119 9) (.none) "trueleaf.desk" 1355 891
noncomputable def zzq13_893 (P:Params) : Obj:=⟨(.type "tuple"),none,(.seq #[]),#[]⟩
noncomputable def zzq13_894 (P:Params) : Obj:=⟨(.none),none,(.fields #[]),#[]⟩
noncomputable def zzq13_895 (P:Params) : Obj:=⟨(.type "tuple"),none,(.seq #[.str (os "self") 1460]),#[]⟩
noncomputable def zzq13_896 (P:Params) : Obj:=⟨(.type "tuple"),none,(.seq #[]),#[]⟩
noncomputable def zzq13_897 (P:Params) : Obj:=gA "do_deed" "Desk.do_deed" (mtop 119 10)
noncomputable def zzq13_898 (P:Params) : Obj:=cM "do_deed" "Desk.do_deed" 1457 1458 1459 704 1 3 893 181 894 895 896 897 1461 704 1462
noncomputable def zzq13_899 (P:Params) : Obj:=gB "do_deed" "Desk.do_deed" (mtop 119 10) (.none) "trueleaf.desk" 1355 898
noncomputable def zzq13_900 (P:Params) : Obj:=⟨(.type "tuple"),none,(.seq #[.str (os "elder") 1464,.str (os "form") 1465,.str (os "issued") 1466,.str (os "parts") 1467]),#[]⟩
noncomputable def zzq13_901 (P:Params) : Obj:=⟨(.type "dict"),none,.dict (List.toArray (⟨kh P (os "__module__"),(.str (os "__module__") 1370),(.str (os "trueleaf.desk") 1355)⟩ :: ⟨kh P (os "__firstlineno__"),(.str (os "__firstlineno__") 1374),(.int 645 1373)⟩ :: ⟨kh P (os "__init__"),(.str (os "__init__") 1382),(.ref 829)⟩ :: ⟨kh P (os "put_part"),(.str (os "put_part") 1391),(.ref 836)⟩ :: ⟨kh P (os "drop_part"),(.str (os "drop_part") 1399),(.ref 843)⟩ :: ⟨kh P (os "put_row"),(.str (os "put_row") 1410),(.ref 850)⟩ :: ⟨kh P (os "cut_row"),(.str (os "cut_row") 1420),(.ref 857)⟩ :: ⟨kh P (os "undo"),(.str (os "undo") 1427),(.ref 864)⟩ :: ⟨kh P (os "shelf"),(.str (os "shelf") 1434),(.ref 871)⟩ :: ⟨kh P (os "tell"),(.str (os "tell") 1441),(.ref 878)⟩ :: ⟨kh P (os "issue"),(.str (os "issue") 1448),(.ref 885)⟩ :: ⟨kh P (os "rows_of"),(.str (os "rows_of") 1456),(.ref 892)⟩ :: ⟨kh P (os "do_deed"),(.str (os "do_deed") 1463),(.ref 899)⟩ :: ⟨kh P (os "__static_attributes__"),(.str (os "__static_attributes__") 1468),(.ref 900)⟩ :: ⟨kh P (os "__dict__"),(.str (os "__dict__") 1470),(.ref 903)⟩ :: ⟨kh P (os "__weakref__"),(.str (os "__weakref__") 1472),(.ref 904)⟩ :: ⟨kh P (os "__doc__"),(.str (os "__doc__") 1473),(.none)⟩ :: [])) 4,#[]⟩
noncomputable def zzq13_902 (P:Params) : Obj:=⟨(.type "type"),none,(.cls (PySem.ClassData.mk (os "Desk") [.type "object"] [.ref 902,.type "object"] 901 (os "Desk") true [] [] false none false)),#[none,none,Option.some (.str (os "Desk") 1363),Option.some (.str (os "Desk") 1371),Option.some (.builtin "object.__new__"),Option.some (.bool true)]⟩
noncomputable def zzq13_903 (P:Params) : Obj:=⟨(.type "getset_descriptor"),none,(.fields #[.str (os "__dict__") 1469,.ref 902,.builtin "function.__dict__",.builtin "function.__dict__#set"]),#[]⟩
noncomputable def zzq13_904 (P:Params) : Obj:=⟨(.type "getset_descriptor"),none,(.fields #[.str (os "__weakref__") 1471,.ref 902,.builtin "ExceptionGroup.__weakref__",.none]),#[]⟩
noncomputable def zzq13_905 (P:Params) : Obj:=⟨(.type "super"),none,(.fields #[.ref 902,.ref 902,.ref 902]),#[]⟩
noncomputable def zzq13_906 (P:Params) : Obj:=⟨(.type "builtin_function_or_method"),none,(.fields #[.builtin "object.__init_subclass__",.ref 902]),#[]⟩
noncomputable def zzhY78 (P:Params) (t:List Obj) : List Obj:=PySem.W.boot_o_0 P :: PySem.W.boot_o_1 P :: PySem.W.boot_o_2 P :: zzq13_3 P :: PySem.W.boot_o_4 P :: PySem.W.boot_o_5 P :: PySem.W.boot_o_6 P :: PySem.W.boot_o_7 P :: PySem.W.boot_o_8 P :: PySem.W.boot_o_9 P :: PySem.W.boot_o_10 P :: zzqA_11 P :: zzq13_12 P :: zzqA_13 P :: zzqA_14 P :: zzq1_15 P :: t
noncomputable def zzhY79 (P:Params) (t:List Obj) : List Obj:=zzq12_800 P :: zzq13_801 P :: zzq13_802 P :: zzq13_803 P :: zzq13_804 P :: zzq13_805 P :: zzq13_806 P :: zzq13_807 P :: zzq13_808 P :: zzq13_809 P :: zzq13_810 P :: zzq13_811 P :: zzq13_812 P :: zzq13_813 P :: zzq13_814 P :: zzq13_815 P :: t
noncomputable def zzhY80 (P:Params) (t:List Obj) : List Obj:=zzq13_816 P :: zzq13_817 P :: zzq13_818 P :: zzq13_819 P :: zzq13_820 P :: zzq13_821 P :: zzq13_822 P :: zzq13_823 P :: zzq13_824 P :: zzq13_825 P :: zzq13_826 P :: zzq13_827 P :: zzq13_828 P :: zzq13_829 P :: zzq13_830 P :: zzq13_831 P :: t
noncomputable def zzhY81 (P:Params) (t:List Obj) : List Obj:=zzq13_832 P :: zzq13_833 P :: zzq13_834 P :: zzq13_835 P :: zzq13_836 P :: zzq13_837 P :: zzq13_838 P :: zzq13_839 P :: zzq13_840 P :: zzq13_841 P :: zzq13_842 P :: zzq13_843 P :: zzq13_844 P :: zzq13_845 P :: zzq13_846 P :: zzq13_847 P :: t
noncomputable def zzhY82 (P:Params) (t:List Obj) : List Obj:=zzq13_848 P :: zzq13_849 P :: zzq13_850 P :: zzq13_851 P :: zzq13_852 P :: zzq13_853 P :: zzq13_854 P :: zzq13_855 P :: zzq13_856 P :: zzq13_857 P :: zzq13_858 P :: zzq13_859 P :: zzq13_860 P :: zzq13_861 P :: zzq13_862 P :: zzq13_863 P :: t
noncomputable def zzhY83 (P:Params) (t:List Obj) : List Obj:=zzq13_864 P :: zzq13_865 P :: zzq13_866 P :: zzq13_867 P :: zzq13_868 P :: zzq13_869 P :: zzq13_870 P :: zzq13_871 P :: zzq13_872 P :: zzq13_873 P :: zzq13_874 P :: zzq13_875 P :: zzq13_876 P :: zzq13_877 P :: zzq13_878 P :: zzq13_879 P :: t
noncomputable def zzhY84 (P:Params) (t:List Obj) : List Obj:=zzq13_880 P :: zzq13_881 P :: zzq13_882 P :: zzq13_883 P :: zzq13_884 P :: zzq13_885 P :: zzq13_886 P :: zzq13_887 P :: zzq13_888 P :: zzq13_889 P :: zzq13_890 P :: zzq13_891 P :: zzq13_892 P :: zzq13_893 P :: zzq13_894 P :: zzq13_895 P :: t
noncomputable def zzhY85 (P:Params) (t:List Obj) : List Obj:=zzq13_896 P :: zzq13_897 P :: zzq13_898 P :: zzq13_899 P :: zzq13_900 P :: zzq13_901 P :: zzq13_902 P :: zzq13_903 P :: zzq13_904 P :: zzq13_905 P :: zzq13_906 P :: t
noncomputable def zzh13 (P:Params) : Heap:=⟨⟨(zzhY78 P (zzhY27 P (zzhY3 P (zzhY7 P (zzhY8 P (zzhY12 P (zzhY13 P (zzhY14 P (zzhY18 P (zzhY19 P (zzhY23 P (zzhY24 P (zzhY28 P (zzhY29 P (zzhY30 P (zzhY33 P (zzhY34 P (zzhY35 P (zzhY36 P (zzhY37 P (zzhY39 P (zzhY40 P (zzhY41 P (zzhY42 P (zzhY43 P (zzhY46 P (zzhY47 P (zzhY48 P (zzhY49 P (zzhY50 P (zzhY53 P (zzhY54 P (zzhY55 P (zzhY56 P (zzhY57 P (zzhY58 P (zzhY61 P (zzhY62 P (zzhY63 P (zzhY64 P (zzhY65 P (zzhY66 P (zzhY67 P (zzhY70 P (zzhY71 P (zzhY72 P (zzhY73 P (zzhY74 P (zzhY75 P (zzhY76 P (zzhY79 P (zzhY80 P (zzhY81 P (zzhY82 P (zzhY83 P (zzhY84 P (zzhY85 P [])))))))))))))))))))))))))))))))))))))))))))))))))))))))))⟩,{}⟩
noncomputable def zzhZ29 (P:Params) (t:List DictEntry) : List DictEntry:=⟨kh P (os "__name__"),(.str (os "__name__") 165),(.str (os "law_trueleaf_k74_whole_deeds_taken_back") 1476)⟩ :: ⟨kh P (os "__doc__"),(.str (os "__doc__") 166),(.none)⟩ :: ⟨kh P (os "__package__"),(.str (os "__package__") 167),(.none)⟩ :: ⟨kh P (os "__loader__"),(.str (os "__loader__") 168),(.builtin "__main__.__loader__#opaque")⟩ :: ⟨kh P (os "__spec__"),(.str (os "__spec__") 169),(.none)⟩ :: ⟨kh P (os "__annotations__"),(.str (os "__annotations__") 170),(.ref 6)⟩ :: ⟨kh P (os "__builtins__"),(.str (os "__builtins__") 171),(.ref 4)⟩ :: ⟨kh P (os "__file__"),(.str (os "__file__") 173),(.str (os "/claim/cut.py") 172)⟩ :: t
noncomputable def zzhZ30 (P:Params) (t:List DictEntry) : List DictEntry:=⟨kh P (os "TOLD_PART"),(.str (os "TOLD_PART") 1362),(.str (os "main") 1361)⟩ :: ⟨kh P (os "Desk"),(.str (os "Desk") 1475),(.ref 902)⟩ :: ⟨kh P (os "_law_cell_at"),(.str (os "_law_cell_at") 1485),(.ref 913)⟩ :: ⟨kh P (os "_law_mixed"),(.str (os "_law_mixed") 1492),(.ref 920)⟩ :: ⟨kh P (os "_law_signs"),(.str (os "_law_signs") 1498),(.ref 925)⟩ :: ⟨kh P (os "_law_row"),(.str (os "_law_row") 1506),(.ref 932)⟩ :: ⟨kh P (os "_law_text"),(.str (os "_law_text") 1512),(.ref 937)⟩ :: ⟨kh P (os "_law_name"),(.str (os "_law_name") 1521),(.ref 944)⟩ :: t
noncomputable def zzhZ31 (P:Params) (t:List DictEntry) : List DictEntry:=⟨kh P (os "_law_at"),(.str (os "_law_at") 1529),(.ref 951)⟩ :: ⟨kh P (os "_law_is_name"),(.str (os "_law_is_name") 1535),(.ref 956)⟩ :: ⟨kh P (os "_law_put_by"),(.str (os "_law_put_by") 1545),(.ref 963)⟩ :: ⟨kh P (os "_law_done_by"),(.str (os "_law_done_by") 1559),(.ref 970)⟩ :: ⟨kh P (os "_law_did"),(.str (os "_law_did") 1573),(.ref 977)⟩ :: ⟨kh P (os "_law_shelf_is"),(.str (os "_law_shelf_is") 1583),(.ref 984)⟩ :: ⟨kh P (os "_law_deed"),(.str (os "_law_deed") 1596),(.ref 991)⟩ :: ⟨kh P (os "_law_walk"),(.str (os "_law_walk") 1610),(.ref 998)⟩ :: t
noncomputable def zzhZ32 (P:Params) (t:List DictEntry) : List DictEntry:=⟨kh P (os "law"),(.str (os "law") 1624),(.ref 1005)⟩ :: t
noncomputable def zzq14_3 (P:Params) : Obj:=⟨(.type "dict"),none,.dict (List.toArray (zzhZ29 P (zzhZ1 P (zzhZ3 P (zzhZ8 P (zzhZ9 P (zzhZ10 P (zzhZ12 P (zzhZ13 P (zzhZ15 P (zzhZ19 P (zzhZ20 P (zzhZ23 P (zzhZ24 P (zzhZ27 P (zzhZ30 P (zzhZ31 P (zzhZ32 P [])))))))))))))))))) 129,#[]⟩
noncomputable def zzq14_12 (P:Params) : Obj:=⟨(.none),none,(.fields #[.int 1 0,.int 0 0,.ref 20,.int 5 0,.int 0 0,.ref 27,.int 7 0,.int 0 0,.ref 40,.int 9 0,.int 0 0,.ref 52,.int 11 0,.int 0 0,.ref 64,.int 13 0,.int 0 0,.ref 76,.int 15 0,.int 0 0,.ref 88,.int 17 0,.int 0 0,.ref 100,.int 19 0,.int 0 0,.ref 112,.int 21 0,.int 0 0,.ref 124,.int 23 0,.int 0 0,.ref 136,.int 25 0,.int 0 0,.ref 148,.int 27 0,.int 0 0,.ref 160,.int 29 0,.int 0 0,.ref 172,.int 31 0,.int 0 0,.ref 184,.int 33 0,.int 0 0,.ref 196,.int 35 0,.int 0 0,.ref 208,.int 37 0,.int 0 0,.ref 220,.int 42 0,.int 0 0,.ref 232,.int 47 0,.int 0 0,.ref 239,.int 55 0,.int 0 0,.ref 245,.int 57 0,.int 0 0,.ref 250,.int 61 0,.int 0 0,.ref 257,.int 63 0,.int 0 0,.ref 264,.int 73 0,.int 0 0,.ref 271,.int 75 0,.int 0 0,.ref 278,.int 83 0,.int 0 0,.ref 285,.int 85 0,.int 0 0,.ref 292,.int 87 0,.int 0 0,.ref 299,.int 99 0,.int 0 0,.ref 306,.int 108 0,.int 0 0,.ref 313,.int 118 0,.int 0 0,.ref 318,.int 127 0,.int 0 0,.ref 326,.int 146 0,.int 0 0,.ref 331,.int 154 0,.int 0 0,.ref 338,.int 156 0,.int 0 0,.ref 345,.int 163 0,.int 0 0,.ref 352,.int 170 0,.int 0 0,.ref 359,.int 176 0,.int 0 0,.ref 367,.int 178 0,.int 0 0,.ref 374,.int 187 0,.int 0 0,.ref 381,.int 193 0,.int 0 0,.ref 386,.int 195 0,.int 0 0,.ref 393,.int 203 0,.int 0 0,.ref 400,.int 220 0,.int 0 0,.ref 405,.int 222 0,.int 0 0,.ref 410,.int 237 0,.int 0 0,.ref 419,.int 242 0,.int 0 0,.ref 426,.int 314 0,.int 0 0,.ref 492,.int 319 0,.int 0 0,.ref 499,.int 327 0,.int 0 0,.ref 506,.int 432 0,.int 0 0,.ref 596,.int 434 0,.int 0 0,.ref 603,.int 442 0,.int 0 0,.ref 610,.int 446 0,.int 0 0,.ref 617,.int 451 0,.int 0 0,.ref 624,.int 454 0,.int 0 0,.ref 631,.int 461 0,.int 0 0,.ref 638,.int 463 0,.int 0 0,.ref 645,.int 465 0,.int 0 0,.ref 652,.int 474 0,.int 0 0,.ref 657,.int 480 0,.int 0 0,.ref 664,.int 482 0,.int 0 0,.ref 671,.int 487 0,.int 0 0,.ref 678,.int 499 0,.int 0 0,.ref 683,.int 501 0,.int 0 0,.ref 688,.int 503 0,.int 0 0,.ref 695,.int 510 0,.int 0 0,.ref 702,.int 515 0,.int 0 0,.ref 709,.int 520 0,.int 0 0,.ref 716,.int 526 0,.int 0 0,.ref 723,.int 533 0,.int 0 0,.ref 729,.int 549 0,.int 0 0,.ref 736,.int 551 0,.int 0 0,.ref 743,.int 554 0,.int 0 0,.ref 750,.int 559 0,.int 0 0,.ref 757,.int 567 0,.int 0 0,.ref 764,.int 572 0,.int 0 0,.ref 771,.int 576 0,.int 0 0,.ref 778,.int 584 0,.int 0 0,.ref 785,.int 599 0,.int 0 0,.ref 792,.int 608 0,.int 0 0,.ref 799,.int 619 0,.int 0 0,.ref 804,.int 624 0,.int 0 0,.ref 809,.int 631 0,.int 0 0,.ref 814,.int 645 0,.int 0 0,.ref 821,.int 708 0,.int 0 0,.ref 912,.int 712 0,.int 0 0,.ref 919,.int 714 0,.int 0 0,.ref 924,.int 719 0,.int 0 0,.ref 931,.int 724 0,.int 0 0,.ref 936,.int 730 0,.int 0 0,.ref 943,.int 742 0,.int 0 0,.ref 950,.int 748 0,.int 0 0,.ref 955,.int 753 0,.int 0 0,.ref 962,.int 763 0,.int 0 0,.ref 969,.int 786 0,.int 0 0,.ref 976,.int 814 0,.int 0 0,.ref 983,.int 825 0,.int 0 0,.ref 990,.int 835 0,.int 0 0,.ref 997,.int 853 0,.int 0 0,.ref 1004]),#[]⟩
noncomputable def zzq14_907 (P:Params) : Obj:=⟨(.type "tuple"),none,(.seq #[]),#[]⟩
noncomputable def zzq14_908 (P:Params) : Obj:=⟨(.none),none,(.fields #[]),#[]⟩
noncomputable def zzq14_909 (P:Params) : Obj:=⟨(.type "tuple"),none,(.seq #[.str (os "script") 1481,.str (os "k") 1482]),#[]⟩
noncomputable def zzq14_910 (P:Params) : Obj:=⟨(.type "tuple"),none,(.seq #[]),#[]⟩
noncomputable def zzq14_911 (P:Params) : Obj:=gA "_law_cell_at" "_law_cell_at" (top 121)
noncomputable def zzq14_912 (P:Params) : Obj:=cO "_law_cell_at" 1478 1479 1480 708 2 3 907 181 908 909 910 911 1483 708 1484
noncomputable def zzq14_913 (P:Params) : Obj:=gB "_law_cell_at" "_law_cell_at" (top 121) (.none) "law_trueleaf_k74_whole_deeds_taken_back" 1476 912
noncomputable def zzq14_914 (P:Params) : Obj:=⟨(.type "tuple"),none,(.seq #[]),#[]⟩
noncomputable def zzq14_915 (P:Params) : Obj:=⟨(.none),none,(.fields #[]),#[]⟩
noncomputable def zzq14_916 (P:Params) : Obj:=⟨(.type "tuple"),none,(.seq #[.str (os "cell") 1489]),#[]⟩
noncomputable def zzq14_917 (P:Params) : Obj:=⟨(.type "tuple"),none,(.seq #[]),#[]⟩
noncomputable def zzq14_918 (P:Params) : Obj:=gA "_law_mixed" "_law_mixed" (top 122)
noncomputable def zzq14_919 (P:Params) : Obj:=cO "_law_mixed" 1486 1487 1488 712 1 3 914 181 915 916 917 918 1490 712 1491
noncomputable def zzq14_920 (P:Params) : Obj:=gB "_law_mixed" "_law_mixed" (top 122) (.none) "law_trueleaf_k74_whole_deeds_taken_back" 1476 919
noncomputable def zzq14_921 (P:Params) : Obj:=⟨(.type "tuple"),none,(.seq #[]),#[]⟩
noncomputable def zzq14_922 (P:Params) : Obj:=⟨(.none),none,(.fields #[]),#[]⟩
noncomputable def zzq14_923 (P:Params) : Obj:=gA "_law_signs" "_law_signs" (top 123)
noncomputable def zzq14_924 (P:Params) : Obj:=⟨(.type "code"),none,(.fields #[.str (os "_law_signs") 1493,.str (os "_law_signs") 1494,.str (os "/claim/cut.py") 1495,.int 714 0,.int 2 0,.int 0 0,.int 0 0,.int 3 0,.ref 921,.bool true,.int 181 0,.ref 922,.none,.none,.none,.ref 923,.int 1496 0,.int 714 0,.str (os "/claim/cut.py") 1497]),#[]⟩
noncomputable def zzq14_925 (P:Params) : Obj:=gB "_law_signs" "_law_signs" (top 123) (.none) "law_trueleaf_k74_whole_deeds_taken_back" 1476 924
noncomputable def zzq14_926 (P:Params) : Obj:=⟨(.type "tuple"),none,(.seq #[]),#[]⟩
noncomputable def zzq14_927 (P:Params) : Obj:=⟨(.none),none,(.fields #[]),#[]⟩
noncomputable def zzq14_928 (P:Params) : Obj:=⟨(.type "tuple"),none,(.seq #[.str (os "number") 1502,.str (os "size") 1503]),#[]⟩
noncomputable def zzq14_929 (P:Params) : Obj:=⟨(.type "tuple"),none,(.seq #[]),#[]⟩
noncomputable def zzq14_930 (P:Params) : Obj:=gA "_law_row" "_law_row" (top 124)
noncomputable def zzq14_931 (P:Params) : Obj:=cO "_law_row" 1499 1500 1501 719 1 3 926 181 927 928 929 930 1504 719 1505
noncomputable def zzq14_932 (P:Params) : Obj:=gB "_law_row" "_law_row" (top 124) (.none) "law_trueleaf_k74_whole_deeds_taken_back" 1476 931
noncomputable def zzq14_933 (P:Params) : Obj:=⟨(.type "tuple"),none,(.seq #[]),#[]⟩
noncomputable def zzq14_934 (P:Params) : Obj:=⟨(.none),none,(.fields #[]),#[]⟩
noncomputable def zzq14_935 (P:Params) : Obj:=gA "_law_text" "_law_text" (top 125)
noncomputable def zzq14_936 (P:Params) : Obj:=⟨(.type "code"),none,(.fields #[.str (os "_law_text") 1507,.str (os "_law_text") 1508,.str (os "/claim/cut.py") 1509,.int 724 0,.int 1 0,.int 0 0,.int 0 0,.int 3 0,.ref 933,.bool true,.int 181 0,.ref 934,.none,.none,.none,.ref 935,.int 1510 0,.int 724 0,.str (os "/claim/cut.py") 1511]),#[]⟩
noncomputable def zzq14_937 (P:Params) : Obj:=gB "_law_text" "_law_text" (top 125) (.none) "law_trueleaf_k74_whole_deeds_taken_back" 1476 936
noncomputable def zzq14_938 (P:Params) : Obj:=⟨(.type "tuple"),none,(.seq #[]),#[]⟩
noncomputable def zzq14_939 (P:Params) : Obj:=⟨(.none),none,(.fields #[]),#[]⟩
noncomputable def zzq14_940 (P:Params) : Obj:=⟨(.type "tuple"),none,(.seq #[.str (os "number") 1516,.str (os "known") 1517,.str (os "kind") 1518]),#[]⟩
noncomputable def zzq14_941 (P:Params) : Obj:=⟨(.type "tuple"),none,(.seq #[]),#[]⟩
noncomputable def zzq14_942 (P:Params) : Obj:=gA "_law_name" "_law_name" (top 126)
noncomputable def zzq14_943 (P:Params) : Obj:=cO "_law_name" 1513 1514 1515 730 2 3 938 181 939 940 941 942 1519 730 1520
noncomputable def zzq14_944 (P:Params) : Obj:=gB "_law_name" "_law_name" (top 126) (.none) "law_trueleaf_k74_whole_deeds_taken_back" 1476 943
noncomputable def zzq14_945 (P:Params) : Obj:=⟨(.type "tuple"),none,(.seq #[]),#[]⟩
noncomputable def zzq14_946 (P:Params) : Obj:=⟨(.none),none,(.fields #[]),#[]⟩
noncomputable def zzq14_947 (P:Params) : Obj:=⟨(.type "tuple"),none,(.seq #[.str (os "number") 1525,.str (os "many") 1526]),#[]⟩
noncomputable def zzq14_948 (P:Params) : Obj:=⟨(.type "tuple"),none,(.seq #[]),#[]⟩
noncomputable def zzq14_949 (P:Params) : Obj:=gA "_law_at" "_law_at" (top 127)
noncomputable def zzq14_950 (P:Params) : Obj:=cO "_law_at" 1522 1523 1524 742 2 3 945 181 946 947 948 949 1527 742 1528
noncomputable def zzq14_951 (P:Params) : Obj:=gB "_law_at" "_law_at" (top 127) (.none) "law_trueleaf_k74_whole_deeds_taken_back" 1476 950
noncomputable def zzq14_952 (P:Params) : Obj:=⟨(.type "tuple"),none,(.seq #[]),#[]⟩
noncomputable def zzq14_953 (P:Params) : Obj:=⟨(.none),none,(.fields #[]),#[]⟩
noncomputable def zzq14_954 (P:Params) : Obj:=gA "_law_is_name" "_law_is_name" (top 128)
noncomputable def zzq14_955 (P:Params) : Obj:=⟨(.type "code"),none,(.fields #[.str (os "_law_is_name") 1530,.str (os "_law_is_name") 1531,.str (os "/claim/cut.py") 1532,.int 748 0,.int 1 0,.int 0 0,.int 0 0,.int 3 0,.ref 952,.bool true,.int 181 0,.ref 953,.none,.none,.none,.ref 954,.int 1533 0,.int 748 0,.str (os "/claim/cut.py") 1534]),#[]⟩
noncomputable def zzq14_956 (P:Params) : Obj:=gB "_law_is_name" "_law_is_name" (top 128) (.none) "law_trueleaf_k74_whole_deeds_taken_back" 1476 955
noncomputable def zzq14_957 (P:Params) : Obj:=⟨(.type "tuple"),none,(.seq #[]),#[]⟩
noncomputable def zzq14_958 (P:Params) : Obj:=⟨(.none),none,(.fields #[]),#[]⟩
noncomputable def zzq14_959 (P:Params) : Obj:=⟨(.type "tuple"),none,(.seq #[.str (os "own") 1539,.str (os "name") 1540,.str (os "text") 1541,.str (os "found") 1542]),#[]⟩
noncomputable def zzq14_960 (P:Params) : Obj:=⟨(.type "tuple"),none,(.seq #[]),#[]⟩
noncomputable def zzq14_961 (P:Params) : Obj:=gA "_law_put_by" "_law_put_by" (top 129)
noncomputable def zzq14_962 (P:Params) : Obj:=cO "_law_put_by" 1536 1537 1538 753 3 3 957 181 958 959 960 961 1543 753 1544
noncomputable def zzq14_963 (P:Params) : Obj:=gB "_law_put_by" "_law_put_by" (top 129) (.none) "law_trueleaf_k74_whole_deeds_taken_back" 1476 962
noncomputable def zzq14_964 (P:Params) : Obj:=⟨(.type "tuple"),none,(.seq #[]),#[]⟩
noncomputable def zzq14_965 (P:Params) : Obj:=⟨(.none),none,(.fields #[]),#[]⟩
noncomputable def zzq14_966 (P:Params) : Obj:=⟨(.type "tuple"),none,(.seq #[.str (os "own") 1549,.str (os "deed") 1550,.str (os "kind") 1551,.str (os "name") 1552,.str (os "at") 1553,.str (os "text") 1554,.str (os "found") 1555,.str (os "rows") 1556]),#[]⟩
noncomputable def zzq14_967 (P:Params) : Obj:=⟨(.type "tuple"),none,(.seq #[]),#[]⟩
noncomputable def zzq14_968 (P:Params) : Obj:=gA "_law_done_by" "_law_done_by" (top 130)
noncomputable def zzq14_969 (P:Params) : Obj:=cO "_law_done_by" 1546 1547 1548 763 2 3 964 181 965 966 967 968 1557 763 1558
noncomputable def zzq14_970 (P:Params) : Obj:=gB "_law_done_by" "_law_done_by" (top 130) (.none) "law_trueleaf_k74_whole_deeds_taken_back" 1476 969
noncomputable def zzq14_971 (P:Params) : Obj:=⟨(.type "tuple"),none,(.seq #[]),#[]⟩
noncomputable def zzq14_972 (P:Params) : Obj:=⟨(.none),none,(.fields #[]),#[]⟩
noncomputable def zzq14_973 (P:Params) : Obj:=⟨(.type "tuple"),none,(.seq #[.str (os "desk") 1563,.str (os "deed") 1564,.str (os "kind") 1565,.str (os "name") 1566,.str (os "at") 1567,.str (os "text") 1568,.str (os "word") 1569,.str (os "told") 1570]),#[]⟩
noncomputable def zzq14_974 (P:Params) : Obj:=⟨(.type "tuple"),none,(.seq #[]),#[]⟩
noncomputable def zzq14_975 (P:Params) : Obj:=gA "_law_did" "_law_did" (top 131)
noncomputable def zzq14_976 (P:Params) : Obj:=cO "_law_did" 1560 1561 1562 786 2 3 971 181 972 973 974 975 1571 786 1572
noncomputable def zzq14_977 (P:Params) : Obj:=gB "_law_did" "_law_did" (top 131) (.none) "law_trueleaf_k74_whole_deeds_taken_back" 1476 976
noncomputable def zzq14_978 (P:Params) : Obj:=⟨(.type "tuple"),none,(.seq #[]),#[]⟩
noncomputable def zzq14_979 (P:Params) : Obj:=⟨(.none),none,(.fields #[]),#[]⟩
noncomputable def zzq14_980 (P:Params) : Obj:=⟨(.type "tuple"),none,(.seq #[.str (os "desk") 1577,.str (os "own") 1578,.str (os "found") 1579,.str (os "name") 1580]),#[]⟩
noncomputable def zzq14_981 (P:Params) : Obj:=⟨(.type "tuple"),none,(.seq #[]),#[]⟩
noncomputable def zzq14_982 (P:Params) : Obj:=gA "_law_shelf_is" "_law_shelf_is" (top 132)
noncomputable def zzq14_983 (P:Params) : Obj:=cO "_law_shelf_is" 1574 1575 1576 814 2 3 978 181 979 980 981 982 1581 814 1582
noncomputable def zzq14_984 (P:Params) : Obj:=gB "_law_shelf_is" "_law_shelf_is" (top 132) (.none) "law_trueleaf_k74_whole_deeds_taken_back" 1476 983
noncomputable def zzq14_985 (P:Params) : Obj:=⟨(.type "tuple"),none,(.seq #[]),#[]⟩
noncomputable def zzq14_986 (P:Params) : Obj:=⟨(.none),none,(.fields #[]),#[]⟩
noncomputable def zzq14_987 (P:Params) : Obj:=⟨(.type "tuple"),none,(.seq #[.str (os "cell") 1587,.str (os "own") 1588,.str (os "number") 1589,.str (os "kind") 1590,.str (os "name") 1591,.str (os "many") 1592,.str (os "text") 1593]),#[]⟩
noncomputable def zzq14_988 (P:Params) : Obj:=⟨(.type "tuple"),none,(.seq #[]),#[]⟩
noncomputable def zzq14_989 (P:Params) : Obj:=gA "_law_deed" "_law_deed" (top 133)
noncomputable def zzq14_990 (P:Params) : Obj:=cO "_law_deed" 1584 1585 1586 825 2 3 985 181 986 987 988 989 1594 825 1595
noncomputable def zzq14_991 (P:Params) : Obj:=gB "_law_deed" "_law_deed" (top 133) (.none) "law_trueleaf_k74_whole_deeds_taken_back" 1476 990
noncomputable def zzq14_992 (P:Params) : Obj:=⟨(.type "tuple"),none,(.seq #[]),#[]⟩
noncomputable def zzq14_993 (P:Params) : Obj:=⟨(.none),none,(.fields #[]),#[]⟩
noncomputable def zzq14_994 (P:Params) : Obj:=⟨(.type "tuple"),none,(.seq #[.str (os "desk") 1600,.str (os "script") 1601,.str (os "elder") 1602,.str (os "cell") 1603,.str (os "own") 1604,.str (os "due") 1605,.str (os "done") 1606,.str (os "deed") 1607]),#[]⟩
noncomputable def zzq14_995 (P:Params) : Obj:=⟨(.type "tuple"),none,(.seq #[]),#[]⟩
noncomputable def zzq14_996 (P:Params) : Obj:=gA "_law_walk" "_law_walk" (top 134)
noncomputable def zzq14_997 (P:Params) : Obj:=cO "_law_walk" 1597 1598 1599 835 3 3 992 181 993 994 995 996 1608 835 1609
noncomputable def zzq14_998 (P:Params) : Obj:=gB "_law_walk" "_law_walk" (top 134) (.none) "law_trueleaf_k74_whole_deeds_taken_back" 1476 997
noncomputable def zzq14_999 (P:Params) : Obj:=⟨(.type "tuple"),none,(.seq #[]),#[]⟩
noncomputable def zzq14_1000 (P:Params) : Obj:=⟨(.none),none,(.fields #[]),#[]⟩
noncomputable def zzq14_1001 (P:Params) : Obj:=⟨(.type "tuple"),none,(.seq #[.str (os "script") 1614,.str (os "number") 1615,.str (os "desk") 1616,.str (os "elder") 1617,.str (os "k") 1618,.str (os "own") 1619,.str (os "held") 1620,.str (os "kept") 1621]),#[]⟩
noncomputable def zzq14_1002 (P:Params) : Obj:=⟨(.type "tuple"),none,(.seq #[]),#[]⟩
noncomputable def zzq14_1003 (P:Params) : Obj:=gA "law" "law" (top 135)
noncomputable def zzq14_1004 (P:Params) : Obj:=cO "law" 1611 1612 1613 853 1 3 999 181 1000 1001 1002 1003 1622 853 1623
noncomputable def zzq14_1005 (P:Params) : Obj:=gB "law" "law" (top 135) (.none) "law_trueleaf_k74_whole_deeds_taken_back" 1476 1004
noncomputable def zzhY86 (P:Params) (t:List Obj) : List Obj:=PySem.W.boot_o_0 P :: PySem.W.boot_o_1 P :: PySem.W.boot_o_2 P :: zzq14_3 P :: PySem.W.boot_o_4 P :: PySem.W.boot_o_5 P :: PySem.W.boot_o_6 P :: PySem.W.boot_o_7 P :: PySem.W.boot_o_8 P :: PySem.W.boot_o_9 P :: PySem.W.boot_o_10 P :: zzqA_11 P :: zzq14_12 P :: zzqA_13 P :: zzqA_14 P :: zzq1_15 P :: t
noncomputable def zzhY87 (P:Params) (t:List Obj) : List Obj:=zzq13_896 P :: zzq13_897 P :: zzq13_898 P :: zzq13_899 P :: zzq13_900 P :: zzq13_901 P :: zzq13_902 P :: zzq13_903 P :: zzq13_904 P :: zzq13_905 P :: zzq13_906 P :: zzq14_907 P :: zzq14_908 P :: zzq14_909 P :: zzq14_910 P :: zzq14_911 P :: t
noncomputable def zzhY88 (P:Params) (t:List Obj) : List Obj:=zzq14_912 P :: zzq14_913 P :: zzq14_914 P :: zzq14_915 P :: zzq14_916 P :: zzq14_917 P :: zzq14_918 P :: zzq14_919 P :: zzq14_920 P :: zzq14_921 P :: zzq14_922 P :: zzq14_923 P :: zzq14_924 P :: zzq14_925 P :: zzq14_926 P :: zzq14_927 P :: t
noncomputable def zzhY89 (P:Params) (t:List Obj) : List Obj:=zzq14_928 P :: zzq14_929 P :: zzq14_930 P :: zzq14_931 P :: zzq14_932 P :: zzq14_933 P :: zzq14_934 P :: zzq14_935 P :: zzq14_936 P :: zzq14_937 P :: zzq14_938 P :: zzq14_939 P :: zzq14_940 P :: zzq14_941 P :: zzq14_942 P :: zzq14_943 P :: t
noncomputable def zzhY90 (P:Params) (t:List Obj) : List Obj:=zzq14_944 P :: zzq14_945 P :: zzq14_946 P :: zzq14_947 P :: zzq14_948 P :: zzq14_949 P :: zzq14_950 P :: zzq14_951 P :: zzq14_952 P :: zzq14_953 P :: zzq14_954 P :: zzq14_955 P :: zzq14_956 P :: zzq14_957 P :: zzq14_958 P :: zzq14_959 P :: t
noncomputable def zzhY91 (P:Params) (t:List Obj) : List Obj:=zzq14_960 P :: zzq14_961 P :: zzq14_962 P :: zzq14_963 P :: zzq14_964 P :: zzq14_965 P :: zzq14_966 P :: zzq14_967 P :: zzq14_968 P :: zzq14_969 P :: zzq14_970 P :: zzq14_971 P :: zzq14_972 P :: zzq14_973 P :: zzq14_974 P :: zzq14_975 P :: t
noncomputable def zzhY92 (P:Params) (t:List Obj) : List Obj:=zzq14_976 P :: zzq14_977 P :: zzq14_978 P :: zzq14_979 P :: zzq14_980 P :: zzq14_981 P :: zzq14_982 P :: zzq14_983 P :: zzq14_984 P :: zzq14_985 P :: zzq14_986 P :: zzq14_987 P :: zzq14_988 P :: zzq14_989 P :: zzq14_990 P :: zzq14_991 P :: t
noncomputable def zzhY93 (P:Params) (t:List Obj) : List Obj:=zzq14_992 P :: zzq14_993 P :: zzq14_994 P :: zzq14_995 P :: zzq14_996 P :: zzq14_997 P :: zzq14_998 P :: zzq14_999 P :: zzq14_1000 P :: zzq14_1001 P :: zzq14_1002 P :: zzq14_1003 P :: zzq14_1004 P :: zzq14_1005 P :: t
noncomputable def zzh14 (P:Params) : Heap:=⟨⟨(zzhY86 P (zzhY27 P (zzhY3 P (zzhY7 P (zzhY8 P (zzhY12 P (zzhY13 P (zzhY14 P (zzhY18 P (zzhY19 P (zzhY23 P (zzhY24 P (zzhY28 P (zzhY29 P (zzhY30 P (zzhY33 P (zzhY34 P (zzhY35 P (zzhY36 P (zzhY37 P (zzhY39 P (zzhY40 P (zzhY41 P (zzhY42 P (zzhY43 P (zzhY46 P (zzhY47 P (zzhY48 P (zzhY49 P (zzhY50 P (zzhY53 P (zzhY54 P (zzhY55 P (zzhY56 P (zzhY57 P (zzhY58 P (zzhY61 P (zzhY62 P (zzhY63 P (zzhY64 P (zzhY65 P (zzhY66 P (zzhY67 P (zzhY70 P (zzhY71 P (zzhY72 P (zzhY73 P (zzhY74 P (zzhY75 P (zzhY76 P (zzhY79 P (zzhY80 P (zzhY81 P (zzhY82 P (zzhY83 P (zzhY84 P (zzhY87 P (zzhY88 P (zzhY89 P (zzhY90 P (zzhY91 P (zzhY92 P (zzhY93 P [])))))))))))))))))))))))))))))))))))))))))))))))))))))))))))))))⟩,{}⟩
noncomputable def zzhF (P:Params) : Heap:=⟨⟨(zzhY86 P (zzhY27 P (zzhY3 P (zzhY7 P (zzhY8 P (zzhY12 P (zzhY13 P (zzhY14 P (zzhY18 P (zzhY19 P (zzhY23 P (zzhY24 P (zzhY28 P (zzhY29 P (zzhY30 P (zzhY33 P (zzhY34 P (zzhY35 P (zzhY36 P (zzhY37 P (zzhY39 P (zzhY40 P (zzhY41 P (zzhY42 P (zzhY43 P (zzhY46 P (zzhY47 P (zzhY48 P (zzhY49 P (zzhY50 P (zzhY53 P (zzhY54 P (zzhY55 P (zzhY56 P (zzhY57 P (zzhY58 P (zzhY61 P (zzhY62 P (zzhY63 P (zzhY64 P (zzhY65 P (zzhY66 P (zzhY67 P (zzhY70 P (zzhY71 P (zzhY72 P (zzhY73 P (zzhY74 P (zzhY75 P (zzhY76 P (zzhY79 P (zzhY80 P (zzhY81 P (zzhY82 P (zzhY83 P (zzhY84 P (zzhY87 P (zzhY88 P (zzhY89 P (zzhY90 P (zzhY91 P (zzhY92 P (zzhY93 P [])))))))))))))))))))))))))))))))))))))))))))))))))))))))))))))))⟩,{}⟩
noncomputable abbrev zzbE:List Stmt:=behindTheImports PySem.Challenge.pw_trueleaf_k74_whole_deeds_taken_back
noncomputable abbrev zzev:Env:={ scope:=PySem.Challenge.pw_trueleaf_k74_whole_deeds_taken_back.main.scope,locals:=mainNs,globals:=mainNs,cells:=[],code:=.ref 13,frame:=some 14 }
noncomputable abbrev zzcE:Code:=.body zzbE zzev
noncomputable abbrev zzbF:List Frame:=[topFrame (PySem.Pos.mk 0 0 0 0)]
set_option maxHeartbeats 0 in
theorem zzpreL (w:World) (os:OsState) : topGo PySem.treeTable PySem.Challenge.pw_trueleaf_k74_whole_deeds_taken_back w 11 (some (.ref 6)) 12 ⟨boot_heap w.params,Array.mk [],boot_drawn,boot_toks,os⟩ (topStub PySem.Challenge.pw_trueleaf_k74_whole_deeds_taken_back)=some (⟨zzhA w.params,Array.mk [],⟨0,0,0,0⟩,187,os⟩,⟨denote PySem.treeTable zzcE,zzcE,PySem.Pos.mk 0 0 0 0,zzbF⟩):=by kernel_rfl
set_option maxHeartbeats 0 in
theorem zzblkL (w:World) (os:OsState) : segRun PySem.treeTable PySem.Challenge.pw_trueleaf_k74_whole_deeds_taken_back w 11 (some (.ref 6)) 1 1 ⟨zzhA w.params,Array.mk [],⟨0,0,0,0⟩,187,os⟩ (blockOf zzbE zzev zzcE (PySem.Pos.mk 0 0 0 0) zzbF)=some (.next,⟨zzhB w.params,Array.mk [],⟨0,0,0,0⟩,187,os⟩,zzcE,PySem.Pos.mk 0 0 0 0):=by kernel_rfl
set_option maxHeartbeats 0 in
theorem zzseg0 (w:World) (os:OsState) : segRun PySem.treeTable PySem.Challenge.pw_trueleaf_k74_whole_deeds_taken_back w 11 (some (.ref 6)) 1 651 ⟨zzhB w.params,Array.mk [],⟨0,0,0,0⟩,187,os⟩ (piecesOf ((zzbE.drop 0).take 5) zzev zzcE (PySem.Pos.mk 0 0 0 0) zzbF)=some (.next,⟨zzh1 w.params,Array.mk [],⟨0,0,0,0⟩,246,os⟩,zzcE,PySem.Pos.mk 9 0 10 8):=by kernel_rfl
set_option maxHeartbeats 0 in
theorem zzseg1 (w:World) (os:OsState) : segRun PySem.treeTable PySem.Challenge.pw_trueleaf_k74_whole_deeds_taken_back w 11 (some (.ref 6)) 1 640 ⟨zzh1 w.params,Array.mk [],⟨0,0,0,0⟩,246,os⟩ (piecesOf ((zzbE.drop 5).take 3) zzev zzcE (PySem.Pos.mk 9 0 10 8) zzbF)=some (.next,⟨zzh2 w.params,Array.mk [],⟨0,0,0,0⟩,294,os⟩,zzcE,PySem.Pos.mk 15 0 16 8):=by kernel_rfl
set_option maxHeartbeats 0 in
theorem zzseg2 (w:World) (os:OsState) : segRun PySem.treeTable PySem.Challenge.pw_trueleaf_k74_whole_deeds_taken_back w 11 (some (.ref 6)) 1 640 ⟨zzh2 w.params,Array.mk [],⟨0,0,0,0⟩,294,os⟩ (piecesOf ((zzbE.drop 8).take 3) zzev zzcE (PySem.Pos.mk 15 0 16 8) zzbF)=some (.next,⟨zzh3 w.params,Array.mk [],⟨0,0,0,0⟩,342,os⟩,zzcE,PySem.Pos.mk 21 0 22 8):=by kernel_rfl
set_option maxHeartbeats 0 in
theorem zzseg3 (w:World) (os:OsState) : segRun PySem.treeTable PySem.Challenge.pw_trueleaf_k74_whole_deeds_taken_back w 11 (some (.ref 6)) 1 640 ⟨zzh3 w.params,Array.mk [],⟨0,0,0,0⟩,342,os⟩ (piecesOf ((zzbE.drop 11).take 3) zzev zzcE (PySem.Pos.mk 21 0 22 8) zzbF)=some (.next,⟨zzh4 w.params,Array.mk [],⟨0,0,0,0⟩,390,os⟩,zzcE,PySem.Pos.mk 27 0 28 8):=by kernel_rfl
set_option maxHeartbeats 0 in
theorem zzseg4 (w:World) (os:OsState) : segRun PySem.treeTable PySem.Challenge.pw_trueleaf_k74_whole_deeds_taken_back w 11 (some (.ref 6)) 1 640 ⟨zzh4 w.params,Array.mk [],⟨0,0,0,0⟩,390,os⟩ (piecesOf ((zzbE.drop 14).take 3) zzev zzcE (PySem.Pos.mk 27 0 28 8) zzbF)=some (.next,⟨zzh5 w.params,Array.mk [],⟨0,0,0,0⟩,438,os⟩,zzcE,PySem.Pos.mk 33 0 34 8):=by kernel_rfl
set_option maxHeartbeats 0 in
theorem zzseg5 (w:World) (os:OsState) : segRun PySem.treeTable PySem.Challenge.pw_trueleaf_k74_whole_deeds_taken_back w 11 (some (.ref 6)) 1 514 ⟨zzh5 w.params,Array.mk [],⟨0,0,0,0⟩,438,os⟩ (piecesOf ((zzbE.drop 17).take 7) zzev zzcE (PySem.Pos.mk 33 0 34 8) zzbF)=some (.next,⟨zzh6 w.params,Array.mk [],⟨0,0,0,0⟩,492,os⟩,zzcE,PySem.Pos.mk 47 0 49 76):=by kernel_rfl
def zzsegP6 (w:World) : Prop:=∀ os:OsState,segRun PySem.treeTable PySem.Challenge.pw_trueleaf_k74_whole_deeds_taken_back w 11 (some (.ref 6)) 1 515 ⟨zzh6 w.params,Array.mk [],⟨0,0,0,0⟩,492,os⟩ (piecesOf ((zzbE.drop 24).take 21) zzev zzcE (PySem.Pos.mk 47 0 49 76) zzbF)=some (.next,⟨zzh7 w.params,Array.mk [],⟨0,0,0,0⟩,623,os⟩,zzcE,PySem.Pos.mk 125 0 125 8)
set_option maxHeartbeats 0 in
theorem zzsegF6 (w:World) : zzsegP6 (w.withFollow "special-get-raises" false):=fun os=>by kernel_rfl
set_option maxHeartbeats 0 in
theorem zzsegT6 (w:World) : zzsegP6 (w.withFollow "special-get-raises" true):=fun os=>by kernel_rfl
theorem zzseg6 (w:World) (os:OsState) : segRun PySem.treeTable PySem.Challenge.pw_trueleaf_k74_whole_deeds_taken_back w 11 (some (.ref 6)) 1 515 ⟨zzh6 w.params,Array.mk [],⟨0,0,0,0⟩,492,os⟩ (piecesOf ((zzbE.drop 24).take 21) zzev zzcE (PySem.Pos.mk 47 0 49 76) zzbF)=some (.next,⟨zzh7 w.params,Array.mk [],⟨0,0,0,0⟩,623,os⟩,zzcE,PySem.Pos.mk 125 0 125 8):=byRow2 "special-get-raises" (P:=zzsegP6) zzsegF6 zzsegT6 w os
set_option maxHeartbeats 0 in
theorem zzseg7 (w:World) (os:OsState) : segRun PySem.treeTable PySem.Challenge.pw_trueleaf_k74_whole_deeds_taken_back w 11 (some (.ref 6)) 1 510 ⟨zzh7 w.params,Array.mk [],⟨0,0,0,0⟩,623,os⟩ (piecesOf ((zzbE.drop 45).take 22) zzev zzcE (PySem.Pos.mk 125 0 125 8) zzbF)=some (.next,⟨zzh8 w.params,Array.mk [],⟨0,0,0,0⟩,770,os⟩,zzcE,PySem.Pos.mk 235 0 235 5):=by kernel_rfl
set_option maxHeartbeats 0 in
theorem zzseg8 (w:World) (os:OsState) : segRun PySem.treeTable PySem.Challenge.pw_trueleaf_k74_whole_deeds_taken_back w 11 (some (.ref 6)) 1 515 ⟨zzh8 w.params,Array.mk [],⟨0,0,0,0⟩,770,os⟩ (piecesOf ((zzbE.drop 67).take 4) zzev zzcE (PySem.Pos.mk 235 0 235 5) zzbF)=some (.next,⟨zzh9 w.params,Array.mk [],⟨0,0,0,0⟩,876,os⟩,zzcE,PySem.Pos.mk 314 0 315 45):=by kernel_rfl
def zzsegP9 (w:World) : Prop:=∀ os:OsState,segRun PySem.treeTable PySem.Challenge.pw_trueleaf_k74_whole_deeds_taken_back w 11 (some (.ref 6)) 1 667 ⟨zzh9 w.params,Array.mk [],⟨0,0,0,0⟩,876,os⟩ (piecesOf ((zzbE.drop 71).take 5) zzev zzcE (PySem.Pos.mk 314 0 315 45) zzbF)=some (.next,⟨zzh10 w.params,Array.mk [],⟨0,0,0,0⟩,1024,os⟩,zzcE,PySem.Pos.mk 327 0 430 21)
set_option maxHeartbeats 0 in
theorem zzsegF9 (w:World) : zzsegP9 (w.withFollow "special-get-raises" false):=fun os=>by kernel_rfl
set_option maxHeartbeats 0 in
theorem zzsegT9 (w:World) : zzsegP9 (w.withFollow "special-get-raises" true):=fun os=>by kernel_rfl
theorem zzseg9 (w:World) (os:OsState) : segRun PySem.treeTable PySem.Challenge.pw_trueleaf_k74_whole_deeds_taken_back w 11 (some (.ref 6)) 1 667 ⟨zzh9 w.params,Array.mk [],⟨0,0,0,0⟩,876,os⟩ (piecesOf ((zzbE.drop 71).take 5) zzev zzcE (PySem.Pos.mk 314 0 315 45) zzbF)=some (.next,⟨zzh10 w.params,Array.mk [],⟨0,0,0,0⟩,1024,os⟩,zzcE,PySem.Pos.mk 327 0 430 21):=byRow2 "special-get-raises" (P:=zzsegP9) zzsegF9 zzsegT9 w os
set_option maxHeartbeats 0 in
theorem zzseg10 (w:World) (os:OsState) : segRun PySem.treeTable PySem.Challenge.pw_trueleaf_k74_whole_deeds_taken_back w 11 (some (.ref 6)) 1 515 ⟨zzh10 w.params,Array.mk [],⟨0,0,0,0⟩,1024,os⟩ (piecesOf ((zzbE.drop 76).take 19) zzev zzcE (PySem.Pos.mk 327 0 430 21) zzbF)=some (.next,⟨zzh11 w.params,Array.mk [],⟨0,0,0,0⟩,1171,os⟩,zzcE,PySem.Pos.mk 503 0 509 40):=by kernel_rfl
set_option maxHeartbeats 0 in
theorem zzseg11 (w:World) (os:OsState) : segRun PySem.treeTable PySem.Challenge.pw_trueleaf_k74_whole_deeds_taken_back w 11 (some (.ref 6)) 1 510 ⟨zzh11 w.params,Array.mk [],⟨0,0,0,0⟩,1171,os⟩ (piecesOf ((zzbE.drop 95).take 17) zzev zzcE (PySem.Pos.mk 503 0 509 40) zzbF)=some (.next,⟨zzh12 w.params,Array.mk [],⟨0,0,0,0⟩,1337,os⟩,zzcE,PySem.Pos.mk 618 0 618 8):=by kernel_rfl
set_option maxHeartbeats 0 in
theorem zzseg12 (w:World) (os:OsState) : segRun PySem.treeTable PySem.Challenge.pw_trueleaf_k74_whole_deeds_taken_back w 11 (some (.ref 6)) 1 661 ⟨zzh12 w.params,Array.mk [],⟨0,0,0,0⟩,1337,os⟩ (piecesOf ((zzbE.drop 112).take 8) zzev zzcE (PySem.Pos.mk 618 0 618 8) zzbF)=some (.next,⟨zzh13 w.params,Array.mk [],⟨0,0,0,0⟩,1476,os⟩,zzcE,PySem.Pos.mk 645 0 706 37):=by kernel_rfl
set_option maxHeartbeats 0 in
theorem zzseg13 (w:World) (os:OsState) : segRun PySem.treeTable PySem.Challenge.pw_trueleaf_k74_whole_deeds_taken_back w 11 (some (.ref 6)) 1 481 ⟨zzh13 w.params,Array.mk [],⟨0,0,0,0⟩,1476,os⟩ (piecesOf ((zzbE.drop 120).take 16) zzev zzcE (PySem.Pos.mk 645 0 706 37) zzbF)=some (.next,⟨zzh14 w.params,Array.mk [],⟨0,0,0,0⟩,1625,os⟩,zzcE,PySem.Pos.mk 853 0 872 84):=by kernel_rfl
set_option maxHeartbeats 0 in
theorem zzfinL (w:World) (os:OsState) : topRun PySem.treeTable PySem.Challenge.pw_trueleaf_k74_whole_deeds_taken_back w 11 (some (.ref 6)) 2 ⟨zzh14 w.params,Array.mk [],⟨0,0,0,0⟩,1625,os⟩ ⟨doneF .next,zzcE,PySem.Pos.mk 853 0 872 84,zzbF⟩=some ⟨zzhF w.params,Array.mk [],⟨0,0,0,0⟩,1625,os⟩:=by kernel_rfl
set_option maxHeartbeats 0 in
theorem zzbodyE:zzbE=(((zzbE.drop 0).take 5)++(((zzbE.drop 5).take 3)++(((zzbE.drop 8).take 3)++(((zzbE.drop 11).take 3)++(((zzbE.drop 14).take 3)++(((zzbE.drop 17).take 7)++(((zzbE.drop 24).take 21)++(((zzbE.drop 45).take 22)++(((zzbE.drop 67).take 4)++(((zzbE.drop 71).take 5)++(((zzbE.drop 76).take 19)++(((zzbE.drop 95).take 17)++(((zzbE.drop 112).take 8)++(((zzbE.drop 120).take 16)++[])))))))))))))):=by kernel_rfl
theorem zzrunL (w:World) (os:OsState) : topRun PySem.treeTable PySem.Challenge.pw_trueleaf_k74_whole_deeds_taken_back w 11 (some (.ref 6)) (12+(1+(651+(640+(640+(640+(640+(514+(515+(510+(515+(667+(515+(510+(661+(481+2)))))))))))))))) ⟨boot_heap w.params,Array.mk [],boot_drawn,boot_toks,os⟩ (topStub PySem.Challenge.pw_trueleaf_k74_whole_deeds_taken_back)=some ⟨zzhF w.params,Array.mk [],⟨0,0,0,0⟩,1625,os⟩:=by
 have k0:topRun PySem.treeTable PySem.Challenge.pw_trueleaf_k74_whole_deeds_taken_back w 11 (some (.ref 6)) (651+(640+(640+(640+(640+(514+(515+(510+(515+(667+(515+(510+(661+(481+2)))))))))))))) ⟨zzhB w.params,Array.mk [],⟨0,0,0,0⟩,187,os⟩ (restOf (((zzbE.drop 0).take 5)++(((zzbE.drop 5).take 3)++(((zzbE.drop 8).take 3)++(((zzbE.drop 11).take 3)++(((zzbE.drop 14).take 3)++(((zzbE.drop 17).take 7)++(((zzbE.drop 24).take 21)++(((zzbE.drop 45).take 22)++(((zzbE.drop 67).take 4)++(((zzbE.drop 71).take 5)++(((zzbE.drop 76).take 19)++(((zzbE.drop 95).take 17)++(((zzbE.drop 112).take 8)++(((zzbE.drop 120).take 16)++[])))))))))))))) zzev zzcE (PySem.Pos.mk 0 0 0 0) zzbF)=some ⟨zzhF w.params,Array.mk [],⟨0,0,0,0⟩,1625,os⟩:=piece_app (zzseg0 w os) (piece_app (zzseg1 w os) (piece_app (zzseg2 w os) (piece_app (zzseg3 w os) (piece_app (zzseg4 w os) (piece_app (zzseg5 w os) (piece_app (zzseg6 w os) (piece_app (zzseg7 w os) (piece_app (zzseg8 w os) (piece_app (zzseg9 w os) (piece_app (zzseg10 w os) (piece_app (zzseg11 w os) (piece_app (zzseg12 w os) (piece_app (zzseg13 w os) (piece_nil (env:=zzev) (q:=PySem.Pos.mk 0 0 0 0) (zzfinL w os)))))))))))))))
 have k1:topRun PySem.treeTable PySem.Challenge.pw_trueleaf_k74_whole_deeds_taken_back w 11 (some (.ref 6)) (651+(640+(640+(640+(640+(514+(515+(510+(515+(667+(515+(510+(661+(481+2)))))))))))))) ⟨zzhB w.params,Array.mk [],⟨0,0,0,0⟩,187,os⟩ (restOf zzbE zzev zzcE (PySem.Pos.mk 0 0 0 0) zzbF)=some ⟨zzhF w.params,Array.mk [],⟨0,0,0,0⟩,1625,os⟩:=(congrArg (fun b=>topRun PySem.treeTable PySem.Challenge.pw_trueleaf_k74_whole_deeds_taken_back w 11 (some (.ref 6)) (651+(640+(640+(640+(640+(514+(515+(510+(515+(667+(515+(510+(661+(481+2)))))))))))))) ⟨zzhB w.params,Array.mk [],⟨0,0,0,0⟩,187,os⟩ (restOf b zzev zzcE (PySem.Pos.mk 0 0 0 0) zzbF)) zzbodyE).trans k0
 exact go_top (zzpreL w os) (piece_block (zzblkL w os) k1)
set_option maxHeartbeats 0 in
theorem zzopE:opening PySem.Challenge.pw_trueleaf_k74_whole_deeds_taken_back=plainProg PySem.Challenge.pw_trueleaf_k74_whole_deeds_taken_back.main.scope.names:=by kernel_rfl
set_option maxHeartbeats 0 in
theorem zzszL (w:World) : ((boot_heap w.params).isNs mainGlobals && (Array.mk [] : Array GenState).size == 0,(boot_heap w.params).objs.size,(boot_heap w.params).nsMap mainGlobals "__annotations__")=(true,11,some (.ref 6)):=by kernel_rfl
set_option maxHeartbeats 0 in
theorem zzlkA (w:World) (os:OsState) : staticsOk (importedModules PySem.Challenge.pw_trueleaf_k74_whole_deeds_taken_back.main.body) (boot_heap w.params) (zzhF w.params)=true:=by kernel_rfl
set_option maxHeartbeats 0 in
theorem zzlkB (w:World) (os:OsState) : namesBound PySem.Challenge.pw_trueleaf_k74_whole_deeds_taken_back (zzhF w.params)=true:=by kernel_rfl
set_option maxHeartbeats 0 in
theorem zzlkC (w:World) (os:OsState) : gensDone (⟨zzhF w.params,Array.mk [],⟨0,0,0,0⟩,1625,os⟩)=true:=by kernel_rfl
set_option maxHeartbeats 0 in
theorem zzlkD (w:World) (os:OsState) : laidKept (boot_heap w.params) (zzhF w.params)=true:=by kernel_rfl
noncomputable abbrev zzzF (w:World) (os:OsState) : Shared:=⟨zzhF w.params,Array.mk [],⟨0,0,0,0⟩,1625,os⟩
set_option maxHeartbeats 0 in
theorem zzlc0 (w:World) (os:OsState) : seen ((recsOf vw).map (·.name)) (ownsOf vw) [] { zzzF w os with gens:=#[] }=expectedOf vw:=by kernel_rfl
set_option maxHeartbeats 0 in
theorem zzlc1 (w:World) (os:OsState) : (zzzF w os).heap.bltView=bltViewBooted:=by kernel_rfl
set_option maxHeartbeats 0 in
theorem zzlc2 (w:World) (os:OsState) : ((zzzF w os).heap.keysOk (looseW vw ls) ((recsOf vw).map (·.name)) ((litsOf vw).map (·.1)) ((clssOf vw (looseW vw ls)).map (·.name)) && (zzzF w os).heap.accountedOkI (importedModules PySem.Challenge.pw_trueleaf_k74_whole_deeds_taken_back.main.body) && (zzzF w os).heap.isNs mainGlobals && (zzzF w os).heap.isNs builtinsNs && tablesOk vw (zzzF w os).heap && xt (zzzF w os) && (if true=true then (zzzF w os).gens.size == 0 else !leftWithCleanup (zzzF w os).gens))=true:=by kernel_rfl
set_option maxHeartbeats 0 in
theorem zzlc3 (w:World) (os:OsState) : tabsOk vw (zzzF w os)=true:=by kernel_rfl
set_option maxHeartbeats 0 in
theorem zzlc4 (w:World) (os:OsState) : pinSeenD vw (drecsOf vw) (zzzF w os)=pinGoodD (drecsOf vw):=by kernel_rfl
set_option maxHeartbeats 0 in
theorem zzlc5 (w:World) (os:OsState) : plainSeenE vw (looseW vw ls) (zzzF w os)=plainGoodE vw (looseW vw ls):=by kernel_rfl
set_option maxHeartbeats 0 in
theorem zzlc6 (w:World) (os:OsState) : plainSeenD vw ls (zzzF w os)=plainGoodD vw ls:=by kernel_rfl
set_option maxHeartbeats 0 in
theorem zzlc7 (w:World) (os:OsState) : wideSeen vw (zzzF w os)=wideGood vw:=by kernel_rfl
set_option maxHeartbeats 0 in
theorem zzlc8 (w:World) (os:OsState) : clsSeenW vw ls (zzzF w os)=clsGoodW vw ls:=by kernel_rfl
theorem zzmk9 {A B C D E F G H I:Type} {a a':A} {b b':B} {c c':C} {d d':D} {e e':E} {f f':F} {g g':G} {h h':H} {i i':I} (zzh0:a=a') (zzh1:b=b') (zzh2:c=c') (zzh3:d=d') (zzh4:e=e') (zzh5:f=f') (zzh6:g=g') (zzh7:h=h') (zzh8:i=i') : (a,b,c,d,e,f,g,h,i)=(a',b',c',d',e',f',g',h',i'):=by
 subst zzh0 zzh1 zzh2 zzh3 zzh4 zzh5 zzh6 zzh7 zzh8; rfl
theorem zzlkO (w:World) (os:OsState) : openSeen vw ls (importedModules PySem.Challenge.pw_trueleaf_k74_whole_deeds_taken_back.main.body) xt true (zzzF w os)=openGood vw ls:=zzmk9 (zzlc0 w os) (zzlc1 w os) (zzlc2 w os) (zzlc3 w os) (zzlc4 w os) (zzlc5 w os) (zzlc6 w os) (zzlc7 w os) (zzlc8 w os)
set_option maxHeartbeats 0 in
theorem zzlkY (w:World) (os:OsState) : Hook.obs hk (⟨zzhF w.params,Array.mk [],⟨0,0,0,0⟩,1625,os⟩)=Hook.val hk w:=by kernel_rfl
theorem zzlkP (w:World) (os:OsState) : (staticsOk (importedModules PySem.Challenge.pw_trueleaf_k74_whole_deeds_taken_back.main.body) (boot_heap w.params) (zzhF w.params) && namesBound PySem.Challenge.pw_trueleaf_k74_whole_deeds_taken_back (zzhF w.params) && gensDone (⟨zzhF w.params,Array.mk [],⟨0,0,0,0⟩,1625,os⟩) && laidKept (boot_heap w.params) (zzhF w.params))=true:=by rw [zzlkA w os,zzlkB w os,zzlkC w os,zzlkD w os]; rfl
theorem left:LeftO PySem.Challenge.pw_trueleaf_k74_whole_deeds_taken_back vw ls xt (Hook.obs hk) (Hook.val hk) 16296:=
 LeftO.of_pieces (boot_open zzopE (by decide) (fun s=>rfl)) zzszL zzrunL (by decide) fun w=>funext fun os=>Prod.ext (zzlkP w os) (Prod.ext (zzlkO w os) (zzlkY w os))

end K74
set_option maxHeartbeats 4000000
namespace L2
open PySem PySem.Spec PyProof.Rows

abbrev Key:=Sum Int Str
def keyIs:Key→Value→Bool
 | .inl k,v=>Value.isInt k v
 | .inr x,v=>Value.isStrOf x v
def keyH (w:World) : Key→Int
 | .inl k=>hashInt k
 | .inr x=>hashStr w x
theorem keyIs_shape:∀ {k:Key} {v:Value},keyIs k v=true→(∃ i t,k=Sum.inl i∧v=Value.int i t)∨(∃ x t,k=Sum.inr x∧v=Value.str x t)
 | .inl i,v,h=>by
  obtain ⟨t,e⟩:=Value.isInt_shape (k:=i) (v:=v) h
  exact .inl ⟨i,t,rfl,e⟩
 | .inr x,v,h=>by
  obtain ⟨t,e⟩:=Value.isStrOf_shape (x:=x) (v:=v) h
  exact .inr ⟨x,t,rfl,e⟩
theorem keyIs_int (i:Int) (t:Tok) : keyIs (.inl i) (.int i t)=true:=by simp [keyIs,Value.isInt]
theorem keyIs_str (x:Str) (t:Tok) : keyIs (.inr x) (.str x t)=true:=by simp [keyIs,Value.isStrOf]
theorem key_ll (a b:Int) : decide ((Sum.inl a:Key)=Sum.inl b)=(a == b):=by
 by_cases e:a=b
 ·subst e; simp
 ·have h:¬ (Sum.inl a:Key)=Sum.inl b:=fun q=>e (Sum.inl.inj q)
  rw [decide_eq_false h]
  exact (beq_eq_false_iff_ne.mpr e).symm
theorem key_rr (a b:Str) : decide ((Sum.inr a:Key)=Sum.inr b)=decide (a=b):=by
 by_cases e:a=b
 ·subst e; simp
 ·have h:¬ (Sum.inr a:Key)=Sum.inr b:=fun q=>e (Sum.inr.inj q)
  rw [decide_eq_false h,decide_eq_false e]
theorem key_lr (a:Int) (b:Str) : decide ((Sum.inl a:Key)=Sum.inr b)=false:=decide_eq_false (fun q=>nomatch q)
theorem key_rl (a:Str) (b:Int) : decide ((Sum.inr a:Key)=Sum.inl b)=false:=decide_eq_false (fun q=>nomatch q)

def mixKind (prog:Program) (w:World) : PySem.KeyKind prog w Key where
 is:=keyIs
 hash:=keyH w
 inj:=fun v a b ha hb=>by
  rcases keyIs_shape ha with ⟨i,t,rfl,rfl⟩ | ⟨x,t,rfl,rfl⟩
  ·rcases keyIs_shape hb with ⟨j,u,rfl,e⟩ | ⟨y,u,rfl,e⟩
   ·injection e with e1 _; rw [e1]
   ·exact nomatch e
  ·rcases keyIs_shape hb with ⟨j,u,rfl,e⟩ | ⟨y,u,rfl,e⟩
   ·exact nomatch e
   ·injection e with e1 _; rw [e1]
 byValue:=fun k v h=>by
  rcases keyIs_shape h with ⟨i,t,rfl,rfl⟩ | ⟨x,t,rfl,rfl⟩ <;> rfl
 pyHash:=fun hv h=>by
  rcases keyIs_shape hv with ⟨i,t,rfl,rfl⟩ | ⟨x,t,rfl,rfl⟩
  ·exact wpAny_pyHash_int h
  ·exact wpAny_pyHash_str h
 eqBool:=fun hu hv h=>by
  rcases keyIs_shape hu with ⟨i,t,rfl,rfl⟩ | ⟨x,t,rfl,rfl⟩
  ·rcases keyIs_shape hv with ⟨j,u,rfl,rfl⟩ | ⟨y,u,rfl,rfl⟩
   ·rw [key_ll] at h; exact wpAny_eqBool_int h
   ·rw [key_lr] at h; exact SeqAt.EqAt.int_str i t y u _ _ _ _ h
  ·rcases keyIs_shape hv with ⟨j,u,rfl,rfl⟩ | ⟨y,u,rfl,rfl⟩
   ·rw [key_rl] at h; exact SeqAt.EqAt.str_int x t j u _ _ _ _ h
   ·rw [key_rr] at h; exact wpAny_eqBool_str h
 «strs»:=fun k x t v h=>by
  rcases keyIs_shape h with ⟨i,u,rfl,e⟩ | ⟨y,u,rfl,e⟩
  ·exact nomatch e
  ·injection e with e1 _
   subst e1
   cases v <;> rfl

theorem mixKind_int (prog:Program) (w:World) (i:Int) (t:Tok) : (mixKind prog w).is (.inl i) (.int i t)=true:=keyIs_int i t
theorem mixKind_str (prog:Program) (w:World) (x:Str) (t:Tok) : (mixKind prog w).is (.inr x) (.str x t)=true:=keyIs_str x t

inductive V where
 | non | bl (b:Bool) | int (i:Int) | str (x:Str) | byt (b:Array UInt8) | flt (b:UInt64) | ref (a:Addr) | ty (n:String)
 deriving DecidableEq

def RelV:V→Value→Prop
 | .non,u=>u=Value.none
 | .bl b,u=>u=Value.bool b
 | .int i,u=>∃ t,u=Value.int i t
 | .str x,u=>∃ t,u=Value.str x t
 | .byt b,u=>∃ t,u=Value.bytes b t
 | .flt b,u=>∃ t,u=Value.float b t
 | .ref a,u=>u=Value.ref a
 | .ty n,u=>u=Value.type n

abbrev Vals:List V→List Value→Prop:=Paired RelV
theorem Vals.length {xs:List V} {us:List Value} (r:Vals xs us) : xs.length=us.length:=Paired.length r
theorem Vals.get:∀ {xs:List V} {us:List Value} {i:Nat} {x:V},Vals xs us→xs[i]? = some x→∃ u,us[i]? = some u∧RelV x u
 | _,_,_,_,.nil,e=>by simp at e
 | _,_,0,_,.cons r _,e=>by simp at e; subst e; exact ⟨_,rfl,r⟩
 | _,_,i+1,x,.cons _ t,e=>by
  obtain ⟨u,h1,h2⟩:=Vals.get (i:=i) (x:=x) t (by simpa using e)
  exact ⟨u,by simpa using h1,h2⟩
theorem Vals.append:∀ {xs ys:List V} {us ws:List Value},Vals xs us→Vals ys ws→Vals (xs++ys) (us++ws)
 | _,_,_,_,.nil,s=>s
 | _,_,_,_,.cons r t,s=>.cons r (Vals.append t s)
theorem Vals.take:∀ {xs:List V} {us:List Value} (n:Nat),Vals xs us→Vals (xs.take n) (us.take n)
 | _,_,0,_=>.nil
 | _,_,_+1,.nil=>.nil
 | _,_,n+1,.cons r t=>.cons r (Vals.take n t)
theorem Vals.drop:∀ {xs:List V} {us:List Value} (n:Nat),Vals xs us→Vals (xs.drop n) (us.drop n)
 | _,_,0,r=>r
 | _,_,_+1,.nil=>.nil
 | _,_,n+1,.cons _ t=>Vals.drop n t
def RelO:Option V→Option Value→Prop
 | some v,some u=>RelV v u
 | none,none=>True
 | _,_=>False
def KV {κ:Type} : List (κ × V)→List (κ × Value)→Prop:=Paired fun (p:κ × V) (q:κ × Value)=>p.1=q.1∧RelV p.2 q.2

def kV:Key→V
 | .inl i=>.int i
 | .inr x=>.str x

inductive HO where
  | lst (xs:List V)
  | tup (xs:List V)
  | dK (kvs:List (Key × V)) | dT (kvs:List (List Key × V))
  | set (S:Int→Bool) (n:Nat)
  | ins (C dx:Addr) (fs:List (Str × V))
  | own (x:Addr)
  | xd (fs:List (Str × V))
  | met (f x:Addr)
  | rng (lo hi:Int)
  | frz (o:Obj) (u:HO)
  | tbl (ps:Array Value)
  | ext (φ:Heap→Prop)

abbrev Hp:=Addr→Option HO
def upd (H:Hp) (a:Addr) (o:HO) : Hp:=fun b=>if b=a then some o else H b
theorem upd_same {H:Hp} {a:Addr} {o:HO} : upd H a o a=some o:=by unfold upd; rw [if_pos rfl]
theorem upd_ne {H:Hp} {a b:Addr} {o:HO} (h:b≠a) : upd H a o b=H b:=by unfold upd; rw [if_neg h]
theorem ne_of {H:Hp} {a b:Addr} {o u:HO} (h:H a=some o) (h':H b=some u) (d:o≠u) : a≠b:=by
 intro e; subst e; rw [h] at h'; exact d (Option.some.inj h')
theorem ne_of_none {H:Hp} {a b:Addr} {o:HO} (h:H a=some o) (h':H b=none) : a≠b:=by
 intro e; subst e; rw [h] at h'; cases h'

section
variable (P:Program) (w:World)
def ObjOk (H:Hp) (h:Heap) (a:Addr) : HO→Prop
 | .lst xs=>xs.length≤sizeLine∧∃ (its:List Value) (n:Nat),Vals xs its∧h.get? a=some { cls:=.type "list",data:=.seq its.toArray n }
 | .tup xs=>xs.length≤sizeLine∧∃ its:List Value,Vals xs its∧IsTup h a its.toArray
 | .dK kvs=>kvs.length≤sizeLine∧(a == sysModules)=false∧∃ vs,KV kvs vs∧h.DictOf (mixKind P w) a vs
 | .dT kvs=>kvs.length≤sizeLine∧(a == sysModules)=false∧∃ xs:List (List Key × Addr × Value),
   Paired (fun (p:List Key × V) (q:List Key × Addr × Value)=>p.1=q.1∧H q.2.1=some (.tup (p.1.map kV))∧RelV p.2 q.2.2) kvs xs ∧
   ∃ o es ep,h.get? a=some o∧o.ExactDict∧o.data = .dict es ep∧es.toList=xs.map (entryOfKey (tupleKind (mixKind P w)))∧(xs.map (·.1)).Nodup
 | .set S n=>h.SetOf (intKind P w) a S n
 | .ins C dx fs=>H dx=some (.own a)∧fs.length≤1000∧dx≠a∧h.get? a=some (PySem.W.instObj C dx) ∧
   ∃ mA,h.Ns1 dx mA∧(∀ f,RelO (fs.lookup f) (mA f))∧PySem.Within mA (fs.map (·.1))
 | .own _=>∃ o,h.get? a=some o
 | .xd fs=>∃ mA,h.Ns1 a mA∧∀ f,RelO (fs.lookup f) (mA f)
 | .rng lo hi=>∃ t u v,h.get? a=some { cls:=.type "range",data:=.fields #[.int lo t,.int hi u,.int 1 v] }
 | .frz o u=>h.get? a=some o∧ObjOk H h a u
 | .tbl ps=>h.get? a=some { cls:=.none,data:=.fields ps }
 | .met f x=>h.get? a=some (PySem.W.methodObj (.ref f) (.ref x))
 | .ext φ=>φ h∧(∃ o,h.get? a=some o)∧∀ h1 h2:Heap,φ h1→(∀ o,h1.get? a=some o→h2.get? a=some o)→φ h2
def HOk (H:Hp) (h:Heap) : Prop:=∀ a o,H a=some o→ObjOk P w H h a o
end

section
variable {P:Program} {w:World} {H H':Hp} {h h':Heap} {a:Addr} {o:HO}
theorem ObjOk.lt (x:ObjOk P w H h a o) : a < h.objs.size:=by
 cases o with
 | lst xs=>obtain ⟨_,_,_,_,e⟩:=x; exact Heap.lt_size e
 | tup xs=>obtain ⟨_,_,_,p⟩:=x; exact p.lt
 | dK kvs=>obtain ⟨_,_,_,_,o,_,_,e,_⟩:=x; exact Heap.lt_size e
 | dT kvs=>obtain ⟨_,_,_,_,o,_,_,e,_⟩:=x; exact Heap.lt_size e
 | set S n=>obtain ⟨o,_,_,_,e,_⟩:=x; exact Heap.lt_size e
 | ins C dx fs=>obtain ⟨_,_,_,e,_⟩:=x; exact Heap.lt_size e
 | own y=>obtain ⟨_,e⟩:=x; exact Heap.lt_size e
 | xd fs=>obtain ⟨_,⟨_,_,_,e,_⟩,_⟩:=x; exact Heap.lt_size e
 | rng lo hi=>obtain ⟨_,_,_,e⟩:=x; exact Heap.lt_size e
 | frz ob u=>obtain ⟨e,_⟩:=x; exact Heap.lt_size e
 | tbl ps=>exact Heap.lt_size (show h.get? a=some _ from x)
 | met f y=>exact Heap.lt_size (show h.get? a=some _ from x)
 | ext φ=>obtain ⟨_,⟨_,e⟩,_⟩:=x; exact Heap.lt_size e
theorem Paired.mapP {α β:Type} {F G:α→β→Prop} : ∀ {l₁:List α} {l₂:List β},Paired F l₁ l₂→(∀ a b,F a b→G a b)→Paired G l₁ l₂
 | _,_,.nil,_=>.nil
 | _,_,.cons r t,f=>.cons (f _ _ r) (Paired.mapP t f)
theorem ObjOk.stay (x:ObjOk P w H h a o) (k:∀ b u,(b=a∨H b=some (.own a))→h.get? b=some u→h'.get? b=some u)
  (ho:∀ b,H b=some (.own a)→H' b=some (.own a)) (ht:∀ b xs,H b=some (.tup xs)→H' b=some (.tup xs)) : ObjOk P w H' h' a o:=by
 induction o with
 | lst xs=>obtain ⟨z,its,n,r,e⟩:=x; exact ⟨z,its,n,r,k _ _ (.inl rfl) e⟩
 | tup xs=>obtain ⟨z,its,r,ob,e,c⟩:=x; exact ⟨z,its,r,ob,k _ _ (.inl rfl) e,c⟩
 | dK kvs=>obtain ⟨z,y,vs,r,ob,es,ep,e,c⟩:=x; exact ⟨z,y,vs,r,ob,es,ep,k _ _ (.inl rfl) e,c⟩
 | dT kvs =>
  obtain ⟨z,y,xs,r,ob,es,ep,e,c⟩:=x
  exact ⟨z,y,xs,Paired.mapP r fun p q z=>⟨z.1,ht _ _ z.2.1,z.2.2⟩,ob,es,ep,k _ _ (.inl rfl) e,c⟩
 | set S n=>obtain ⟨ob,es,ep,t,e,c⟩:=x; exact ⟨ob,es,ep,t,k _ _ (.inl rfl) e,c⟩
 | ins C dx fs =>
  obtain ⟨d,z,ne,e,mA,⟨od,es,ep,e2,c⟩,r⟩:=x
  exact ⟨ho _ d,z,ne,k _ _ (.inl rfl) e,mA,⟨od,es,ep,k _ _ (.inr d) e2,c⟩,r⟩
 | own y=>obtain ⟨ob,e⟩:=x; exact ⟨ob,k _ _ (.inl rfl) e⟩
 | xd fs=>obtain ⟨mA,⟨od,es,ep,e,c⟩,r⟩:=x; exact ⟨mA,⟨od,es,ep,k _ _ (.inl rfl) e,c⟩,r⟩
 | rng lo hi=>obtain ⟨t,u,v,e⟩:=x; exact ⟨t,u,v,k _ _ (.inl rfl) e⟩
 | frz ob u ih=>obtain ⟨e,q⟩:=x; exact ⟨k _ _ (.inl rfl) e,ih q⟩
 | tbl ps =>
  have e:h.get? a=some { cls:=.none,data:=.fields ps }:=x
  show h'.get? a=some { cls:=.none,data:=.fields ps }
  exact k a _ (.inl rfl) e
 | met f y =>
  have e:h.get? a=some (PySem.W.methodObj (.ref f) (.ref y)):=x
  show h'.get? a=some (PySem.W.methodObj (.ref f) (.ref y))
  exact k a _ (.inl rfl) e
 | ext φ=>obtain ⟨p,⟨o,e⟩,st⟩:=x; exact ⟨st _ _ p fun o q=>k _ _ (.inl rfl) q,⟨o,k _ _ (.inl rfl) e⟩,st⟩
theorem HOk.lt (x:HOk P w H h) (e:H a=some o) : a < h.objs.size:=(x a o e).lt
theorem HOk.fresh (x:HOk P w H h) (e:h.objs.size≤a) : H a=none:=by
 cases q:H a with
 | none=>rfl
 | some u=>exact absurd (Nat.lt_of_lt_of_le (x.lt q) e) (Nat.lt_irrefl _)
theorem HOk.kept (x:HOk P w H h) (k:∀ b u,h.get? b=some u→h'.get? b=some u) : HOk P w H h':=fun a o e =>
 (x a o e).stay (fun b u _ q=>k b u q) (fun _ q=>q) fun _ _ q=>q
theorem HOk.laid (x:HOk P w H h) (k:∀ b u,h.get? b=some u→h'.get? b=some u) (hp:h.objs.size≤a) (new:ObjOk P w (upd H a o) h' a o) : HOk P w (upd H a o) h':=fun b u e=>by
 have hn:=x.fresh hp
 by_cases hb:b=a
 ·subst hb; rw [upd_same] at e; cases e; exact new
 ·rw [upd_ne hb] at e
  exact (x b u e).stay (fun c v _ q=>k c v q) (fun c q=>by rw [upd_ne (ne_of_none q hn)]; exact q) fun c xs q=>by rw [upd_ne (ne_of_none q hn)]; exact q
end

def Rd (H:Hp) (a:Addr) (u:HO) : Prop:=H a=some u∨∃ o,H a=some (.frz o u)
theorem Rd.ok {P:Program} {w:World} {H:Hp} {h:Heap} {a:Addr} {u:HO} (r:Rd H a u) (x:HOk P w H h) : ObjOk P w H h a u:=by
 rcases r with r | ⟨o,r⟩
 ·exact x a u r
 ·obtain ⟨_,q⟩:=x a _ r
  exact q
def Mut:Option HO→Prop
 | some (.lst _)=>True
 | some (.dK _)=>True
 | some (.dT _)=>True
 | some (.set _ _)=>True
 | some (.ins _ _ _)=>True
 | some (.ext _)=>True
 | _=>False
section
variable {P:Program} {w:World} {H:Hp} {h h':Heap} {x e:Addr} {o':HO}
theorem HOk.write (ok:HOk P w H h) (mu:Mut (H x)) (he:e=x∨H e=some (.own x)) (k:∀ b u,b≠e→h.get? b=some u→h'.get? b=some u) (heo:∃ u,h'.get? e=some u)
  (new:ObjOk P w (upd H x o') h' x o') : HOk P w (upd H x o') h':=fun b u q=>by
 have nown:∀ c y,H c=some (.own y)→c≠x:=fun c y r z=>by subst z; rw [r] at mu; exact mu
 have ntup:∀ c xs,H c=some (.tup xs)→c≠x:=fun c xs r z=>by subst z; rw [r] at mu; exact mu
 by_cases hb:b=x
 ·subst hb; rw [upd_same] at q; cases q; exact new
 ·rw [upd_ne hb] at q
  by_cases hbe:b=e
  ·have q':H b=some (.own x):=by
    rcases he with z | z
    ·exact absurd (hbe.trans z) hb
    ·rw [hbe]; exact z
   rw [q] at q'; cases q'
   obtain ⟨v,hv⟩:=heo
   exact ⟨v,by rw [hbe]; exact hv⟩
  ·refine (ok b u q).stay (fun c v hc r=>k c v ?_ r) (fun c r=>by rw [upd_ne (nown c b r)]; exact r) fun c xs r=>by rw [upd_ne (ntup c xs r)]; exact r
   rcases hc with rfl | hc
   ·exact hbe
   ·rintro rfl
    rcases he with z | z
    ·exact nown c b hc z
    ·rw [hc] at z; cases z; exact hb rfl
end

structure Un (fs ex:List Addr) (H H':Hp) (h h':Heap) : Prop where
 keep:∀ b o,h.get? b=some o→H b=none→b ∉ fs→b ∉ ex→h'.get? b=some o
 slot:∀ b o,h.get? b=some o→H b=none→b ∈ fs→b ∉ ex→∃ sl,h'.get? b=some { o with slots:=sl }
 free:∀ b o,h.get? b=some o→H b=none→b ∉ ex→H' b=none
 there:∀ b o,h.get? b=some o→b ∉ ex→∃ o',h'.get? b=some o'
 tups:∀ b xs,H b=some (.tup xs)→H' b=some (.tup xs)
 frzs:∀ b o u,H b=some (.frz o u)→H' b=some (.frz o u)
 tbls:∀ b ps,H b=some (.tbl ps)→∃ more,H' b=some (.tbl (ps++more))
section
variable {fs fs' ex ex':List Addr} {H H1 H2:Hp} {h h1 h2 h':Heap} {a x e:Addr} {o:HO}
theorem Un.any (u:Un fs ex H H1 h h1) {b:Addr} {ob:Obj} (q:h.get? b=some ob) (n:H b=none) (hx:b ∉ ex) : ∃ sl,h1.get? b=some { ob with slots:=sl }:=by
 by_cases hb:b ∈ fs
 ·exact u.slot b ob q n hb hx
 ·exact ⟨ob.slots,u.keep b ob q n hb hx⟩
theorem Un.trans (a:Un fs ex H H1 h h1) (b:Un fs ex H1 H2 h1 h2) : Un fs ex H H2 h h2 where
 keep:=fun c ob q n hc hx=>b.keep c ob (a.keep c ob q n hc hx) (a.free c ob q n hx) hc hx
 slot:=fun c ob q n hc hx=>by
  obtain ⟨sl,e1⟩:=a.slot c ob q n hc hx
  obtain ⟨sl',e2⟩:=b.slot c _ e1 (a.free c ob q n hx) hc hx
  exact ⟨sl',e2⟩
 free:=fun c ob q n hx=>by
  obtain ⟨o',e1⟩:=a.there c ob q hx
  exact b.free c o' e1 (a.free c ob q n hx) hx
 there:=fun c ob q hx=>by
  obtain ⟨o',e1⟩:=a.there c ob q hx
  exact b.there c o' e1 hx
 tups:=fun c xs q=>b.tups c xs (a.tups c xs q)
 frzs:=fun c ob xs q=>b.frzs c ob xs (a.frzs c ob xs q)
 tbls:=fun c ps q=>by
  obtain ⟨m1,e1⟩:=a.tbls c ps q
  obtain ⟨m2,e2⟩:=b.tbls c _ e1
  exact ⟨m1++m2,by rw [e2,Array.append_assoc]⟩
theorem Un.kept (k:∀ b u,h.get? b=some u→h'.get? b=some u) : Un fs ex H H h h':=
 ⟨fun b ob q _ _ _=>k b ob q,fun b ob q _ _ _=>⟨ob.slots,k b ob q⟩,fun _ _ _ n _=>n,fun b ob q _=>⟨ob,k b ob q⟩,fun _ _ q=>q,fun _ _ _ q=>q,fun _ ps q=>⟨#[],by rw [q]; simp⟩⟩
theorem Un.refl:Un fs ex H H h h:=Un.kept fun _ _ q=>q
theorem Un.laid (k:∀ b u,h.get? b=some u→h'.get? b=some u) (hp:h.objs.size≤a) (hn:H a=none) : Un fs ex H (upd H a o) h h' where
 keep:=fun b u q _ _ _=>k b u q
 slot:=fun b u q _ _ _=>⟨u.slots,k b u q⟩
 free:=fun b u q n _=>by rw [upd_ne (Nat.ne_of_lt (Nat.lt_of_lt_of_le (Heap.lt_size q) hp))]; exact n
 there:=fun b u q _=>⟨u,k b u q⟩
 tups:=fun b xs q=>by rw [upd_ne (ne_of_none q hn)]; exact q
 frzs:=fun b u xs q=>by rw [upd_ne (ne_of_none q hn)]; exact q
 tbls:=fun b ps q=>⟨#[],by rw [upd_ne (ne_of_none q hn),q]; simp⟩
theorem Un.write (mu:Mut (H x)) (he:e=x∨H e=some (.own x)) (k:∀ b u,b≠e→h.get? b=some u→h'.get? b=some u) (heo:∃ u,h'.get? e=some u) : Un fs ex H (upd H x o) h h':=by
 have hx:∀ b,H b=none→b≠x:=fun b n z=>by subst z; rw [n] at mu; exact mu
 have hb:∀ b,H b=none→b≠e:=fun b n z=>by
  subst z
  rcases he with r | r
  ·exact hx b n r
  ·rw [n] at r; cases r
 have hm:∀ b u,H b=some u→¬ Mut (some u)→b≠x:=fun b u q nm z=>by subst z; rw [q] at mu; exact nm mu
 refine ⟨fun b u q n _ _=>k b u (hb b n) q,fun b u q n _ _=>⟨u.slots,k b u (hb b n) q⟩,fun b u q n _=>by rw [upd_ne (hx b n)]; exact n,fun b u q _=>?_,
  fun b xs q=>by rw [upd_ne (hm b _ q fun z=>z)]; exact q,fun b u xs q=>by rw [upd_ne (hm b _ q fun z=>z)]; exact q,fun b ps q=>⟨#[],by rw [upd_ne (hm b _ q fun z=>z),q]; simp⟩⟩
 by_cases hbe:b=e
 ·subst hbe; exact heo
 ·exact ⟨u,k b u hbe q⟩
end

def trk (h:Heap) (H:Hp) : List Addr:=(List.range h.objs.size).filter fun a=>(H a).isSome
def hidT (h:Heap) (H:Hp) : Heap:=PySem.W.hideAll h (trk h H)
theorem hidT_size (h:Heap) (H:Hp) : (hidT h H).objs.size=h.objs.size:=PySem.W.hideAll_size _ _
theorem hidT_get {h:Heap} {H:Hp} {b:Addr} {o:Obj} (e:h.get? b=some o) (n:H b=none) : (hidT h H).get? b=some o:=
 PySem.W.hideAll_get _ e fun hm=>by
  have q:(H b).isSome=true:=(List.mem_filter.mp hm).2
  rw [n] at q; simp at q
theorem of_hidT {h:Heap} {H:Hp} {b:Addr} {o:Obj} (e:(hidT h H).get? b=some o) : h.get? b=some o∧H b=none:=by
 have e':h.get? b=some o:=PySem.W.of_hideAll (trk h H) e
 refine ⟨e',?_⟩
 cases q:H b with
 | none=>rfl
 | some x =>
  have hm:b ∈ trk h H:=List.mem_filter.mpr ⟨List.mem_range.mpr (Heap.lt_size e'),by simp [q]⟩
  have z:(hidT h H).get? b=none:=PySem.W.hideAll_none (trk h H) hm
  rw [z] at e; cases e

def allNews (g h:Heap) (L:Addr) : List (Addr × Obj):=(List.range h.objs.size).filterMap fun a=>if a=L∨(g.get? a).isSome=true then none else (h.get? a).map fun o=>(a,o)
def rest (g h:Heap) (L d:Addr) : List (Addr × Obj):=(allNews g h L).filter fun p=>decide (p.1≠d)

structure Mod (K:PySem.W.Frag) (mg:Str→Option Value) (base:Heap) : Prop where
 kin:K.In base
 glob:base.Ns mainGlobals mg
 blt:∃ mb,base.Ns builtinsNs mb∧∀ x:Str,x≠"__name__"→mb x=bootBuiltins x
 nolimit:base.NoLimit

structure Cx where
 prog:Program
 w:World
 K:PySem.W.Frag
 mg:Str→Option Value
 base:Heap
 A:Around
 N:List Str
 s₀:Shared
 H₀:Hp
 env:Env
 outer:List Env
 stack:List Env
 ex:List Addr
 fn:Str→Bool
 calm:Bool
 pn:List (Addr × Obj)
 xe:Value→Shared→Prop
def frs (l:List Env) : List Addr:=l.filterMap (·.frame)
abbrev Cx.fs (X:Cx) : List Addr:=frs X.outer

def Vis (sc:Scope) (x:Str) : Prop:=sc.names.lookup x=some .local∨sc.names.lookup x=some .cell∨sc.names.lookup x=some .free
def Loc (sc:Scope) (x:Str) : Prop:=sc.names.lookup x=some .local∨sc.names.lookup x=some .cell
def Look (env:Env) (h:Heap) (m:Str→Option Value) (x:Str) (u:Value) : Prop:=
 (env.kindOf x=some .local∧m x=some u)∨((env.kindOf x=some .cell∨env.kindOf x=some .free)∧∃ c,env.cells.lookup x=some c∧h.IsCell c (some u))

structure Cx.Ok (X:Cx) : Prop where
 mod:Mod X.K X.mg X.base
 kind:X.env.scope.kind = .function
 glob:X.env.globals=mainGlobals
 blt:X.env.builtins=builtinsNs
 above:X.s₀.heap.objs.size≤X.env.locals
 inj:∀ x y c,X.env.cells.lookup x=some c→X.env.cells.lookup y=some c→x=y
 has:∀ x,(X.env.kindOf x=some .cell∨X.env.kindOf x=some .free)→∃ c,X.env.cells.lookup x=some c
 cab:∀ x c,X.fn x=true→X.env.cells.lookup x=some c→X.s₀.heap.objs.size≤c
 hd:X.calm=true→X.A.handled=none
 frames:X.A.frames=some X.stack
 stk:X.stack=X.outer∨(X.stack=X.env :: X.outer∧X.env.frame=some X.env.locals)
 exf:∀ b ∈ X.ex,b≠X.env.locals∧∀ x c,X.env.cells.lookup x=some c→c≠b
 bs:∀ b o,X.base.get? b=some o→X.s₀.heap.get? b=some o∧X.H₀ b=none
 bsz:X.base.objs.size≤X.s₀.heap.objs.size
 noex:∀ b o,X.base.get? b=some o→b ∉ X.ex
 exfs:∀ b ∈ X.ex,b ∉ X.fs
 funs:X.s₀.heap.FunFrames X.base X.outer
 frf:∀ b ∈ X.fs,X.H₀ b=none

structure Inv (X:Cx) (pins:List (Addr × Obj)) (σ:List (Option V)) (H:Hp) (s:Shared) : Prop where
 ok:X.Ok
 os:s.os=X.s₀.os
 bare:AllBare s.gens
 base:Un X.fs X.ex X.H₀ H X.s₀.heap s.heap
 loc:∃ m,s.heap.Ns X.env.locals m∧∀ (i:Nat) (x:Str) (v:V),X.N[i]? = some x→σ[i]? = some (some v)→Vis X.env.scope x→∃ u,RelV v u∧Look X.env s.heap m x u
 cell:∀ x c,X.env.cells.lookup x=some c→∃ v,s.heap.IsCell c v
 free:H X.env.locals=none
 freeC:∀ x c,X.env.cells.lookup x=some c→H c=none
 pin:∀ p ∈ X.pn++pins,s.heap.get? p.1=some p.2∧H p.1=none∧p.1≠X.env.locals∧p.1 ∉ X.fs∧∀ v,p.2.data≠.cell v
 hok:HOk X.prog X.w H s.heap
 len:σ.length=X.N.length

section
variable {X:Cx} {pins:List (Addr × Obj)} {σ:List (Option V)} {H H':Hp} {s:Shared} {h':Heap}

theorem Cx.Ok.nofr (ok:X.Ok) {b:Addr} {o:Obj} (e:X.base.get? b=some o) : b ∉ X.fs:=fun hb=>by
 have:=(ok.funs.mem hb).1
 rw [e] at this; cases this
theorem Inv.bs (I:Inv X pins σ H s) : ∀ b o,X.base.get? b=some o→s.heap.get? b=some o∧H b=none:=fun b o e =>
 ⟨I.base.keep b o (I.ok.bs b o e).1 (I.ok.bs b o e).2 (I.ok.nofr e) (I.ok.noex b o e),I.base.free b o (I.ok.bs b o e).1 (I.ok.bs b o e).2 (I.ok.noex b o e)⟩
theorem Inv.bk (I:Inv X pins σ H s) : ∀ b o,X.base.get? b=some o→s.heap.get? b=some o:=fun b o e=>(I.bs b o e).1
theorem Inv.mod (I:Inv X pins σ H s) : Mod X.K X.mg X.base:=I.ok.mod
theorem Inv.kIn (I:Inv X pins σ H s) : X.K.In s.heap:=I.ok.mod.kin.keeps I.bk
theorem Inv.lt (I:Inv X pins σ H s) : X.env.locals < s.heap.objs.size:=let ⟨_,hn,_⟩:=I.loc; hn.lt
theorem Inv.sz (I:Inv X pins σ H s) : X.s₀.heap.objs.size≤s.heap.objs.size:=Nat.le_trans I.ok.above (Nat.le_of_lt I.lt)
theorem Inv.nofs (I:Inv X pins σ H s) {a:Addr} (h:s.heap.objs.size≤a) : a ∉ X.fs:=fun hb=>by
 obtain ⟨_,o,ho,_⟩:=I.ok.funs.mem hb
 exact absurd (Nat.lt_of_lt_of_le (Heap.lt_size ho) (Nat.le_trans I.sz h)) (Nat.lt_irrefl _)
theorem Inv.cne (I:Inv X pins σ H s) : ∀ x c,X.env.cells.lookup x=some c→c≠X.env.locals:=fun x c e z=>by
 obtain ⟨v,o,ho,hd⟩:=I.cell x c e
 obtain ⟨m,⟨o',es,ep,ho',hd',_⟩,_⟩:=I.loc
 rw [z,ho'] at ho; cases ho; rw [hd'] at hd; cases hd
theorem Inv.funs (I:Inv X pins σ H s) : s.heap.FunFrames X.base X.outer:=by
 have all:∀ (l:List Env),(∀ b ∈ frs l,b ∈ X.fs)→X.s₀.heap.FunFrames X.base l→s.heap.FunFrames X.base l:=by
  intro l
  induction l with
  | nil=>intro _ _; trivial
  | cons env r ih =>
   intro hs hl
   obtain ⟨hk,⟨L,o,hf,hn,ho,hd⟩,hr⟩:=hl
   have hL:L ∈ X.fs:=hs L (by unfold frs; rw [List.filterMap_cons,hf]; exact List.mem_cons_self)
   obtain ⟨sl,e⟩:=I.base.slot L o ho (I.ok.frf L hL) hL fun z=>I.ok.exfs L z hL
   exact ⟨hk,⟨L,_,hf,hn,e,hd⟩,ih (fun b hb=>hs b (by unfold frs; rw [List.filterMap_cons,hf]; exact List.mem_cons_of_mem _ hb)) hr⟩
 exact all X.outer (fun _ hb=>hb) I.ok.funs

theorem Inv.stack (I:Inv X pins σ H s) : s.heap.FunFrames X.base X.stack:=by
 rcases I.ok.stk with e | ⟨e,hf⟩
 ·rw [e]; exact I.funs
 ·rw [e]
  obtain ⟨m,hn,_⟩:=I.loc
  refine .cons (by rw [I.ok.kind]; decide) hf hn ?_ I.funs
  exact Heap.get?_none_of_le (Nat.le_trans I.ok.bsz I.ok.above)
theorem Inv.stkSub (I:Inv X pins σ H s) : ∀ b ∈ frs X.stack,b ∈ X.env.locals :: X.fs:=fun b hb=>by
 rcases I.ok.stk with e | ⟨e,hf⟩
 ·rw [e] at hb; exact List.mem_cons_of_mem _ hb
 ·rw [e] at hb
  unfold frs at hb
  rw [List.filterMap_cons,hf] at hb
  exact hb
theorem Inv.stkFree (I:Inv X pins σ H s) : ∀ b ∈ frs X.stack,H b=none:=fun b hb=>by
 rcases List.mem_cons.mp (I.stkSub b hb) with e | hb
 ·rw [e]; exact I.free
 ·obtain ⟨_,o,ho,_⟩:=I.ok.funs.mem hb
  exact I.base.free b o ho (I.ok.frf b hb) fun z=>I.ok.exfs b z hb

theorem Inv.step {g':Array GenState} {t':Nat} {d':Drawn} {ch:List Addr} (I:Inv X pins σ H s)
  (hch:∀ b ∈ ch,(b ∈ X.ex∨X.s₀.heap.objs.size≤b)∧b≠X.env.locals∧(∀ x c,X.env.cells.lookup x=some c→c≠b)∧∀ p ∈ X.pn++pins,p.1≠b)
  (keep:∀ b o,b≠X.env.locals→b ∉ X.fs→b ∉ ch→s.heap.get? b=some o→H b=none→h'.get? b=some o)
  (slot:∀ b o,b≠X.env.locals→b ∈ X.fs→b ∉ ch→s.heap.get? b=some o→H b=none→∃ sl,h'.get? b=some { o with slots:=sl }) (free:∀ b o,b ∉ ch→s.heap.get? b=some o→H b=none→H' b=none)
  (there:∀ b o,b ∉ ch→s.heap.get? b=some o→∃ o',h'.get? b=some o')
  (tups:∀ b xs,H b=some (.tup xs)→H' b=some (.tup xs)) (frzs:∀ b o u,H b=some (.frz o u)→H' b=some (.frz o u)) (tbls:∀ b ps,H b=some (.tbl ps)→∃ more,H' b=some (.tbl (ps++more)))
  (ns:∀ m,s.heap.Ns X.env.locals m→h'.Ns X.env.locals m) (hok:HOk X.prog X.w H' h') (hg:AllBare g') :
  Inv X pins σ H' { s with heap:=h',gens:=g',drawn:=d',toks:=t' }:=by
 have neL:∀ b o,X.s₀.heap.get? b=some o→b≠X.env.locals:=fun b o e=>Nat.ne_of_lt (Nat.lt_of_lt_of_le (Heap.lt_size e) I.ok.above)
 have neC:∀ b o,X.s₀.heap.get? b=some o→b ∉ X.ex→b ∉ ch:=fun b o e hx hb=>by
  rcases (hch b hb).1 with z | z
  ·exact hx z
  ·exact absurd (Nat.lt_of_lt_of_le (Heap.lt_size e) z) (Nat.lt_irrefl _)
 have cellK:∀ x c,X.env.cells.lookup x=some c→∀ v,s.heap.IsCell c v→h'.IsCell c v:=fun x c e v ⟨o,ho,hd⟩=>by
  have nch:c ∉ ch:=fun z=>(hch c z).2.2.1 x c e rfl
  by_cases hc:c ∈ X.fs
  ·obtain ⟨sl,q⟩:=slot c o (I.cne x c e) hc nch ho (I.freeC x c e)
   exact ⟨_,q,hd⟩
  ·exact ⟨o,keep c o (I.cne x c e) hc nch ho (I.freeC x c e),hd⟩
 refine ⟨I.ok,I.os,hg,⟨fun b o e n hb hx=>?_,fun b o e n hb hx=>?_,fun b o e n hx=>?_,fun b o e hx=>?_,fun b xs e=>tups b xs (I.base.tups b xs e),fun b o xs e=>frzs b o xs (I.base.frzs b o xs e),fun b ps e=>?_⟩,?_,fun x c e=>?_,?_,fun x c e=>?_,fun p hp=>?_,hok,I.len⟩
 ·exact keep b o (neL b o e) hb (neC b o e hx) (I.base.keep b o e n hb hx) (I.base.free b o e n hx)
 ·obtain ⟨sl,e1⟩:=I.base.slot b o e n hb hx
  obtain ⟨sl',e2⟩:=slot b _ (neL b o e) hb (neC b o e hx) e1 (I.base.free b o e n hx)
  exact ⟨sl',e2⟩
 ·obtain ⟨o',e1⟩:=I.base.there b o e hx
  exact free b o' (neC b o e hx) e1 (I.base.free b o e n hx)
 ·obtain ⟨o',e1⟩:=I.base.there b o e hx
  exact there b o' (neC b o e hx) e1
 ·obtain ⟨m1,e1⟩:=I.base.tbls b ps e
  obtain ⟨m2,e2⟩:=tbls b _ e1
  exact ⟨m1++m2,by rw [e2,Array.append_assoc]⟩
 ·obtain ⟨m,hn,hl⟩:=I.loc
  refine ⟨m,ns m hn,fun i x v e1 e2 e3=>?_⟩
  obtain ⟨u,r,l⟩:=hl i x v e1 e2 e3
  refine ⟨u,r,?_⟩
  rcases l with l | ⟨k,c,e,z⟩
  ·exact .inl l
  ·exact .inr ⟨k,c,e,cellK x c e _ z⟩
 ·obtain ⟨v,z⟩:=I.cell x c e
  exact ⟨v,cellK x c e v z⟩
 ·obtain ⟨m,⟨o,_,_,ho,_⟩,_⟩:=I.loc
  exact free _ o (fun z=>(hch _ z).2.1 rfl) ho I.free
 ·obtain ⟨v,o,ho,hd⟩:=I.cell x c e
  exact free c o (fun z=>(hch c z).2.2.1 x c e rfl) ho (I.freeC x c e)
 ·obtain ⟨e,n,ne,nf,d⟩:=I.pin p hp
  have nch:p.1 ∉ ch:=fun z=>(hch p.1 z).2.2.2 p hp rfl
  exact ⟨keep p.1 p.2 ne nf nch e n,free p.1 p.2 nch e n,ne,nf,d⟩
theorem Inv.un {t':Nat} (I:Inv X pins σ H s) (u:Un X.fs [] H H' s.heap h') (hok:HOk X.prog X.w H' h') : Inv X pins σ H' { s with heap:=h',toks:=t' }:=by
 obtain ⟨m,⟨o,es,ep,ho,r⟩,_⟩:=id I.loc
 obtain ⟨sl,hL⟩:=u.any ho I.free (by simp)
 exact I.step (g':=s.gens) (d':=s.drawn) (ch:=[]) (fun _ z=>nomatch z) (fun b o _ hb _ e n=>u.keep b o e n hb (by simp)) (fun b o _ hb _ e n=>u.slot b o e n hb (by simp)) (fun b o _ e n=>u.free b o e n (by simp)) (fun b o _ e=>u.there b o e (by simp)) u.tups u.frzs u.tbls (fun m' hm=>by
  obtain ⟨o',es',ep',ho',r'⟩:=hm
  rw [ho] at ho'; cases ho'
  exact ⟨_,es',ep',hL,r'⟩) hok I.bare
theorem Inv.call {g':Array GenState} {t':Nat} {d':Drawn} {ch:List Addr} (I:Inv X pins σ H s) (u:Un (frs X.stack) ch H H' s.heap h') (hok:HOk X.prog X.w H' h') (hg:AllBare g')
  (hch:∀ b ∈ ch,(b ∈ X.ex∨X.s₀.heap.objs.size≤b)∧b≠X.env.locals∧(∀ x c,X.env.cells.lookup x=some c→c≠b)∧∀ p ∈ X.pn++pins,p.1≠b) :
  Inv X pins σ H' { s with heap:=h',gens:=g',drawn:=d',toks:=t' }:=by
 obtain ⟨m,⟨o,es,ep,ho,r⟩,_⟩:=id I.loc
 obtain ⟨sl,hL⟩:=u.any ho I.free fun z=>(hch _ z).2.1 rfl
 exact I.step (ch:=ch) hch (fun b o hL hb hc e n=>u.keep b o e n (fun z=>(List.mem_cons.mp (I.stkSub b z)).elim hL hb) hc) (fun b o _ _ hc e n=>u.any e n hc) (fun b o hc e n=>u.free b o e n hc) (fun b o hc e=>u.there b o e hc) u.tups u.frzs u.tbls (fun m' hm=>by
  obtain ⟨o',es',ep',ho',r'⟩:=hm
  rw [ho] at ho'; cases ho'
  exact ⟨_,es',ep',hL,r'⟩) hok hg
theorem Inv.turned {t':Nat} {it:Addr} (I:Inv X pins σ H s) (k:∀ b o,b≠it→s.heap.get? b=some o→h'.get? b=some o) (hn:H it=none) (hL:it≠X.env.locals)
  (h1:it ∈ X.ex∨X.s₀.heap.objs.size≤it) (h2:∀ x c,X.env.cells.lookup x=some c→c≠it) (h3:∀ p ∈ X.pn++pins,p.1≠it) : Inv X pins σ H { s with heap:=h',toks:=t' }:=by
 have nit:∀ b u,H b=some u→b≠it:=fun b u e z=>by rw [z,hn] at e; cases e
 refine I.step (g':=s.gens) (d':=s.drawn) (ch:=[it]) (fun b hb=>?_) (fun b o _ _ hc e _=>k b o (fun z=>hc (by simp [z])) e) (fun b o _ _ hc e _=>⟨o.slots,k b o (fun z=>hc (by simp [z])) e⟩) (fun _ _ _ _ n=>n)
  (fun b o hc e=>⟨o,k b o (fun z=>hc (by simp [z])) e⟩) (fun _ _ e=>e) (fun _ _ _ e=>e) (fun b ps e=>⟨#[],by rw [e]; simp⟩) (fun m hm=>?_) (fun b u e=>?_) I.bare
 ·have e:b=it:=by simpa using hb
  subst e
  exact ⟨h1,hL,h2,h3⟩
 ·obtain ⟨o,es,ep,ho,r⟩:=hm
  exact ⟨o,es,ep,k _ o (Ne.symm hL) ho,r⟩
 ·refine (I.hok b u e).stay (fun c v hc q=>k c v ?_ q) (fun _ q=>q) fun _ _ q=>q
  rcases hc with z | z
  ·rw [z]; exact nit b u e
  ·exact nit c _ z
theorem Inv.tok (I:Inv X pins σ H s) (t:Nat) : Inv X pins σ H { s with toks:=t }:=I.un (h':=s.heap) (t':=t) Un.refl I.hok
theorem Inv.kept {t':Nat} (I:Inv X pins σ H s) (k:∀ b u,s.heap.get? b=some u→h'.get? b=some u) : Inv X pins σ H { s with heap:=h',toks:=t' }:=I.un (Un.kept k) (I.hok.kept k)
theorem Inv.laid {a:Addr} {o:HO} {t':Nat} (I:Inv X pins σ H s) (k:∀ b u,s.heap.get? b=some u→h'.get? b=some u) (hp:s.heap.objs.size≤a) (new:ObjOk X.prog X.w (upd H a o) h' a o) :
  Inv X pins σ (upd H a o) { s with heap:=h',toks:=t' }:=I.un (Un.laid k hp (I.hok.fresh hp)) (I.hok.laid k hp new)
theorem Inv.write {x e:Addr} {o:HO} {t':Nat} (I:Inv X pins σ H s) (mu:Mut (H x)) (he:e=x∨H e=some (.own x)) (k:∀ b u,b≠e→s.heap.get? b=some u→h'.get? b=some u) (heo:∃ u,h'.get? e=some u)
  (new:ObjOk X.prog X.w (upd H x o) h' x o) : Inv X pins σ (upd H x o) { s with heap:=h',toks:=t' }:=I.un (Un.write mu he k heo) (I.hok.write mu he k heo new)
theorem Inv.pins_of {pins':List (Addr × Obj)} (I:Inv X pins σ H s) (h:∀ p ∈ pins',s.heap.get? p.1=some p.2∧H p.1=none∧p.1≠X.env.locals∧p.1 ∉ X.fs∧∀ v,p.2.data≠.cell v) : Inv X pins' σ H s:=
 ⟨I.ok,I.os,I.bare,I.base,I.loc,I.cell,I.free,I.freeC,fun p hp=>(List.mem_append.mp hp).elim (fun z=>I.pin p (List.mem_append_left _ z)) (h p),I.hok,I.len⟩

theorem nodup_ix {N:List Str} (hN:N.Nodup) {i j:Nat} {x:Str} (a:N[i]? = some x) (b:N[j]? = some x) : i=j:=by
 obtain ⟨h1,e1⟩:=List.getElem?_eq_some_iff.mp a
 obtain ⟨h2,e2⟩:=List.getElem?_eq_some_iff.mp b
 exact (List.getElem_inj hN).mp (e1.trans e2.symm)

theorem store_ok2 {M:Model} {A:Around} {E:Value→Shared→Prop} {i:Nat} {x:Str} {v:V} {u:Value} {Q:Unit→Shared→Prop} (I:Inv X pins σ H s) (hN:X.N.Nodup) (hi:X.N[i]? = some x) (hx:Loc X.env.scope x) (r:RelV v u)
  (h:∀ s',Inv X pins (σ.set i (some v)) H s'→(∃ a,Heap.SameBut a s.heap s'.heap∧(a=X.env.locals∨X.env.cells.lookup x=some a))→Q () s') (hf:X.fn x=true∨X.env.scope.names.lookup x=some .local:=by first | exact .inl rfl | exact .inr rfl | assumption) : wpAny M A (storeName X.env x u) Q E s:=by
 obtain ⟨m,hn,hl⟩:=id I.loc
 have hcls:(X.env.scope.kind == .class || (X.env.scope.kind == .module && X.env.locals != X.env.globals))=false:=by rw [I.ok.kind]; rfl
 have hiσ:i < σ.length:=by rw [I.len]; exact (List.getElem?_eq_some_iff.mp hi).1
 have cne:=I.cne
 have tracked:∀ {a:Addr} {h':Heap},(∃ o,s.heap.get? a=some o∧H a=none)→Heap.SameBut a s.heap h'→HOk X.prog X.w H h':=fun {a h'} ha hs b ob e=>by
  obtain ⟨_,_,hfree⟩:=ha
  refine (I.hok b ob e).stay (fun c w' hc q=>(hs.2 c ?_).trans q) (fun _ q=>q) fun _ _ q=>q
  rintro rfl
  rcases hc with rfl | hc
  ·rw [hfree] at e; cases e
  ·rw [hfree] at hc; cases hc
 rcases hx with hk | hk
 ·refine wpAny_storeName_local hk hn (fun h' hn' hs=>?_) hcls
  obtain ⟨oL,_,_,hoL,_⟩:=id hn
  refine h _ ⟨I.ok,I.os,I.bare,⟨fun b o e n hb hx=>?_,fun b o e n hb hx=>?_,I.base.free,fun b o e hx=>?_,I.base.tups,I.base.frzs,I.base.tbls⟩,⟨_,hn',fun j y v' e1 e2 e3=>?_⟩,fun y c e=>?_,I.free,I.freeC,fun p hp=>?_,tracked ⟨oL,hoL,I.free⟩ hs,by simpa using I.len⟩ ⟨_,hs,.inl rfl⟩
  ·exact (hs.2 b (Nat.ne_of_lt (Nat.lt_of_lt_of_le (Heap.lt_size e) I.ok.above))).trans (I.base.keep b o e n hb hx)
  ·obtain ⟨sl,e1⟩:=I.base.slot b o e n hb hx
   exact ⟨sl,(hs.2 b (Nat.ne_of_lt (Nat.lt_of_lt_of_le (Heap.lt_size e) I.ok.above))).trans e1⟩
  ·obtain ⟨o',e1⟩:=I.base.there b o e hx
   exact ⟨o',(hs.2 b (Nat.ne_of_lt (Nat.lt_of_lt_of_le (Heap.lt_size e) I.ok.above))).trans e1⟩
  ·by_cases hj:j=i
   ·subst hj
    rw [hi] at e1; cases e1
    rw [List.getElem?_set_self hiσ] at e2
    cases e2
    exact ⟨u,r,.inl ⟨hk,by simp⟩⟩
   ·rw [List.getElem?_set_ne (Ne.symm hj)] at e2
    obtain ⟨u',r',q⟩:=hl j y v' e1 e2 e3
    refine ⟨u',r',?_⟩
    rcases q with ⟨k,e⟩ | ⟨k,c,e,z⟩
    ·refine .inl ⟨k,?_⟩
     have:y≠x:=fun e=>hj (nodup_ix hN e1 (e ▸ hi))
     simp [this,e]
    ·exact .inr ⟨k,c,e,z.sameBut hs (cne y c e)⟩
  ·obtain ⟨w',z⟩:=I.cell y c e
   exact ⟨w',z.sameBut hs (cne y c e)⟩
  ·obtain ⟨e,n,ne,nf,d⟩:=I.pin p hp
   exact ⟨(hs.2 p.1 ne).trans e,n,ne,nf,d⟩
 ·have hfn:X.fn x=true:=by
   rcases hf with z | z
   ·exact z
   ·rw [z] at hk; cases hk
  obtain ⟨c,hc⟩:=I.ok.has x (.inl hk)
  obtain ⟨w',z⟩:=I.cell x c hc
  refine wpAny_storeName_cell I.ok.kind hk hc z (fun h' hc' hs=>?_)
  obtain ⟨oc,hoc,hocd⟩:=id z
  refine h { s with heap:=h' } ⟨I.ok,I.os,I.bare,⟨fun b o e n hb hx=>?_,fun b o e n hb hx=>?_,I.base.free,fun b o e hx=>?_,I.base.tups,I.base.frzs,I.base.tbls⟩,⟨m,hn.sameBut hs (Ne.symm (cne x c hc)),fun j y v' e1 e2 e3=>?_⟩,fun y c' e=>?_,I.free,I.freeC,fun p hp=>?_,tracked ⟨oc,hoc,I.freeC x c hc⟩ hs,by simpa using I.len⟩ ⟨c,hs,.inr hc⟩
  ·exact (hs.2 b (Nat.ne_of_lt (Nat.lt_of_lt_of_le (Heap.lt_size e) (I.ok.cab x c hfn hc)))).trans (I.base.keep b o e n hb hx)
  ·obtain ⟨sl,e1⟩:=I.base.slot b o e n hb hx
   exact ⟨sl,(hs.2 b (Nat.ne_of_lt (Nat.lt_of_lt_of_le (Heap.lt_size e) (I.ok.cab x c hfn hc)))).trans e1⟩
  ·obtain ⟨o',e1⟩:=I.base.there b o e hx
   exact ⟨o',(hs.2 b (Nat.ne_of_lt (Nat.lt_of_lt_of_le (Heap.lt_size e) (I.ok.cab x c hfn hc)))).trans e1⟩
  ·by_cases hj:j=i
   ·subst hj
    rw [hi] at e1; cases e1
    rw [List.getElem?_set_self hiσ] at e2
    cases e2
    exact ⟨u,r,.inr ⟨.inl hk,c,hc,hc'⟩⟩
   ·rw [List.getElem?_set_ne (Ne.symm hj)] at e2
    obtain ⟨u',r',q⟩:=hl j y v' e1 e2 e3
    refine ⟨u',r',?_⟩
    rcases q with q | ⟨k,c',e,z'⟩
    ·exact .inl q
    ·refine .inr ⟨k,c',e,z'.sameBut hs ?_⟩
     rintro rfl
     exact hj (nodup_ix hN e1 (I.ok.inj _ _ _ e hc ▸ hi))
  ·by_cases hcc:c' = c
   ·subst hcc; exact ⟨_,hc'⟩
   ·obtain ⟨w2,z2⟩:=I.cell y c' e
    exact ⟨w2,z2.sameBut hs hcc⟩
  ·obtain ⟨e,n,ne,nf,d⟩:=I.pin p hp
   refine ⟨(hs.2 p.1 ?_).trans e,n,ne,nf,d⟩
   intro q
   rw [q,hoc] at e
   have q':oc=p.2:=Option.some.inj e
   exact d w' (by rw [← q']; exact hocd)
theorem store_ok {M:Model} {A:Around} {E:Value→Shared→Prop} {i:Nat} {x:Str} {v:V} {u:Value} {Q:Unit→Shared→Prop} (I:Inv X pins σ H s) (hN:X.N.Nodup) (hi:X.N[i]? = some x) (hx:Loc X.env.scope x) (r:RelV v u)
  (h:∀ s',Inv X pins (σ.set i (some v)) H s'→Q () s') (hf:X.fn x=true∨X.env.scope.names.lookup x=some .local:=by first | exact .inl rfl | exact .inr rfl | assumption) : wpAny M A (storeName X.env x u) Q E s:=
 store_ok2 I hN hi hx r (fun s' I' _=>h s' I') hf
theorem Inv.call' {s':Shared} {ch:List Addr} (I:Inv X pins σ H s) (ho:s'.os=s.os) (u:Un (frs X.stack) ch H H' s.heap s'.heap) (hok:HOk X.prog X.w H' s'.heap) (hg:AllBare s'.gens)
  (hch:∀ b ∈ ch,(b ∈ X.ex∨X.s₀.heap.objs.size≤b)∧b≠X.env.locals∧(∀ x c,X.env.cells.lookup x=some c→c≠b)∧∀ p ∈ X.pn++pins,p.1≠b) : Inv X pins σ H' s':=by
 obtain ⟨h',g',d',t',o'⟩:=s'
 have e:o' = s.os:=ho
 subst e
 exact I.call (g':=g') (t':=t') (d':=d') u hok hg hch
end

abbrev XK:=Value→Option Addr→Hp→Prop
abbrev St:=List (Option V)
abbrev VK:=V→Hp→Prop
abbrev TE:=St→Hp→VK→Prop
abbrev TT:=St→Hp→(Bool→Hp→Prop)→Prop
abbrev TA:=St→Hp→(List V→Hp→Prop)→Prop
structure Ends where
 nx:St→Hp→Prop
 rt:VK
 bk:St→Hp→Prop:=fun _ _=>False
 ct:St→Hp→Prop:=fun _ _=>False
abbrev TS:=Ends→St→Hp→Prop

def EP (X:Cx) (pins:List (Addr × Obj)) (σ:St) (Q:VK) (u:Value) (s':Shared) : Prop:=∃ v H',Inv X pins σ H' s'∧RelV v u∧Q v H'
def TP (X:Cx) (pins:List (Addr × Obj)) (σ:St) (Q:Bool→Hp→Prop) (b:Bool) (s':Shared) : Prop:=∃ H',Inv X pins σ H' s'∧Q b H'
def AP (X:Cx) (pins:List (Addr × Obj)) (σ:St) (Q:List V→Hp→Prop) (us:List Value) (s':Shared) : Prop:=∃ vs H',Inv X pins σ H' s'∧Vals vs us∧Q vs H'
def SP (X:Cx) (pins:List (Addr × Obj)) (D:Ends) (f:Flow) (s':Shared) : Prop:=
 match f with
 | .next=>∃ σ' H',Inv X pins σ' H' s'∧D.nx σ' H'
 | .brk=>∃ σ' H',Inv X pins σ' H' s'∧D.bk σ' H'
 | .cont=>∃ σ' H',Inv X pins σ' H' s'∧D.ct σ' H'
 | .ret u=>∃ v σ' H',Inv X pins σ' H' s'∧RelV v u∧D.rt v H'

def PE (X:Cx) (e:Expr) (t:TE) : Prop:=
 ∀ (pins:List (Addr × Obj)) (s:Shared) (σ:St) (H:Hp) (Q:VK),Inv X pins σ H s→t σ H Q→wpAny (model X.prog X.w) X.A (eval e X.env) (EP X pins σ Q) X.xe s
def PT (X:Cx) (e:Expr) (t:TT) : Prop:=
 ∀ (pins:List (Addr × Obj)) (s:Shared) (σ:St) (H:Hp) (Q:Bool→Hp→Prop),Inv X pins σ H s→t σ H Q→wpAny (model X.prog X.w) X.A (isTrue e X.env (eval e X.env)) (TP X pins σ Q) X.xe s
def PW (X:Cx) (e:Expr) (t:TT) : Prop:=
 ∀ (whole:Sem Value) (pins:List (Addr × Obj)) (s:Shared) (σ:St) (H:Hp) (Q:Bool→Hp→Prop),Inv X pins σ H s→t σ H Q→wpAny (model X.prog X.w) X.A (isTrue e X.env whole) (TP X pins σ Q) X.xe s
theorem PW.pt {X:Cx} {e:Expr} {t:TT} (h:PW X e t) : PT X e t:=h _
def PA (X:Cx) (es:List Expr) (t:TA) : Prop:=
 ∀ (pos:Pos) (pins:List (Addr × Obj)) (s:Shared) (σ:St) (H:Hp) (Q:List V→Hp→Prop),Inv X pins σ H s→t σ H Q→wpAny (model X.prog X.w) X.A (spliced (backTo pos (starEach es X.env))) (AP X pins σ Q) X.xe s
def PS (X:Cx) (st:Stmt) (t:TS) : Prop:=
 ∀ (pins:List (Addr × Obj)) (s:Shared) (σ:St) (H:Hp) (D:Ends),Inv X pins σ H s→t D σ H→wpAny (model X.prog X.w) X.A (exec st X.env) (SP X pins D) X.xe s
def PSs (X:Cx) (st:List Stmt) (t:TS) : Prop:=
 ∀ (pins:List (Addr × Obj)) (s:Shared) (σ:St) (H:Hp) (D:Ends),Inv X pins σ H s→t D σ H→wpAny (model X.prog X.w) X.A (execs st X.env) (SP X pins D) X.xe s
theorem thn {α:Type} {t:Sem α} {Q Q':α→Shared→Prop} {M:Model} {A:Around} {E:Value→Shared→Prop} {s:Shared} (h:wpAny M A t Q E s) (hQ:∀ a s,Q a s→Q' a s) : wpAny M A t Q' E s:=wpAny_mono h hQ fun _ _ x=>x
section
variable {X:Cx}

def tVar (i:Nat) : TE:=fun σ H Q=>∃ v,σ[i]? = some (some v)∧Q v H
def tC (v:V) : TE:=fun _ H Q=>Q v H
theorem pe_var {i:Nat} {x:Str} {pos:Pos} (hN:X.N[i]? = some x) (hv:Vis X.env.scope x) (hd:(x == ("__debug__" : Str))=false:=by decide) (hcd:(x == ("__classdict__" : Str))=false:=by decide) : PE X (.Name x pos) (tVar i):=by
 intro pins s σ H Q I h
 obtain ⟨v,e,h⟩:=h
 obtain ⟨m,hn,hl⟩:=I.loc
 obtain ⟨u,r,l⟩:=hl i x v hN e hv
 have fin:EP X pins σ Q u s:=⟨v,H,I,r,h⟩
 rcases l with ⟨hk,hm⟩ | ⟨hk,c,hc,hcell⟩
 ·exact wpAny_Name (wpAny_loadName_local I.ok.kind hk hn hm fin) hd
 ·rcases hk with hk | hk
  ·exact wpAny_Name (wpAny_loadName_cell I.ok.kind hk hc hcell fin) hd
  ·exact wpAny_Name (wpAny_loadName_free I.ok.kind hk hc hcell fin hcd) hd
theorem pe_int {i j pos} : PE X (.Constant (.int i) j pos) (tC (.int i)):=fun _ _ _ H _ I h=>wpAny_Constant_int ⟨.int i,H,I.tok _,⟨_,rfl⟩,h⟩
theorem pe_bl {b j pos} : PE X (.Constant (.bool b) j pos) (tC (.bl b)):=fun _ _ _ H _ I h=>Constant_bool ⟨.bl b,H,I,rfl,h⟩
theorem pe_non {j pos} : PE X (.Constant .none j pos) (tC .non):=fun _ _ _ H _ I h=>Constant_none ⟨.non,H,I,rfl,h⟩
theorem pe_str {x j pos} : PE X (.Constant (.str x) j pos) (tC (.str x)):=fun _ _ _ H _ I h=>Calls.Constant_str ⟨.str x,H,I.tok _,⟨_,rfl⟩,h⟩

def Gl (X:Cx) (x:Str) : Prop:=X.env.kindOf x=some .globalImplicit
theorem ld_glob {E:Value→Shared→Prop} {pins:List (Addr × Obj)} {s:Shared} {σ:St} {H:Hp} {x:Str} {u:Value} {pos:Pos} {Q:Value→Shared→Prop} (I:Inv X pins σ H s) (hg:Gl X x) (hm:X.mg x=some u) (h:Q u s)
  (hd:(x == ("__debug__" : Str))=false:=by decide) : wpAny (model X.prog X.w) X.A (eval (.Name x pos) X.env) Q E s:=
 Calls.Name_function_global I.ok.kind hg (Calls.loadGlobal_global (by rw [I.ok.glob]; exact I.mod.glob.keeps I.bk) hm h) hd
theorem ld_blt {E:Value→Shared→Prop} {pins:List (Addr × Obj)} {s:Shared} {σ:St} {H:Hp} {x:Str} {u:Value} {pos:Pos} {Q:Value→Shared→Prop} (I:Inv X pins σ H s) (hg:Gl X x) (hm:X.mg x=none) (hv:bootBuiltins x=some u) (h:Q u s)
  (hn:x≠"__name__":=by decide) (hd:(x == ("__debug__" : Str))=false:=by decide) : wpAny (model X.prog X.w) X.A (eval (.Name x pos) X.env) Q E s:=by
 obtain ⟨mb,h1,h2⟩:=I.mod.blt
 exact Calls.Name_function_global I.ok.kind hg (Calls.loadGlobal_builtin (by rw [I.ok.glob]; exact I.mod.glob.keeps I.bk) hm (by rw [I.ok.blt]; exact h1.keeps I.bk) ((h2 x hn).trans hv) h) hd
theorem pe_glob {x:Str} {v:V} {u:Value} {pos:Pos} (hg:Gl X x) (hm:X.mg x=some u) (r:RelV v u) (hd:(x == ("__debug__" : Str))=false:=by decide) : PE X (.Name x pos) (tC v):=
 fun _ _ _ H _ I h=>ld_glob I hg hm ⟨v,H,I,r,h⟩ hd
theorem pe_bltn {x:Str} {v:V} {u:Value} {pos:Pos} (hg:Gl X x) (hm:X.mg x=none) (hv:bootBuiltins x=some u) (r:RelV v u) (hn:x≠"__name__":=by decide) (hd:(x == ("__debug__" : Str))=false:=by decide) : PE X (.Name x pos) (tC v):=
 fun _ _ _ H _ I h=>ld_blt I hg hm hv ⟨v,H,I,r,h⟩ hn hd

variable {a b:Expr} {ta tb:TE} {pos:Pos}
def tB (t:TE) : TT:=fun σ H Q=>t σ H fun x H1=>∃ c,x = .bl c∧Q c H1
theorem pt_val {e:Expr} {t:TE} (h:PE X e t) (he:∀ whole,isTrue e X.env whole=(do let v ← whole; standAt e.pos; holding [v] (truthy v)):=by intro _; rfl) : PT X e (tB t):=by
 intro pins s σ H Q I hw
 refine isTrue_plain (thn (h pins s σ H _ I hw) fun v s1 ⟨x,H1,I1,r1,q1⟩=>?_) (he _)
 obtain ⟨d,rfl,q⟩:=q1
 cases r1
 exact wpAny_truthy_bool ⟨H1,I1,q⟩

variable {tA tB':TT} {rest:List Expr}
def tAnd (t u:TT) : TT:=fun σ H Q=>t σ H fun c H1=>if c=true then u σ H1 Q else Q false H1
def tOr (t u:TT) : TT:=fun σ H Q=>t σ H fun c H1=>if c=true then Q true H1 else u σ H1 Q
def tNot (t:TT) : TT:=fun σ H Q=>t σ H fun c H1=>Q (!c) H1
theorem pw_and1 (ha:PT X a tA) : PW X (.BoolOp .And [a] pos) tA:=by
 intro wh pins s σ H Q I h
 refine isTrue_and (thn (ha pins s σ H Q I h) fun c s1 e=>?_)
 cases c with
 | true=>exact isTrue_and_nil e
 | false=>exact e
theorem pw_or1 (ha:PT X a tA) : PW X (.BoolOp .Or [a] pos) tA:=by
 intro wh pins s σ H Q I h
 refine isTrue_or (thn (ha pins s σ H Q I h) fun c s1 e=>?_)
 cases c with
 | false=>exact isTrue_or_nil e
 | true=>exact e
theorem pw_and (ha:PT X a tA) (hb:PW X (.BoolOp .And (b :: rest) pos) tB') : PW X (.BoolOp .And (a :: b :: rest) pos) (tAnd tA tB'):=by
 intro wh pins s σ H Q I h
 refine isTrue_and (thn (ha pins s σ H _ I h) fun c s1 ⟨H1,I1,q1⟩=>?_)
 cases c with
 | true=>exact hb wh pins s1 σ H1 Q I1 q1
 | false=>exact ⟨H1,I1,q1⟩
theorem pw_or (ha:PT X a tA) (hb:PW X (.BoolOp .Or (b :: rest) pos) tB') : PW X (.BoolOp .Or (a :: b :: rest) pos) (tOr tA tB'):=by
 intro wh pins s σ H Q I h
 refine isTrue_or (thn (ha pins s σ H _ I h) fun c s1 ⟨H1,I1,q1⟩=>?_)
 cases c with
 | true=>exact ⟨H1,I1,q1⟩
 | false=>exact hb wh pins s1 σ H1 Q I1 q1
theorem pt_not (ha:PT X a tA) : PT X (.UnaryOp .Not a pos) (tNot tA):=by
 intro pins s σ H Q I h
 exact isTrue_not (ha pins s σ H (fun c H1=>Q (!c) H1) I h)
def tAndV (ta tb:TE) : TE:=fun σ H Q=>ta σ H fun x H1=>∃ c,x = .bl c∧if c=true then tb σ H1 Q else Q (.bl false) H1
def tOrV (ta tb:TE) : TE:=fun σ H Q=>ta σ H fun x H1=>∃ c,x = .bl c∧if c=true then Q (.bl true) H1 else tb σ H1 Q
theorem pe_one {op} {t:TE} (h:PE X a t) : PE X (.BoolOp op [a] pos) t:=fun pins s σ H Q I hw=>BoolOp_one (h pins s σ H Q I hw)
theorem pe_and (ha:PE X a ta) (hb:PE X (.BoolOp .And (b :: rest) pos) tb) : PE X (.BoolOp .And (a :: b :: rest) pos) (tAndV ta tb):=by
 intro pins s σ H Q I h
 refine BoolOp_and (thn (ha pins s σ H _ I h) fun v s1 ⟨x,H1,I1,r1,q1⟩=>?_)
 obtain ⟨c,rfl,q1⟩:=q1
 cases r1
 refine wpAny_truthy_bool ?_
 cases c with
 | true=>exact hb pins s1 σ H1 Q I1 q1
 | false=>exact ⟨.bl false,H1,I1,rfl,q1⟩
theorem pe_or (ha:PE X a ta) (hb:PE X (.BoolOp .Or (b :: rest) pos) tb) : PE X (.BoolOp .Or (a :: b :: rest) pos) (tOrV ta tb):=by
 intro pins s σ H Q I h
 refine BoolOp_or (thn (ha pins s σ H _ I h) fun v s1 ⟨x,H1,I1,r1,q1⟩=>?_)
 obtain ⟨c,rfl,q1⟩:=q1
 cases r1
 refine wpAny_truthy_bool ?_
 cases c with
 | false=>exact hb pins s1 σ H1 Q I1 q1
 | true=>exact ⟨.bl true,H1,I1,rfl,q1⟩
end

def SqL (K:PySem.W.Frag) (H:Hp) (a:Addr) (xs:List V) : Prop:=
 Rd H a (.lst xs) ∨
  ∃ (o:Obj) (its:Array Value) (n:Nat),K.lookup a=some o∧o.cls = .type "list"∧o.dict=none∧o.data = .seq its n∧its.size≤sizeLine∧Vals xs its.toList
def SqT (K:PySem.W.Frag) (H:Hp) (a:Addr) (xs:List V) : Prop:=
 Rd H a (.tup xs) ∨
  ∃ (o:Obj) (its:Array Value) (n:Nat),K.lookup a=some o∧o.cls = .type "tuple"∧o.data = .seq its n∧its.size≤sizeLine∧Vals xs its.toList
def absV:Value→Option V
 | .none=>some .non
 | .bool b=>some (.bl b)
 | .int i _=>some (.int i)
 | .str x _=>some (.str x)
 | .bytes b _=>some (.byt b)
 | .float b _=>some (.flt b)
 | .ref a=>some (.ref a)
 | .type n=>some (.ty n)
 | _=>none
theorem RelV.abs {x:V} {u:Value} (r:RelV x u) : absV u=some x:=by
 cases x with
 | non=>cases r; rfl
 | bl _=>cases r; rfl
 | int _=>obtain ⟨t,rfl⟩:=r; rfl
 | str _=>obtain ⟨t,rfl⟩:=r; rfl
 | byt _=>obtain ⟨t,rfl⟩:=r; rfl
 | flt _=>obtain ⟨t,rfl⟩:=r; rfl
 | ref _=>cases r; rfl
 | ty _=>cases r; rfl
theorem RelV.inj {x y:V} {u:Value} (r:RelV x u) (q:RelV y u) : x=y:=Option.some.inj (r.abs.symm.trans q.abs)
theorem Vals.inj:∀ {xs ys:List V} {us:List Value},Vals xs us→Vals ys us→xs=ys
 | _,_,_,.nil,.nil=>rfl
 | _,_,_,.cons r t,.cons r' t'=>by rw [r.inj r',Vals.inj t t']
section
variable {X:Cx} {pins:List (Addr × Obj)} {σ:St} {H:Hp} {s:Shared} {a:Addr} {xs ys:List V}
theorem SqL.of {K:PySem.W.Frag} (h:H a=some (.lst xs)) : SqL K H a xs:=.inl (.inl h)
theorem SqT.of {K:PySem.W.Frag} (h:H a=some (.tup xs)) : SqT K H a xs:=.inl (.inl h)
theorem Inv.list (I:Inv X pins σ H s) (h:SqL X.K H a xs) : ∃ its:List Value,Vals xs its∧PlainL s.heap a its.toArray∧xs.length≤sizeLine:=by
 rcases h with h | ⟨o,its,n,hk,hc,hd,hs,hz,r⟩
 ·obtain ⟨z,its,n,r,e⟩:=h.ok I.hok
  exact ⟨its,r,⟨_,n,e,rfl,rfl,rfl⟩,z⟩
 ·refine ⟨its.toList,r,⟨o,n,I.kIn a o hk,hc,hd,by simpa using hs⟩,?_⟩
  have e:=r.length
  simp only [Array.length_toList] at e
  omega
theorem Inv.tuple (I:Inv X pins σ H s) (h:SqT X.K H a xs) : ∃ its:List Value,Vals xs its∧IsTup s.heap a its.toArray∧xs.length≤sizeLine:=by
 rcases h with h | ⟨o,its,n,hk,hc,hs,hz,r⟩
 ·obtain ⟨z,its,r,p⟩:=h.ok I.hok
  exact ⟨its,r,p,z⟩
 ·refine ⟨its.toList,r,⟨o,I.kIn a o hk,hc,n,by simpa using hs⟩,?_⟩
  have e:=r.length
  simp only [Array.length_toList] at e
  omega
theorem Inv.list_inj (I:Inv X pins σ H s) (h:SqL X.K H a xs) (h':SqL X.K H a ys) : xs=ys:=by
 obtain ⟨its,r,⟨o,n,e,_,_,d⟩,_⟩:=I.list h
 obtain ⟨its',r',⟨o',n',e',_,_,d'⟩,_⟩:=I.list h'
 rw [e] at e'; cases e'
 rw [d] at d'
 injection d' with d1 _
 have:its=its':=by simpa using congrArg Array.toList d1
 subst this
 exact r.inj r'
end

abbrev Cx.wish (X:Cx) (E:Value→Shared→Prop) : Cx:={ X with xe:=E }
abbrev Cx.nox (X:Cx) : Cx:=X.wish fun _ _=>False
theorem Cx.Ok.wish {X:Cx} (ok:X.Ok) (E:Value→Shared→Prop) : (X.wish E).Ok:=
 ⟨ok.mod,ok.kind,ok.glob,ok.blt,ok.above,ok.inj,ok.has,ok.cab,ok.hd,ok.frames,ok.stk,ok.exf,ok.bs,ok.bsz,ok.noex,ok.exfs,ok.funs,ok.frf⟩
theorem Cx.Ok.unwish {X:Cx} {E:Value→Shared→Prop} (ok:(X.wish E).Ok) : X.Ok:=
 ⟨ok.mod,ok.kind,ok.glob,ok.blt,ok.above,ok.inj,ok.has,ok.cab,ok.hd,ok.frames,ok.stk,ok.exf,ok.bs,ok.bsz,ok.noex,ok.exfs,ok.funs,ok.frf⟩
section
variable {X:Cx} {pins:List (Addr × Obj)} {σ:St} {H:Hp} {s:Shared} {E:Value→Shared→Prop}
theorem Inv.wish (I:Inv X pins σ H s) (E:Value→Shared→Prop) : Inv (X.wish E) pins σ H s:=⟨I.ok.wish E,I.os,I.bare,I.base,I.loc,I.cell,I.free,I.freeC,I.pin,I.hok,I.len⟩
theorem Inv.unwish (I:Inv (X.wish E) pins σ H s) : Inv X pins σ H s:=⟨I.ok.unwish,I.os,I.bare,I.base,I.loc,I.cell,I.free,I.freeC,I.pin,I.hok,I.len⟩
theorem SP.unwish {D:Ends} {f:Flow} {s':Shared} (h:SP (X.wish E) pins D f s') : SP X pins D f s':=by
 cases f with
 | next=>obtain ⟨σ',H',I,q⟩:=h; exact ⟨σ',H',I.unwish,q⟩
 | brk=>obtain ⟨σ',H',I,q⟩:=h; exact ⟨σ',H',I.unwish,q⟩
 | cont=>obtain ⟨σ',H',I,q⟩:=h; exact ⟨σ',H',I.unwish,q⟩
 | ret u=>obtain ⟨v,σ',H',I,r,q⟩:=h; exact ⟨v,σ',H',I.unwish,r,q⟩
theorem PSs.nox {st:List Stmt} {t:TS} (h:PSs X.nox st t) : PSs X st t:=fun pins s σ H D I hw =>
 wpAny_mono (h pins s σ H D (I.wish _) hw) (fun _ _ q=>q.unwish) fun _ _ z=>False.elim z
end

section
variable {X:Cx} {st:Stmt} {rest:List Stmt} {t u:TS} {e:Expr} {te:TE} {pos:Pos}
def tNext:TS:=fun D σ H=>D.nx σ H
def tSeq (t u:TS) : TS:=fun D σ H=>t { D with nx:=u D } σ H
theorem pss_nil:PSs X [] tNext:=fun _ _ σ H _ I h=>wpAny_execs_nil ⟨σ,H,I,h⟩
theorem pss_cons (h1:PS X st t) (h2:PSs X rest u) : PSs X (st :: rest) (tSeq t u):=by
 intro pins s σ H D I h
 refine wpAny_execs_cons (thn (h1 pins s σ H { D with nx:=u D } I h) fun f s1 q=>?_)
 cases f with
 | next =>
  obtain ⟨σ',H',I',q⟩:=q
  exact h2 pins s1 σ' H' D I' q
 | ret v=>exact q
 | brk=>exact q
 | cont=>exact q
theorem pss_one (h1:PS X st t) : PSs X [st] t:=by
 intro pins s σ H D I h
 refine wpAny_execs_cons (thn (h1 pins s σ H D I h) fun f s1 q=>?_)
 cases f with
 | next=>exact wpAny_execs_nil q
 | ret v=>exact q
 | brk=>exact q
 | cont=>exact q
theorem Inv.quiet {pins:List (Addr × Obj)} {σ:St} {H:Hp} {s:Shared} (I:Inv X pins σ H s) : interactive X.env=false:=by simp [interactive,I.ok.kind]
def tDrop (te:TE) : TS:=fun D σ H=>te σ H fun _ H1=>D.nx σ H1
theorem ps_expr (he:PE X e te) (hs:swapsWith e none pos.line X.env=pure false:=by rfl) : PS X (.Expr e pos) (tDrop te):=by
 intro pins s σ H D I h
 exact wpAny_Expr_any (thn (he pins s σ H _ I h) fun v s1 ⟨x,H1,I1,r1,q1⟩=>⟨σ,H1,I1,q1⟩) I.quiet hs
def tRet (te:TE) : TS:=fun D σ H=>te σ H D.rt
theorem ps_ret (he:PE X e te) : PS X (.Return (some e) pos) (tRet te):=by
 intro pins s σ H D I h
 exact wpAny_Return_some (thn (he pins s σ H _ I h) fun v s1 ⟨x,H1,I1,r1,q1⟩=>⟨x,σ,H1,I1,r1,q1⟩)
def tIfS (c:TT) (t u:TS) : TS:=fun D σ H=>c σ H fun b H1=>if b=true then t D σ H1 else u D σ H1
theorem ps_if {c:Expr} {a b:List Stmt} {tc:TT} (hc:PT X c tc) (ha:PSs X a t) (hb:PSs X b u) : PS X (.If c a b pos) (tIfS tc t u):=by
 intro pins s σ H D I h
 refine wpAny_If (thn (hc pins s σ H _ I h) fun d s1 ⟨H1,I1,q1⟩=>?_)
 cases d with
 | true=>exact ha pins s1 σ H1 D I1 q1
 | false=>exact hb pins s1 σ H1 D I1 q1
end

abbrev TG:=V→St→Hp→(St→Hp→Prop)→Prop
abbrev TGs:=List V→St→Hp→(St→Hp→Prop)→Prop
def PG (X:Cx) (target:Expr) (t:TG) : Prop:=
 ∀ (pins:List (Addr × Obj)) (s:Shared) (σ:St) (H:Hp) (v:V) (u:Value) (Q:St→Hp→Prop),Inv X pins σ H s→RelV v u→t v σ H Q →
  wpAny (model X.prog X.w) X.A (assign target X.env u) (fun _ s'=>∃ σ' H',Inv X pins σ' H' s'∧Q σ' H') X.xe s
def PGs (X:Cx) (ts:List Expr) (t:TGs) : Prop:=
 ∀ (pins:List (Addr × Obj)) (s:Shared) (σ:St) (H:Hp) (vs:List V) (us:List Value) (Q:St→Hp→Prop),Inv X pins σ H s→Vals vs us→t vs σ H Q →
  wpAny (model X.prog X.w) X.A (assignInOrder ((assignEach ts X.env).map (·.2)) us) (fun _ s'=>∃ σ' H',Inv X pins σ' H' s'∧Q σ' H') X.xe s
section
variable {X:Cx} {pos:Pos}
def gName (i:Nat) : TG:=fun v σ H Q=>Q (σ.set i (some v)) H
theorem pg_name {i:Nat} {x:Str} (hN:X.N.Nodup) (hi:X.N[i]? = some x) (hx:Loc X.env.scope x) (hf:X.fn x=true∨X.env.scope.names.lookup x=some .local:=by first | exact .inl rfl | exact .inr rfl | assumption) : PG X (.Name x pos) (gName i):=by
 intro pins s σ H v u Q I r h
 exact wpAny_assign_Name (store_ok I hN hi hx r (fun s' I'=>⟨_,H,I',h⟩) hf)
def gNil:TGs:=fun vs σ H Q=>vs=[]∧Q σ H
def gCons (t:TG) (u:TGs) : TGs:=fun vs σ H Q=>∃ v r,vs=v :: r∧t v σ H fun σ' H'=>u r σ' H' Q
theorem pgs_nil:PGs X [] gNil:=by
 intro pins s σ H vs us Q I r h
 obtain ⟨e,h⟩:=h
 subst e
 cases r
 exact assignInOrder_nil ⟨σ,H,I,h⟩
theorem pgs_cons {e:Expr} {es:List Expr} {t:TG} {u:TGs} (h1:PG X e t) (h2:PGs X es u)
  (hs:(assignEach (e :: es) X.env).map (·.2)=assign e X.env :: (assignEach es X.env).map (·.2):=by rfl) : PGs X (e :: es) (gCons t u):=by
 intro pins s σ H vs us Q I r h
 obtain ⟨v,vr,e1,h⟩:=h
 subst e1
 cases r with
 | cons r rr =>
  rw [hs]
  refine assignInOrder_cons (thn (h1 pins s σ H _ _ _ I r h) fun _ s1 ⟨σ1,H1,I1,q1⟩=>?_)
  exact h2 pins s1 σ1 H1 _ _ Q I1 rr q1
def gTup (K:PySem.W.Frag) (n:Nat) (t:TGs) : TG:=fun v σ H Q=>∃ a xs,v = .ref a∧SqT K H a xs∧xs.length=n∧t xs σ H Q
theorem pg_tup {es:List Expr} {k:Nat} {t:TGs} {n:Nat} (hc:X.calm=true) (h:PGs X es t)
  (hn:(assignEach es X.env).length=n:=by rfl) (hst:(assignEach es X.env).findIdx? (·.1)=none:=by rfl) : PG X (.Tuple es k pos) (gTup X.K n t):=by
 intro pins s σ H v u Q I r hw
 obtain ⟨a,xs,e1,hq,hl,hw⟩:=hw
 subst e1
 cases r
 obtain ⟨its,rv,ht,hz⟩:=I.tuple hq
 refine assign_Tuple_tuple (I.ok.hd hc) ht (by simp [hn,← hl,rv.length]) hst fun h' hx=>?_
 have I1:Inv X pins σ H { s with heap:=h' }:=I.kept (t':=s.toks) fun b o e=>hx b o (Nat.ne_of_lt (Heap.lt_size e)) e
 exact h pins _ σ H xs _ Q I1 (by simpa using rv) hw
def tAsg (te:TE) (g:TG) : TS:=fun D σ H=>te σ H fun x H1=>g x σ H1 D.nx
theorem ps_asg {tg e:Expr} {te:TE} {g:TG} (he:PE X e te) (hg:PG X tg g) (hs:swapsWithSole [tg] e pos.line X.env=pure false:=by rfl) (hw:swappedStores [tg] e X.env=pure none:=by rfl)
  (h1:(assignEach [tg] X.env).map (·.2)=[assign tg X.env]:=by rfl) : PS X (.Assign [tg] e pos) (tAsg te g):=by
 intro pins s σ H D I h
 refine wpAny_Assign_stores (thn (he pins s σ H _ I h) fun v s1 ⟨x,H1,I1,r1,q1⟩=>?_) hs hw
 rw [h1]
 exact thn (hg pins s1 σ H1 x v _ I1 r1 q1) fun _ s2 q=>q
theorem ps_set {i:Nat} {x:Str} {e:Expr} {te:TE} {pos':Pos} (hN:X.N.Nodup) (hi:X.N[i]? = some x) (hx:Loc X.env.scope x) (he:PE X e te) (hs:swapsWith e (some (.Name x pos')) pos.line X.env=pure false:=by rfl) (hf:X.fn x=true∨X.env.scope.names.lookup x=some .local:=by first | exact .inl rfl | exact .inr rfl | assumption) :
  PS X (.Assign [.Name x pos'] e pos) (tAsg te (gName i)):=by
 intro pins s σ H D I h
 refine wpAny_Assign_Name (thn (he pins s σ H _ I h) fun v s1 ⟨y,H1,I1,r1,q1⟩=>?_) hs
 exact store_ok I1 hN hi hx r1 (fun s2 I2=>⟨_,H1,I2,q1⟩) hf
end

section
variable {X:Cx} {pos:Pos}
def tWhile (c:TT) (tb:TS) : TS:=fun D σ H=>∃ W:Nat→St→Hp→Prop,(∃ m,W m σ H)∧∀ m σ H,W m σ H →
 c σ H fun b H1=>if b=true then ∃ N:St→Hp→Prop,(∀ σ' H',N σ' H'→∃ m',m' < m∧W m' σ' H')∧tb { D with nx:=N,ct:=N,bk:=D.nx } σ H1 else D.nx σ H1
theorem ps_while {c:Expr} {body:List Stmt} {tc:TT} {tb:TS} (hp:PassesOwn (model X.prog X.w) X.A X.env X.xe) (hc:PT X c tc) (hb:PSs X body tb) : PS X (.While c body [] pos) (tWhile tc tb):=by
 intro pins s σ H D I h
 obtain ⟨W,⟨m0,w0⟩,turn⟩:=h
 refine wpAny_While (codeAny_whileLoop (fun n s'=>∃ σ' H',Inv X pins σ' H' s'∧W n σ' H') ?_ m0 ⟨σ,H,I,w0⟩)
 rintro n s1 ⟨σ1,H1,I1,w1⟩
 refine wpAny_passesOwn hp (thn (hc pins s1 σ1 H1 _ I1 (turn n σ1 H1 w1)) fun b s2 ⟨H2,I2,q2⟩=>?_)
 cases b with
 | true =>
  obtain ⟨N,hN,q2⟩:=q2
  rw [if_pos rfl]
  refine wpAny_passesOwn hp (thn (hb pins s2 σ1 H2 _ I2 q2) fun f s3 q3=>?_)
  cases f with
  | next =>
   obtain ⟨σ3,H3,I3,n3⟩:=q3
   obtain ⟨m',hm,w3⟩:=hN σ3 H3 n3
   exact ⟨m',hm,σ3,H3,I3,w3⟩
  | cont =>
   obtain ⟨σ3,H3,I3,n3⟩:=q3
   obtain ⟨m',hm,w3⟩:=hN σ3 H3 n3
   exact ⟨m',hm,σ3,H3,I3,w3⟩
  | brk=>exact q3
  | ret v=>exact q3
 | false =>
  rw [if_neg Bool.false_ne_true]
  exact wpAny_execs_nil ⟨σ1,H2,I2,q2⟩
end

structure It where
 go:Nat→Hp→Prop
 yld:Nat→Hp→V→Hp→Prop
 stop:Nat→Hp→Prop
def FpOk (X:Cx) (pins:List (Addr × Obj)) (H:Hp) (b:Addr) : Prop:=
 H b=none∧b≠X.env.locals∧b ∉ X.fs∧(b ∈ X.ex∨X.s₀.heap.objs.size≤b)∧(∀ x c,X.env.cells.lookup x=some c→c≠b)∧∀ p ∈ X.pn++pins,p.1≠b
theorem Inv.fpOk {X:Cx} {pins:List (Addr × Obj)} {σ:St} {H H':Hp} {s:Shared} {b:Addr} (I:Inv X pins σ H s) (hb:s.heap.objs.size≤b) (hn:H' b=none) : FpOk X pins H' b:=by
 refine ⟨hn,Nat.ne_of_gt (Nat.lt_of_lt_of_le I.lt hb),I.nofs hb,.inr (Nat.le_trans I.sz hb),fun x c e z=>?_,fun p hp z=>?_⟩
 ·obtain ⟨v,q⟩:=I.cell x c e
  exact absurd (Nat.lt_of_lt_of_le q.lt (by rw [z]; exact hb)) (Nat.lt_irrefl _)
 ·exact absurd (Nat.lt_of_lt_of_le (Heap.lt_size (I.pin p hp).1) (by rw [z]; exact hb)) (Nat.lt_irrefl _)
structure Turn (P:Program) (w:World) (K:PySem.W.Frag) (tg:Expr) (J:It) (fp:List Addr) (it:Addr) (tn:Nat→Heap→Prop) : Prop where
 mem:it ∈ fp
 obj:∀ i h,tn i h→∀ b ∈ fp,∃ o,h.get? b=some o∧∀ v,o.data≠.cell v
 keep:∀ i h h',tn i h→(∀ b ∈ fp,∀ o,h.get? b=some o→h'.get? b=some o)→tn i h'
 item:∀ (X:Cx),X.prog=P→X.w=w→X.K=K→X.calm=true→∀ (i:Nat) (pins:List (Addr × Obj)) (s:Shared) (σ:St) (H:Hp) (E:Value→Shared→Prop),Inv X pins σ H s→(∀ b ∈ fp,FpOk X pins H b)→tn i s.heap→J.go i H →
  wpAny (model P w) X.A (pyNext (.ref it)) (fun r s1=>∃ u,r=some u ∧
   wpAny (model P w) X.A (letOwnedTupleGo tg (.ref it) u) (fun _ s2=>∃ x H',Inv X pins σ H' s2∧RelV x u∧J.yld i H x H'∧tn (i+1) s2.heap∧∀ b ∈ fp,H' b=none) E s1) E s
 done:∀ (X:Cx),X.prog=P→X.w=w→X.K=K→X.calm=true→∀ (i:Nat) (pins:List (Addr × Obj)) (s:Shared) (σ:St) (H:Hp) (E:Value→Shared→Prop),Inv X pins σ H s→(∀ b ∈ fp,FpOk X pins H b)→tn i s.heap→J.stop i H →
  wpAny (model P w) X.A (pyNext (.ref it)) (fun r s1=>r=none∧Inv X pins σ H s1) E s
 self:∀ (A:Around) (i:Nat) (s:Shared) (Q:Value→Shared→Prop) (E:Value→Shared→Prop),tn i s.heap→Q (.ref it) s→wpAny (model P w) A (pyIter (.ref it)) Q E s
abbrev TI:=St→Hp→(It→Hp→Prop)→Prop
def PIE (X:Cx) (pins:List (Addr × Obj)) (σ:St) (tg:Expr) (R:It→Hp→Prop) (itv:Value) (s2:Shared) : Prop:=
 ∃ (it:Addr) (fp:List Addr) (tn:Nat→Heap→Prop) (J:It) (H':Hp),itv = .ref it∧Inv X pins σ H' s2∧Turn X.prog X.w X.K tg J fp it tn∧tn 0 s2.heap∧(∀ b ∈ fp,FpOk X pins H' b)∧R J H'
def PI (X:Cx) (tg iter:Expr) (wi:TI) : Prop:=
 ∀ (pins:List (Addr × Obj)) (s:Shared) (σ:St) (H:Hp) (R:It→Hp→Prop),Inv X pins σ H s→wi σ H R →
  wpAny (model X.prog X.w) X.A (eval iter X.env) (fun v s1=>wpAny (model X.prog X.w) X.A (pyIter v) (PIE X pins σ tg R) X.xe s1) X.xe s

theorem go_of {M:Model} {A:Around} {E:Value→Shared→Prop} {s:Shared} {tg:Expr} {it:Addr} {u:Value} {o:Obj} {n:String} {vs:Array Value} {Q:Unit→Shared→Prop} (ho:s.heap.get? it=some o) (hc:o.cls = .type n) (hd:o.data = .fields vs)
  (hn:["enumerate","zip","dict_itemiterator","dict_reverseitemiterator","odict_iterator","itertools.zip_longest","itertools.pairwise"].contains n=false) (hQ:Q () s) : wpAny M A (letOwnedTupleGo tg (.ref it) u) Q E s:=by
 unfold letOwnedTupleGo
 cases tg <;> first
  | exact wpAny_pure hQ
  | (cases u <;> first
    | exact wpAny_pure hQ
    | (refine wpAny_bind (wpAny_load ho ?_)
       rw [hc,hd]
       show wpAny M A (if (["enumerate","zip","dict_itemiterator","dict_reverseitemiterator","odict_iterator","itertools.zip_longest","itertools.pairwise"].contains n && vs[0]? == some (rawInt _))=true then _ else _) Q E s
       rw [if_neg (by intro h; rw [hn,Bool.false_and] at h; cases h)]
       exact wpAny_pure hQ))

def Itl (K:PySem.W.Frag) (a:Addr) : It:=
 ⟨fun i H=>∃ xs x,SqL K H a xs∧xs[i]? = some x,fun i H x H'=>H' = H∧∀ xs,SqL K H a xs→xs[i]? = some x,fun i H=>∃ xs,SqL K H a xs∧xs.length≤i⟩
def Itr (lo:Int) (n:Nat) : It:=⟨fun i _=>i < n,fun i H x H'=>H' = H∧x = .int (lo+i),fun i _=>n≤i⟩
theorem turn_list {P:Program} {w:World} {K:PySem.W.Frag} {tg:Expr} (a it:Addr) : Turn P w K tg (Itl K a) [it] it (fun i h=>h.IsListIter it a i) where
 mem:=by simp
 obj:=fun i h st b hb=>by
  have e:b=it:=by simpa using hb
  subst e
  obtain ⟨o,e,c,d⟩:=st
  exact ⟨o,e,fun v z=>by rw [d] at z; cases z⟩
 keep:=fun i h h' st k=>st.at fun o e=>k it (by simp) o e
 item:=by
  intro X hP hw hK hc i pins s σ H E I hf st hg
  subst hP hw hK
  obtain ⟨xs,x,hq,hx⟩:=hg
  obtain ⟨its,rv,p,hz⟩:=I.list hq
  obtain ⟨u,hu,ru⟩:=rv.get hx
  obtain ⟨f0,f1,f2,f3,f4,f5⟩:=hf it (by simp)
  refine wpAny_pyNext_list_item st p.isList (x:=u) (by simpa using hu) fun h' st' sb=>?_
  have I1:Inv X pins σ H { s with heap:=h' }:=I.turned (t':=s.toks) (fun b o hb e=>(sb.2 b hb).trans e) f0 f1 f3 f4 f5
  obtain ⟨o,e,c,d⟩:=id st'
  exact ⟨u,rfl,go_of (s:={ s with heap:=h' }) e c d (by decide) ⟨x,H,I1,ru,⟨rfl,fun ys hy=>by rw [I.list_inj hy hq]; exact hx⟩,st',fun b hb=>(hf b hb).1⟩⟩
 done:=by
  intro X hP hw hK hc i pins s σ H E I hf st hg
  subst hP hw hK
  obtain ⟨xs,hq,hx⟩:=hg
  obtain ⟨its,rv,p,hz⟩:=I.list hq
  obtain ⟨f0,f1,f2,f3,f4,f5⟩:=hf it (by simp)
  have hl:=rv.length
  exact wpAny_pyNext_list_end (I.ok.hd hc) st p.isList (by simp; omega) fun h' eb=>⟨rfl,I.turned (t':=s.toks) (fun b o hb e=>eb b o hb e) f0 f1 f3 f4 f5⟩
 self:=fun _ _ _ _ _ st h=>wpAny_pyIter_listiter st h
theorem turn_range {P:Program} {w:World} {K:PySem.W.Frag} {tg:Expr} (it:Addr) (lo:Int) (n:Nat) : Turn P w K tg (Itr lo n) [it] it (fun i h=>IsRangeIter h it (lo+(i:Nat) * 1) ((n:Int) - (i:Nat)) 1) where
 mem:=by simp
 obj:=fun i h st b hb=>by
  have e:b=it:=by simpa using hb
  subst e
  exact ⟨_,st,fun v z=>by
   have z':Data.fields _=Data.cell v:=z
   cases z'⟩
 keep:=fun i h h' st k=>k it (by simp) _ st
 item:=by
  intro X hP hw hK hc i pins s σ H E I hf st hg
  subst hP hw hK
  obtain ⟨f0,f1,f2,f3,f4,f5⟩:=hf it (by simp)
  have W:=Walks.range (prog:=X.prog) (w:=X.w) (I.ok.hd hc) it lo 1 n
  refine W.item i s _ _ hg st fun v h' tk hv st' kk=>?_
  obtain ⟨t,rfl⟩:=hv
  have I1:Inv X pins σ H { s with heap:=h',toks:=tk }:=I.turned (fun b o hb e=>kk b o (by simpa using hb) e) f0 f1 f3 f4 f5
  refine ⟨_,rfl,go_of (s:={ s with heap:=h',toks:=tk }) (n := "range_iterator") st' rfl rfl (by decide) ⟨.int (lo+i),H,I1,⟨t,?_⟩,⟨rfl,rfl⟩,st',fun b hb=>(hf b hb).1⟩⟩
  rw [Int.mul_one]
 done:=by
  intro X hP hw hK hc i pins s σ H E I hf st hg
  subst hP hw hK
  obtain ⟨f0,f1,f2,f3,f4,f5⟩:=hf it (by simp)
  exact wpAny_pyNext_range_end (I.ok.hd hc) st (by have:n≤i:=hg; omega) fun h' eb=>⟨rfl,I.turned (t':=s.toks) (fun b o hb e=>eb b o hb e) f0 f1 f3 f4 f5⟩
 self:=fun _ _ _ _ _ st h=>wpAny_pyIter_rangeiter st h
section
variable {X:Cx} {tg:Expr}
def iList (K:PySem.W.Frag) (tl:TE) : TI:=fun σ H R=>tl σ H fun x H1=>∃ a,x = .ref a∧(∃ xs,SqL K H1 a xs)∧R (Itl K a) H1
theorem pi_list {l:Expr} {tl:TE} (hl:PE X l tl) : PI X tg l (iList X.K tl):=by
 intro pins s σ H R I h
 refine thn (hl pins s σ H _ I h) fun v s1 ⟨x,H1,I1,r1,q1⟩=>?_
 obtain ⟨a,e,⟨xs,hq⟩,q⟩:=q1
 subst e
 cases r1
 obtain ⟨its,rv,p,hz⟩:=I1.list hq
 refine wpAny_pyIter_list p.isList ?_
 refine ⟨s1.heap.objs.size,[s1.heap.objs.size],_,_,H1,rfl,I1.kept (t':=s1.toks) fun b o e=>Heap.get?_push_of_some _ e,turn_list a _,⟨_,Heap.get?_push_size _ rfl,rfl,rfl⟩,fun b hb=>?_,q⟩
 have e:b=s1.heap.objs.size:=by simpa using hb
 subst e
 exact I1.fpOk (Nat.le_refl _) (I1.hok.fresh (Nat.le_refl _))
theorem range_it {pins:List (Addr × Obj)} {σ:St} {H:Hp} {s:Shared} {R:It→Hp→Prop} {E:Value→Shared→Prop} {lo hi:Int} {t u v:Tok} {tk:Nat} (I:Inv X pins σ H s) (h1:-(2 ^ 62)≤lo) (h2:lo < 2 ^ 62) (h3:-(2 ^ 62)≤hi) (h4:hi < 2 ^ 62)
  (q:R (Itr lo (hi - lo).toNat) H) : wpAny (model X.prog X.w) X.A (pyIter (.ref s.heap.objs.size)) (PIE X pins σ tg R) E { s with heap:=s.heap.push { cls:=.type "range",data:=.fields #[.int lo t,.int hi u,.int 1 v] },toks:=tk }:=by
 refine wpAny_pyIter_range (IsRange.new ..) (small_one h1 h2 h3 h4) ?_
 have I1:Inv X pins σ H { s with heap:=s.heap.push { cls:=.type "range",data:=.fields #[.int lo t,.int hi u,.int 1 v] },toks:=tk }:=I.kept fun b o e=>Heap.get?_push_of_some _ e
 refine ⟨(s.heap.push { cls:=.type "range",data:=.fields #[.int lo t,.int hi u,.int 1 v] }).objs.size,[(s.heap.push { cls:=.type "range",data:=.fields #[.int lo t,.int hi u,.int 1 v] }).objs.size],_,_,H,rfl,
  I1.kept (t':=tk) fun b o e=>Heap.get?_push_of_some _ e,turn_range _ lo (hi - lo).toNat,?_,fun b hb=>?_,q⟩
 ·have e1:lo+((0:Nat) : Int) * 1=lo:=by simp
  have e2:(((hi - lo).toNat:Nat) : Int) - ((0:Nat) : Int)=Builtin.Range.rangeSize lo hi 1:=by rw [rangeSize_one]; split <;> omega
  show IsRangeIter _ _ (lo+((0:Nat) : Int) * 1) ((((hi - lo).toNat:Nat) : Int) - ((0:Nat) : Int)) 1
  rw [e1,e2]
  exact Heap.get?_push_size _ rfl
 ·have e:b=(s.heap.push { cls:=.type "range",data:=.fields #[.int lo t,.int hi u,.int 1 v] }).objs.size:=by simpa using hb
  subst e
  exact I1.fpOk (Nat.le_refl _) (I1.hok.fresh (Nat.le_refl _))
def iRng1 (ta:TA) : TI:=fun σ H R=>ta σ H fun vs H1=>∃ j:Int,vs=[.int j]∧-(2 ^ 62)≤j∧j < 2 ^ 62∧R (Itr 0 j.toNat) H1
theorem pi_range1 {a:Expr} {ta:TA} {p pos:Pos} (hg:Gl X "range") (hm:X.mg "range" = none) (ha:PA X [a] ta) (hs:starEach [a] X.env=[(false,eval a X.env)]:=by rfl) : PI X tg (.Call (.Name "range" p) [a] [] pos) (iRng1 ta):=by
 intro pins s σ H R I h
 refine Call_ (ld_blt I hg hm boot_range (PyProof.Rows.callWith_type1 (thn (ha pos pins s σ H _ I h) fun us s1 ⟨vs,H1,I1,r1,q1⟩=>?_) hs rfl))
 obtain ⟨j,e,q1,q2,q⟩:=q1
 subst e
 cases r1 with
 | cons r rr =>
  cases rr
  obtain ⟨t,rfl⟩:=r
  exact call_range_1 (range_it I1 (by omega) (by omega) q1 q2 (by simpa using q))
def tFor (wi:TI) (g:TG) (tb:TS) : TS:=fun D σ H=>wi σ H fun J H1=>∃ W:Nat→Nat→St→Hp→Prop,(∃ m,W 0 m σ H1)∧∀ i m σ H,W i m σ H →
 (J.stop i H∧D.nx σ H)∨(J.go i H∧∃ N:St→Hp→Prop,(∀ σ' H',N σ' H'→∃ m',m' < m∧W (i+1) m' σ' H')∧∀ x H',J.yld i H x H'→g x σ H' fun σ2 H2=>tb { D with nx:=N,ct:=N,bk:=D.nx } σ2 H2)
def pinsAt (fp:List Addr) (h:Heap) : List (Addr × Obj):=fp.filterMap fun b=>(h.get? b).map fun o=>(b,o)
theorem mem_pinsAt {fp:List Addr} {h:Heap} {b:Addr} {o:Obj} (hb:b ∈ fp) (e:h.get? b=some o) : (b,o) ∈ pinsAt fp h:=List.mem_filterMap.mpr ⟨b,hb,by rw [e]; rfl⟩
theorem of_pinsAt {fp:List Addr} {h:Heap} {p:Addr × Obj} (hp:p ∈ pinsAt fp h) : p.1 ∈ fp∧h.get? p.1=some p.2:=by
 obtain ⟨b,hb,e⟩:=List.mem_filterMap.mp hp
 cases q:h.get? b with
 | none=>rw [q] at e; cases e
 | some o =>
  rw [q] at e
  have e':(b,o)=p:=Option.some.inj e
  subst e'
  exact ⟨hb,q⟩
theorem Inv.pinned {pins:List (Addr × Obj)} {σ:St} {H:Hp} {s:Shared} {fp:List Addr} (I:Inv X pins σ H s) (hf:∀ b ∈ fp,FpOk X pins H b) (ho:∀ b ∈ fp,∃ o,s.heap.get? b=some o∧∀ v,o.data≠.cell v) : Inv X (pins++pinsAt fp s.heap) σ H s:=
 I.pins_of fun p hp=>(List.mem_append.mp hp).elim (fun z=>I.pin p (List.mem_append_right _ z)) fun z=>by
  obtain ⟨hb,e⟩:=of_pinsAt z
  obtain ⟨f0,f1,f2,_⟩:=hf p.1 hb
  obtain ⟨o,e',d⟩:=ho p.1 hb
  rw [e] at e'; cases e'
  exact ⟨e,f0,f1,f2,d⟩
theorem Inv.unpinned {pins pl:List (Addr × Obj)} {σ:St} {H:Hp} {s:Shared} (I:Inv X (pins++pl) σ H s) : Inv X pins σ H s:=I.pins_of fun p hp=>I.pin p (List.mem_append_right _ (List.mem_append_left _ hp))
theorem ps_for {iter:Expr} {body:List Stmt} {wi:TI} {g:TG} {tb:TS} {pos:Pos} (hp:PassesOwn (model X.prog X.w) X.A X.env X.xe) (hc:X.calm=true) (hi:PI X tg iter wi) (hg:PG X tg g) (hb:PSs X body tb)
  (hs:∀ x,foldedSetIterable iter X.env x=pure x:=by intro _; rfl) : PS X (.For tg iter body [] pos) (tFor wi g tb):=by
 intro pins s σ H D I h
 refine wpAny_For (thn (hi pins s σ H _ I h) fun v s1 h1=>thn h1 fun itv s2 h2=>?_) hs
 obtain ⟨it,fp,tn,J,H2,e,I2,T,st2,f2,W,⟨m0,w0⟩,turn⟩:=h2
 subst e
 -- what stays true of the iterator's objects through the loop
 have stat:∀ {H':Hp},(∀ b ∈ fp,H' b=none)→∀ b ∈ fp,FpOk X pins H' b:=fun hn b hb=>⟨hn b hb,(f2 b hb).2⟩
 refine codeAny_forLoop_any (fun n s'=>∃ i σ' H',Inv X pins σ' H' s'∧tn i s'.heap∧(∀ b ∈ fp,H' b=none)∧W i n σ' H') ?_ m0 ⟨0,σ,H2,I2,st2,fun b hb=>(f2 b hb).1,w0⟩
 rintro n s3 ⟨i,σ3,H3,I3,st3,fr3,w3⟩
 rcases turn i n σ3 H3 w3 with ⟨stop,qn⟩ | ⟨go,N,hN,step⟩
 ·refine wpAny_passesOwn hp (thn (T.done X rfl rfl rfl hc i pins s3 σ3 H3 X.xe I3 (stat fr3) st3 stop) fun r s4 ⟨hr,I4⟩=>?_)
  subst hr
  exact wpAny_execs_nil ⟨σ3,H3,I4,qn⟩
 ·refine wpAny_passesOwn hp (thn (T.item X rfl rfl rfl hc i pins s3 σ3 H3 X.xe I3 (stat fr3) st3 go) fun r s4 ⟨u,hr,h4⟩=>?_)
  subst hr
  refine wpAny_passesOwn hp (thn h4 fun _ s5 ⟨x,H5,I5,r5,y5,st5,fr5⟩=>?_)
  have I5':=I5.pinned (stat fr5) (T.obj _ _ st5)
  refine wpAny_passesOwn hp (thn (hg _ s5 σ3 H5 x u _ I5' r5 (step x H5 y5)) fun _ s6 ⟨σ6,H6,I6,q6⟩=>?_)
  refine wpAny_passesOwn hp (thn (hb _ s6 σ6 H6 _ I6 q6) fun f s7 q7=>?_)
  have again:∀ {σ7:St} {H7:Hp},Inv X (pins++pinsAt fp s5.heap) σ7 H7 s7→N σ7 H7→∃ m,m < n∧∃ i σ' H',Inv X pins σ' H' s7∧tn i s7.heap∧(∀ b ∈ fp,H' b=none)∧W i m σ' H':=fun {σ7 H7} I7 n7=>by
   obtain ⟨m',hm,w7⟩:=hN σ7 H7 n7
   refine ⟨m',hm,i+1,σ7,H7,I7.unpinned,T.keep _ _ _ st5 fun b hb o e=>(I7.pin (b,o) (List.mem_append_right _ (List.mem_append_right _ (mem_pinsAt hb e)))).1,fun b hb=>?_,w7⟩
   obtain ⟨o,e,d⟩:=T.obj _ _ st5 b hb
   exact (I7.pin (b,o) (List.mem_append_right _ (List.mem_append_right _ (mem_pinsAt hb e)))).2.1
  cases f with
  | next=>obtain ⟨σ7,H7,I7,n7⟩:=q7; exact again I7 n7
  | cont=>obtain ⟨σ7,H7,I7,n7⟩:=q7; exact again I7 n7
  | brk=>obtain ⟨σ7,H7,I7,q7⟩:=q7; exact ⟨σ7,H7,I7.unpinned,q7⟩
  | ret v=>obtain ⟨x7,σ7,H7,I7,r7,q7⟩:=q7; exact ⟨x7,σ7,H7,I7.unpinned,r7,q7⟩
end

theorem for_list {K:PySem.W.Frag} {a:Addr} {xs:List V} {g:TG} {tb:TS} {D:Ends} {σ:St} {H:Hp} (Pv:Nat→St→Hp→Prop) (h0:Pv 0 σ H) (hl:∀ i σ H,i≤xs.length→Pv i σ H→SqL K H a xs)
  (hs:∀ i x σ H,xs[i]? = some x→Pv i σ H→g x σ H fun σ2 H2=>tb { D with nx:=Pv (i+1),ct:=Pv (i+1),bk:=D.nx } σ2 H2) (hd:∀ σ H,Pv xs.length σ H→D.nx σ H) :
  ∃ W:Nat→Nat→St→Hp→Prop,(∃ m,W 0 m σ H)∧∀ i m σ H,W i m σ H →
   ((Itl K a).stop i H∧D.nx σ H)∨((Itl K a).go i H∧∃ N:St→Hp→Prop,(∀ σ' H',N σ' H'→∃ m',m' < m∧W (i+1) m' σ' H')∧∀ x H',(Itl K a).yld i H x H'→g x σ H' fun σ2 H2=>tb { D with nx:=N,ct:=N,bk:=D.nx } σ2 H2):=by
 refine ⟨fun i m σ H=>m=xs.length - i∧i≤xs.length∧Pv i σ H,⟨xs.length,by simp,Nat.zero_le _,h0⟩,?_⟩
 rintro i m σ H ⟨rfl,hi,p⟩
 have q:=hl i σ H hi p
 by_cases hlt:i < xs.length
 ·refine .inr ⟨⟨xs,xs[i],q,by simp [hlt]⟩,Pv (i+1),fun σ' H' p'=>⟨xs.length - (i+1),by omega,rfl,hlt,p'⟩,fun x H' y=>?_⟩
  obtain ⟨e,y⟩:=y
  subst e
  exact hs i x σ _ (y xs q) p
 ·have e:i=xs.length:=by omega
  subst e
  exact .inl ⟨⟨xs,q,Nat.le_refl _⟩,hd σ H p⟩
theorem for_range {lo:Int} {n:Nat} {g:TG} {tb:TS} {D:Ends} {σ:St} {H:Hp} (Pv:Nat→St→Hp→Prop) (h0:Pv 0 σ H)
  (hs:∀ i σ H,i < n→Pv i σ H→g (.int (lo+i)) σ H fun σ2 H2=>tb { D with nx:=Pv (i+1),ct:=Pv (i+1),bk:=D.nx } σ2 H2) (hd:∀ σ H,Pv n σ H→D.nx σ H) :
  ∃ W:Nat→Nat→St→Hp→Prop,(∃ m,W 0 m σ H)∧∀ i m σ H,W i m σ H →
   ((Itr lo n).stop i H∧D.nx σ H)∨((Itr lo n).go i H∧∃ N:St→Hp→Prop,(∀ σ' H',N σ' H'→∃ m',m' < m∧W (i+1) m' σ' H')∧∀ x H',(Itr lo n).yld i H x H'→g x σ H' fun σ2 H2=>tb { D with nx:=N,ct:=N,bk:=D.nx } σ2 H2):=by
 refine ⟨fun i m σ H=>m=n - i∧i≤n∧Pv i σ H,⟨n,by simp,Nat.zero_le _,h0⟩,?_⟩
 rintro i m σ H ⟨rfl,hi,p⟩
 by_cases hlt:i < n
 ·refine .inr ⟨hlt,Pv (i+1),fun σ' H' p'=>⟨n - (i+1),by omega,rfl,hlt,p'⟩,fun x H' y=>?_⟩
  obtain ⟨e,y⟩:=y
  subst e y
  exact hs i σ _ hlt p
 ·have e:i=n:=by omega
  subst e
  exact .inl ⟨Nat.le_refl _,hd σ H p⟩

abbrev R2:=V→V→Hp→VK→Prop
def OpR (X:Cx) (f:Value→Value→Sem Value) (r:R2) : Prop:=
 ∀ (pins:List (Addr × Obj)) (s:Shared) (σ:St) (H:Hp) (x y:V) (v u:Value) (Q:VK),Inv X pins σ H s→RelV x v→RelV y u→r x y H Q →
  wpAny (model X.prog X.w) X.A (f v u) (EP X pins σ Q) X.xe s
def UnR (X:Cx) (f:Value→Sem Value) (r:V→Hp→VK→Prop) : Prop:=
 ∀ (pins:List (Addr × Obj)) (s:Shared) (σ:St) (H:Hp) (x:V) (v:Value) (Q:VK),Inv X pins σ H s→RelV x v→r x H Q →
  wpAny (model X.prog X.w) X.A (f v) (EP X pins σ Q) X.xe s
def CallR (X:Cx) (f:Value) (r:List V→Hp→VK→Prop) : Prop:=
 ∀ (pins:List (Addr × Obj)) (s:Shared) (σ:St) (H:Hp) (xs:List V) (us:List Value) (Q:VK),Inv X pins σ H s→Vals xs us→r xs H Q →
  wpAny (model X.prog X.w) X.A (call f us) (EP X pins σ Q) X.xe s
def tOp (r:R2) (ta tb:TE) : TE:=fun σ H Q=>ta σ H fun x H1=>tb σ H1 fun y H2=>r x y H2 Q
def tUn (r:V→Hp→VK→Prop) (ta:TE) : TE:=fun σ H Q=>ta σ H fun x H1=>r x H1 Q
def rI (C:Int→Int→Prop) (g:Int→Int→V) : R2:=fun x y H Q=>∃ i j,x = .int i∧y = .int j∧C i j∧Q (g i j) H
def rI0 (g:Int→Int→V) : R2:=fun x y H Q=>∃ i j,x = .int i∧y = .int j∧Q (g i j) H
def rU (g:Int→V) : V→Hp→VK→Prop:=fun x H Q=>∃ i,x = .int i∧Q (g i) H

section
variable {X:Cx} {a b c:Expr} {ta tb tc:TE} {pos:Pos}

theorem binT (ha:PE X a ta) (hb:PE X b tb) {pins:List (Addr × Obj)} {s:Shared} {σ:St} {H:Hp} {R:V→V→Hp→Prop} (I:Inv X pins σ H s)
  (h:ta σ H fun x H1=>tb σ H1 fun y H2=>R x y H2) {Q:Value→Shared→Prop} {f:Value→Value→Sem Value}
  (hf:∀ v u s2 x y H2,Inv X pins σ H2 s2→RelV x v→RelV y u→R x y H2→wpAny (model X.prog X.w) X.A (f v u) Q X.xe s2) :
  wpAny (model X.prog X.w) X.A (eval a X.env) (fun v s₁=>wpAny (model X.prog X.w) X.A (eval b X.env) (fun u s₂=>wpAny (model X.prog X.w) X.A (f v u) Q X.xe s₂) X.xe s₁) X.xe s:=by
 refine thn (ha pins s σ H _ I h) fun v s1 ⟨x,H1,I1,r1,q1⟩=>?_
 refine thn (hb pins s1 σ H1 _ I1 q1) fun u s2 ⟨y,H2,I2,r2,q2⟩=>?_
 exact hf v u s2 x y H2 I2 r1 r2 q2

theorem pe_op {op:Operator} {r:R2} (ho:OpR X (binaryOp op) r) (ha:PE X a ta) (hb:PE X b tb) : PE X (.BinOp a op b pos) (tOp r ta tb):=by
 intro pins s σ H Q I h
 exact wpAny_BinOp (binT ha hb I h fun v u s2 x y H2 I2 rx ry q=>ho pins s2 σ H2 x y v u Q I2 rx ry q)
theorem pe_un {op:UnaryOp} {r:V→Hp→VK→Prop} (ho:UnR X (unaryOp op) r) (ha:PE X a ta) : PE X (.UnaryOp op a pos) (tUn r ta):=by
 intro pins s σ H Q I h
 exact UnaryOp_ (thn (ha pins s σ H _ I h) fun v s1 ⟨x,H1,I1,r1,q1⟩=>ho pins s1 σ H1 x v Q I1 r1 q1)
theorem opI {f:Value→Value→Sem Value} {C:Int→Int→Prop} {g:Int→Int→Int}
  (rule:∀ (i j:Int) (t u:Tok) (s:Shared) (Q:Value→Shared→Prop) (E:Value→Shared→Prop),C i j→Q (.int (g i j) s.toks) { s with toks:=s.toks+1 }→wpAny (model X.prog X.w) X.A (f (.int i t) (.int j u)) Q E s) :
  OpR X f (rI C fun i j=>.int (g i j)):=by
 intro pins s σ H x y v u Q I rx ry h
 obtain ⟨i,j,rfl,rfl,hc,q⟩:=h
 obtain ⟨t,rfl⟩:=rx
 obtain ⟨t',rfl⟩:=ry
 exact rule i j t t' s _ _ hc ⟨.int (g i j),H,I.tok _,⟨_,rfl⟩,q⟩
theorem opI0 {f:Value→Value→Sem Value} {g:Int→Int→Int}
  (rule:∀ (i j:Int) (t u:Tok) (s:Shared) (Q:Value→Shared→Prop) (E:Value→Shared→Prop),Q (.int (g i j) s.toks) { s with toks:=s.toks+1 }→wpAny (model X.prog X.w) X.A (f (.int i t) (.int j u)) Q E s) :
  OpR X f (rI0 fun i j=>.int (g i j)):=by
 intro pins s σ H x y v u Q I rx ry h
 obtain ⟨i,j,rfl,rfl,q⟩:=h
 obtain ⟨t,rfl⟩:=rx
 obtain ⟨t',rfl⟩:=ry
 exact rule i j t t' s _ _ ⟨.int (g i j),H,I.tok _,⟨_,rfl⟩,q⟩
theorem opB0 {f:Value→Value→Sem Value} {g:Int→Int→Bool}
  (rule:∀ (i j:Int) (t u:Tok) (s:Shared) (Q:Value→Shared→Prop) (E:Value→Shared→Prop),Q (.bool (g i j)) s→wpAny (model X.prog X.w) X.A (f (.int i t) (.int j u)) Q E s) :
  OpR X f (rI0 fun i j=>.bl (g i j)):=by
 intro pins s σ H x y v u Q I rx ry h
 obtain ⟨i,j,rfl,rfl,q⟩:=h
 obtain ⟨t,rfl⟩:=rx
 obtain ⟨t',rfl⟩:=ry
 exact rule i j t t' s _ _ ⟨.bl (g i j),H,I,rfl,q⟩

def CDiv (i j:Int) : Prop:=0 < j∧j < 1073741824
def CPow (i j:Int) : Prop:=0≤j∧j≤1000000∧i.natAbs < 2 ^ 64
def CMul (i j:Int) : Prop:=(-(2 ^ 64) < i∧i < 2 ^ 64)∨(-(2 ^ 64) < j∧j < 2 ^ 64)
theorem CMul.ok {i j:Int} (h:CMul i j) : IntMulOk i j:=by
 rcases h with ⟨h1,h2⟩ | ⟨h1,h2⟩
 ·exact .of_left (intBits_le_64 h1 h2)
 ·exact .of_right (intBits_le_64 h1 h2)
theorem op_add:OpR X (binaryOp .Add) (rI0 fun i j=>.int (i+j)):=opI0 fun _ _ _ _ _ _ _ q=>add_int q
theorem op_sub:OpR X (binaryOp .Sub) (rI0 fun i j=>.int (i - j)):=opI0 fun _ _ _ _ _ _ _ q=>sub_int q
theorem op_mul:OpR X (binaryOp .Mult) (rI CMul fun i j=>.int (i * j)):=opI fun _ _ _ _ _ _ _ hc q=>mul_int q hc.ok
theorem op_fdiv:OpR X (binaryOp .FloorDiv) (rI CDiv fun i j=>.int (i / j)):=opI fun i j _ _ _ _ _ hc q=>by
 have h1:(0:Int) < j:=hc.1
 have h2:j < 1073741824:=hc.2
 exact floordiv_int (by omega) (by rw [Int.fdiv_eq_ediv_of_nonneg i (by omega)]; exact q) (.inl (PyProof.noPylong_small (by omega)))
theorem op_mod:OpR X (binaryOp .Mod) (rI (fun _ j=>0 < j) fun i j=>.int (i % j)):=opI fun i j _ _ _ _ _ hc q=>by
 have h1:(0:Int) < j:=hc
 exact mod_int' (by omega) (by rw [Int.fmod_eq_emod_of_nonneg i (by omega)]; exact q)
theorem op_pow:OpR X (binaryOp .Pow) (rI CPow fun i j=>.int (i ^ j.toNat)):=opI fun _ _ _ _ _ _ _ hc q=>pow_int_small hc.1 hc.2.1 hc.2.2 q
theorem unI {f:Value→Sem Value} {g:Int→Int}
  (rule:∀ (i:Int) (t:Tok) (s:Shared) (Q:Value→Shared→Prop) (E:Value→Shared→Prop),Q (.int (g i) s.toks) { s with toks:=s.toks+1 }→wpAny (model X.prog X.w) X.A (f (.int i t)) Q E s) :
  UnR X f (rU fun i=>.int (g i)):=by
 intro pins s σ H x v Q I rx h
 obtain ⟨i,rfl,q⟩:=h
 obtain ⟨t,rfl⟩:=rx
 exact rule i t s _ _ ⟨.int (g i),H,I.tok _,⟨_,rfl⟩,q⟩
theorem un_neg:UnR X (unaryOp .USub) (rU fun i=>.int (-i)):=unI fun _ _ _ _ _ q=>neg_int q
end

def scal:V→V→Bool
 | .non,.non=>true | .non,.int _=>true | .int _,.non=>true | .non,.bl _=>true | .bl _,.non=>true | .non,.str _=>true | .str _,.non=>true
 | .int _,.int _=>true | .bl _,.bl _=>true | .str _,.str _=>true | .byt _,.byt _=>true
 | .int _,.str _=>true | .str _,.int _=>true | .bl _,.str _=>true | .str _,.bl _=>true
 | _,_=>false
def rEq:R2:=fun x y H Q=>scal x y=true∧Q (.bl (decide (x=y))) H
def rNe:R2:=fun x y H Q=>scal x y=true∧Q (.bl (!decide (x=y))) H

theorem dec_int {i j:Int} : decide (V.int i=V.int j)=(i == j):=by
 rw [Bool.eq_iff_iff]
 simp
theorem dec_bl {i j:Bool} : decide (V.bl i=V.bl j)=(i == j):=by
 rw [Bool.eq_iff_iff]
 simp
theorem dec_str {i j:Str} : decide (V.str i=V.str j)=(i == j):=by
 rw [Bool.eq_iff_iff]
 simp
theorem dec_byt {i j:Array UInt8} : decide (V.byt i=V.byt j)=(i.toList == j.toList):=by
 rw [Bool.eq_iff_iff]
 cases i
 cases j
 simp

section
variable {X:Cx} {a b c:Expr} {ta tb tc:TE} {pos:Pos}
theorem fin_bl {pins:List (Addr × Obj)} {σ:St} {H:Hp} {s:Shared} {Q:VK} {k k':Bool} (I:Inv X pins σ H s) (q:Q (.bl k) H) (e:k=k') : EP X pins σ Q (.bool k') s:=by
 subst e
 exact ⟨.bl k,H,I,rfl,q⟩
theorem op_eq:OpR X (compareOp .Eq) rEq:=by
 intro pins s σ H x y v u Q I rx ry h
 obtain ⟨hs,q⟩:=h
 cases x with
 | non =>
  cases rx
  cases y with
  | non=>cases ry; exact PySem.EqNone.eq_none_none (fin_bl I q (by simp))
  | bl j=>cases ry; exact PySem.EqNone.eq_none_bool (fin_bl I q (by simp))
  | int j=>obtain ⟨t',rfl⟩:=ry; exact PySem.EqNone.eq_none_int (fin_bl I q (by simp))
  | str j=>obtain ⟨t',rfl⟩:=ry; exact PySem.EqNone.eq_none_str (fin_bl I q (by simp))
  | _=>exact absurd (show false=true from hs) Bool.false_ne_true
 | bl i =>
  cases rx
  cases y with
  | non=>cases ry; exact PySem.EqNone.eq_bool_none (fin_bl I q (by simp))
  | bl j=>cases ry; exact eq_bool (fin_bl I q dec_bl)
  | str j=>obtain ⟨t',rfl⟩:=ry; exact PySem.EqMixed.eq_bool_str (fin_bl I q (by simp))
  | _=>exact absurd (show false=true from hs) Bool.false_ne_true
 | int i =>
  obtain ⟨t,rfl⟩:=rx
  cases y with
  | non=>cases ry; exact PySem.EqNone.eq_int_none (fin_bl I q (by simp))
  | int j=>obtain ⟨t',rfl⟩:=ry; exact eq_int (fin_bl I q dec_int)
  | str j=>obtain ⟨t',rfl⟩:=ry; exact PySem.EqMixed.eq_int_str (fin_bl I q (by simp))
  | _=>exact absurd (show false=true from hs) Bool.false_ne_true
 | str i =>
  obtain ⟨t,rfl⟩:=rx
  cases y with
  | non=>cases ry; exact PySem.EqNone.eq_str_none (fin_bl I q (by simp))
  | bl j=>cases ry; exact PySem.EqMixed.eq_str_bool (fin_bl I q (by simp))
  | int j=>obtain ⟨t',rfl⟩:=ry; exact PySem.EqMixed.eq_str_int (fin_bl I q (by simp))
  | str j=>obtain ⟨t',rfl⟩:=ry; exact eq_str (fin_bl I q dec_str)
  | _=>exact absurd (show false=true from hs) Bool.false_ne_true
 | byt i =>
  obtain ⟨t,rfl⟩:=rx
  cases y with
  | byt j=>obtain ⟨t',rfl⟩:=ry; exact PySem.W.eq_bytes (fin_bl I q dec_byt)
  | _=>exact absurd (show false=true from hs) Bool.false_ne_true
 | _=>cases y <;> exact absurd (show false=true from hs) Bool.false_ne_true
theorem op_ne:OpR X (compareOp .NotEq) rNe:=by
 intro pins s σ H x y v u Q I rx ry h
 obtain ⟨hs,q⟩:=h
 cases x with
 | non =>
  cases rx
  cases y with
  | non=>cases ry; exact PySem.EqNone.ne_none_none (fin_bl I q (by simp))
  | bl j=>cases ry; exact PySem.EqNone.ne_none_bool (fin_bl I q (by simp))
  | int j=>obtain ⟨t',rfl⟩:=ry; exact PySem.EqNone.ne_none_int (fin_bl I q (by simp))
  | str j=>obtain ⟨t',rfl⟩:=ry; exact PySem.EqNone.ne_none_str (fin_bl I q (by simp))
  | _=>exact absurd (show false=true from hs) Bool.false_ne_true
 | bl i =>
  cases rx
  cases y with
  | non=>cases ry; exact PySem.EqNone.ne_bool_none (fin_bl I q (by simp))
  | bl j=>cases ry; exact ne_bool (fin_bl I q (congrArg not dec_bl))
  | str j=>obtain ⟨t',rfl⟩:=ry; exact PySem.EqMixed.ne_bool_str (fin_bl I q (by simp))
  | _=>exact absurd (show false=true from hs) Bool.false_ne_true
 | int i =>
  obtain ⟨t,rfl⟩:=rx
  cases y with
  | non=>cases ry; exact PySem.EqNone.ne_int_none (fin_bl I q (by simp))
  | int j=>obtain ⟨t',rfl⟩:=ry; exact ne_int (fin_bl I q (congrArg not dec_int))
  | str j=>obtain ⟨t',rfl⟩:=ry; exact PySem.EqMixed.ne_int_str (fin_bl I q (by simp))
  | _=>exact absurd (show false=true from hs) Bool.false_ne_true
 | str i =>
  obtain ⟨t,rfl⟩:=rx
  cases y with
  | non=>cases ry; exact PySem.EqNone.ne_str_none (fin_bl I q (by simp))
  | bl j=>cases ry; exact PySem.EqMixed.ne_str_bool (fin_bl I q (by simp))
  | int j=>obtain ⟨t',rfl⟩:=ry; exact PySem.EqMixed.ne_str_int (fin_bl I q (by simp))
  | str j=>obtain ⟨t',rfl⟩:=ry; exact ne_str (fin_bl I q (congrArg not dec_str))
  | _=>exact absurd (show false=true from hs) Bool.false_ne_true
 | byt i =>
  obtain ⟨t,rfl⟩:=rx
  cases y with
  | byt j=>obtain ⟨t',rfl⟩:=ry; exact PySem.W.ne_bytes (fin_bl I q (congrArg not dec_byt))
  | _=>exact absurd (show false=true from hs) Bool.false_ne_true
 | _=>cases y <;> exact absurd (show false=true from hs) Bool.false_ne_true

theorem op_lt:OpR X (compareOp .Lt) (rI0 fun i j=>.bl (decide (i < j))):=opB0 fun _ _ _ _ _ _ _ q=>lt_int q
theorem op_gt:OpR X (compareOp .Gt) (rI0 fun i j=>.bl (decide (j < i))):=opB0 fun _ _ _ _ _ _ _ q=>gt_int q
theorem op_ge:OpR X (compareOp .GtE) (rI0 fun i j=>.bl (decide (j≤i))):=opB0 fun _ _ _ _ _ _ _ q=>ge_int q
theorem op_in_str:OpR X (compareOp .In) (fun x y H Q=>∃ i j,x = .str i∧y = .str j∧Q (.bl (!(Builtin.Str.occurrences j i 0 j.length 1).isEmpty)) H):=by
 intro pins s σ H x y v u Q I rx ry h
 obtain ⟨i,j,rfl,rfl,q⟩:=h
 obtain ⟨t,rfl⟩:=rx
 obtain ⟨t',rfl⟩:=ry
 exact in_str (fin_bl I q rfl)

theorem op_notN:OpR X (compareOp .IsNot) (fun x y H Q=>y = .non∧Q (.bl (!decide (x = .non))) H):=by
 intro pins s σ H x y v u Q I rx ry h
 obtain ⟨rfl,q⟩:=h
 cases ry
 refine isnot_none_gen (fin_bl I q ?_)
 cases x <;> first
  | (cases rx; rfl)
  | (obtain ⟨t,rfl⟩:=rx; rfl)

theorem op_notin_str:OpR X (compareOp .NotIn) (fun x y H Q=>∃ i j,x = .str i∧y = .str j∧Q (.bl (!(!(Builtin.Str.occurrences j i 0 j.length 1).isEmpty))) H):=by
 intro pins s σ H x y v u Q I rx ry h
 obtain ⟨i,j,rfl,rfl,q⟩:=h
 obtain ⟨t,rfl⟩:=rx
 obtain ⟨t',rfl⟩:=ry
 exact notIn_str (fin_bl I q rfl)
theorem nomark (b:Expr) {op:CmpOp} (h:op≠.In:=by decide) (h2:op≠.NotIn:=by decide) : behindInMarks op b=false:=by
 have e1:(op == CmpOp.In)=false:=by cases op <;> first | rfl | exact absurd rfl h
 have e2:(op == CmpOp.NotIn)=false:=by cases op <;> first | rfl | exact absurd rfl h2
 cases b <;> simp [behindInMarks,e1,e2]
theorem pe_cmpR {op:CmpOp} {r:R2} (ho:OpR X (compareOp op) r) (ha:PE X a ta) (hb:PE X b tb) (hm:behindInMarks op b=false) : PE X (.Compare a [op] [b] pos) (tOp r ta tb):=by
 intro pins s σ H Q I h
 exact wpAny_Compare1 (binT ha hb I h fun v u s2 x y H2 I2 rx ry q=>ho pins s2 σ H2 x y v u Q I2 rx ry q) hm
def tTest (t:TE) : TT:=fun σ H Q=>t σ H fun x H'=>∃ k,x = .bl k∧Q k H'
theorem pt_cmpR {op:CmpOp} {r:R2} (ho:OpR X (compareOp op) r) (ha:PE X a ta) (hb:PE X b tb) (hm:behindInMarks op b=false) : PT X (.Compare a [op] [b] pos) (tTest (tOp r ta tb)):=by
 intro pins s σ H Q I h
 refine wpAny_isTrue_Compare1 (thn (ha pins s σ H _ I h) fun v s1 ⟨x,H1,I1,r1,q1⟩=>thn (hb pins s1 σ H1 _ I1 q1) fun u s2 ⟨y,H2,I2,r2,q2⟩ =>
  thn (ho pins s2 σ H2 x y v u _ I2 r1 r2 q2) fun c s3 ⟨z,H3,I3,r3,k,e,q3⟩=>?_) hm
 subst e
 cases r3
 exact wpAny_truthy_bool ⟨H3,I3,q3⟩
theorem line63:(sizeLine:Nat) < 2 ^ 63:=by rw [sizeLine_eq]; decide
theorem op_add_str:OpR X (binaryOp .Add) (fun x y H Q=>∃ i j,x = .str i∧y = .str j∧i.length+j.length≤sizeLine∧Q (.str (i++j)) H):=by
 intro pins s σ H x y v u Q I rx ry h
 obtain ⟨i,j,rfl,rfl,hz,q⟩:=h
 obtain ⟨t,rfl⟩:=rx
 obtain ⟨t',rfl⟩:=ry
 exact add_str (fun t' tk=>⟨.str (i++j),H,I.tok _,⟨_,rfl⟩,q⟩) hz
theorem vals1 {x:V} {us:List Value} (r:Vals [x] us) : ∃ u,us=[u]∧RelV x u:=by
 cases r with
 | cons r1 r2=>cases r2; exact ⟨_,rfl,r1⟩
theorem vals2 {x y:V} {us:List Value} (r:Vals [x,y] us) : ∃ u w',us=[u,w']∧RelV x u∧RelV y w':=by
 cases r with
 | cons r1 r2 =>
  cases r2 with
  | cons r3 r4=>cases r4; exact ⟨_,_,rfl,r1,r3⟩
theorem call_min2 (hc:X.calm=true) : CallR X (.builtin "min") (fun xs H Q=>∃ i j,xs=[.int i,.int j]∧Q (.int (if j < i then j else i)) H):=by
 intro pins s σ H xs us Q I r h
 obtain ⟨i,j,rfl,q⟩:=h
 obtain ⟨u,w',rfl,⟨t,rfl⟩,⟨t',rfl⟩⟩:=vals2 r
 refine min_two_ints (I.ok.hd hc) fun h' tk k=>⟨_,H,I.kept k,?_,q⟩
 by_cases hj:j < i
 ·rw [if_pos hj,if_pos hj]; exact ⟨_,rfl⟩
 ·rw [if_neg hj,if_neg hj]; exact ⟨_,rfl⟩
theorem call_str_int:CallR X (.type "str") (fun xs H Q=>∃ i,xs=[.int i]∧i.natAbs.log2 < 1920∧Q (.str (toString i)) H):=by
 intro pins s σ H xs us Q I r h
 obtain ⟨i,rfl,hz,q⟩:=h
 obtain ⟨u,rfl,t,rfl⟩:=vals1 r
 exact PySem.P.str_of_int hz ⟨.str _,H,I.tok _,⟨_,rfl⟩,q⟩
end

structure ObjM (h:Heap) (x dx C:Addr) (mA:Str→Option Value) : Prop where
 obj:h.get? x=some (PySem.W.instObj C dx)
 ns:h.Ns1 dx mA
 ne:dx≠x

theorem lookIn_ns {h:Heap} {dx:Addr} {mA:Str→Option Value} (n:h.Ns1 dx mA) : ∃ od,h.get? dx=some od∧∀ name,PySem.W.lookIn name od=some (mA name):=by
 obtain ⟨o,es,ep,ho,hd,hk,_,hm⟩:=n
 refine ⟨o,ho,fun name=>?_⟩
 have e:=hm name
 unfold nsFind findBy at e
 rw [← Array.find?_toList] at e
 unfold PySem.W.lookIn
 rw [hd]
 dsimp only
 split
 ·rename_i y q
  rw [q] at e
  exact congrArg some e
 ·rename_i q
  rw [q] at e
  have a:es.toList.any (·.refKey)=false:=by
   rw [List.any_eq_false]
   intro y hy
   obtain ⟨z,t,hkey⟩:=hk y (Array.mem_toList_iff.mp hy)
   simp [DictEntry.refKey,hkey]
  have a':¬ es.toList.any (·.refKey)=true:=by rw [a]; exact Bool.false_ne_true
  rw [if_neg a']
  exact congrArg some e

theorem ObjM.look {h:Heap} {x dx C:Addr} {mA:Str→Option Value} (I:ObjM h x dx C mA) : ∃ od,PySem.W.InstAt h x (PySem.W.instObj C dx) C (some od)∧∀ name,PySem.W.lookIn name od=some (mA name):=
 let ⟨od,ho,hl⟩:=lookIn_ns I.ns
 ⟨od,⟨I.obj,rfl,rfl,ho⟩,hl⟩

section
variable {prog:Program} {w:World} {A:Around} {E:Value→Shared→Prop} {s:Shared} {K:PySem.W.Frag} {x dx C f:Addr} {mA:Str→Option Value} {name:Str} {v:Value}

theorem get_map {expr:Bool} {Q:Value→Shared→Prop} (X:K.In s.heap) (I:ObjM s.heap x dx C mA) (hg:PySem.W.plainGet K C name=true) (hh:PySem.W.hasDictIn K C=true)
  (ha:PySem.W.findIn K (.ref C) name=some none) (hv:mA name=some v) (hv':PySem.W.handedIn v=true) (h:Q v { s with toks:=s.toks+1 }) :
  wpAny (model prog w) A (getAttr (.ref x) name expr) Q E s:=by
 obtain ⟨od,J,hl⟩:=I.look
 exact PySem.W.get_value X J (PySem.W.plainGet_of hg).1 (PySem.W.findObj_own hh ha rfl (by rw [hl,hv])) hv' h

theorem get_meth {pl:Sem Bool} {Q:Value × List Value→Shared→Prop} (X:K.In s.heap) (I:ObjM s.heap x dx C mA) (hg:PySem.W.plainGet K C name=true)
  (hf:PySem.W.findIn K (.ref C) name=some (some (.ref f))) (ht:PySem.W.isFn K (.ref f)=true) (hv:mA name=none) (h:Q (.ref f,[.ref x]) s) :
  wpAny (model prog w) A (getMethod (.ref x) name pl) Q E s:=by
 obtain ⟨od,J,hl⟩:=I.look
 exact PySem.W.method_fn X J (PySem.W.plainGet_of hg).1 (PySem.W.plainGet_of hg).2 hf (beq_iff_eq.mp ht) (by show (PySem.W.lookIn name od).map (·.isSome)=some false; rw [hl,hv]; rfl) h

theorem set_map {ns:List Str} {Q:Unit→Shared→Prop} (X:K.In s.heap) (I:ObjM s.heap x dx C mA)
  (hs:PySem.W.findIn K (.ref C) "__setattr__" = some (some (.builtin "object.__setattr__"))) (hp:PySem.W.plainOver K C=true) (ht:PySem.W.takerIn K C name=some none) (hh:PySem.W.hasDictIn K C=true)
  (hw:PySem.Within mA ns) (hsz:ns.length≤sizeLine)
  (h:∀ h',ObjM h' x dx C (fun y=>if y=name then some v else mA y)→Heap.SameBut dx s.heap h'→Q () { s with heap:=h',toks:=s.toks+2 }) :
  wpAny (model prog w) A (setAttr (.ref x) name v) Q E s:=by
 obtain ⟨od,J,hl⟩:=I.look
 refine PySem.W.set_plain X J hs (PySem.W.osa_open (s:={ s with toks:=s.toks+1 }) (r:=none) X J hp ht fun b=>?_)
 obtain ⟨cd,hc,hd'⟩:=PySem.W.any_some hh
 have hx:s.heap.get? x=some ⟨.ref C,some dx,.plain,#[]⟩:=I.obj
 refine wpAny_bind (wpAny_pure (wpAny_bind (wpAny_bind (wpAny_loadPart hx (wpAny_bind (PySem.W.Looks.here (s:={ s with toks:=s.toks+1 }) (PySem.W.looks_clsIn X hc) ?_))))))
 rw [hd']
 refine wpAny_pure (a:=some dx) (wpAny_bind (wpAny_pure (wpAny_bind ?_)))
 refine wpAny_nsSet1 (s:={ s with toks:=s.toks+1 }) I.ns fun h' hn2 hs2=>?_
 obtain ⟨oD,esD,epD,hoD,hdD,hcD⟩:=hn2.count (PySem.Within.cons name v hw)
 refine wpAny_bind (wpAny_lookBehind hoD (by rw [hdD]; exact pastItsLine_dict (Nat.le_trans hcD (by rw [List.length_cons]; omega))) ?_)
 exact wpAny_pure (h _ ⟨(hs2.2 _ (Ne.symm I.ne)).trans I.obj,hn2,I.ne⟩ hs2)

theorem make_map {R:Result→Shared→Prop} {vs:List Value} {kw:List (Str × Value)} (X:K.In s.heap) (hm:PySem.W.makesIn K C=true)
  (hi:PySem.W.findIn K (.ref C) "__init__" = some (some (.ref f))) (hf:PySem.W.typeIn K (.ref f)=some (.type "function"))
  (h:codeAny (model prog w) (A.under (.builtin "type.__call__" ⟨.ref C :: vs,kw⟩)) (.call (.ref f) ⟨.ref (s.heap.objs.size+1) :: vs,kw⟩) (PySem.W.InitBack (s.heap.objs.size+1) R)
   { s with heap:=(s.heap.push PySem.W.emptyDict).push (PySem.W.instObj C s.heap.objs.size) }) :
  codeAny (model prog w) A (.call (.ref C) ⟨vs,kw⟩) R s:=by
 obtain ⟨hh,g,d,t,os⟩:=s
 exact PySem.W.make_core (PySem.W.makes_of X hm) (PySem.W.looks_findIn X hi) (fun self=>PySem.W.bind_fn X self hf) (.inl rfl) h
end

def putF (f:Str) (v:V) : List (Str × V)→List (Str × V)
 | []=>[(f,v)]
 | (g,x) :: r=>if g=f then (g,v) :: r else (g,x) :: putF f v r
theorem lookup_putF (f g:Str) (v:V) : ∀ fs:List (Str × V),(putF f v fs).lookup g=if g=f then some v else fs.lookup g
 | []=>by
  show List.lookup g [(f,v)]=_
  by_cases h:g=f
  ·have hb:(g == f)=true:=beq_iff_eq.mpr h
   simp only [List.lookup,hb,if_pos h]
  ·have hb:(g == f)=false:=beq_eq_false_iff_ne.mpr h
   simp only [List.lookup,hb,if_neg h]
 | (k,x) :: r=>by
  have ih:=lookup_putF f g v r
  rw [show putF f v ((k,x) :: r)=(if k=f then (k,v) :: r else (k,x) :: putF f v r) from rfl]
  by_cases hk:k=f
  ·rw [if_pos hk]
   by_cases h:g=k
   ·have hb:(g == k)=true:=beq_iff_eq.mpr h
    simp only [List.lookup,hb,if_pos (h.trans hk)]
   ·have hb:(g == k)=false:=beq_eq_false_iff_ne.mpr h
    simp only [List.lookup,hb,if_neg (fun e:g=f=>h (e.trans hk.symm))]
  ·rw [if_neg hk]
   by_cases h:g=k
   ·have hb:(g == k)=true:=beq_iff_eq.mpr h
    simp only [List.lookup,hb,if_neg (fun e:g=f=>hk (h.symm.trans e))]
   ·have hb:(g == k)=false:=beq_eq_false_iff_ne.mpr h
    simp only [List.lookup,hb]
    exact ih
theorem keys_putF (f:Str) (v:V) : ∀ fs:List (Str × V),f ∈ (putF f v fs).map (·.1)∧∀ g,g ∈ fs.map (·.1)→g ∈ (putF f v fs).map (·.1)
 | []=>⟨by simp [putF],fun g h=>by simp at h⟩
 | (k,x) :: r=>by
  obtain ⟨i1,i2⟩:=keys_putF f v r
  rw [show putF f v ((k,x) :: r)=(if k=f then (k,v) :: r else (k,x) :: putF f v r) from rfl]
  by_cases hk:k=f
  ·rw [if_pos hk]
   subst hk
   exact ⟨by simp,fun g h=>by simpa using h⟩
  ·rw [if_neg hk]
   refine ⟨?_,fun g h=>?_⟩
   ·rw [List.map_cons]
    exact List.mem_cons_of_mem _ i1
   ·rw [List.map_cons] at h ⊢
    rcases List.mem_cons.mp h with e | e
    ·exact List.mem_cons.mpr (.inl e)
    ·exact List.mem_cons_of_mem _ (i2 g e)
theorem length_putF (f:Str) (v:V) : ∀ fs:List (Str × V),(putF f v fs).length≤fs.length+1
 | []=>by simp [putF]
 | (k,x) :: r=>by
  have ih:=length_putF f v r
  rw [show putF f v ((k,x) :: r)=(if k=f then (k,v) :: r else (k,x) :: putF f v r) from rfl]
  by_cases hk:k=f
  ·rw [if_pos hk,List.length_cons,List.length_cons]; omega
  ·rw [if_neg hk,List.length_cons,List.length_cons]; omega

theorem RelO.some_of {v:V} {o:Option Value} (r:RelO (some v) o) : ∃ u,o=some u∧RelV v u:=by
 cases o with
 | none=>exact (show False from r).elim
 | some u=>exact ⟨u,rfl,r⟩
theorem RelO.none_of {o:Option Value} (r:RelO none o) : o=none:=by
 cases o with
 | none=>rfl
 | some u=>exact (show False from r).elim
theorem handed_of {v:V} {u:Value} (r:RelV v u) : PySem.W.handedIn u=true:=by
 cases v with
 | non=>cases (show u=Value.none from r); rfl
 | bl b=>cases (show u=Value.bool b from r); rfl
 | int i=>obtain ⟨t,e⟩:=(show ∃ t,u=Value.int i t from r); cases e; rfl
 | str x=>obtain ⟨t,e⟩:=(show ∃ t,u=Value.str x t from r); cases e; rfl
 | byt b=>obtain ⟨t,e⟩:=(show ∃ t,u=Value.bytes b t from r); cases e; rfl
 | flt b=>obtain ⟨t,e⟩:=(show ∃ t,u=Value.float b t from r); cases e; rfl
 | ref a=>cases (show u=Value.ref a from r); rfl
 | ty n=>cases (show u=Value.type n from r); rfl

section
variable {P:Program} {w:World} {H H':Hp} {h h':Heap} {a C dx:Addr} {fs fs':List (Str × V)}
theorem ins_get (hok:HOk P w H h) (e:H a=some (.ins C dx fs)) : ∃ mA,ObjM h a dx C mA∧(∀ f,RelO (fs.lookup f) (mA f))∧PySem.Within mA (fs.map (·.1))∧fs.length≤1000∧H dx=some (.own a):=by
 obtain ⟨d,z,ne,ob,mA,n,r,q⟩:=(show ObjOk P w H h a (.ins C dx fs) from hok a _ e)
 exact ⟨mA,⟨ob,n,ne⟩,r,q,z,d⟩
end

structure Cls (K:PySem.W.Frag) (C:Addr) : Prop where
 pg:PySem.W.plainGet K C Str.empty=true
 hd:PySem.W.hasDictIn K C=true
 po:PySem.W.plainOver K C=true
 sa:PySem.W.findIn K (.ref C) "__setattr__" = some (some (.builtin "object.__setattr__"))
theorem Cls.get {K:PySem.W.Frag} {C:Addr} (c:Cls K C) (f:Str) : PySem.W.plainGet K C f=true:=c.pg
def NoAttr (K:PySem.W.Frag) (C:Addr) (f:Str) : Prop:=PySem.W.findIn K (.ref C) f=some none
theorem NoAttr.taker {K:PySem.W.Frag} {C:Addr} {f:Str} (n:NoAttr K C f) : PySem.W.takerIn K C f=some none:=by
 unfold PySem.W.takerIn
 rw [show PySem.W.findIn K (.ref C) f=some none from n]
 rfl
structure Meth (K:PySem.W.Frag) (C:Addr) (m:Str) (f:Addr) : Prop where
 at_:PySem.W.findIn K (.ref C) m=some (some (.ref f))
 fn:PySem.W.isFn K (.ref f)=true
 kp:PySem.W.keepIn K (.ref f)=true

section
variable {X:Cx} {pins:List (Addr × Obj)} {σ:St} {H:Hp} {s:Shared} {a C dx:Addr} {fs:List (Str × V)} {f:Str} {v:V} {A:Around} {E:Value→Shared→Prop}

theorem getattr_ok {b:Bool} {Q:Value→Shared→Prop} (I:Inv X pins σ H s) (e:H a=some (.ins C dx fs)) (c:Cls X.K C) (n:NoAttr X.K C f) (l:fs.lookup f=some v)
  (h:∀ u s',Inv X pins σ H s'→RelV v u→Q u s') : wpAny (model X.prog X.w) A (getAttr (.ref a) f b) Q E s:=by
 obtain ⟨mA,O,r,_,_,_⟩:=ins_get I.hok e
 obtain ⟨u,hu,ru⟩:=RelO.some_of (v:=v) (o:=mA f) (by rw [← l]; exact r f)
 exact get_map I.kIn O (c.get f) c.hd n hu (handed_of ru) (h u _ (I.tok _) ru)

theorem getmeth_ok {m:Str} {g:Addr} {pl:Sem Bool} {Q:Value × List Value→Shared→Prop} (I:Inv X pins σ H s) (e:H a=some (.ins C dx fs)) (c:Cls X.K C) (k:Meth X.K C m g) (l:fs.lookup m=none)
  (h:Q (.ref g,[.ref a]) s) : wpAny (model X.prog X.w) A (getMethod (.ref a) m pl) Q E s:=by
 obtain ⟨mA,O,r,_,_,_⟩:=ins_get I.hok e
 have hn:mA m=none:=RelO.none_of (by rw [← l]; exact r m)
 exact get_meth I.kIn O (c.get m) k.at_ k.fn hn h

theorem setattr_ok {y:V} {u:Value} {Q:Unit→Shared→Prop} (I:Inv X pins σ H s) (e:H a=some (.ins C dx fs)) (c:Cls X.K C) (n:NoAttr X.K C f) (hl:fs.length < 1000) (ry:RelV y u)
  (h:∀ s',Inv X pins σ (upd H a (.ins C dx (putF f y fs))) s'→Q () s') : wpAny (model X.prog X.w) A (setAttr (.ref a) f u) Q E s:=by
 obtain ⟨mA,O,r,wi,_,ho⟩:=ins_get I.hok e
 have hz:(fs.map (·.1)).length≤sizeLine:=by rw [List.length_map,sizeLine_eq]; omega
 refine set_map I.kIn O c.sa c.po n.taker c.hd wi hz fun h' O' sb=>h _ ?_
 have hd:∃ o,h'.get? dx=some o:=let ⟨o,_,_,e',_⟩:=O'.ns; ⟨o,e'⟩
 refine I.write (x:=a) (e:=dx) (by rw [e]; exact True.intro) (.inr ho) (fun b q hb z=>(sb.2 b hb).trans z) hd ?_
 refine ⟨by rw [upd_ne O.ne]; exact ho,?_,O.ne,O'.obj,_,O'.ns,fun g=>?_,fun g hg=>?_⟩
 ·have:=length_putF f y fs; omega
 ·show RelO ((putF f y fs).lookup g) (if g=f then some u else mA g)
  rw [lookup_putF]
  by_cases q:g=f
  ·rw [if_pos q,if_pos q]; exact ry
  ·rw [if_neg q,if_neg q]; exact r g
 ·by_cases q:g=f
  ·rw [q]; exact (keys_putF f y fs).1
  ·refine (keys_putF f y fs).2 g (wi g fun z=>hg ?_)
   show (if g=f then some u else mA g)=none
   rw [if_neg q]; exact z

theorem Inv.made (I:Inv X pins σ H s) : Inv X pins σ (upd (upd H s.heap.objs.size (.own (s.heap.objs.size+1))) (s.heap.objs.size+1) (.ins C s.heap.objs.size []))
  { s with heap:=(s.heap.push PySem.W.emptyDict).push (PySem.W.instObj C s.heap.objs.size) }:=by
 have e1:(s.heap.push PySem.W.emptyDict).get? s.heap.objs.size=some PySem.W.emptyDict:=Heap.get?_push_size s.heap rfl
 have e2:((s.heap.push PySem.W.emptyDict).push (PySem.W.instObj C s.heap.objs.size)).get? (s.heap.objs.size+1)=some (PySem.W.instObj C s.heap.objs.size):=by
  have:=Heap.get?_push_size (s.heap.push PySem.W.emptyDict) (o:=PySem.W.instObj C s.heap.objs.size) rfl
  rwa [Heap.size_push] at this
 have e3:(s.heap.push PySem.W.emptyDict).Ns s.heap.objs.size (fun _=>none):=⟨PySem.W.emptyDict,#[],_,e1,rfl,(fun e he=>absurd he (by simp)),fun _=>rfl⟩
 have I1:=I.laid (a:=s.heap.objs.size) (o:=.own (s.heap.objs.size+1)) (h':=s.heap.push PySem.W.emptyDict) (t':=s.toks) (fun b u q=>Heap.get?_push_of_some _ q) (Nat.le_refl _) ⟨_,e1⟩
 refine I1.laid (a:=s.heap.objs.size+1) (o:=.ins C s.heap.objs.size []) (t':=s.toks) (fun b u q=>Heap.get?_push_of_some _ q) (Nat.le_of_eq (Heap.size_push _ _)) ?_
 have ne:s.heap.objs.size≠s.heap.objs.size+1:=Nat.ne_of_lt (Nat.lt_succ_self _)
 refine ⟨by rw [upd_ne ne,upd_same],Nat.zero_le _,ne,e2,fun _=>none,(Heap.Ns1.of_empty e3).at fun o q=>Heap.get?_push_of_some _ q,fun _=>True.intro,fun y hy=>absurd rfl hy⟩

theorem attr_of {prog:Program} {w:World} {env:Env} {e:Expr} {f:Str} {pos:Pos} {s:Shared} {Q:Value→Shared→Prop} (hb:attributeBase e f env (eval e env)=eval e env)
  (h:wpAny (model prog w) A (eval e env) (fun o s₁=>wpAny (model prog w) A (getAttr o f true) Q E s₁) E s) : wpAny (model prog w) A (eval (.Attribute e f pos) env) Q E s:=
 Attribute_any_ h (by rw [arm_eval_Attribute,hb])
end

def tFld (K:PySem.W.Frag) (ta:TE) (f:Str) : TE:=fun σ H Q=>ta σ H fun x H1=>∃ a C dx fs v,x = .ref a∧H1 a=some (.ins C dx fs)∧Cls K C∧NoAttr K C f∧fs.lookup f=some v∧Q v H1
def sFld (K:PySem.W.Frag) (ta tv:TE) (f:Str) : TS:=fun D σ H=>tv σ H fun y H1=>ta σ H1 fun x H2=>∃ a C dx fs,x = .ref a∧H2 a=some (.ins C dx fs)∧Cls K C∧NoAttr K C f∧fs.length < 1000 ∧
 D.nx σ (upd H2 a (.ins C dx (putF f y fs)))
section
variable {X:Cx} {o e value:Expr} {f:Str} {pos pos' tpos:Pos} {ta tv:TE}
theorem pe_fld (he:PE X e ta) (hb:attributeBase e f X.env (eval e X.env)=eval e X.env) : PE X (.Attribute e f pos) (tFld X.K ta f):=by
 intro pins s σ H Q I h
 refine attr_of hb (thn (he pins s σ H _ I h) fun u s1 ⟨x,H1,I1,rx,a,C,dx,fs,v,ex,ea,c,n,l,q⟩=>?_)
 subst ex
 obtain rfl:u=Value.ref a:=rx
 exact getattr_ok I1 ea c n l fun u' s2 I2 ru=>⟨v,H1,I2,ru,q⟩
theorem ps_fld (ha:PE X o ta) (hv:PE X value tv) (hs:swapsWith value (some (.Attribute o f pos')) pos.line X.env=pure false) : PS X (.Assign [.Attribute o f pos'] value pos) (sFld X.K ta tv f):=by
 intro pins s σ H D I h
 refine plainObj_wpAny_Assign_Attribute (thn (hv pins s σ H _ I h) fun u s1 ⟨y,H1,I1,ry,q⟩=>thn (ha pins s1 σ H1 _ I1 q) fun ov s2 ⟨x,H2,I2,rx,a,C,dx,fs,ex,ea,c,n,l,q2⟩=>?_) hs
 subst ex
 obtain rfl:ov=Value.ref a:=rx
 exact setattr_ok I2 ea c n l ry fun s3 I3=>⟨σ,_,I3,q2⟩
end

section
variable {X:Cx} {pins:List (Addr × Obj)} {σ:St} {H:Hp} {s:Shared} {A:Around} {E:Value→Shared→Prop} {Q:Value→Shared→Prop} {c:Value} {b:Bool}
inductive TyOf (K:PySem.W.Frag) (H:Hp) : V→Value→Prop where
 | non:TyOf K H .non (.type "NoneType")
 | bl (x:Bool) : TyOf K H (.bl x) (.type "bool")
 | int (i:Int) : TyOf K H (.int i) (.type "int")
 | str (x:Str) : TyOf K H (.str x) (.type "str")
 | flt (x:UInt64) : TyOf K H (.flt x) (.type "float")
 | lst {a:Addr} {xs:List V} (e:H a=some (.lst xs)) : TyOf K H (.ref a) (.type "list")
 | frz {a:Addr} {o:Obj} {xs:List V} (e:H a=some (.frz o (.lst xs))) : TyOf K H (.ref a) (.type "list")
 | tup {a:Addr} {xs:List V} (e:H a=some (.tup xs)) : TyOf K H (.ref a) (.type "tuple")
 | dK {a:Addr} {kvs:List (Key × V)} (e:H a=some (.dK kvs)) : TyOf K H (.ref a) (.type "dict")
 | dT {a:Addr} {kvs:List (List Key × V)} (e:H a=some (.dT kvs)) : TyOf K H (.ref a) (.type "dict")
 | ins {a C dx:Addr} {fs:List (Str × V)} (e:H a=some (.ins C dx fs)) (cl:Cls K C) (ha:PySem.W.findIn K (.ref C) "__class__" = some (some (.builtin "object.__class__")))
   (hn:PySem.W.specialIn K (.builtin "object.__class__") "__get__" = some (some (.builtin "getset_descriptor.__get__"))) (htk:PySem.W.takesIn K (.builtin "object.__class__")=some true)
   (hm:PySem.W.mroIn K C (.type "object")=some true) : TyOf K H (.ref a) (.ref C)
theorem isinst_ok {x:V} {u t:Value} (I:Inv X pins σ H s) (rx:RelV x u) (ty:TyOf X.K H x t) (e:PySem.W.kitOne X.K t c=some b) (h:∀ tk,Q (.bool b) { s with toks:=tk }) :
  wpAny (model X.prog X.w) A (call (.builtin "isinstance") [u,c]) Q E s:=by
 cases ty with
 | non=>cases (show u=Value.none from rx); exact PySem.W.kia_one PySem.W.kitx_none I.kIn True.intro e (fun z=>nomatch z) h
 | bl y=>cases (show u=Value.bool y from rx); exact PySem.W.kia_one PySem.W.kitx_bool I.kIn True.intro e (fun z=>nomatch z) h
 | int i=>obtain ⟨t,q⟩:=(show ∃ t,u=Value.int i t from rx); cases q; exact PySem.W.kia_one PySem.W.kitx_int I.kIn True.intro e (fun z=>nomatch z) h
 | str y=>obtain ⟨t,q⟩:=(show ∃ t,u=Value.str y t from rx); cases q; exact PySem.W.kia_one PySem.W.kitx_str I.kIn True.intro e (fun z=>nomatch z) h
 | flt y=>obtain ⟨t,q⟩:=(show ∃ t,u=Value.float y t from rx); cases q; exact PySem.W.kia_one PySem.W.kitx_float I.kIn True.intro e (fun z=>nomatch z) h
 | @lst a xs ea =>
  cases (show u=Value.ref a from rx)
  obtain ⟨_,_,n,_,h1⟩:=(show ObjOk X.prog X.w H s.heap a (.lst xs) from I.hok a _ ea)
  exact PySem.W.kia_one PySem.W.kitx_list I.kIn ⟨_,h1,rfl⟩ e (fun z=>nomatch z) h
 | @frz a ob xs ea =>
  cases (show u=Value.ref a from rx)
  obtain ⟨_,_,_,n,_,h1⟩:=(show ObjOk X.prog X.w H s.heap a (.frz ob (.lst xs)) from I.hok a _ ea)
  exact PySem.W.kia_one PySem.W.kitx_list I.kIn ⟨_,h1,rfl⟩ e (fun z=>nomatch z) h
 | @tup a xs ea =>
  cases (show u=Value.ref a from rx)
  obtain ⟨_,_,_,p⟩:=(show ObjOk X.prog X.w H s.heap a (.tup xs) from I.hok a _ ea)
  obtain ⟨o,h1,h2,_⟩:=p
  exact PySem.W.kia_one PySem.W.kitx_tuple I.kIn ⟨o,h1,h2⟩ e (fun z=>nomatch z) h
 | @dK a kvs ea =>
  cases (show u=Value.ref a from rx)
  obtain ⟨_,_,vs,_,p⟩:=(show ObjOk X.prog X.w H s.heap a (.dK kvs) from I.hok a _ ea)
  obtain ⟨o,es,ep,h1,h2,_⟩:=p
  exact PySem.W.kia_one PySem.W.kitx_dict I.kIn ⟨o,h1,h2.1⟩ e (fun z=>nomatch z) h
 | @dT a kvs ea =>
  cases (show u=Value.ref a from rx)
  obtain ⟨_,_,xs,_,o,es,ep,h1,h2,_⟩:=(show ObjOk X.prog X.w H s.heap a (.dT kvs) from I.hok a _ ea)
  exact PySem.W.kia_one PySem.W.kitx_dict I.kIn ⟨o,h1,h2.1⟩ e (fun z=>nomatch z) h
 | @ins a C dx fs ea cl ha hn htk hm =>
  cases (show u=Value.ref a from rx)
  obtain ⟨mA,O,_⟩:=ins_get I.hok ea
  obtain ⟨od,J,_⟩:=O.look
  exact PySem.W.kia_one (PySem.W.kitx_own (cl.get _) cl.hd ha hn htk hm) I.kIn J e (fun z=>nomatch z) h
end

structure Room (k:Nat) (A:Around) : Prop where
 hd:A.handled=none
 dp:A.depth+3 * k+5 < recursionLimit
 un:A.units+16 * k+200 < cLine
theorem Room.mono {j k:Nat} {A:Around} (r:Room k A) (h:j≤k) : Room j A:=⟨r.hd,by have:=r.dp; omega,by have:=r.un; omega⟩
theorem Room.deeper {k:Nat} {A:Around} (r:Room (k+1) A) (env:Env) : Room k (A.deeper env):=
 ⟨r.hd,by have:=r.dp; show A.depth+1+3 * k+5 < _; omega,by have:=r.un; show A.units+3+16 * k+200 < _; omega⟩
theorem make_depth {A:Around} {C:Addr} {us:List Value} {kw:List (Str × Value)} : (A.under (.builtin "type.__call__" ⟨.ref C :: us,kw⟩)).depth=A.depth+1:=by
 first | rfl | simp [Around.under,Code.weight,Code.isCreation,Code.isGuard,Code.isCaller,Code.frames,Code.isFrame,guardIds]
theorem make_units {A:Around} {C:Addr} {us:List Value} {kw:List (Str × Value)} : (A.under (.builtin "type.__call__" ⟨.ref C :: us,kw⟩)).units=A.units+1:=by
 first | rfl | simp [Around.under,Code.cUnits,Code.frames,Code.isFrame]
theorem Room.make {k:Nat} {A:Around} (r:Room (k+1) A) (C:Addr) (us:List Value) (kw:List (Str × Value)) : Room k (A.under (.builtin "type.__call__" ⟨.ref C :: us,kw⟩)):=
 ⟨r.hd,by have:=r.dp; rw [make_depth]; omega,by have:=r.un; rw [make_units]; omega⟩
theorem Room.depth {k:Nat} {A:Around} (r:Room k A) : A.depth < recursionLimit:=by have:=r.dp; omega
theorem Room.units {k:Nat} {A:Around} (r:Room k A) : A.units+64 < cLine:=by have:=r.un; omega
def tNil:TA:=fun _ H Q=>Q [] H
def tCons (ta:TE) (tr:TA) : TA:=fun σ H Q=>ta σ H fun x H1=>tr σ H1 fun xs H2=>Q (x :: xs) H2
section
variable {X:Cx} {e:Expr} {es:List Expr} {te:TE} {t:TA} {pos:Pos}
theorem pa_nil:PA X [] tNil:=fun _ _ _ _ H Q I h=>Calls.spliced_nil ⟨[],H,I,.nil,h⟩
theorem pa_cons (ha:PE X e te) (hr:PA X es t) (hs:starEach (e :: es) X.env=(false,eval e X.env) :: starEach es X.env:=by rfl) : PA X (e :: es) (tCons te t):=by
 intro pos pins s σ H Q I h
 rw [hs]
 show wpAny _ _ (spliced ((false,eval e X.env) :: backTo pos (starEach es X.env))) _ _ s
 refine Calls.spliced_cons (thn (ha pins s σ H _ I h) fun u s1 ⟨x,H1,I1,r1,q1⟩=>?_)
 exact thn (hr pos pins s1 σ H1 _ I1 q1) fun us s2 ⟨xs,H2,I2,r2,q2⟩=>⟨x :: xs,H2,I2,.cons r1 r2,q2⟩

def tTup (t:TA) : TE:=fun σ H Q=>t σ H fun xs H1=>xs.length≤sizeLine∧∀ p,H1 p=none→Q (.ref p) (upd H1 p (.tup xs))
def tLst (t:TA) : TE:=fun σ H Q=>t σ H fun xs H1=>xs.length≤sizeLine∧∀ p,H1 p=none→Q (.ref p) (upd H1 p (.lst xs))
theorem pe_tup {x1} (h:PA X es t) : PE X (.Tuple es x1 pos) (tTup t):=by
 intro pins s σ H Q I hq
 refine wpAny_Tuple_spliced (thn (h pos pins s σ H _ I hq) fun us s1 ⟨xs,H1,I1,r,z,q⟩=>⟨by rw [← r.length]; exact z,?_⟩)
 have hf:H1 s1.heap.objs.size=none:=I1.hok.fresh (Nat.le_refl _)
 refine ⟨.ref s1.heap.objs.size,upd H1 s1.heap.objs.size (.tup xs),I1.laid (t':=s1.toks) (fun b u e=>Heap.get?_push_of_some _ e) (Nat.le_refl _) ?_,rfl,q _ hf⟩
 exact ⟨z,us,r,⟨_,Heap.get?_push_size _ rfl,rfl,_,rfl⟩⟩
theorem pe_lst (h:PA X es t) : PE X (.List es pos) (tLst t):=by
 intro pins s σ H Q I hq
 refine wpAny_List_spliced (thn (h pos pins s σ H _ I hq) fun us s1 ⟨xs,H1,I1,r,z,q⟩=>⟨by rw [← r.length]; exact z,?_⟩)
 have hf:H1 s1.heap.objs.size=none:=I1.hok.fresh (Nat.le_refl _)
 refine ⟨.ref s1.heap.objs.size,upd H1 s1.heap.objs.size (.lst xs),I1.laid (t':=s1.toks) (fun b u e=>Heap.get?_push_of_some _ e) (Nat.le_refl _) ?_,rfl,q _ hf⟩
 exact ⟨z,us,0,r,Heap.get?_push_size _ rfl⟩
end

abbrev Sp:=List V→Hp→VK→XK→Prop
abbrev CXT:=List Env→Hp→Shared→XK→Value→Shared→Prop

structure Env0 (P:Program) (w:World) (K:PySem.W.Frag) (mg:Str→Option Value) (base:Heap) (A:Around) (outer:List Env) (s:Shared) (H:Hp) : Prop where
 frames:A.frames=some outer
 mod:Mod K mg base
 bs:∀ b o,base.get? b=some o→s.heap.get? b=some o∧H b=none
 bsz:base.objs.size≤s.heap.objs.size
 funs:s.heap.FunFrames base outer
 frf:∀ b ∈ frs outer,H b=none
 hok:HOk P w H s.heap
 bare:AllBare s.gens
def CE (outer:List Env) (P:Program) (w:World) (H:Hp) (s:Shared) (Q:VK) (u:Value) (s':Shared) : Prop:=
 ∃ v H',s'.os=s.os∧AllBare s'.gens∧Un (frs outer) [] H H' s.heap s'.heap∧HOk P w H' s'.heap∧RelV v u∧Q v H'
def CR (CX:CXT) (outer:List Env) (P:Program) (w:World) (H:Hp) (s:Shared) (Q:VK) (E:XK) (r:Result) (s':Shared) : Prop:=
 match r with
 | .ok (.ret u)=>CE outer P w H s Q u s'
 | .ok _=>False
 | .error e=>CX outer H s E e s'
structure FnOk (P:Program) (w:World) (K:PySem.W.Frag) (mg:Str→Option Value) (base:Heap) (CX:CXT) (k:Nat) (f:Addr) (fd:FuncData) (ps:List Str) (sp:Sp) : Prop where
 len:∀ vs H Q E,sp vs H Q E→vs.length=ps.length
 run:∀ (A:Around) (outer:List Env) (s:Shared) (H:Hp) (args:Args) (us:List Value) (vs:List V) (Q:VK) (E:XK),Room k A→Env0 P w K mg base A outer s H→BindsTo s fd args (ps.zip us)→Vals vs us→sp vs H Q E →
  codeAny (model P w) A (.call (.ref f) args) (CR CX outer P w H s Q E) s
theorem Env0.make {P:Program} {w:World} {K:PySem.W.Frag} {mg:Str→Option Value} {base:Heap} {A:Around} {outer:List Env} {s:Shared} {H:Hp} (e:Env0 P w K mg base A outer s H) (C:Addr) (us:List Value) (kw:List (Str × Value)) :
  Env0 P w K mg base (A.under (.builtin "type.__call__" ⟨.ref C :: us,kw⟩)) outer s H:=⟨by first | exact e.frames | (simpa [Around.under,Code.envs,Code.isFrame,pushEnvs] using e.frames),e.mod,e.bs,e.bsz,e.funs,e.frf,e.hok,e.bare⟩
section
variable {X:Cx} {pins:List (Addr × Obj)} {σ:St} {H:Hp} {s s':Shared}
theorem Inv.env0 (I:Inv X pins σ H s) : Env0 X.prog X.w X.K X.mg X.base X.A X.stack s H:=
 ⟨I.ok.frames,I.ok.mod,I.bs,Nat.le_trans I.ok.bsz I.sz,I.stack,I.stkFree,I.hok,I.bare⟩
theorem Inv.after {Q:VK} {u:Value} (I:Inv X pins σ H s) (h:CE X.stack X.prog X.w H s Q u s') : EP X pins σ Q u s':=by
 obtain ⟨v,H',os,bare,un,hok,r,q⟩:=h
 obtain ⟨hh,g,d,t,os'⟩:=s'
 obtain rfl:os' = s.os:=os
 exact ⟨v,H',I.call (h':=hh) (g':=g) (d':=d) (t':=t) (ch:=[]) un hok bare (fun b z=>absurd z (by simp)),r,q⟩
end

def tCall (sp:Sp) (dvs:List V) (E:XK) (t:TA) : TE:=fun σ H Q=>t σ H fun vs H1=>sp (vs++dvs) H1 Q E
def tMeth (C:Addr) (m:Str) (sp:Sp) (dvs:List V) (E:XK) (ta:TE) (t:TA) : TE:=fun σ H Q=>ta σ H fun x H1=>∃ a dx fs,x = .ref a∧H1 a=some (.ins C dx fs)∧fs.lookup m=none ∧
 t σ H1 fun vs H2=>sp (x :: (vs++dvs)) H2 Q E
def tMake (C:Addr) (sp:Sp) (dvs:List V) (E:XK) (t:TA) : TE:=fun σ H Q=>t σ H fun vs H1=>∀ x dx,H1 x=none→H1 dx=none→dx≠x →
 sp (.ref x :: (vs++dvs)) (upd (upd H1 dx (.own x)) x (.ins C dx [])) (fun v H2=>v = .non∧Q (.ref x) H2) E

def Binds (K:PySem.W.Frag) (fd:FuncData) (ps:List Str) (ds:List Value) : Prop:=
 ∀ (s:Shared) (us:List Value),K.In s.heap→(us++ds).length=ps.length→BindsTo s fd ⟨us,[]⟩ (ps.zip (us++ds))
theorem Binds.all {K:PySem.W.Frag} {fd:FuncData} {ps:List Str} (h:∀ us:List Value,us.length=ps.length→bindArgs fd ⟨us,[]⟩=pure (ps.zip us)) : Binds K fd ps []:=fun s us _ hl=>by
 rw [List.append_nil] at hl ⊢
 exact .of_eq (h us hl)

def Passes (CX:CXT) (X:Cx) (E:XK) : Prop:=∀ (pins:List (Addr × Obj)) (σ:St) (H:Hp) (s:Shared) (e:Value) (s':Shared),Inv X pins σ H s→CX X.stack H s E e s'→X.xe e s'

section
variable {X:Cx} {CX:CXT} {k:Nat} {f C:Addr} {fd:FuncData} {ps:List Str} {sp:Sp} {dvs:List V} {ds:List Value} {E:XK} {x m:Str} {p pos apos:Pos} {e o:Expr} {es:List Expr} {ta:TE} {t:TA}

theorem run_fn {pins:List (Addr × Obj)} {σ:St} {H:Hp} {s:Shared} {Q:VK} {us:List Value} {vs:List V} (F:FnOk X.prog X.w X.K X.mg X.base CX k f fd ps sp) (hr:Room k X.A) (hb:Binds X.K fd ps ds) (hd:Vals dvs ds) (hx:Passes CX X E)
  (I:Inv X pins σ H s) (r:Vals vs us) (h:sp (vs++dvs) H Q E) : wpAny (model X.prog X.w) X.A (call (.ref f) us) (EP X pins σ Q) X.xe s:=by
 have r2:Vals (vs++dvs) (us++ds):=r.append hd
 have hl:(us++ds).length=ps.length:=by rw [← r2.length]; exact F.len _ _ _ _ h
 refine wpAny_call (codeAny_mono (F.run X.A X.stack s H ⟨us,[]⟩ (us++ds) (vs++dvs) Q E hr I.env0 (hb s us I.kIn hl) r2 h) fun r s' hq=>?_)
 cases r with
 | error e=>exact hx pins σ H s e s' I hq
 | ok fl =>
  cases fl with
  | ret u=>exact I.after hq
  | next=>exact False.elim hq
  | brk=>exact False.elim hq
  | cont=>exact False.elim hq

theorem pe_call (F:FnOk X.prog X.w X.K X.mg X.base CX k f fd ps sp) (hr:Room k X.A) (hg:Gl X x) (hm:X.mg x=some (.ref f)) (hk:PySem.W.keepIn X.K (.ref f)=true) (hb:Binds X.K fd ps ds) (hd:Vals dvs ds) (hx:Passes CX X E)
  (ha:PA X (e :: es) t) (hdb:(x == ("__debug__" : Str))=false:=by decide) (he:starEach (e :: es) X.env=(false,eval e X.env) :: starEach es X.env:=by rfl) (hpl:(backTo pos (starEach es X.env)).any (·.1)=false:=by rfl) :
  PE X (.Call (.Name x p) (e :: es) [] pos) (tCall sp dvs E t):=by
 intro pins s σ H Q I h
 refine wpAny_Call_Name_kw (ld_glob I hg hm ?_ hdb)
 refine PySem.W.callWith_K (h₀:=X.base) I.ok.mod.kin hk (thn (ha pos pins s σ H _ I h) fun us s1 ⟨vs,H1,I1,r,q⟩=>⟨I1.kIn,?_⟩) he hpl
 exact run_fn F hr hb hd hx I1 r q
theorem pe_meth {pl:Sem Bool} (he:PE X o ta) (c:Cls X.K C) (hm:Meth X.K C m f) (F:FnOk X.prog X.w X.K X.mg X.base CX k f fd ps sp) (hr:Room k X.A) (hb:Binds X.K fd ps ds) (hd:Vals dvs ds) (hx:Passes CX X E) (ha:PA X (e :: es) t)
  (hst:starEach (e :: es) X.env=(false,eval e X.env) :: starEach es X.env:=by rfl) (hpl:(backTo pos (starEach es X.env)).any (·.1)=false:=by rfl)
  (ht:eval (.Call (.Attribute o m apos) (e :: es) [] pos) X.env=(do
   let ov ← eval o X.env
   standAt apos.atName
   let (f,first) ← holding [ov] (getMethod ov m pl)
   callWith pos f first (backTo pos (starEach (e :: es) X.env)) (backToKw pos (keywordEach [] X.env))):=by rfl) :
  PE X (.Call (.Attribute o m apos) (e :: es) [] pos) (tMeth C m sp dvs E ta t):=by
 intro pins s σ H Q I h
 refine PySem.W.methodCall_KW (pl:=pl) (thn (he pins s σ H _ I h) fun u s1 ⟨x,H1,I1,rx,a,dx,fs,ex,ea,l,q⟩=>?_) ht
 subst ex
 obtain rfl:u=Value.ref a:=rx
 refine getmeth_ok I1 ea c hm l ?_
 refine PySem.W.callWith_K (first:=[.ref a]) (h₀:=X.base) I.ok.mod.kin hm.kp (thn (ha pos pins s1 σ H1 _ I1 q) fun us s2 ⟨vs,H2,I2,r,q2⟩=>⟨I2.kIn,?_⟩) hst hpl
 exact run_fn (us:=.ref a :: us) (vs:=.ref a :: vs) F hr hb hd hx I2 (.cons rfl r) q2
theorem pe_meth0 {pl:Sem Bool} (he:PE X o ta) (c:Cls X.K C) (hm:Meth X.K C m f) (F:FnOk X.prog X.w X.K X.mg X.base CX k f fd ps sp) (hr:Room k X.A) (hb:Binds X.K fd ps ds) (hd:Vals dvs ds) (hx:Passes CX X E)
  (ht:eval (.Call (.Attribute o m apos) [] [] pos) X.env=(do
   let ov ← eval o X.env
   standAt apos.atName
   let (f,first) ← holding [ov] (getMethod ov m pl)
   callWith pos f first (backTo pos (starEach [] X.env)) (backToKw pos (keywordEach [] X.env))):=by rfl) :
  PE X (.Call (.Attribute o m apos) [] [] pos) (tMeth C m sp dvs E ta tNil):=by
 intro pins s σ H Q I h
 refine PySem.W.methodCall_KW (pl:=pl) (thn (he pins s σ H _ I h) fun u s1 ⟨x,H1,I1,rx,a,dx,fs,ex,ea,l,q⟩=>?_) ht
 subst ex
 obtain rfl:u=Value.ref a:=rx
 refine getmeth_ok I1 ea c hm l ?_
 exact PySem.W.callWith_K0 (first:=[.ref a]) I1.kIn hm.kp (run_fn (us:=[.ref a]) (vs:=[.ref a]) F hr hb hd hx I1 (.cons rfl .nil) q)

structure Mk (K:PySem.W.Frag) (C f:Addr) : Prop where
 makes:PySem.W.makesIn K C=true
 init:PySem.W.findIn K (.ref C) "__init__" = some (some (.ref f))
 fn:PySem.W.isFn K (.ref f)=true
 kp:PySem.W.keepIn K (.ref C)=true

theorem run_make {pins:List (Addr × Obj)} {σ:St} {H:Hp} {s:Shared} {Q:VK} {us:List Value} {vs:List V} (M:Mk X.K C f) (F:FnOk X.prog X.w X.K X.mg X.base CX k f fd ps sp) (hr:Room (k+1) X.A) (hb:Binds X.K fd ps ds) (hd:Vals dvs ds)
  (hx:Passes CX X E) (I:Inv X pins σ H s) (r:Vals vs us)
  (h:∀ x dx,H x=none→H dx=none→dx≠x→sp (.ref x :: (vs++dvs)) (upd (upd H dx (.own x)) x (.ins C dx [])) (fun v H2=>v = .non∧Q (.ref x) H2) E) :
  wpAny (model X.prog X.w) X.A (call (.ref C) us) (EP X pins σ Q) X.xe s:=by
 have hq:=h (s.heap.objs.size+1) s.heap.objs.size (I.hok.fresh (Nat.le_succ _)) (I.hok.fresh (Nat.le_refl _)) (Nat.ne_of_lt (Nat.lt_succ_self _))
 have I2:=Inv.made (C:=C) I
 have r2:Vals (V.ref (s.heap.objs.size+1) :: (vs++dvs)) (Value.ref (s.heap.objs.size+1) :: (us++ds)):=.cons rfl (r.append hd)
 have hl:(Value.ref (s.heap.objs.size+1) :: us++ds).length=ps.length:=by
  have e:=r2.length
  rw [F.len _ _ _ _ hq] at e
  exact e.symm
 refine wpAny_call (make_map (f:=f) I.kIn M.makes M.init (beq_iff_eq.mp M.fn) (codeAny_mono (F.run _ X.stack _ _ ⟨Value.ref (s.heap.objs.size+1) :: us,[]⟩ (Value.ref (s.heap.objs.size+1) :: (us++ds)) _ _ E (hr.make C us [])
  (I2.env0.make C us []) (hb _ (Value.ref (s.heap.objs.size+1) :: us) I2.kIn hl) r2 hq) fun r s' hq'=>?_))
 cases r with
 | error e=>exact hx pins σ _ _ e s' I2 hq'
 | ok fl =>
  cases fl with
  | ret u =>
   obtain ⟨v,H',I3,rv,ev,q3⟩:=I2.after hq'
   subst ev
   exact ⟨rv,⟨V.ref (s.heap.objs.size+1),H',I3,rfl,q3⟩⟩
  | next=>exact False.elim hq'
  | brk=>exact False.elim hq'
  | cont=>exact False.elim hq'
theorem pe_make (M:Mk X.K C f) (F:FnOk X.prog X.w X.K X.mg X.base CX k f fd ps sp) (hr:Room (k+1) X.A) (hg:Gl X x) (hm:X.mg x=some (.ref C)) (hb:Binds X.K fd ps ds) (hd:Vals dvs ds) (hx:Passes CX X E)
  (ha:PA X (e :: es) t) (hdb:(x == ("__debug__" : Str))=false:=by decide) (he:starEach (e :: es) X.env=(false,eval e X.env) :: starEach es X.env:=by rfl) (hpl:(backTo pos (starEach es X.env)).any (·.1)=false:=by rfl) :
  PE X (.Call (.Name x p) (e :: es) [] pos) (tMake C sp dvs E t):=by
 intro pins s σ H Q I h
 refine wpAny_Call_Name_kw (ld_glob I hg hm ?_ hdb)
 refine PySem.W.callWith_K (h₀:=X.base) I.ok.mod.kin M.kp (thn (ha pos pins s σ H _ I h) fun us s1 ⟨vs,H1,I1,r,q⟩=>⟨I1.kIn,?_⟩) he hpl
 exact run_make M F hr hb hd hx I1 r q
end

section
variable {X:Cx} {CX:CXT} {k:Nat} {f C:Addr} {fd:FuncData} {ps ks:List Str} {sp:Sp} {E:XK} {x m:Str} {p pos apos kpos:Pos} {e o:Expr} {es:List Expr} {kws:List Keyword} {te ta:TE} {t tk:TA} {nm:Option Str}
variable {g:List Value→List Value→List Value} {gV:List V→List V→List V}
end

structure FnScope (N P:List Str) (sc:Scope) : Prop where
 kind:sc.kind = .function
 co:sc.isCoroutine=false
 gen:sc.isGenerator=false
 nd:N.Nodup
 pre:N.take P.length=P
 par:∀ x ∈ P,sc.names.lookup x=some .local∨sc.names.lookup x=some .cell
 nofree:∀ y ∈ sc.names,y.2≠.free

theorem bindL_out {kindOf:Str→Option NameKind} {x:Str} : ∀ {binds:List (Str × Value)} {m:Str→Option Value},(∀ v,(x,v) ∉ binds)→bindL kindOf binds m x=m x
 | [],_,_=>rfl
 | (n,v) :: r,m,h=>by
  unfold bindL
  rw [bindL_out fun w hw=>h w (List.mem_cons_of_mem _ hw)]
  split
  ·have:x≠n:=by rintro rfl; exact h v List.mem_cons_self
   simp [this]
  ·rfl
theorem bindC_out {kindOf:Str→Option NameKind} {x:Str} : ∀ {binds:List (Str × Value)} {m:Str→Option Value},(∀ v,(x,v) ∉ binds)→bindC kindOf binds m x=m x
 | [],_,_=>rfl
 | (n,v) :: r,m,h=>by
  unfold bindC
  rw [bindC_out fun w hw=>h w (List.mem_cons_of_mem _ hw)]
  split
  ·rfl
  ·have:x≠n:=by rintro rfl; exact h v List.mem_cons_self
   simp [this]
theorem bindL_get {kindOf:Str→Option NameKind} {x:Str} {v:Value} : ∀ {P:List Str} {vs:List Value} {i:Nat} {m:Str→Option Value},P.Nodup→P[i]? = some x→vs[i]? = some v→kindOf x=some .local →
  bindL kindOf (P.zip vs) m x=some v
 | [],_,_,_,_,h,_,_=>by simp at h
 | _ :: _,[],_,_,_,_,h,_=>by simp at h
 | p :: P,w :: vs,0,m,nd,h1,h2,hk=>by
  simp at h1 h2; subst h1; subst h2
  show bindL kindOf ((p,w) :: P.zip vs) m p=_
  unfold bindL
  rw [bindL_out fun v hv=>(List.nodup_cons.mp nd).1 (List.of_mem_zip hv).1,if_pos hk]
  simp
 | p :: P,w :: vs,i+1,m,nd,h1,h2,hk=>by
  show bindL kindOf ((p,w) :: P.zip vs) m x=_
  unfold bindL
  exact bindL_get (i:=i) (List.nodup_cons.mp nd).2 (by simpa using h1) (by simpa using h2) hk
theorem bindC_get {kindOf:Str→Option NameKind} {x:Str} {v:Value} : ∀ {P:List Str} {vs:List Value} {i:Nat} {m:Str→Option Value},P.Nodup→P[i]? = some x→vs[i]? = some v→kindOf x≠some .local →
  bindC kindOf (P.zip vs) m x=some v
 | [],_,_,_,_,h,_,_=>by simp at h
 | _ :: _,[],_,_,_,_,h,_=>by simp at h
 | p :: P,w :: vs,0,m,nd,h1,h2,hk=>by
  simp at h1 h2; subst h1; subst h2
  show bindC kindOf ((p,w) :: P.zip vs) m p=_
  unfold bindC
  rw [bindC_out fun v hv=>(List.nodup_cons.mp nd).1 (List.of_mem_zip hv).1,if_neg hk]
  simp
 | p :: P,w :: vs,i+1,m,nd,h1,h2,hk=>by
  show bindC kindOf ((p,w) :: P.zip vs) m x=_
  unfold bindC
  exact bindC_get (i:=i) (List.nodup_cons.mp nd).2 (by simpa using h1) (by simpa using h2) hk

def start (N:List Str) (vs:List V) : St:=vs.map some++List.replicate (N.length - vs.length) none

def cxOf (CX:CXT) (P:Program) (w:World) (K:PySem.W.Frag) (mg:Str→Option Value) (base:Heap) (N:List Str) (qual:Str) (scope:Scope) (f:Addr) (cd:Value) (A:Around) (outer:List Env) (s:Shared) (H:Hp) (E:XK) : Cx where
 prog:=P
 w:=w
 K:=K
 mg:=mg
 base:=base
 A:=A.deeper (envOfC qual scope s.heap.objs.size f cd)
 N:=N
 s₀:=s
 H₀:=H
 env:=envOfC qual scope s.heap.objs.size f cd
 outer:=outer
 stack:=envOfC qual scope s.heap.objs.size f cd :: outer
 ex:=[]
 calm:=true
 fn:=fun _=>true
 pn:=[]
 xe:=fun e s'=>wpAny (model P w) (A.deeper (envOfC qual scope s.heap.objs.size f cd)) (leaving (envOfC qual scope s.heap.objs.size f cd) e) (fun _ s''=>CX outer H s E e s'') (fun e' s''=>CX outer H s E e' s'') s'

theorem cell_has {sc:Scope} {n:Nat} {x:Str} (h:sc.names.lookup x=some .cell) : ∃ c,(cellsFrom n sc.names []).lookup x=some c:=by
 have q:=PySem.W.cellsFrom_some sc.names n [] (.inl h)
 exact Option.isSome_iff_exists.mp q

theorem inv_start {CX:CXT} {P:Program} {w:World} {K:PySem.W.Frag} {mg:Str→Option Value} {base:Heap} {N ps:List Str} {qual:Str} {scope:Scope} {f:Addr} {cd:Value} {A:Around} {outer:List Env} {s s1:Shared} {H:Hp} {E:XK} {us:List Value} {vs:List V}
  (S:FnScope N ps scope) (hd:A.handled=none) (e0:Env0 P w K mg base A outer s H) (hl:vs.length=ps.length) (r:Vals vs us)
  (x:InCallC s s.heap.objs.size (bindL (envOfC qual scope s.heap.objs.size f cd).kindOf (ps.zip us) fun _=>none) (cellsFrom (s.heap.objs.size+1) scope.names []) (bindC (envOfC qual scope s.heap.objs.size f cd).kindOf (ps.zip us) fun _=>none) s1) :
  Inv (cxOf CX P w K mg base N qual scope f cd A outer s H E) [] (start N vs) H s1:=by
 have hpl:ps.length≤N.length:=by have:=congrArg List.length S.pre; rw [List.length_take] at this; omega
 obtain ⟨h1,tk,rfl,hk⟩:=x.done
 have noA:∀ b:Addr,b ∉ (cxOf CX P w K mg base N qual scope f cd A outer s H E).ex:=fun b z=>absurd (show b ∈ ([] : List Addr) from z) (by simp)
 refine ⟨⟨e0.mod,S.kind,rfl,rfl,Nat.le_refl _,fun y z c h1 h2=>?_,fun y hy=>?_,fun y c _ h=>?_,fun _=>hd,Around.frames_deeper e0.frames,.inr ⟨rfl,rfl⟩,fun b z=>absurd z (noA b),e0.bs,e0.bsz,fun b _ _=>noA b,fun b z=>absurd z (noA b),e0.funs,e0.frf⟩,
  rfl,e0.bare,Un.kept hk,⟨_,x.toInCall.ns,fun i y v h1 h2 h3=>?_⟩,fun y c h=>⟨_,x.cell y c h⟩,e0.hok.fresh (Nat.le_refl _),fun y c h=>?_,fun p hp=>absurd (show p ∈ ([] : List (Addr × Obj)) from hp) (by simp),e0.hok.kept hk,?_⟩
 ·exact name_of_addr x.apart (PySem.mem_of_lookup h1) (PySem.mem_of_lookup h2)
 ·have hy:scope.names.lookup y=some .cell∨scope.names.lookup y=some .free:=hy
  rcases hy with hy | hy
  ·exact cell_has hy
  ·exact absurd rfl (S.nofree _ (PySem.mem_of_lookup hy))
 ·exact Nat.le_of_lt (x.above y c (PySem.mem_of_lookup h))
 ·have hi:i < vs.length:=by
   unfold start at h2
   by_cases hi:i < vs.length
   ·exact hi
   ·rw [List.getElem?_append_right (by simpa using hi)] at h2
    rw [List.getElem?_replicate] at h2
    split at h2 <;> cases h2
  have ha:vs[i]? = some v:=by
   unfold start at h2
   rw [List.getElem?_append_left (by simpa using hi),List.getElem?_map] at h2
   cases e:vs[i]? with
   | none=>rw [e] at h2; cases h2
   | some a=>rw [e] at h2; cases h2; rfl
  obtain ⟨u,hu,rv⟩:=r.get ha
  have hp:ps[i]? = some y:=by
   rw [← S.pre,List.getElem?_take_of_lt (by omega)]; exact h1
  have ndP:ps.Nodup:=by rw [← S.pre]; exact S.nd.sublist (List.take_sublist _ _)
  refine ⟨u,rv,?_⟩
  rcases S.par y (List.mem_of_getElem? hp) with k | k
  ·exact .inl ⟨k,bindL_get ndP hp hu k⟩
  ·obtain ⟨c,e⟩:=cell_has (n:=s.heap.objs.size+1) k
   refine .inr ⟨.inl k,c,e,?_⟩
   have q:=x.cell y c e
   rw [bindC_get ndP hp hu (by show scope.names.lookup y≠_; rw [k]; decide)] at q
   exact q
 ·exact e0.hok.fresh (Nat.le_of_lt (x.above y c (PySem.mem_of_lookup h)))
 ·unfold start
  show _=N.length
  rw [List.length_append,List.length_map,List.length_replicate]
  omega

theorem fn_of {CX:CXT} {P:Program} {w:World} {K:PySem.W.Frag} {mg:Str→Option Value} {base:Heap} {k:Nat} {f:Addr} {name qual:Str} {params:Arguments} {body:List Stmt} {scope:Scope} {dV kV doc pm cdv ct oc:Value} {an od:Option Addr}
  {osl:Array (Option Value)} {N ps:List Str} {sp:Sp} (lk:K.lookup f=some ⟨oc,od,.func (PySem.W.fnOf name qual params body scope dV kV doc pm an cdv ct),osl⟩) (hcd:PySem.W.codeIn K cdv qual=true) (S:FnScope N ps scope)
  (len:∀ vs H Q E,sp vs H Q E→vs.length=ps.length)
  (hbody:∀ (A:Around) (outer:List Env) (s:Shared) (H:Hp) (vs:List V) (Q:VK) (E:XK),Room k (A.deeper (envOfC qual scope s.heap.objs.size f cdv))→sp vs H Q E →
   ∃ t,PSs (cxOf CX P w K mg base N qual scope f cdv A outer s H E) body t∧t { nx:=fun _ H'=>Q .non H',rt:=Q } (start N vs) H) :
  FnOk P w K mg base CX (k+1) f (PySem.W.fnOf name qual params body scope dV kV doc pm an cdv ct) ps sp:=by
 refine ⟨len,fun A outer s H args us vs Q E hr e0 hb r hsp=>?_⟩
 have hl:=len _ _ _ _ hsp
 have KX:K.In s.heap:=e0.mod.kin.keeps fun b o e=>(e0.bs b o e).1
 have lim:s.heap.NoLimit:=e0.mod.nolimit.keeps fun b o e=>(e0.bs b o e).1
 have hkind:∀ y ∈ ps.zip us,scope.names.lookup y.1=some .local∨(scope.names.lookup y.1=some .cell∧((cellsFrom (s.heap.objs.size+1) scope.names []).lookup y.1).isSome=true):=fun ⟨n,v⟩ hy=>by
  rcases S.par n (List.of_mem_zip hy).1 with q | q
  ·exact .inl q
  ·exact .inr ⟨q,PySem.W.cellsFrom_some _ _ _ (.inl q)⟩
 refine codeAny_call_function hr.depth (KX _ _ lk) rfl S.co S.gen rfl (PySem.W.codeRec_of KX hcd) (hb _ _ _ _ ?_)
 refine wpAny_newFunctionEnv_cells S.kind hkind fun env he s1 x=>?_
 subst he
 refine ⟨lim.keeps x.toInCall.keep,codeAny_func ?_⟩
 obtain ⟨t,ht,hq⟩:=hbody A outer s H vs Q E (hr.deeper _) hsp
 have I:Inv (cxOf CX P w K mg base N qual scope f cdv A outer s H E) [] (start N vs) H s1:=inv_start S hr.hd e0 hl r x
 refine wpAny_mono (ht [] s1 (start N vs) H _ I hq) (fun fl s' hs=>?_) fun e s' hs=>hs
 have fin:∀ {σ':St} {H':Hp} {v:V} {u:Value},Inv (cxOf CX P w K mg base N qual scope f cdv A outer s H E) [] σ' H' s'→RelV v u→Q v H'→CE outer P w H s Q u s':=
  fun {σ' H' v u} J rv q=>⟨v,H',J.os,J.bare,J.base,J.hok,rv,q⟩
 cases fl with
 | ret u =>
  obtain ⟨v,σ',H',J,rv,q⟩:=hs
  exact fin J rv q
 | next =>
  obtain ⟨σ',H',J,q⟩:=hs
  exact fin (v:=V.non) (u:=Value.none) J rfl q
 | brk =>
  obtain ⟨_,_,_,q⟩:=hs
  exact False.elim q
 | cont =>
  obtain ⟨_,_,_,q⟩:=hs
  exact False.elim q
section
variable {X:Cx} {x:Str} {p pos:Pos} {e:Expr} {es:List Expr} {t:TA} {id T:String} {r:List V→Hp→VK→Prop}

def tCB (r:List V→Hp→VK→Prop) (t:TA) : TE:=fun σ H Q=>t σ H fun vs H1=>r vs H1 Q
theorem pe_callB (hc:CallR X (.builtin id) r) (hg:Gl X x) (hm:X.mg x=none) (hv:bootBuiltins x=some (.builtin id)) (ha:PA X (e :: es) t) (hn:x≠"__name__":=by decide) (hdb:(x == ("__debug__" : Str))=false:=by decide)
  (he:starEach (e :: es) X.env=(false,eval e X.env) :: starEach es X.env:=by rfl) (hpl:(backTo pos (starEach es X.env)).any (·.1)=false:=by rfl) : PE X (.Call (.Name x p) (e :: es) [] pos) (tCB r t):=by
 intro pins s σ H Q I h
 refine wpAny_Call_Name_kw (ld_blt I hg hm hv ?_ hn hdb)
 exact PyProof.Rows.callWith_builtin1 (thn (ha pos pins s σ H _ I h) fun us s1 ⟨vs,H1,I1,r1,q1⟩=>hc pins s1 σ H1 vs us Q I1 r1 q1) he hpl
theorem pe_callTy (hc:CallR X (.type T) r) (hg:Gl X x) (hm:X.mg x=none) (hv:bootBuiltins x=some (.type T)) (ha:PA X (e :: es) t) (hn:x≠"__name__":=by decide) (hdb:(x == ("__debug__" : Str))=false:=by decide)
  (he:starEach (e :: es) X.env=(false,eval e X.env) :: starEach es X.env:=by rfl) (hpl:(backTo pos (starEach es X.env)).any (·.1)=false:=by rfl) : PE X (.Call (.Name x p) (e :: es) [] pos) (tCB r t):=by
 intro pins s σ H Q I h
 refine wpAny_Call_Name_kw (ld_blt I hg hm hv ?_ hn hdb)
 exact PyProof.Rows.callWith_type1 (thn (ha pos pins s σ H _ I h) fun us s1 ⟨vs,H1,I1,r1,q1⟩=>hc pins s1 σ H1 vs us Q I1 r1 q1) he hpl
end
end L2

namespace HT
open PySem PyProof.Rows

section
open PySem.SeqAt
open PySem.AutoSeq1 (wpAny_loadPart')
open PySem.MeetsSeq PySem.MeetsSeq2 PySem.MeetsSeq3

end

section
variable {prog:Program} {w:World} {A:Around} {E:Value→Shared→Prop} {s:Shared}

def sIx (n d:Nat) : Option Int→Nat
 | none=>d
 | some v=>if v < 0 then (v+(n:Int)).toNat else min v.toNat n
theorem sIx_none (n d:Nat) : sIx n d none=d:=rfl
theorem sIx_nat (n d k:Nat) : sIx n d (some (k:Int))=min k n:=by
 show (if (k:Int) < 0 then ((k:Int)+(n:Int)).toNat else min (k:Int).toNat n)=min k n
 rw [if_neg (by omega),Int.toNat_natCast]
end
end HT

namespace L2
open PySem PySem.Spec PyProof.Rows

abbrev TO:=St→Hp→(Option Int→Hp→Prop)→Prop
def PO (X:Cx) (e:Option Expr) (t:TO) : Prop:=
 ∀ (pins:List (Addr × Obj)) (s:Shared) (σ:St) (H:Hp) (Q:Option Int→Hp→Prop),Inv X pins σ H s→t σ H Q →
  wpAny (model X.prog X.w) X.A (evalPart e X.env) (fun u s'=>∃ o H',Inv X pins σ H' s'∧IsPart u o∧Q o H') X.xe s
def tNoPart:TO:=fun _ H Q=>Q none H
def tPart (t:TE) : TO:=fun σ H Q=>t σ H fun x H1=>∃ i,x = .int i∧Q (some i) H1

section
variable {X:Cx} {e:Expr} {te:TE} {lo hi:Option Expr} {tl th:TO} {pos p2:Pos}

theorem po_none:PO X none tNoPart:=by
 intro pins s σ H Q I h
 rw [evalPart_none]
 exact wpAny_pure ⟨none,H,I,.none,h⟩
theorem po_some (h:PE X e te) : PO X (some e) (tPart te):=by
 intro pins s σ H Q I hw
 rw [evalPart_some]
 refine thn (h pins s σ H _ I hw) fun u s1 ⟨x,H1,I1,r1,q1⟩=>?_
 obtain ⟨i,rfl,q⟩:=q1
 obtain ⟨t,rfl⟩:=r1
 exact ⟨some i,H1,I1,.int i t,q⟩

def SlR (X:Cx) (r:V→Option Int→Option Int→Hp→VK→Prop) : Prop:=
 ∀ (pins:List (Addr × Obj)) (s:Shared) (σ:St) (H:Hp) (x:V) (v vl vu:Value) (lo hi:Option Int) (sl:Addr) (Q:VK),Inv X pins σ H s→RelV x v→s.heap.IsSliceOf sl vl vu .none→IsPart vl lo→IsPart vu hi→r x lo hi H Q →
  ∃ T id,typeLookup (.type T) "__getitem__" = pure (some (.builtin id))∧s.TypeIs v T∧wpAny (model X.prog X.w) X.A (getItem v (.ref sl)) (EP X pins σ Q) X.xe s
def tSl (r:V→Option Int→Option Int→Hp→VK→Prop) (te:TE) (tl th:TO) : TE:=fun σ H Q=>te σ H fun x H1=>tl σ H1 fun l H2=>th σ H2 fun u H3=>r x l u H3 Q
theorem pe_slice {r:V→Option Int→Option Int→Hp→VK→Prop} (hr:SlR X r) (he:PE X e te) (hl:PO X lo tl) (hu:PO X hi th) : PE X (.Subscript e (.Slice lo hi none p2) pos) (tSl r te tl th):=by
 intro pins s σ H Q I h
 refine Subscript_ (thn (he pins s σ H _ I h) fun v s1 ⟨x,H1,I1,r1,q1⟩=>?_)
 refine wpAny_Slice (thn (hl pins s1 σ H1 _ I1 q1) fun vl s2 ⟨l,H2,I2,pl,q2⟩=>thn (hu pins s2 σ H2 _ I2 q2) fun vu s3 ⟨u,H3,I3,pu,q3⟩=>?_)
 rw [evalPart_none]
 refine wpAny_pure ?_
 have I4:Inv X pins σ H3 { s3 with heap:=s3.heap.push { cls:=.type "slice",data:=.fields #[vl,vu,.none] } }:=I3.kept (t':=s3.toks) fun b ob q=>Heap.get?_push_of_some _ q
 obtain ⟨T,id,hT,ht,hg⟩:=hr pins { s3 with heap:=s3.heap.push { cls:=.type "slice",data:=.fields #[vl,vu,.none] } } σ H3 x v vl vu l u s3.heap.objs.size Q I4 r1 (Heap.IsSliceOf.new ..) pl pu q3
 show wpAny (model X.prog X.w) X.A (subscriptTail e (.Slice lo hi none p2) v (.ref s3.heap.objs.size)) (EP X pins σ Q) X.xe { s3 with heap:=s3.heap.push { cls:=.type "slice",data:=.fields #[vl,vu,.none] } }
 exact tail_any (ops:=[.ref s3.heap.objs.size,v]) ht hT hg (by with_unfolding_all rfl)

def cutV (xs:List V) (lo hi:Option Int) : List V:=(xs.drop (HT.sIx xs.length 0 lo)).take (HT.sIx xs.length xs.length hi - HT.sIx xs.length 0 lo)
theorem cutV_length (xs:List V) (lo hi:Option Int) : (cutV xs lo hi).length≤xs.length:=by
 unfold cutV
 rw [List.length_take,List.length_drop]
 omega
end

def ixN (n:Nat) (i:Int) : Option Nat:=if 0≤i then (if i < n then some i.toNat else none) else if -(n:Int)≤i then some (i+n).toNat else none
def atI {α:Type} (xs:List α) (i:Int) : Option α:=(ixN xs.length i).bind fun j=>xs[j]?
theorem ixN_seq {n:Nat} {i:Int} {j:Nat} (h:ixN n i=some j) : seqIndex? i n=some j∧j < n∧-(n:Int)≤i∧i < n:=by
 unfold ixN at h
 by_cases h0:0≤i
 ·rw [if_pos h0] at h
  by_cases h1:i < n
  ·rw [if_pos h1] at h
   have e:i.toNat=j:=Option.some.inj h
   exact ⟨by rw [seqIndex_of h0 h1,e],by omega,by omega,h1⟩
  ·rw [if_neg h1] at h; cases h
 ·rw [if_neg h0] at h
  by_cases h1:-(n:Int)≤i
  ·rw [if_pos h1] at h
   have e:(i+n).toNat=j:=Option.some.inj h
   exact ⟨by rw [seqIndex_neg (by omega) h1,e],by omega,h1,by omega⟩
  ·rw [if_neg h1] at h; cases h
theorem atI_get {α:Type} {xs:List α} {i:Int} {v:α} (h:atI xs i=some v) : ∃ j,seqIndex? i xs.length=some j∧xs[j]? = some v∧j < xs.length∧-(xs.length:Int)≤i∧i < xs.length:=by
 unfold atI at h
 cases e:ixN xs.length i with
 | none=>rw [e] at h; cases h
 | some j =>
  rw [e] at h
  obtain ⟨h1,h2,h3,h4⟩:=ixN_seq e
  exact ⟨j,h1,h,h2,h3,h4⟩
theorem atI_nat {α:Type} {xs:List α} {j:Nat} {v:α} (h:xs[j]? = some v) : atI xs (j:Int)=some v:=by
 have hj:j < xs.length:=(List.getElem?_eq_some_iff.mp h).1
 have e:ixN xs.length (j:Int)=some j:=by
  unfold ixN
  rw [if_pos (by omega),if_pos (by omega)]; simp
 unfold atI; rw [e]; exact h
theorem atI_last {α:Type} (xs:List α) (v:α) : atI (xs++[v]) (-1)=some v:=by
 have hl:(xs++[v]).length=xs.length+1:=by simp
 have e:ixN (xs++[v]).length (-1)=some xs.length:=by
  unfold ixN
  rw [hl,if_neg (by decide),if_pos (by omega)]
  congr 1
  omega
 unfold atI
 rw [e]
 show (xs++[v])[xs.length]? = some v
 simp

def PlainIx (b:Expr) : Prop:=∀ o i,subscripted b false o i=operate [o,i] (getItem o i)
def IxR (X:Cx) (r:R2) : Prop:=
 ∀ (value slice:Expr) (pins:List (Addr × Obj)) (s:Shared) (σ:St) (H:Hp) (x y:V) (v u:Value) (Q:VK),Inv X pins σ H s→RelV x v→RelV y u→r x y H Q →
  subscripted slice false v u=operate [v,u] (getItem v u)→wpAny (model X.prog X.w) X.A (subscriptTail value slice v u) (EP X pins σ Q) X.xe s
def MtR (X:Cx) (id:String) (r:V→List V→Hp→VK→Prop) : Prop:=
 ∀ (pins:List (Addr × Obj)) (s:Shared) (σ:St) (H:Hp) (x:V) (xs:List V) (v:Value) (us:List Value) (Q:VK),Inv X pins σ H s→RelV x v→Vals xs us→r x xs H Q →
  wpAny (model X.prog X.w) X.A (call (.builtin id) (v :: us)) (EP X pins σ Q) X.xe s
section
variable {X:Cx} {a b:Expr} {ta tb:TE} {pos:Pos}
theorem pe_ix {r:R2} (hr:IxR X r) (ha:PE X a ta) (hb:PE X b tb) (hs:PlainIx b) : PE X (.Subscript a b pos) (tOp r ta tb):=by
 intro pins s σ H Q I h
 exact Subscript_ (binT ha hb I h fun v u s2 x y H2 I2 rx ry q=>hr a b pins s2 σ H2 x y v u Q I2 rx ry q (hs _ _))

def rIxL (K:PySem.W.Frag) : R2:=fun x y H Q=>∃ p xs i v,x = .ref p∧y = .int i∧SqL K H p xs∧atI xs i=some v∧Q v H
def rIxT (K:PySem.W.Frag) : R2:=fun x y H Q=>∃ p xs i v,x = .ref p∧y = .int i∧SqT K H p xs∧atI xs i=some v∧Q v H
def rIxS:R2:=fun x y H Q=>∃ z i c,x = .str z∧y = .int i∧z.length≤sizeLine∧atI z.cps.toList i=some c∧Q (.str ⟨#[c]⟩) H
theorem ix_list:IxR X (rIxL X.K):=by
 intro value slice pins s σ H x y v u Q I rx ry h hs
 obtain ⟨p,xs,i,z,rfl,rfl,hq,he,q⟩:=h
 cases rx
 obtain ⟨t,rfl⟩:=ry
 obtain ⟨its,r,pl,hz⟩:=I.list hq
 obtain ⟨j,h1,h2,h3,h4,h5⟩:=atI_get he
 obtain ⟨w,ew,rw'⟩:=r.get h2
 have hl:=r.length
 have hn:=line63
 have fin:EP X pins σ Q w s:=⟨z,H,I,rw',q⟩
 by_cases h0:0≤i
 ·have hj:i.toNat=j:=by
   rw [seqIndex_of h0 h5] at h1
   exact Option.some.inj h1
  exact item_listR pl.isList h0 (by omega) (by rw [hj]; simpa using ew) fin hs
 ·have hj:(i+(its.toArray.size:Int)).toNat=j:=by
   rw [seqIndex_neg (by omega) h4] at h1
   rw [List.size_toArray,← hl]
   exact Option.some.inj h1
  exact subscriptTail_builtinR (x:=w) pl.isList.typeIs slot_list_getitem.lookup
   (wpAny_getItem_list_neg (Q:=fun r s'=>r=w∧EP X pins σ Q r s') pl.isList (by omega) (by rw [List.size_toArray] <;> omega) (by omega) (by rw [hj]; simpa using ew) ⟨rfl,fin⟩) hs
theorem ix_tup:IxR X (rIxT X.K):=by
 intro value slice pins s σ H x y v u Q I rx ry h hs
 obtain ⟨p,xs,i,z,rfl,rfl,hq,he,q⟩:=h
 cases rx
 obtain ⟨t,rfl⟩:=ry
 obtain ⟨its,r,pl,hz⟩:=I.tuple hq
 obtain ⟨j,h1,h2,h3,h4,h5⟩:=atI_get he
 obtain ⟨w,ew,rw'⟩:=r.get h2
 have hl:=r.length
 have hn:=line63
 have fin:EP X pins σ Q w s:=⟨z,H,I,rw',q⟩
 exact subscriptTail_builtinR (x:=w) pl.typeIs slot_tuple_getitem.lookup
  (getItem_tuple (j:=j) (Q:=fun r s'=>r=w∧EP X pins σ Q r s') pl (by omega) (by omega) (by rw [List.size_toArray,← hl]; exact h1) (by simpa using ew) ⟨rfl,fin⟩) hs
theorem ix_str:IxR X rIxS:=by
 intro value slice pins s σ H x y v u Q I rx ry h hs
 obtain ⟨z,i,c,rfl,rfl,hz,he,q⟩:=h
 obtain ⟨t,rfl⟩:=rx
 obtain ⟨t',rfl⟩:=ry
 obtain ⟨j,h1,h2,h3,h4,h5⟩:=atI_get he
 have hl:z.cps.toList.length=z.length:=by simp [Str.length]
 rw [hl] at h1 h4 h5
 have hn:=line63
 exact tail_any (typeIs_str s z t) slot_str_getitem.lookup (getItem_str (c:=c) (by
  have e1:decide (i < -(2 ^ 63:Int))=false:=decide_eq_false (by omega)
  have e2:decide (i ≥ 2 ^ 63)=false:=decide_eq_false (by omega)
  rw [e1,e2,Bool.or_false]) (by rw [h1]; simpa using h2) ⟨.str ⟨#[c]⟩,H,I.tok _,⟨_,rfl⟩,q⟩) hs
theorem slice_bounds (lo hi:Option Int) (n:Nat) : (sliceBounds lo hi none n).1=((HT.sIx n 0 lo:Nat) : Int)∧(sliceBounds lo hi none n).2.1=((HT.sIx n n hi:Nat) : Int)∧(sliceBounds lo hi none n).2.2=1:=by
 refine ⟨?_,?_,rfl⟩
 ·cases lo with
  | none=>simp [sliceBounds,HT.sIx]
  | some i =>
   simp only [sliceBounds,HT.sIx,Option.getD_none,show (1:Int) > 0 by decide,if_true]
   by_cases h:i < 0
   ·simp only [h,if_true] <;> omega
   ·simp only [h,if_false] <;> omega
 ·cases hi with
  | none=>simp [sliceBounds,HT.sIx]
  | some i =>
   simp only [sliceBounds,HT.sIx,Option.getD_none,show (1:Int) > 0 by decide,if_true]
   by_cases h:i < 0
   ·simp only [h,if_true] <;> omega
   ·simp only [h,if_false] <;> omega
theorem slicePick_cut (its:List Value) (lo hi:Option Int) : slicePick its.toArray lo hi none=((its.drop (HT.sIx its.length 0 lo)).take (HT.sIx its.length its.length hi - HT.sIx its.length 0 lo)).toArray:=by
 obtain ⟨h1,h2,h3⟩:=slice_bounds lo hi its.toArray.size
 unfold slicePick
 rw [h1,h2,h3]
 simp only [sliceRange_one,pick_run,List.size_toArray] <;> rfl
def rSlL (K:PySem.W.Frag) : V→Option Int→Option Int→Hp→VK→Prop:=fun x lo hi H Q=>∃ a xs,x = .ref a∧SqL K H a xs∧∀ p,H p=none→Q (.ref p) (upd H p (.lst (cutV xs lo hi)))
theorem sl_list:SlR X (rSlL X.K):=by
 intro pins s σ H x v vl vu lo hi sl Q I rx hs pl pu h
 obtain ⟨a,xs,rfl,hx,q⟩:=h
 cases rx
 obtain ⟨its,r,ht,hz⟩:=I.list hx
 have hlen:=r.length
 refine ⟨"list",_,slot_list_getitem.lookup,ht.isList.typeIs,?_⟩
 refine wpAny_getItem_list_slice ht.isList hs pl pu .none (by simp) ?_ (by rw [List.size_toArray] <;> omega)
 rw [slicePick_cut,← hlen]
 refine ⟨.ref s.heap.objs.size,_,I.laid (t':=s.toks) (o:=.lst (cutV xs lo hi)) (fun b ob q=>Heap.get?_push_of_some _ q) (Nat.le_refl _) ?_,rfl,q _ (I.hok.fresh (Nat.le_refl _))⟩
 exact ⟨Nat.le_trans (cutV_length xs lo hi) hz,_,0,(r.drop (HT.sIx xs.length 0 lo)).take (HT.sIx xs.length xs.length hi - HT.sIx xs.length 0 lo),Heap.get?_push_size _ rfl⟩

def flatV:V→Bool
 | .non=>true
 | .bl _=>true
 | .int _=>true
 | .str _=>true
 | _=>false
def eqV:V→V→Bool
 | .non,.non=>true
 | .bl a,.bl b=>a == b
 | .bl a,.int b=>(if a then 1 else 0) == b
 | .int a,.bl b=>a == (if b then 1 else 0)
 | .int a,.int b=>a == b
 | .str a,.str b=>a == b
 | _,_=>false
theorem eqAt_V {A:Around} {s:Shared} {y x:V} {u v:Value} (ry:RelV y u) (rx:RelV x v) (fy:flatV y=true) (fx:flatV x=true) : SeqAt.EqAt A s u v (eqV y x):=by
 cases y with
 | non =>
  cases ry
  cases x with
  | non=>cases rx; exact SeqAt.EqAt.same _
  | bl b=>cases rx; exact SeqAt.EqAt.none_bool b
  | int b=>obtain ⟨t,rfl⟩:=rx; exact SeqAt.EqAt.none_int b t
  | str b=>obtain ⟨t,rfl⟩:=rx; exact SeqAt.EqAt.none_str b t
  | _=>exact absurd (show false=true from fx) Bool.false_ne_true
 | bl a =>
  cases ry
  cases x with
  | non=>cases rx; exact SeqAt.EqAt.bool_none a
  | bl b=>cases rx; exact SeqAt.EqAt.bool_bool a b
  | int b=>obtain ⟨t,rfl⟩:=rx; exact SeqAt.EqAt.bool_int a b t
  | str b=>obtain ⟨t,rfl⟩:=rx; exact SeqAt.EqAt.bool_str a b t
  | _=>exact absurd (show false=true from fx) Bool.false_ne_true
 | int a =>
  obtain ⟨t',rfl⟩:=ry
  cases x with
  | non=>cases rx; exact SeqAt.EqAt.int_none a t'
  | bl b=>cases rx; exact SeqAt.EqAt.int_bool a t' b
  | int b=>obtain ⟨t,rfl⟩:=rx; exact SeqAt.EqAt.int_int a t' b t
  | str b=>obtain ⟨t,rfl⟩:=rx; exact SeqAt.EqAt.int_str a t' b t
  | _=>exact absurd (show false=true from fx) Bool.false_ne_true
 | str a =>
  obtain ⟨t',rfl⟩:=ry
  cases x with
  | non=>cases rx; exact SeqAt.EqAt.str_none a t'
  | bl b=>cases rx; exact SeqAt.EqAt.str_bool a t' b
  | int b=>obtain ⟨t,rfl⟩:=rx; exact SeqAt.EqAt.str_int a t' b t
  | str b=>obtain ⟨t,rfl⟩:=rx; exact SeqAt.EqAt.str_str a t' b t
  | _=>exact absurd (show false=true from fx) Bool.false_ne_true
 | _=>exact absurd (show false=true from fy) Bool.false_ne_true
theorem call_len_seq:CallR X (.builtin "len") (fun xs H Q=>∃ p ys,xs=[.ref p]∧(SqL X.K H p ys∨SqT X.K H p ys)∧Q (.int ys.length) H):=by
 intro pins s σ H xs us Q I r h
 obtain ⟨p,ys,rfl,hq,q⟩:=h
 obtain ⟨u,rfl,rx⟩:=vals1 r
 cases rx
 have hn:=line63
 rcases hq with hq | hq
 ·obtain ⟨its,r',pl,hz⟩:=I.list hq
  have hlen:=r'.length
  exact Calls.call_len_list pl.isList (by simp only [List.size_toArray] <;> omega) ⟨.int ys.length,H,I.tok _,⟨s.toks+1,by rw [List.size_toArray,hlen]⟩,q⟩
 ·obtain ⟨its,r',pl,hz⟩:=I.tuple hq
  have hlen:=r'.length
  exact len_tuple pl (by simp only [List.size_toArray] <;> omega) ⟨.int ys.length,H,I.tok _,⟨s.toks+1,by rw [List.size_toArray,hlen]⟩,q⟩
theorem call_len_str:CallR X (.builtin "len") (fun xs H Q=>∃ z,xs=[.str z]∧z.length≤sizeLine∧Q (.int z.length) H):=by
 intro pins s σ H xs us Q I r h
 obtain ⟨z,rfl,hz,q⟩:=h
 obtain ⟨u,rfl,t,rfl⟩:=vals1 r
 have hn:=line63
 exact len_str (by omega) ⟨.int z.length,H,I.tok _,⟨_,rfl⟩,q⟩
def tyV (K:PySem.W.Frag) (T:String) (x:V) (H:Hp) : Prop:=match x with
 | .str _=>T = "str"
 | .int _=>T = "int"
 | .ref p=>(T = "list"∧∃ xs,SqL K H p xs)∨(T = "tuple"∧∃ o,K.lookup p=some o∧o.cls = .type "tuple"∧o.dict=none) ∨
   (T = "dict"∧((∃ kvs,H p=some (.dK kvs))∨∃ kvs,H p=some (.dT kvs)))∨(T = "set"∧∃ S n,H p=some (.set S n))
 | _=>False
theorem tyV_is {pins:List (Addr × Obj)} {σ:St} {H:Hp} {s:Shared} {T:String} {x:V} {v:Value} (I:Inv X pins σ H s) (r:RelV x v) (ty:tyV X.K T x H) :
  s.TypeIs v T∧∀ a,v = .ref a→∃ ob,s.heap.get? a=some ob∧ob.dict=none:=by
 cases x with
 | str z =>
  obtain ⟨t,rfl⟩:=r
  cases (show T = "str" from ty)
  exact ⟨typeIs_str s z t,fun _ e=>nomatch e⟩
 | int i =>
  obtain ⟨t,rfl⟩:=r
  cases (show T = "int" from ty)
  exact ⟨typeIs_int s i t,fun _ e=>nomatch e⟩
 | ref p =>
  cases r
  rcases ty with ⟨rfl,xs,hq⟩ | ⟨rfl,o,hk,hc,hd⟩ | ⟨rfl,hk⟩ | ⟨rfl,S,n,hk⟩
  ·obtain ⟨its,_,pl,_⟩:=I.list hq
   refine ⟨pl.isList.typeIs,fun a e=>?_⟩
   cases e
   obtain ⟨o,n,e,c,hd,_⟩:=pl
   exact ⟨o,e,hd⟩
  ·refine ⟨⟨o,I.kIn p o hk,hc⟩,fun a e=>?_⟩
   cases e
   exact ⟨o,I.kIn _ o hk,hd⟩
  ·have z:∃ o,s.heap.get? p=some o∧o.ExactDict:=by
    rcases hk with ⟨kvs,hk⟩ | ⟨kvs,hk⟩
    ·obtain ⟨_,_,_,_,o,_,_,e,ex,_⟩:=I.hok p _ hk
     exact ⟨o,e,ex⟩
    ·obtain ⟨_,_,_,_,o,_,_,e,ex,_⟩:=I.hok p _ hk
     exact ⟨o,e,ex⟩
   obtain ⟨o,e,ex⟩:=z
   refine ⟨⟨o,e,ex.1⟩,fun a e2=>?_⟩
   cases e2
   exact ⟨o,e,ex.2.1⟩
  ·obtain ⟨o,_,_,_,e,ex,_⟩:=I.hok p _ hk
   refine ⟨⟨o,e,ex.1⟩,fun a e2=>?_⟩
   cases e2
   exact ⟨o,e,ex.2.1⟩
 | _=>exact False.elim ty
def tBM0 (K:PySem.W.Frag) (T:String) (r:V→List V→Hp→VK→Prop) (to:TE) : TE:=fun σ H Q=>to σ H fun x H1=>tyV K T x H1∧r x [] H1 Q
def tBM (K:PySem.W.Frag) (T:String) (r:V→List V→Hp→VK→Prop) (to:TE) (t:TA) : TE:=fun σ H Q=>to σ H fun x H1=>tyV K T x H1∧t σ H1 fun xs H2=>r x xs H2 Q
variable {o e:Expr} {es:List Expr} {to:TE} {t:TA} {name:Str} {apos cpos:Pos} {T id:String} {r:V→List V→Hp→VK→Prop}
theorem pe_bm0 (pa:PlainAttrs T) (slot:Slot T name id) (hty:typeOf (.builtin id)=pure (.type "method_descriptor")) (hm:MtR X id r) (ho:PE X o to)
  (hbase:attributeBase o name X.env (eval o X.env)=eval o X.env:=by rfl) (hline:(apos.endLine == cpos.line)=true:=by rfl) : PE X (.Call (.Attribute o name apos) [] [] cpos) (tBM0 X.K T r to):=by
 intro pins s σ H Q I h
 refine wpAny_Call_method0_late hbase hline (thn (ho pins s σ H _ I h) fun v s1 ⟨x,H1,I1,r1,ty,q1⟩=>?_)
 obtain ⟨h1,h2⟩:=tyV_is I1 r1 ty
 exact ⟨T,id,pa,slot,hty,h1,h2,Calls.callWith_builtin rfl (PySem.evalArgs_none (hm pins s1 σ H1 x [] v [] Q I1 r1 .nil q1))⟩
theorem pe_bm (pa:PlainAttrs T) (slot:Slot T name id) (hty:typeOf (.builtin id)=pure (.type "method_descriptor")) (hm:MtR X id r) (ho:PE X o to) (ha:PA X (e :: es) t)
  (hbase:attributeBase o name X.env (eval o X.env)=eval o X.env:=by rfl)
  (hfew:((backTo cpos (starEach (e :: es) X.env)).all (fun x=>!x.1) && (backToKw cpos (keywordEach [] X.env)).all (fun x=>x.1.isSome)
   && decide ((e :: es).length+([] : List Keyword).length+(if ([] : List Keyword).isEmpty then 0 else 1) < 30))=true:=by rfl)
  (hline:(apos.endLine == cpos.line)=true:=by rfl) (hs:starEach (e :: es) X.env=(false,eval e X.env) :: starEach es X.env:=by rfl) (hplain:(backTo cpos (starEach es X.env)).any (·.1)=false:=by rfl) :
  PE X (.Call (.Attribute o name apos) (e :: es) [] cpos) (tBM X.K T r to t):=by
 intro pins s σ H Q I h
 refine wpAny_Call_method_late hbase hfew hline rfl (thn (ho pins s σ H _ I h) fun v s1 ⟨x,H1,I1,r1,ty,q1⟩=>?_)
 obtain ⟨h1,h2⟩:=tyV_is I1 r1 ty
 refine ⟨T,id,pa,slot,hty,h1,h2,?_⟩
 have hA:=ha cpos pins s1 σ H1 _ I1 q1
 rw [hs] at hA ⊢
 refine Calls.callWith_builtin (by show (false || (backTo cpos (starEach es X.env)).any (·.1))=false; rw [hplain] <;> rfl) (Calls.evalArgs_plain ?_)
 exact thn hA fun us s2 ⟨vs,H2,I2,r2,q2⟩=>hm pins s2 σ H2 x vs v us Q I2 r1 r2 q2
end

def MtM (X:Cx) (id:String) (r:V→List V→Hp→VK→Prop) : Prop:=
 ∀ (pins:List (Addr × Obj)) (s:Shared) (σ:St) (H:Hp) (x:V) (xs:List V) (v:Value) (us:List Value) (Q:VK),Inv X pins σ H s→RelV x v→Vals xs us→r x xs H Q →
  wpAny (model X.prog X.w) X.A (call (.builtin id) (v :: us)) (EP X pins σ Q) X.xe s

theorem Vals.one:∀ {x:V} {us:List Value},Vals [x] us→∃ u,us=[u]∧RelV x u
 | _,_,.cons r .nil=>⟨_,rfl,r⟩
theorem Vals.zero:∀ {us:List Value},Vals [] us→us=[]
 | _,.nil=>rfl
theorem Vals.dropLast {xs:List V} {us:List Value} (h:Vals xs us) : Vals xs.dropLast us.dropLast:=by
 induction h with
 | nil=>exact .nil
 | cons r t ih =>
  cases t with
  | nil=>exact .nil
  | cons q t'=>exact .cons r ih
theorem Vals.rep {xs:List V} {us:List Value} (h:Vals xs us) : ∀ k:Nat,Vals (List.replicate k xs).flatten (List.replicate k us).flatten
 | 0=>.nil
 | k+1=>by
  rw [List.replicate_succ,List.replicate_succ,List.flatten_cons,List.flatten_cons]
  exact Vals.append h (Vals.rep h k)
theorem erase_last {α:Type} (l:List α) : l.eraseIdx (l.length - 1)=l.dropLast:=by
 induction l with
 | nil=>rfl
 | cons a r ih =>
  cases r with
  | nil=>rfl
  | cons b r =>
   have e:(a :: b :: r).length - 1=((b :: r).length - 1)+1:=by
    have h1:(a :: b :: r).length=r.length+2:=rfl
    have h2:(b :: r).length=r.length+1:=rfl
    omega
   rw [e,List.eraseIdx_cons_succ,ih]
   all_goals rfl
theorem foldl_rep (its:List Value) : ∀ (k:Nat) (acc:List Value),
  List.foldl (fun x1 x2=>x1++x2) acc.toArray (List.replicate k its.toArray)=(acc++(List.replicate k its).flatten).toArray
 | 0,acc=>by simp
 | k+1,acc=>by
  have e:acc.toArray++its.toArray=(acc++its).toArray:=by simp
  have e2:(acc++its)++(List.replicate k its).flatten=acc++(List.replicate (k+1) its).flatten:=by
   rw [List.replicate_succ,List.flatten_cons,List.append_assoc]
  rw [← e2,← foldl_rep its k (acc++its),← e,List.replicate_succ,List.foldl_cons]

section
variable {X:Cx} {pins:List (Addr × Obj)} {σ:St} {H:Hp} {s:Shared} {l b:Addr} {xs ys zs:List V}

theorem Inv.lset {its its':List Value} {n:Nat} {f:Array Value→Array Value} {t':Nat} (I:Inv X pins σ H s) (hH:H l=some (.lst xs))
  (e:s.heap.get? l=some { cls:=.type "list",data:=.seq its.toArray n }) (hf:f its.toArray=its'.toArray) (hv:Vals ys its') (hz:ys.length≤sizeLine) :
  Inv X pins σ (upd H l (.lst ys)) { s with heap:=s.heap.update l (Obj.mapSeq f),toks:=t' }:=by
 have q:=PySem.IsL.update e f
 rw [hf] at q
 refine I.write (x:=l) (e:=l) (by rw [hH]; exact trivial) (.inl rfl) (fun b' u hb hu=>(Heap.get?_update_other s.heap (Obj.mapSeq f) (Ne.symm hb)).trans hu) ⟨_,q⟩ ?_
 exact ⟨hz,its',_,hv,q⟩
theorem Inv.lnew {its:List Value} {t':Nat} (I:Inv X pins σ H s) (hv:Vals ys its) (hz:ys.length≤sizeLine) :
  Inv X pins σ (upd H s.heap.objs.size (.lst ys)) { s with heap:=s.heap.push { cls:=.type "list",data:=.seq its.toArray },toks:=t' }:=
 I.laid (fun _ _ q=>Heap.get?_push_of_some _ q) (Nat.le_refl _) ⟨hz,its,0,hv,Heap.get?_push_size _ rfl⟩
theorem Inv.fresh (I:Inv X pins σ H s) : H s.heap.objs.size=none:=I.hok.fresh (Nat.le_refl _)
theorem Inv.lstM (I:Inv X pins σ H s) (hH:H l=some (.lst xs)) : xs.length≤sizeLine∧∃ (its:List Value) (n:Nat),Vals xs its∧xs.length=its.length∧s.heap.get? l=some { cls:=.type "list",data:=.seq its.toArray n }:=by
 obtain ⟨z,its,n,r,e⟩:=I.hok l _ hH
 exact ⟨z,its,n,r,r.length,e⟩

theorem notLongL {n:Nat} (h:n≤sizeLine) : Builtin.List.listTooLong n=false:=by
 unfold Builtin.List.listTooLong
 exact decide_eq_false (by omega)
end

section
variable {X:Cx}

def rAppend:V→List V→Hp→VK→Prop:=fun x vs H Q=>∃ l xs y,x = .ref l∧vs=[y]∧H l=some (.lst xs)∧xs.length < sizeLine∧Q .non (upd H l (.lst (xs++[y])))
theorem mt_append:MtM X "list.append" rAppend:=by
 intro pins s σ H x vs v us Q I rx rv h
 obtain ⟨l,xs,y,rfl,rfl,hH,hz,q⟩:=h
 cases rx
 obtain ⟨u,rfl,ru⟩:=rv.one
 obtain ⟨z,its,n,r,hl,e⟩:=I.lstM hH
 refine call_meets F.slot_list_append ⟨_,e,rfl⟩ F.entry_list_append (F.args_list_append_2 _ _) (PySem.list_append l its.toArray n u (by rw [List.size_toArray]; omega)) ⟨e,?_⟩
 refine ⟨.non,_,I.lset (its':=its++[u]) hH e (by simp) (r.append (.cons ru .nil)) ?_,rfl,q⟩
 rw [List.length_append,List.length_singleton]
 omega

def rPop:V→List V→Hp→VK→Prop:=fun x vs H Q=>∃ l xs y,x = .ref l∧vs=[]∧H l=some (.lst xs)∧xs[xs.length - 1]? = some y∧Q y (upd H l (.lst xs.dropLast))
theorem mt_pop:MtM X "list.pop" rPop:=by
 intro pins s σ H x vs v us Q I rx rv h
 obtain ⟨l,xs,y,rfl,rfl,hH,hy,q⟩:=h
 cases rx
 have hus:=rv.zero
 subst hus
 obtain ⟨z,its,n,r,hl,e⟩:=I.lstM hH
 obtain ⟨u,hu,ru⟩:=r.get hy
 have hy':its.toArray[its.toArray.size - 1]? = some u:=by
  show its.toArray[its.length - 1]? = some u
  rw [← Array.getElem?_toList,← hl]
  exact hu
 refine call_meets F.slot_list_pop ⟨_,e,rfl⟩ F.entry_list_pop (F.args_list_pop_1 _) (MeetsSeq.list_pop_last l its.toArray n u hy' (by rw [List.size_toArray]; omega)) ⟨e,?_⟩
 refine ⟨y,_,I.lset (its':=its.dropLast) hH e ?_ r.dropLast ?_,ru,q⟩
 ·show its.toArray.eraseIdxIfInBounds (its.toArray.size - 1)=its.dropLast.toArray
  rw [List.size_toArray,List.eraseIdxIfInBounds_toArray,erase_last]
 ·rw [List.length_dropLast]
  omega

def rCat:R2:=fun x y H Q=>∃ l b xs zs,x = .ref l∧y = .ref b∧H l=some (.lst xs)∧H b=some (.lst zs)∧xs.length+zs.length≤sizeLine∧∀ p,H p=none→Q (.ref p) (upd H p (.lst (xs++zs)))
theorem op_cat:OpR X (binaryOp .Add) rCat:=by
 intro pins s σ H x y v u Q I rx ry h
 obtain ⟨l,b,xs,zs,rfl,rfl,hH,hB,hz,q⟩:=h
 cases rx
 cases ry
 obtain ⟨z,its,n,r,hl,e⟩:=I.lstM hH
 obtain ⟨z2,its2,n2,r2,hl2,e2⟩:=I.lstM hB
 refine PySem.P.add_list e e2 ?_ (by rw [List.size_toArray,List.size_toArray]; omega)
 have ea:its.toArray++its2.toArray=(its++its2).toArray:=by simp
 rw [ea]
 exact ⟨.ref _,_,I.lnew (t':=s.toks) (r.append r2) (by rw [List.length_append]; omega),rfl,q _ I.fresh⟩
def rRep:R2:=fun x y H Q=>∃ l k xs,x = .ref l∧y = .int k∧H l=some (.lst xs)∧-(2 ^ 63)≤k∧k < 2 ^ 63∧xs.length * k.toNat≤sizeLine ∧
 ∀ p,H p=none→Q (.ref p) (upd H p (.lst (List.replicate k.toNat xs).flatten))
theorem len_rep {α:Type} (xs:List α) (k:Nat) : (List.replicate k xs).flatten.length=k * xs.length:=by
 induction k with
 | zero=>simp
 | succ k ih=>rw [List.replicate_succ,List.flatten_cons,List.length_append,ih,Nat.succ_mul,Nat.add_comm]
theorem op_rep:OpR X (binaryOp .Mult) rRep:=by
 intro pins s σ H x y v u Q I rx ry h
 obtain ⟨l,k,xs,rfl,rfl,hH,h1,h2,hz,q⟩:=h
 cases rx
 obtain ⟨t,rfl⟩:=ry
 obtain ⟨z,its,n,r,hl,e⟩:=I.lstM hH
 have hlen:its.toArray.size * k.toNat≤sizeLine:=by rw [List.size_toArray,← hl]; exact hz
 have hcap:¬ its.toArray.size * k.toNat > (2 ^ 63 - 1) / 8:=by
  have:(sizeLine:Nat)≤(2 ^ 63 - 1) / 8:=by decide
  omega
 have hfit:¬ (!Builtin.List.listFitsIndex k)=true:=by
  rw [fitsIndex_both h1 h2]
  exact Bool.false_ne_true
 have hlong:¬ Builtin.List.listTooLong (its.toArray.size * k.toNat)=true:=by
  rw [notLongL hlen]
  exact Bool.false_ne_true
 have hnew:List.foldl (fun x1 x2=>x1++x2) #[] (List.replicate (if its.toArray.isEmpty=true then 0 else k.toNat) its.toArray)=(List.replicate k.toNat its).flatten.toArray:=by
  have f0:∀ m:Nat,List.foldl (fun x1 x2=>x1++x2) #[] (List.replicate m its.toArray)=(List.replicate m its).flatten.toArray:=fun m=>by
   have:=foldl_rep its m []
   rw [List.nil_append] at this
   exact this
  rw [f0]
  cases its with
  | nil=>simp
  | cons a r'=>rw [if_neg (by simp)]
 refine wpAny_binaryOp_repeat_ref (T := "list") (U := "int") (by decide) ⟨_,e,rfl⟩ (fun s'=>typeIs_int s' k t) noFill_list_mul F.fills_int_mul F.slot_int_rmul repeat_list F.slot_int_index.lookup
  (call_meets F.slot_int_rmul (typeIs_int s k t) F.entry_int_rmul (F.args_int_rmul_2 _ _) (int___rmul___int_list k t l its.toArray n)
   ⟨e,rfl,⟨_,e,rfl⟩,call_meets F.slot_list_mul ⟨_,e,rfl⟩ F.entry_list_mul (F.args_list_mul_2 _ _) (AutoListH.list___mul___list_int_3 l its.toArray n k t hfit hcap hlong) ⟨e,?_⟩⟩)
 rw [hnew]
 exact ⟨.ref _,_,I.lnew (t':=s.toks) (r.rep k.toNat) (by rw [len_rep,Nat.mul_comm]; exact hz),rfl,q _ I.fresh⟩

end

section
variable {prog:Program} {w:World} {A:Around} {E:Value→Shared→Prop} {s:Shared}
end

section
variable {X:Cx}
end

section
variable {κ:Type} [DecidableEq κ]
def valV (kvs:List (κ × V)) (k:κ) : Option V:=(kvs.find? fun kv=>decide (kv.1=k)).map (·.2)
def putK (kvs:List (κ × V)) (k:κ) (v:V) : List (κ × V):=
 if (kvs.any fun kv=>decide (kv.1=k))=true then kvs.map (fun kv=>if kv.1=k then (kv.1,v) else kv) else kvs++[(k,v)]
def dropK (kvs:List (κ × V)) (k:κ) : List (κ × V):=kvs.filter fun kv=>decide (kv.1≠k)

theorem valV_pos {p:κ × V} {r:List (κ × V)} {k:κ} (e:p.1=k) : valV (p :: r) k=some p.2:=by simp [valV,List.find?_cons,e]
theorem valV_neg {p:κ × V} {r:List (κ × V)} {k:κ} (e:¬ p.1=k) : valV (p :: r) k=valV r k:=by simp [valV,List.find?_cons,e]
theorem valV_any (k:κ) : ∀ kvs:List (κ × V),(kvs.any fun kv=>decide (kv.1=k))=(valV kvs k).isSome
 | []=>rfl
 | p :: r=>by
  rw [List.any_cons]
  by_cases e:p.1=k
  ·simp only [valV_pos e,decide_eq_true e,Bool.true_or,Option.isSome_some]
  ·rw [valV_neg e,decide_eq_false e,Bool.false_or]; exact valV_any k r
theorem length_putK (kvs:List (κ × V)) (k:κ) (v:V) : (putK kvs k v).length≤kvs.length+1:=by
 unfold putK
 split
 ·rw [List.length_map]; omega
 ·rw [List.length_append,List.length_cons,List.length_nil]; omega
theorem putK_new {kvs:List (κ × V)} {k:κ} (v:V) (h:valV kvs k=none) : putK kvs k v=kvs++[(k,v)]:=by
 unfold putK
 rw [valV_any,h]
 exact if_neg (by decide)

theorem RelO.isSome_eq {o:Option V} {u:Option Value} (r:RelO o u) : o.isSome=u.isSome:=by
 cases o with
 | none=>cases u with
  | none=>rfl
  | some _=>exact (show False from r).elim
 | some _=>cases u with
  | none=>exact (show False from r).elim
  | some _=>rfl
theorem RelO.getD {o:Option V} {u:Option Value} {d:V} {d':Value} (r:RelO o u) (rd:RelV d d') : RelV (o.getD d) (u.getD d'):=by
 cases o with
 | none=>cases u with
  | none=>exact rd
  | some _=>exact (show False from r).elim
 | some _=>cases u with
  | none=>exact (show False from r).elim
  | some _=>exact r

theorem KV.val {kvs:List (κ × V)} {vs:List (κ × Value)} (r:KV kvs vs) (k:κ) : RelO (valV kvs k) (valueAt vs k):=by
 unfold KV at r
 induction r with
 | nil=>exact True.intro
 | @cons p q ps qs h t ih =>
  obtain ⟨h1,h2⟩:=h
  by_cases e:p.1=k
  ·have e':q.1=k:=h1.symm.trans e
   have b:valueAt (q :: qs) k=some q.2:=by simp [valueAt,List.find?_cons,e']
   rw [valV_pos e,b]; exact h2
  ·have e':¬ q.1=k:=fun z=>e (h1.trans z)
   have b:valueAt (q :: qs) k=valueAt qs k:=by simp [valueAt,List.find?_cons,e']
   rw [valV_neg e,b]; exact ih
theorem KV.any {kvs:List (κ × V)} {vs:List (κ × Value)} (r:KV kvs vs) (k:κ) : (kvs.any fun kv=>decide (kv.1=k))=vs.any fun kv=>decide (kv.1=k):=by
 unfold KV at r
 induction r with
 | nil=>rfl
 | cons h t ih=>rw [List.any_cons,List.any_cons,ih,h.1]
theorem KV.repl {kvs:List (κ × V)} {vs:List (κ × Value)} (r:KV kvs vs) (k:κ) {y:V} {u:Value} (ry:RelV y u) :
  KV (kvs.map fun kv=>if kv.1=k then (kv.1,y) else kv) (vs.map fun kv=>if kv.1=k then (kv.1,u) else kv):=by
 unfold KV at r ⊢
 induction r with
 | nil=>exact .nil
 | @cons p q ps qs h t ih =>
  rw [List.map_cons,List.map_cons]
  refine .cons ?_ ih
  obtain ⟨h1,h2⟩:=h
  by_cases e:p.1=k
  ·rw [if_pos e,if_pos (h1.symm.trans e)]; exact ⟨h1,ry⟩
  ·rw [if_neg e,if_neg (fun z=>e (h1.trans z))]; exact ⟨h1,h2⟩
theorem KV.put {kvs:List (κ × V)} {vs:List (κ × Value)} (r:KV kvs vs) (k:κ) {y:V} {u:Value} (ry:RelV y u) : KV (putK kvs k y) (stored vs k u):=by
 unfold putK stored
 rw [r.any k]
 by_cases e:(vs.any fun kv=>decide (kv.1=k))=true
 ·rw [if_pos e,if_pos e]; exact r.repl k ry
 ·rw [if_neg e,if_neg e]; exact Paired.snoc r ⟨rfl,ry⟩
theorem KV.drop {kvs:List (κ × V)} {vs:List (κ × Value)} (r:KV kvs vs) (k:κ) : KV (dropK kvs k) (without vs k):=by
 unfold KV at r ⊢
 unfold dropK without
 induction r with
 | nil=>exact .nil
 | @cons p q ps qs h t ih =>
  obtain ⟨h1,h2⟩:=h
  rw [List.filter_cons,List.filter_cons]
  by_cases e:p.1=k
  ·have a:¬ decide (p.1≠k)=true:=by simp [e]
   have b:¬ decide (q.1≠k)=true:=by simp [h1.symm.trans e]
   rw [if_neg a,if_neg b]; exact ih
  ·have e':¬ q.1=k:=fun z=>e (h1.trans z)
   have a:decide (p.1≠k)=true:=by simp [e]
   have b:decide (q.1≠k)=true:=by simp [e']
   rw [if_pos a,if_pos b]; exact .cons ⟨h1,h2⟩ ih
theorem KV.keys {kvs:List (κ × V)} {vs:List (κ × Value)} (r:KV kvs vs) : kvs.map (·.1)=vs.map (·.1):=by
 unfold KV at r
 induction r with
 | nil=>rfl
 | cons h t ih=>rw [List.map_cons,List.map_cons,ih,h.1]
theorem KV.length {kvs:List (κ × V)} {vs:List (κ × Value)} (r:KV kvs vs) : kvs.length=vs.length:=Paired.length r
theorem dropK_le (kvs:List (κ × V)) (k:κ) : (dropK kvs k).length≤kvs.length:=List.length_filter_le _ _
end


theorem kV_is {P:Program} {w:World} {k:Key} {u:Value} (r:RelV (kV k) u) : (mixKind P w).is k u=true:=by
 cases k with
 | inl i=>obtain ⟨t,e⟩:=(show ∃ t,u=Value.int i t from r); subst e; exact mixKind_int P w i t
 | inr x=>obtain ⟨t,e⟩:=(show ∃ t,u=Value.str x t from r); subst e; exact mixKind_str P w x t
theorem items_are {P:Program} {w:World} : ∀ {ks:List Key} {us:List Value},Vals (ks.map kV) us→ItemsAre (mixKind P w) ks us
 | [],_,r=>by rw [List.map_nil] at r; cases r; exact .nil
 | k :: ks,_,r=>by
  rw [List.map_cons] at r
  cases r with
  | cons h t=>exact .cons (kV_is h) (items_are t)

abbrev KT (H:Hp) : List (List Key × V)→List (List Key × Addr × Value)→Prop:=Paired fun p q=>p.1=q.1∧H q.2.1=some (.tup (p.1.map kV))∧RelV p.2 q.2.2
theorem KT.val {H:Hp} {kvs:List (List Key × V)} {xs:List (List Key × Addr × Value)} (r:KT H kvs xs) (k:List Key) : RelO (valV kvs k) ((atKey xs k).map (·.2)):=by
 induction r with
 | nil=>exact True.intro
 | @cons p q ps qs h t ih =>
  obtain ⟨h1,_,h2⟩:=h
  by_cases e:p.1=k
  ·have e':q.1=k:=h1.symm.trans e
   have b:atKey (q :: qs) k=some q.2:=by simp [atKey,List.find?_cons,e']
   rw [valV_pos e,b]; exact h2
  ·have e':¬ q.1=k:=fun z=>e (h1.trans z)
   have b:atKey (q :: qs) k=atKey qs k:=by simp [atKey,List.find?_cons,e']
   rw [valV_neg e,b]; exact ih
theorem KT.repl {H:Hp} {kvs:List (List Key × V)} {xs:List (List Key × Addr × Value)} (r:KT H kvs xs) (k:List Key) {y:V} {u:Value} (ry:RelV y u) :
  KT H (kvs.map fun kv=>if kv.1=k then (kv.1,y) else kv) (xs.map (putAt k u)):=by
 induction r with
 | nil=>exact .nil
 | @cons p q ps qs h t ih =>
  rw [List.map_cons,List.map_cons]
  refine .cons ?_ ih
  obtain ⟨h1,h2,h3⟩:=h
  unfold putAt
  by_cases e:p.1=k
  ·rw [if_pos e,if_pos (h1.symm.trans e)]; exact ⟨h1,h2,ry⟩
  ·rw [if_neg e,if_neg (fun z=>e (h1.trans z))]; exact ⟨h1,h2,h3⟩
theorem KT.put {H:Hp} {kvs:List (List Key × V)} {xs:List (List Key × Addr × Value)} (r:KT H kvs xs) (k:List Key) {b:Addr} {y:V} {u:Value} (hb:H b=some (.tup (k.map kV))) (ry:RelV y u) :
  KT H (putK kvs k y) (storedH xs k b u):=by
 have e:(kvs.any fun kv=>decide (kv.1=k))=(atKey xs k).isSome:=by
  rw [valV_any,(r.val k).isSome_eq,Option.isSome_map]
 unfold putK storedH
 rw [e]
 by_cases q:(atKey xs k).isSome=true
 ·rw [if_pos q,if_pos q]; exact r.repl k ry
 ·rw [if_neg q,if_neg q]; exact Paired.snoc r ⟨rfl,hb,ry⟩
theorem KT.keeps {H H':Hp} {kvs:List (List Key × V)} {xs:List (List Key × Addr × Value)} (r:KT H kvs xs) (ht:∀ b ys,H b=some (.tup ys)→H' b=some (.tup ys)) : KT H' kvs xs:=
 Paired.mapP r fun _ _ z=>⟨z.1,ht _ _ z.2.1,z.2.2⟩

section
variable {P:Program} {w:World} {H:Hp} {h:Heap} {a:Addr}
theorem rd_of {u:HO} (ok:HOk P w H h) (e:Rd H a u) : ObjOk P w H h a u:=e.ok ok
theorem dk_rd {kvs:List (Key × V)} (ok:HOk P w H h) (e:Rd H a (.dK kvs)) : kvs.length≤sizeLine∧(a == sysModules)=false∧∃ vs,KV kvs vs∧h.DictOf (mixKind P w) a vs:=
 show ObjOk P w H h a (.dK kvs) from rd_of ok e
theorem dk_of {kvs:List (Key × V)} (ok:HOk P w H h) (e:H a=some (.dK kvs)) : kvs.length≤sizeLine∧(a == sysModules)=false∧∃ vs,KV kvs vs∧h.DictOf (mixKind P w) a vs:=dk_rd ok (.inl e)
theorem key_of {ks:List Key} (ok:HOk P w H h) (e:H a=some (.tup (ks.map kV))) : (tupleKind (mixKind P w)).is h ks a:=by
 obtain ⟨_,its,r,o,h1,h2,n,h3⟩:=(show ObjOk P w H h a (.tup (ks.map kV)) from ok a _ e)
 exact ⟨o,its.toArray,n,h1,h2,h3,by simpa using items_are r⟩
theorem dt_rd {kvs:List (List Key × V)} (ok:HOk P w H h) (e:Rd H a (.dT kvs)) : kvs.length≤sizeLine∧(a == sysModules)=false ∧
  ∃ xs,KT H kvs xs∧h.DictOfH (tupleKind (mixKind P w)) a xs:=by
 obtain ⟨z,y,xs,r,o,es,ep,h1,h2,h3,h4,h5⟩:=(show ObjOk P w H h a (.dT kvs) from rd_of ok e)
 refine ⟨z,y,xs,r,o,es,ep,h1,h2,h3,h4,fun x hx=>?_,h5⟩
 have all:∀ {l:List (List Key × V)} {m:List (List Key × Addr × Value)},KT H l m→∀ x ∈ m,(tupleKind (mixKind P w)).is h x.1 x.2.1:=by
  intro l m q
  induction q with
  | nil=>intro x hx; exact nomatch hx
  | @cons p q ps qs hq t ih =>
   intro x hx
   rcases List.mem_cons.mp hx with e | hx
   ·subst e
    exact key_of ok (by rw [← hq.1]; exact hq.2.1)
   ·exact ih x hx
 exact all r x hx
theorem dt_of {kvs:List (List Key × V)} (ok:HOk P w H h) (e:H a=some (.dT kvs)) : kvs.length≤sizeLine∧(a == sysModules)=false ∧
  ∃ xs,KT H kvs xs∧h.DictOfH (tupleKind (mixKind P w)) a xs:=dt_rd ok (.inl e)
end

def DGet (H:Hp) (a:Addr) (y:V) (r:Option V) : Prop:=
 (∃ kvs k,Rd H a (.dK kvs)∧y=kV k∧r=valV kvs k)∨∃ kvs k b,Rd H a (.dT kvs)∧y = .ref b∧H b=some (.tup (k.map kV))∧r=valV kvs k
def DPut (H:Hp) (a:Addr) (y v:V) (H':Hp) : Prop:=
 (∃ kvs k,H a=some (.dK kvs)∧y=kV k∧kvs.length < sizeLine∧H' = upd H a (.dK (putK kvs k v))) ∨
 ∃ kvs k b,H a=some (.dT kvs)∧y = .ref b∧H b=some (.tup (k.map kV))∧kvs.length < sizeLine∧H' = upd H a (.dT (putK kvs k v))
theorem DGet.k {H:Hp} {a:Addr} {kvs:List (Key × V)} {k:Key} (e:H a=some (.dK kvs)) : DGet H a (kV k) (valV kvs k):=.inl ⟨kvs,k,.inl e,rfl,rfl⟩
theorem DPut.k {H:Hp} {a:Addr} {kvs:List (Key × V)} {k:Key} {v:V} (e:H a=some (.dK kvs)) (hl:kvs.length < sizeLine) : DPut H a (kV k) v (upd H a (.dK (putK kvs k v))):=.inl ⟨kvs,k,e,rfl,hl,rfl⟩
section
variable {X:Cx} {pins:List (Addr × Obj)} {σ:St} {H:Hp} {s:Shared} {a:Addr} {y v:V} {u r:Value} {o:Option V} {A:Around} {E:Value→Shared→Prop}

theorem Inv.big (I:Inv X pins σ H s) : sysModules < s.heap.objs.size:=by
 have h:mainGlobals < s.heap.objs.size:=(I.mod.glob.keeps I.bk).lt
 exact Nat.lt_trans (by decide) h

theorem d_getItem {Q:Value→Shared→Prop} (hu:A.units+1 < cLine) (I:Inv X pins σ H s) (g:DGet H a y (some v)) (ry:RelV y u) (h:∀ w' s',Inv X pins σ H s'→RelV v w'→Q w' s') :
  wpAny (model X.prog X.w) A (getItem (.ref a) u) Q E s:=by
 rcases g with ⟨kvs,k,e,ey,l⟩ | ⟨kvs,k,b,e,ey,eb,l⟩
 ·subst ey
  obtain ⟨z,hd,vs,rel,dd⟩:=dk_rd I.hok e
  obtain ⟨w',hw,rw'⟩:=RelO.some_of (v:=v) (o:=valueAt vs k) (by rw [l]; exact rel.val k)
  exact wpAny_getItem_of (kV_is ry) dd.mapOf hw (h w' _ (I.tok _) rw')
 ·subst ey
  cases (show u=Value.ref b from ry)
  obtain ⟨z,hd,xs,rel,dd⟩:=dt_rd I.hok e
  obtain ⟨w',hw,rw'⟩:=RelO.some_of (v:=v) (o:=(atKey xs k).map (·.2)) (by rw [l]; exact rel.val k)
  obtain ⟨p,hp,hp2⟩:=Option.map_eq_some_iff.mp hw
  refine wpAny_getItem_heap (tupleKind_room_in1 hu) (key_of I.hok eb) dd hp ?_
  rw [hp2]
  exact h w' _ (I.tok _) rw'
theorem d_in {Q:Value→Shared→Prop} (hu:A.units+1 < cLine) (I:Inv X pins σ H s) (g:DGet H a y o) (ry:RelV y u) (h:∀ s',Inv X pins σ H s'→Q (.bool o.isSome) s') :
  wpAny (model X.prog X.w) A (compareOp .In u (.ref a)) Q E s:=by
 rcases g with ⟨kvs,k,e,ey,l⟩ | ⟨kvs,k,b,e,ey,eb,l⟩
 ·subst ey
  obtain ⟨z,hd,vs,rel,dd⟩:=dk_rd I.hok e
  refine wpAny_in_of (kV_is ry) hd dd.mapOf ?_
  rw [← (rel.val k).isSome_eq,← l]
  exact h _ (I.tok _)
 ·subst ey
  cases (show u=Value.ref b from ry)
  obtain ⟨z,hd,xs,rel,dd⟩:=dt_rd I.hok e
  refine wpAny_in_heap (tupleKind_room_in1 hu) (key_of I.hok eb) hd dd ?_
  have q:=(rel.val k).isSome_eq
  rw [Option.isSome_map] at q
  rw [← q,← l]
  exact h _ (I.tok _)
theorem d_notIn {Q:Value→Shared→Prop} (hu:A.units+1 < cLine) (I:Inv X pins σ H s) (g:DGet H a y o) (ry:RelV y u) (h:∀ s',Inv X pins σ H s'→Q (.bool (!o.isSome)) s') :
  wpAny (model X.prog X.w) A (compareOp .NotIn u (.ref a)) Q E s:=by
 rcases g with ⟨kvs,k,e,ey,l⟩ | ⟨kvs,k,b,e,ey,eb,l⟩
 ·subst ey
  obtain ⟨z,hd,vs,rel,dd⟩:=dk_rd I.hok e
  refine wpAny_notIn_of (kV_is ry) hd dd.mapOf ?_
  rw [← (rel.val k).isSome_eq,← l]
  exact h _ (I.tok _)
 ·subst ey
  cases (show u=Value.ref b from ry)
  obtain ⟨z,hd,xs,rel,dd⟩:=dt_rd I.hok e
  refine wpAny_notIn_heap (tupleKind_room_in1 hu) (key_of I.hok eb) hd dd ?_
  have q:=(rel.val k).isSome_eq
  rw [Option.isSome_map] at q
  rw [← q,← l]
  exact h _ (I.tok _)
theorem d_write {h':Heap} {t':Nat} {ob:HO} (I:Inv X pins σ H s) (mu:Mut (H a)) (hs:Heap.SameBut a s.heap h') (he:∃ q,h'.get? a=some q) (new:ObjOk X.prog X.w (upd H a ob) h' a ob) :
  Inv X pins σ (upd H a ob) { s with heap:=h',toks:=t' }:=
 I.write (x:=a) (e:=a) mu (.inl rfl) (fun b q hb z=>(hs.2 b hb).trans z) he new
theorem dk_new {P:Program} {w:World} {H':Hp} {h':Heap} {kvs:List (Key × V)} {vs:List (Key × Value)} (z:kvs.length≤sizeLine) (hd:(a == sysModules)=false) (rel:KV kvs vs) (dd:h'.DictOf (mixKind P w) a vs) :
  ObjOk P w H' h' a (.dK kvs):=⟨z,hd,vs,rel,dd⟩
theorem d_setItem {H':Hp} {Q:Unit→Shared→Prop} (hu:A.units+1 < cLine) (I:Inv X pins σ H s) (g:DPut H a y v H') (ry:RelV y u) (rv:RelV v r) (h:∀ s',Inv X pins σ H' s'→Q () s') :
  wpAny (model X.prog X.w) A (setItem (.ref a) u r) Q E s:=by
 rcases g with ⟨kvs,k,e,ey,l,eH⟩ | ⟨kvs,k,b,e,ey,eb,l,eH⟩
 ·subst ey eH
  obtain ⟨z,hd,vs,rel,dd⟩:=dk_of I.hok e
  have hz:vs.length≤sizeLine:=by rw [← rel.length]; exact z
  have hl:(putK kvs k v).length≤sizeLine:=by have:=length_putK kvs k v; omega
  refine wpAny_setItem_pairs (hsz:=hz) (kV_is ry) dd fun h' dd' hs=>h _ ?_
  have he:∃ q,h'.get? a=some q:=let ⟨q,_,_,hq,_⟩:=dd'; ⟨q,hq⟩
  exact d_write I (by rw [e]; exact True.intro) hs he (dk_new hl hd (rel.put k rv) dd')
 ·subst ey eH
  cases (show u=Value.ref b from ry)
  obtain ⟨z,hd,xs,rel,dd⟩:=dt_of I.hok e
  have hz:xs.length≤sizeLine:=by rw [← Paired.length rel]; exact z
  have hl:(putK kvs k v).length≤sizeLine:=by have:=length_putK kvs k v; omega
  refine wpAny_setItem_heap (hsz:=hz) (tupleKind_room_in1 hu) (key_of I.hok eb) dd fun h' dd' hs=>h _ ?_
  obtain ⟨q,es,ep,hq,h2,h3,h4,_,h5⟩:=dd'
  refine d_write I (by rw [e]; exact True.intro) hs ⟨q,hq⟩ ⟨hl,hd,_,(rel.put k eb rv).keeps fun c ys ec=>?_,q,es,ep,hq,h2,h3,h4,h5⟩
  rw [upd_ne (ne_of ec e (fun z=>nomatch z))]
  exact ec
end

section
variable {X:Cx} {pins:List (Addr × Obj)} {σ:St} {H:Hp} {s:Shared} {a:Addr} {kvs:List (Key × V)} {k:Key} {u:Value} {A:Around} {E:Value→Shared→Prop}
theorem d_pop {v:V} {more:List Value} {Q:Value→Shared→Prop} (I:Inv X pins σ H s) (e:H a=some (.dK kvs)) (ry:RelV (kV k) u) (l:valV kvs k=some v) (hm:more=[]∨∃ x,more=[x])
  (h:∀ w' s',Inv X pins σ (upd H a (.dK (dropK kvs k))) s'→RelV v w'→Q w' s') : wpAny (model X.prog X.w) A (call (.builtin "dict.pop") (.ref a :: u :: more)) Q E s:=by
 obtain ⟨z,hd,vs,rel,dd⟩:=dk_of I.hok e
 obtain ⟨w',hw,rw'⟩:=RelO.some_of (v:=v) (o:=valueAt vs k) (by rw [← l]; exact rel.val k)
 have hp:(keyPart u).isSome=true:=by
  cases k with
  | inl i=>obtain ⟨t,q⟩:=(show ∃ t,u=Value.int i t from ry); subst q; rfl
  | inr x=>obtain ⟨t,q⟩:=(show ∃ t,u=Value.str x t from ry); subst q; rfl
 have ha:argsOk "dict.pop" ⟨.ref a :: u :: more,[]⟩:=by
  rcases hm with q | ⟨x,q⟩
  ·subst q; exact PySem.F.args_dict_pop_2 _ _
  ·subst q; exact PySem.F.args_dict_pop_3 _ _ _
 refine call_meetsIn PySem.F.slot_dict_pop dd.typeIs PySem.F.entry_dict_pop ha (meets_dict_pop_there (mixKind X.prog X.w) a (kV_is ry) more hm hp)
  ⟨vs,w',dd,by rw [← rel.length]; exact z,hw,fun h' dd' hs=>h w' _ ?_ rw'⟩
 have he:∃ q,h'.get? a=some q:=let ⟨q,_,_,hq,_⟩:=dd'; ⟨q,hq⟩
 exact d_write I (by rw [e]; exact True.intro) hs he (dk_new (Nat.le_trans (dropK_le kvs k) z) hd (rel.drop k) dd')
theorem d_len {Q:Value→Shared→Prop} (I:Inv X pins σ H s) (e:Rd H a (.dK kvs)) (h:∀ t s',Inv X pins σ H s'→Q (.int kvs.length t) s') : wpAny (model X.prog X.w) A (call (.builtin "len") [.ref a]) Q E s:=by
 obtain ⟨z,hd,vs,rel,dd⟩:=dk_rd I.hok e
 refine call_len_dict hd dd (by rw [← rel.length]; rw [sizeLine_eq] at z; omega) ?_
 rw [← rel.length]
 exact h _ _ (I.tok _)
end


def NoSl (i:Expr) : Prop:=∀ ov iv,subscripted i false ov iv=operate [ov,iv] (getItem ov iv)
theorem subD_of {prog:Program} {w:World} {A:Around} {E:Value→Shared→Prop} {s:Shared} {env:Env} {value slice:Expr} {pos:Pos} {T id:String} {Q:Value→Shared→Prop}
  (hl:typeLookup (.type T) "__getitem__" = pure (some (.builtin id))) (hs:NoSl slice)
  (h:wpAny (model prog w) A (eval value env) (fun o s₁=>wpAny (model prog w) A (eval slice env) (fun i s₂=>s₂.TypeIs o T∧wpAny (model prog w) A (getItem o i) Q E s₂) E s₁) E s) :
  wpAny (model prog w) A (eval (.Subscript value slice pos) env) Q E s:=by
 refine Subscript_ (wpAny_mono h (fun o s₁ h₁=>wpAny_mono h₁ (fun i s₂ h₂=>?_) fun _ _ x=>x) fun _ _ x=>x)
 obtain ⟨hT,h₂⟩:=h₂
 unfold subscriptTail
 refine wpAny_bind ?_
 rw [getitemInPython_of_ne hT.not_modules]
 refine wpAny_bind (wpAny_specialOf hT hl ?_)
 have fin:wpAny (model prog w) A (subscripted slice false o i) (fun r s₃=>wpAny (model prog w) A (letTemporaryGo value o r >>= fun _=>pure r) Q E s₃) E s₂:=by
  rw [hs o i]
  exact wpAny_operating (wpAny_mono h₂ (fun r s₃ h₃=>wpAny_bind (wpAny_letTemporaryGo (wpAny_pure h₃))) fun _ _ x=>x)
 first
  | exact wpAny_pure (wpAny_bind fin)
  | exact wpAny_bind (wpAny_pure (wpAny_bind fin))
  | exact wpAny_bind fin

theorem dict_typeIs {X:Cx} {pins:List (Addr × Obj)} {σ:St} {H:Hp} {s:Shared} {a:Addr} {y:V} {o:Option V} (I:Inv X pins σ H s) (g:DGet H a y o) : s.TypeIs (.ref a) "dict":=by
 rcases g with ⟨kvs,k,e,_,_⟩ | ⟨kvs,k,b,e,_,_,_⟩
 ·obtain ⟨_,_,vs,_,dd⟩:=dk_rd I.hok e
  exact dd.typeIs
 ·obtain ⟨_,_,xs,_,dd⟩:=dt_rd I.hok e
  exact dd.typeIs
def tDGet (td ty:TE) : TE:=fun σ H Q=>td σ H fun x H1=>ty σ H1 fun y H2=>∃ a v,x = .ref a∧DGet H2 a y (some v)∧Q v H2
def sDPut (td ty tv:TE) : TS:=fun D σ H=>tv σ H fun v H1=>td σ H1 fun x H2=>ty σ H2 fun y H3=>∃ a H4,x = .ref a∧DPut H3 a y v H4∧D.nx σ H4
section
variable {X:Cx} {o i e value:Expr} {pos pos' tpos:Pos} {td ty tv:TE}
theorem pe_dget (hu:X.A.units+1 < cLine) (ho:PE X o td) (hi:PE X i ty) (hs:NoSl i) : PE X (.Subscript o i pos) (tDGet td ty):=by
 intro pins s σ H Q I h
 refine subD_of PySem.F.slot_dict_getitem.lookup hs (thn (ho pins s σ H _ I h) fun u s1 ⟨x,H1,I1,rx,q1⟩=>thn (hi pins s1 σ H1 _ I1 q1) fun iv s2 ⟨y,H2,I2,ry,a,v,ex,g,q2⟩=>?_)
 subst ex
 obtain rfl:u=Value.ref a:=rx
 exact ⟨dict_typeIs I2 g,d_getItem hu I2 g ry fun w' s3 I3 rw'=>⟨v,H2,I3,rw',q2⟩⟩
theorem ps_dput (hu:X.A.units+1 < cLine) (ho:PE X o td) (hi:PE X i ty) (hv:PE X value tv) (hs:swapsWith value (some (.Subscript o i pos')) pos.line X.env=pure false) :
  PS X (.Assign [.Subscript o i pos'] value pos) (sDPut td ty tv):=by
 intro pins s σ H D I h
 refine wpAny_Assign_Subscript (thn (hv pins s σ H _ I h) fun r s1 ⟨v,H1,I1,rv,q1⟩=>thn (ho pins s1 σ H1 _ I1 q1) fun u s2 ⟨x,H2,I2,rx,q2⟩=>thn (hi pins s2 σ H2 _ I2 q2) fun iv s3 ⟨y,H3,I3,ry,a,H4,ex,g,q3⟩=>?_) hs
 subst ex
 obtain rfl:u=Value.ref a:=rx
 exact d_setItem hu I3 g ry rv fun s4 I4=>⟨σ,H4,I4,q3⟩
end


theorem dk_empty {P:Program} {w:World} {H:Hp} (h:Heap) (hb:sysModules < h.objs.size) : ObjOk P w H (h.push { cls:=.type "dict",data:=.dict #[] }) h.objs.size (.dK []):=
 ⟨Nat.zero_le _,beq_eq_false_iff_ne.mpr (Ne.symm (Nat.ne_of_lt hb)),[],.nil,Heap.DictOf.new h⟩
def tDNewK:TE:=fun _ H Q=>∀ p,H p=none→Q (.ref p) (upd H p (.dK []))
section
variable {X:Cx} {pos:Pos}
theorem pe_dnewK:PE X (.Dict [] [] pos) tDNewK:=fun pins s σ H Q I h =>
 wpAny_Dict_empty ⟨.ref s.heap.objs.size,_,I.laid (a:=s.heap.objs.size) (o:=.dK []) (t':=s.toks) (fun _ _ q=>Heap.get?_push_of_some _ q) (Nat.le_refl _) (dk_empty s.heap I.big),rfl,h _ (I.hok.fresh (Nat.le_refl _))⟩
end

structure M1 (X:Cx) (o:Expr) (m:Str) (apos:Pos) (e:Expr) (cpos:Pos) : Prop where
 base:attributeBase o m X.env (eval o X.env)=eval o X.env
 few:((backTo cpos (starEach [e] X.env)).all (fun x=>!x.1) && (backToKw cpos (keywordEach [] X.env)).all (fun x=>x.1.isSome)
  && decide (([e] : List Expr).length+([] : List Keyword).length+(if ([] : List Keyword).isEmpty then 0 else 1) < 30))=true
 line:(apos.endLine == cpos.line)=true
 trees:backTo cpos (starEach [e] X.env)=[(false,eval e X.env)]
structure M2 (X:Cx) (o:Expr) (m:Str) (apos:Pos) (e f:Expr) (cpos:Pos) : Prop where
 base:attributeBase o m X.env (eval o X.env)=eval o X.env
 few:((backTo cpos (starEach [e,f] X.env)).all (fun x=>!x.1) && (backToKw cpos (keywordEach [] X.env)).all (fun x=>x.1.isSome)
  && decide (([e,f] : List Expr).length+([] : List Keyword).length+(if ([] : List Keyword).isEmpty then 0 else 1) < 30))=true
 line:(apos.endLine == cpos.line)=true
 trees:backTo cpos (starEach [e,f] X.env)=[(false,eval e X.env),(false,eval f X.env)]

def IsD (H:Hp) (a:Addr) : Prop:=(∃ kvs,Rd H a (.dK kvs))∨∃ kvs,Rd H a (.dT kvs)
theorem isD_at {X:Cx} {pins:List (Addr × Obj)} {σ:St} {H:Hp} {s:Shared} {a:Addr} (I:Inv X pins σ H s) (d:IsD H a) :
  s.TypeIs (.ref a) "dict"∧(∀ b,Value.ref a = .ref b→∃ ob,s.heap.get? b=some ob∧ob.dict=none)∧(a == sysModules)=false:=by
 rcases d with ⟨kvs,e⟩ | ⟨kvs,e⟩
 ·obtain ⟨_,hd,vs,_,dd⟩:=dk_rd I.hok e
  refine ⟨dd.typeIs,fun b q=>?_,hd⟩
  cases q
  obtain ⟨ob,_,_,h1,h2,_⟩:=dd
  exact ⟨ob,h1,h2.2.1⟩
 ·obtain ⟨_,hd,xs,_,dd⟩:=dt_rd I.hok e
  refine ⟨dd.typeIs,fun b q=>?_,hd⟩
  cases q
  obtain ⟨ob,_,_,h1,h2,_⟩:=dd
  exact ⟨ob,h1,h2.2.1⟩

section
variable {X:Cx} {pins:List (Addr × Obj)} {σ:St} {H:Hp} {s:Shared} {a:Addr} {y d:V} {u r:Value} {o:Option V} {A:Around} {E:Value→Shared→Prop}
theorem d_get2 {Q:Value→Shared→Prop} (hu:A.units+1 < cLine) (I:Inv X pins σ H s) (g:DGet H a y o) (ry:RelV y u) (rd:RelV d r) (h:∀ w' s',Inv X pins σ H s'→RelV (o.getD d) w'→Q w' s') :
  wpAny (model X.prog X.w) A (call (.builtin "dict.get") [.ref a,u,r]) Q E s:=by
 rcases g with ⟨kvs,k,e,ey,l⟩ | ⟨kvs,k,b,e,ey,eb,l⟩
 ·subst ey
  obtain ⟨z,hd,vs,rel,dd⟩:=dk_rd I.hok e
  refine call_meetsIn PySem.F.slot_dict_get dd.typeIs PySem.F.entry_dict_get (PySem.F.args_dict_get_3 _ _ _) (meets_dict_get_default (mixKind X.prog X.w) a (kV_is ry) hd r) ⟨_,dd.mapOf,h _ _ (I.tok _) ?_⟩
  rw [l]
  exact (rel.val k).getD rd
 ·subst ey
  cases (show u=Value.ref b from ry)
  obtain ⟨z,hd,xs,rel,dd⟩:=dt_rd I.hok e
  refine call_meetsIn PySem.F.slot_dict_get dd.typeIs PySem.F.entry_dict_get (PySem.F.args_dict_get_3 _ _ _) (meetsH_dict_get_default (tupleKind (mixKind X.prog X.w)) a b hd r) ⟨tupleKind_room_in1 hu,k,xs,key_of I.hok eb,dd,h _ _ (I.tok _) ?_⟩
  rw [l]
  exact (rel.val k).getD rd
end

def tDGet2 (td ty tx:TE) : TE:=fun σ H Q=>td σ H fun x H1=>∃ a,x = .ref a∧IsD H1 a∧ty σ H1 fun y H2=>tx σ H2 fun z H3=>∃ o,DGet H3 a y o∧Q (o.getD z) H3
def tDPop1 (td ty:TE) : TE:=fun σ H Q=>td σ H fun x H1=>∃ a,x = .ref a∧IsD H1 a∧ty σ H1 fun y H2=>∃ kvs k v,H2 a=some (.dK kvs)∧y=kV k∧valV kvs k=some v∧Q v (upd H2 a (.dK (dropK kvs k)))
section
variable {X:Cx} {o e f:Expr} {apos cpos:Pos} {td ty tx:TE}
theorem pe_dget2 (hu:X.A.units+1 < cLine) (ho:PE X o td) (he:PE X e ty) (hf:PE X f tx) (m:M2 X o "get" apos e f cpos) : PE X (.Call (.Attribute o "get" apos) [e,f] [] cpos) (tDGet2 td ty tx):=by
 intro pins s σ H Q I h
 refine wpAny_Call_method m.base m.few m.line PySem.F.plainAttrs_dict PySem.F.slot_dict_get PySem.F.type_dict_get (thn (ho pins s σ H _ I h) fun u s1 ⟨x,H1,I1,rx,a,ex,d,q1⟩=>?_)
 subst ex
 obtain rfl:u=Value.ref a:=rx
 obtain ⟨t1,t2,_⟩:=isD_at I1 d
 refine ⟨t1,t2,?_⟩
 rw [m.trees]
 refine Calls.callWith_builtin rfl (Calls.evalArgs_plain (Calls.spliced_cons (thn (he pins s1 σ H1 _ I1 q1) fun iv s2 ⟨y,H2,I2,ry,q2⟩ =>
  Calls.spliced_cons (thn (hf pins s2 σ H2 _ I2 q2) fun fv s3 ⟨z,H3,I3,rz,ov,g,q3⟩=>Calls.spliced_nil ?_))))
 exact d_get2 hu I3 g ry rz fun w' s4 I4 rw'=>⟨_,H3,I4,rw',q3⟩
theorem pe_dpop1 (ho:PE X o td) (he:PE X e ty) (m:M1 X o "pop" apos e cpos) : PE X (.Call (.Attribute o "pop" apos) [e] [] cpos) (tDPop1 td ty):=by
 intro pins s σ H Q I h
 refine wpAny_Call_method m.base m.few m.line PySem.F.plainAttrs_dict PySem.F.slot_dict_pop PySem.F.type_dict_pop (thn (ho pins s σ H _ I h) fun u s1 ⟨x,H1,I1,rx,a,ex,d,q1⟩=>?_)
 subst ex
 obtain rfl:u=Value.ref a:=rx
 obtain ⟨t1,t2,_⟩:=isD_at I1 d
 refine ⟨t1,t2,?_⟩
 rw [m.trees]
 refine Calls.callWith_builtin rfl (Calls.evalArgs_plain (Calls.spliced_cons (thn (he pins s1 σ H1 _ I1 q1) fun iv s2 ⟨y,H2,I2,ry,kvs,k,v,ea,ey,l,q2⟩=>Calls.spliced_nil ?_)))
 subst ey
 exact d_pop I2 ea ry l (.inl rfl) fun w' s3 I3 rw'=>⟨v,_,I3,rw',q2⟩
end

section
variable {X:Cx} {pins:List (Addr × Obj)} {σ:St} {H:Hp} {s:Shared} {a:Addr} {kvs:List (Key × V)} {A:Around} {E:Value→Shared→Prop}
theorem d_copyOf {Q:Value→Shared→Prop} (I:Inv X pins σ H s) (e:Rd H a (.dK kvs)) (h:∀ p s',H p=none→Inv X pins σ (upd H p (.dK kvs)) s'→Q (.ref p) s') : wpAny (model X.prog X.w) A (call (.type "dict") [.ref a]) Q E s:=by
 obtain ⟨z,hd,vs,rel,dd⟩:=dk_rd I.hok e
 refine kt_call_dict hd dd (by rw [← rel.length]; exact z) fun h' dd' hs=>?_
 refine h _ _ (I.hok.fresh (Nat.le_refl _)) (I.laid (a:=s.heap.objs.size) (o:=.dK kvs) (t':=s.toks) (fun b q hq=>?_) (Nat.le_refl _) (dk_new z (beq_eq_false_iff_ne.mpr (Ne.symm (Nat.ne_of_lt I.big))) rel dd'))
 exact (hs.2 b (Nat.ne_of_lt (Heap.lt_size hq))).trans (Heap.get?_push_of_some _ hq)
end


section
variable {X:Cx} {pins:List (Addr × Obj)} {σ:St} {H:Hp} {s:Shared} {a:Addr} {y:V} {u:Value} {A:Around} {E:Value→Shared→Prop}
end
end L2

namespace Att
open PySem PySem.W PySem.Calls PyProof.Rows

theorem ints_of_wellAll {P:Params} {h:Heap} : ∀ (ns:List Int) (vs:List Value),WellAll P h vs (ns.map WData.int)→IntsAre vs ns:=by
 intro ns
 induction ns with
 | nil =>
  intro vs w
  rw [List.map_nil] at w
  cases w
  exact .nil
 | cons n ns ih =>
  intro vs w
  rw [List.map_cons] at w
  cases w with
  | cons a b =>
   cases a
   exact .cons _ _ (ih _ b)

theorem script_of {l:OpenLaw} {n:Nat} (hn:l.most=some n) {P:Params} {h:Heap} {args:List WData} {vals:List Value}
  (hpre:l.row.toRowW.claim.pre args=true) (hwl:WellAll P h vals args) :
  ∃ a vs ns,vals=[Value.ref a]∧args=[WData.list (ns.map WData.int)]∧h.get? a=some { cls:=.type "list",data:=.seq vs.toArray }∧IntsAre vs ns∧ns.length≤n:=by
 have hsh:WShape.hasAll [] args [.list .int]=true:=(pre_splitW hpre).1
 have hc:l.pre.holds [] { args:=args }=true:=(pre_splitW hpre).2
 obtain ⟨d,r,rfl,h1,h2⟩:=hasAllW_cons hsh
 obtain rfl:=hasAllW_nil h2
 obtain ⟨xs,rfl,h3⟩:=hasW_list h1
 obtain ⟨ns,rfl⟩:=items_int h3
 have hlen:ns.length≤n:=by
  unfold OpenLaw.pre at hc
  have h4:(WTm.not (.lt (.lit (.int (n:Int))) (.len (.arg 0)))).holds [] { args:=[.list (ns.map .int)] }=true:=by
   have h4:=(holds_andW hc).1
   rw [hn] at h4
   exact h4
  have h5:=condW_of h4 (w_not (w_lt w_lit (w_len_list (w_arg rfl))))
  rw [List.length_map] at h5
  refine Nat.le_of_not_lt fun q=>?_
  have q':(n:Int) < ((ns.length:Nat) : Int):=by omega
  first
   | (rw [decide_eq_true q'] at h5; exact absurd h5 (by decide))
   | (simp at h5; omega)
 cases hwl with
 | cons w1 w2 =>
  cases w2
  cases w1 with
  | list ho hall=>exact ⟨_,_,ns,rfl,rfl,ho,ints_of_wellAll ns _ hall,hlen⟩

theorem post_true (l:OpenLaw) (args:List WData) : l.row.toRowW.claim.post args (.bool true) args=true:=
 postW_of (r:=l.row.toRowW) (X:=(true == true))
  (show WShape.has [] (.bool true) .bool=true by first | rfl | decide | simp [WShape.has,WShape.arms,WShape.armsAll])
  (show (WTm.eq .res (.lit (.bool true))).value [] { args:=args,res:=some (.bool true),after:=args }=some (.bool (true == true)) from w_eq_bool (w_res rfl) w_lit) rfl

theorem attach_call {l:OpenLaw} {n:Nat} {q:Program} {loose:List Str} {XP:(Str→Option Value)→Heap→Prop} {YP:World→Heap→Prop} {d:DefRec}
  (hn:l.most=some n) (hdf:d.params.defaults=[])
  (call:∀ (w:World) (s₀ s₁:Shared) (mg mb:Str→Option Value) (fa:Addr) (o:Obj) (pm cd doc:Value) (a:Addr) (vs:List Value) (ns:List Int),
   Ground q loose [] XP w s₀ mg mb s₁.heap→YP w s₁.heap →
   s₁.heap.get? fa=some o→o.data = .func (docDef d.name d.params d.body d.scope pm cd doc)→s₁.heap.CodeRec cd d.name→mg d.name=some (.ref fa) →
   s₁.heap.get? a=some { cls:=.type "list",data:=.seq vs.toArray }→IntsAre vs ns→ns.length≤n→s₁.gens = #[] →
   codeAny (model l.prog w) callerA (.call (.ref fa) ⟨[.ref a],[]⟩) (fun r s'=>r = .ok (.ret (.bool true))∧OldK s₁.heap s'.heap∧s'.os=s₁.os∧AllBare s'.gens) s₁) :
  WalkO q loose XP YP l.row.toRowW d [] (fun f vs=>PySem.call f vs):=by
 intro w s₀ s₁ mg mb G Y fa o pm cd doc dV kV ho hd hcd hD hmg hg args vals as hpre hlay hrd hwl hlo
 obtain rfl:dV = .none:=Dflts.none hD hdf
 obtain rfl:kV = .none:=Dflts.noKw hD
 obtain ⟨a,vs,ns,rfl,rfl,hobj,hints,hlen⟩:=script_of hn hpre hwl
 refine enter_call (codeAny_mono (call w s₀ s₁ mg mb fa o pm cd doc a vs ns G Y ho (fd_plain hd) hcd hmg hobj hints hlen hg) fun r s' hq=>?_)
 obtain ⟨rfl,h2,h3,h4⟩:=hq
 exact ⟨.inl ⟨.bool true,.bool true,[],rfl,fun _=>rfl,.bool true,post_true l _,fun _=>⟨List.Pairwise.nil,fun _ hm=>(nomatch hm)⟩⟩,h2,h3,h4⟩

section
variable {prog:Program} {w:World} {A:Around} {E:Value→Shared→Prop} {s:Shared} {K:Frag}

end
end Att

namespace L2
open PySem PySem.Spec PyProof.Rows

theorem vals_ints:∀ {vs:List Value} {ns:List Int},IntsAre vs ns→Vals (ns.map V.int) vs
 | _,_,.nil=>.nil
 | _,_,.cons n t h=>.cons ⟨t,rfl⟩ (vals_ints h)

def Only (H:Hp) : Prop:=∀ b,H b=none∨∃ o xs,H b=some (.frz o (.lst xs))

theorem law_call {P:Program} {w:World} {K:PySem.W.Frag} {mg mb:Str→Option Value} {CX:CXT} {k:Nat} {fa a:Addr} {fd:FuncData} {x:Str} {sp:Sp} {s₁:Shared} {vs:List Value} {ns:List Int}
  (KX:K.In s₁.heap) (hns:s₁.heap.Ns mainGlobals mg) (hb:s₁.heap.Ns builtinsNs mb) (hbb:∀ x:Str,x≠"__name__"→mb x=bootBuiltins x) (hlim:s₁.heap.NoLimit) (hg:s₁.gens = #[])
  (ha:s₁.heap.get? a=some { cls:=.type "list",data:=.seq vs.toArray }) (hi:IntsAre vs ns) (hl:ns.length≤sizeLine) (hr:Room k callerA)
  (F:∀ base:Heap,K.In base→base.Ns mainGlobals mg→FnOk P w K mg base CX k fa fd [x] sp) (hbind:∀ (s:Shared) (u:Value),BindsTo s fd ⟨[u],[]⟩ [(x,u)])
  (hsp:∀ H:Hp,Only H→SqL K H a (ns.map V.int)→sp [.ref a] H (fun v _=>v = .bl true) fun _ _ _=>False)
  (hCX:∀ H e s',CX [] H s₁ (fun _ _ _=>False) e s'→False) :
  codeAny (model P w) callerA (.call (.ref fa) ⟨[.ref a],[]⟩) (fun r s'=>r = .ok (.ret (.bool true))∧OldK s₁.heap s'.heap∧s'.os=s₁.os∧AllBare s'.gens) s₁:=by
 have rv:=vals_ints hi
 have lenV:=hi.length
 -- from an abstract heap in which nothing but the script may be tracked
 have core:∀ H:Hp,Only H→SqL K H a (ns.map V.int)→HOk P w H s₁.heap→(∀ b,H b≠none→b=a)→(H a≠none→K.lookup a=none) →
   codeAny (model P w) callerA (.call (.ref fa) ⟨[.ref a],[]⟩) (fun r s'=>r = .ok (.ret (.bool true))∧OldK s₁.heap s'.heap∧s'.os=s₁.os∧AllBare s'.gens) s₁:=by
  intro H hO hS hok hA hK
  have base_of:∀ {b:Addr} {o:Obj},s₁.heap.get? b=some o→H b=none→(hidT s₁.heap H).get? b=some o:=fun e n=>hidT_get e n
  have noA:∀ {b:Addr} {o:Obj} {es:Array DictEntry} {ep:Nat},s₁.heap.get? b=some o→o.data = .dict es ep→H b=none:=fun {b o es ep} e d=>by
   cases q:H b with
   | none=>rfl
   | some u =>
    have e':b=a:=hA b (by rw [q]; simp)
    subst e'
    rw [ha] at e; cases e
    have d':Data.seq vs.toArray _=Data.dict es ep:=d
    cases d'
  have nsK:∀ {b:Addr} {m:Str→Option Value},s₁.heap.Ns b m→(hidT s₁.heap H).Ns b m:=fun {b m} ⟨o,es,ep,e,d,r⟩=>⟨o,es,ep,base_of e (noA e d),d,r⟩
  have hKb:K.In (hidT s₁.heap H):=fun b o e=>base_of (KX b o e) (by
   cases q:H b with
   | none=>rfl
   | some u =>
    have e':b=a:=hA b (by rw [q]; simp)
    subst e'
    rw [hK (by rw [q]; simp)] at e; cases e)
  have hM:Mod K mg (hidT s₁.heap H):=⟨hKb,nsK hns,⟨mb,nsK hb,hbb⟩,let ⟨mc,h1,h2⟩:=hlim; ⟨mc,nsK h1,h2⟩⟩
  have e0:Env0 P w K mg (hidT s₁.heap H) callerA [] s₁ H:=⟨rfl,hM,fun b o e=>of_hidT e,Nat.le_of_eq (hidT_size _ _),trivial,fun b hb=>absurd (show b ∈ ([] : List Addr) from hb) (by simp),hok,.of_eq hg⟩
  refine codeAny_mono ((F _ hKb (nsK hns)).run callerA [] s₁ H ⟨[.ref a],[]⟩ [.ref a] [.ref a] _ _ hr e0 (hbind s₁ (.ref a)) (.cons rfl .nil) (hsp H hO hS)) fun r s' h=>?_
  cases r with
  | error e=>exact (hCX H e s' h).elim
  | ok fl =>
   cases fl with
   | next=>exact False.elim h
   | brk=>exact False.elim h
   | cont=>exact False.elim h
   | ret u =>
    obtain ⟨v,H',os,bare,un,hok',r',q⟩:=h
    have q':v = .bl true:=q
    subst q'
    obtain rfl:u=Value.bool true:=r'
    refine ⟨rfl,OldK.of_keep fun b o e=>?_,os,bare⟩
    cases q:H b with
    | none=>exact un.keep b o e q (by intro z; exact absurd (show b ∈ ([] : List Addr) from z) (by simp)) (by simp)
    | some u =>
     rcases hO b with z | ⟨ob,xs,z⟩
     ·rw [q] at z; cases z
     ·have z2:=un.frzs b ob _ z
      obtain ⟨e1,_⟩:=hok b _ z
      obtain ⟨e2,_⟩:=hok' b _ z2
      rw [e] at e1; cases e1
      exact e2
 cases hk:K.lookup a with
 | some o =>
  -- the script is one of the module's own objects
  have e:=KX a o hk
  rw [ha] at e
  cases e
  refine core (fun _=>none) (fun _=>.inl rfl) (.inr ⟨_,vs.toArray,_,hk,rfl,rfl,rfl,by rw [List.size_toArray,lenV]; exact hl,by simpa using rv⟩) (fun b u z=>by have z':(none:Option HO)=some u:=z; cases z') (fun b z=>absurd rfl z) fun z=>absurd rfl z
 | none =>
  refine core (fun b=>if b=a then some (.frz { cls:=.type "list",data:=.seq vs.toArray } (.lst (ns.map V.int))) else none) (fun b=>?_) (.inl (.inr ⟨{ cls:=.type "list",data:=.seq vs.toArray },if_pos rfl⟩)) (fun b u z=>?_) (fun b z=>?_) fun _=>hk
  ·by_cases hb:b=a
   ·exact .inr ⟨_,_,if_pos hb⟩
   ·exact .inl (if_neg hb)
  ·by_cases hb:b=a
   ·have z':=(if_pos hb).symm.trans z
    cases z'
    subst hb
    exact ⟨ha,by rw [List.length_map]; exact hl,vs,_,rv,ha⟩
   ·have z':=(if_neg hb).symm.trans z
    cases z'
  ·by_cases hb:b=a
   ·exact hb
   ·exact absurd (if_neg hb) z

theorem walk_of {l:PySem.W.OpenLaw} {n k:Nat} {q:Program} {loose:List Str} {XP:(Str→Option Value)→Heap→Prop} {YP:World→Heap→Prop} {d:DefRec} {K:Params→PySem.W.Frag} {CX:World→CXT} {sp:World→Sp} {x:Str}
  (hn:l.most=some n) (hn2:n≤sizeLine) (hdf:d.params.defaults=[]) (hr:Room k callerA)
  (hY:∀ (w:World) (h:Heap),YP w h→(K w.params).In h)
  (F:∀ (w:World) (mg:Str→Option Value) (fa:Addr) (h:Heap),(K w.params).In h→h.Ns mainGlobals mg→mg d.name=some (.ref fa) →
   ∃ fd:FuncData,(∀ (s:Shared) (u:Value),BindsTo s fd ⟨[u],[]⟩ [(x,u)]) ∧
    ∀ base:Heap,(K w.params).In base→base.Ns mainGlobals mg→FnOk l.prog w (K w.params) mg base (CX w) k fa fd [x] (sp w))
  (hsp:∀ (w:World) (H:Hp) (a:Addr) (ns:List Int),ns.length≤n→Only H→SqL (K w.params) H a (ns.map V.int)→sp w [.ref a] H (fun v _=>v = .bl true) fun _ _ _=>False)
  (hCX:∀ (w:World) (H:Hp) (s:Shared) (e:Value) (s':Shared),CX w [] H s (fun _ _ _=>False) e s'→False) :
  PySem.W.WalkO q loose XP YP l.row.toRowW d [] (fun f vs=>PySem.call f vs):=by
 refine Att.attach_call hn hdf fun w s₀ s₁ mg mb fa o pm cd doc a vs ns G Y ho hd hcd hmg hobj hints hlen hg=>?_
 have KX:=hY w _ Y
 obtain ⟨fd,hb,hF⟩:=F w mg fa _ KX G.T.g hmg
 exact law_call KX G.T.g G.T.b G.T.builtins G.T.nolimit hg hobj hints (Nat.le_trans hlen hn2) hr hF hb (fun H hO hS=>hsp w H a ns hlen hO hS) fun H e s'=>hCX w H s₁ e s'

abbrev CX0:CXT:=fun _ _ _ _ _ _=>False
abbrev E0:XK:=fun _ _ _=>False
theorem pass0 {X:Cx} : Passes CX0 X E0:=fun _ _ _ _ _ _ _ h=>h.elim

structure Fun (K:PySem.W.Frag) (x qual:Str) (st:Stmt) (f:Addr) (fd:FuncData) : Prop where
 ex:∃ (oc:Value) (od:Option Addr) (kV doc pm:Value) (an:Option Addr) (cdv ct:Value) (osl:Array (Option Value)),
  fd=PySem.W.fnOf x qual (defArgs st) (defBody st) (defScope st) .none kV doc pm an cdv ct∧K.lookup f=some ⟨oc,od,.func fd,osl⟩∧PySem.W.codeIn K cdv qual=true
 kp:PySem.W.keepIn K (.ref f)=true
section
variable {P:Program} {w:World} {K:PySem.W.Frag} {mg:Str→Option Value} {base:Heap}
theorem Fun.ok {x qual:Str} {st:Stmt} {f:Addr} {fd:FuncData} {N ps:List Str} {k:Nat} {sp:Sp} (F:Fun K x qual st f fd) (S:FnScope N ps (defScope st)) (len:∀ vs H Q E,sp vs H Q E→vs.length=ps.length)
  (hbody:∀ (cdv:Value) (A:Around) (outer:List Env) (s:Shared) (H:Hp) (vs:List V) (Q:VK) (E:XK),Room k (A.deeper (envOfC qual (defScope st) s.heap.objs.size f cdv))→sp vs H Q E →
   ∃ t,PSs (cxOf CX0 P w K mg base N qual (defScope st) f cdv A outer s H E).nox (defBody st) t∧t { nx:=fun _ H'=>Q .non H',rt:=Q } (start N vs) H) : FnOk P w K mg base CX0 (k+1) f fd ps sp:=by
 obtain ⟨oc,od,kV,doc,pm,an,cdv,ct,osl,rfl,lk,hcd⟩:=F.ex
 refine fn_of lk hcd S len fun A outer s H vs Q E hr hsp=>?_
 obtain ⟨t,h,q⟩:=hbody cdv A outer s H vs Q E hr hsp
 exact ⟨t,h.nox,q⟩
theorem Fun.binds {x qual:Str} {st:Stmt} {f:Addr} {fd:FuncData} {ps:List Str} (F:Fun K x qual st f fd)
  (h:∀ (kV doc pm:Value) (an:Option Addr) (cdv ct:Value) (us:List Value),us.length=ps.length→bindArgs (PySem.W.fnOf x qual (defArgs st) (defBody st) (defScope st) .none kV doc pm an cdv ct) ⟨us,[]⟩=pure (ps.zip us)) : Binds K fd ps []:=by
 obtain ⟨oc,od,kV,doc,pm,an,cdv,ct,osl,rfl,lk,hcd⟩:=F.ex
 exact .all (h kV doc pm an cdv ct)
theorem fun_mk {x qual:Str} {st:Stmt} {f:Addr} {oc:Value} {od an:Option Addr} {osl:Array (Option Value)} {kV doc pm cdv ct:Value} (l:K.lookup f=some ⟨oc,od,.func (PySem.W.fnOf x qual (defArgs st) (defBody st) (defScope st) .none kV doc pm an cdv ct),osl⟩)
  (c:PySem.W.codeIn K cdv qual=true) (k:PySem.W.keepIn K (.ref f)=true) : Fun K x qual st f (PySem.W.fnOf x qual (defArgs st) (defBody st) (defScope st) .none kV doc pm an cdv ct):=⟨⟨oc,od,kV,doc,pm,an,cdv,ct,osl,rfl,l,c⟩,k⟩
end
theorem hu_of {A:Around} {k:Nat} (hr:Room k A) : A.units+1 < cLine:=Nat.lt_of_le_of_lt (Nat.add_le_add_left (by decide:1≤64) _) hr.units
theorem small1000 {n:Nat} (h:n≤1000) : n < sizeLine:=Nat.lt_of_le_of_lt h (by decide)

section
variable {X:Cx}
theorem pv (i:Nat) {x:Str} {pos:Pos} (hN:X.N[i]? = some x:=by rfl) (hv:Vis X.env.scope x:=by first | exact Or.inl rfl | exact Or.inr (Or.inl rfl) | exact Or.inr (Or.inr rfl)) (hd:(x == ("__debug__" : Str))=false:=by decide)
  (hcd:(x == ("__classdict__" : Str))=false:=by decide) : PE X (.Name x pos) (tVar i):=pe_var hN hv hd hcd
theorem call_lenD:CallR X (.builtin "len") (fun xs H Q=>∃ a kvs,xs=[V.ref a]∧H a=some (.dK kvs)∧Q (.int kvs.length) H):=by
 intro pins s σ H xs us Q I r h
 obtain ⟨a,kvs,rfl,ha,q⟩:=h
 obtain ⟨u,rfl,ru⟩:=vals1 r
 cases ru
 exact d_len I (.inl ha) fun t s' I'=>⟨.int kvs.length,H,I',⟨t,rfl⟩,q⟩
end

theorem iteF {A B:Prop} (h:B) : if false=true then A else B:=by
 rw [if_neg Bool.false_ne_true]
 exact h
theorem iteT {A B:Prop} (h:A) : if true=true then A else B:=by
 rw [if_pos rfl]
 exact h
theorem ite2 {c A B:Prop} [Decidable c] (h1:c→A) (h2:¬ c→B) : if c then A else B:=by
 by_cases h:c
 ·rw [if_pos h]
  exact h1 h
 ·rw [if_neg h]
  exact h2 h
def Same (H H':Hp) : Prop:=∀ b o,H b=some o→H' b=some o
theorem Same.refl (H:Hp) : Same H H:=fun _ _ h=>h
theorem Same.trans {H H1 H2:Hp} (a:Same H H1) (b:Same H1 H2) : Same H H2:=fun c o h=>b c o (a c o h)
theorem Same.free {H H':Hp} (e:Same H H') {l:Addr} (h:H' l=Option.none) : H l=Option.none:=by
 cases q:H l with
 | none=>rfl
 | some o =>
  rw [e l o q] at h
  cases h
theorem Same.seq {K:PySem.W.Frag} {H H':Hp} {a:Addr} {xs:List V} (e:Same H H') (h:SqL K H a xs) : SqL K H' a xs:=by
 rcases h with (h | ⟨o,h⟩) | h
 ·exact .inl (.inl (e _ _ h))
 ·exact .inl (.inr ⟨o,e _ _ h⟩)
 ·exact .inr h

section
variable {κ:Type} [DecidableEq κ]
end

section
variable {prog:Program} {w:World} {A:Around} {R:Result→Shared→Prop} {s:Shared}
theorem compLoop_any {elt target iter:Expr} {ifs:List Expr} {scope:Scope} {pos:Pos} {it acc:Value} {env:Env} (I:Nat→Shared→Prop)
  (turn:∀ n s,I n s→wpAny (model prog w) A (pyNext it) (fun r s₁=>match r with
   | none=>R (.ok .next) s₁
   | some v=>wpAny (model prog w) A (letOwnedTupleGo target it v) (fun _ s₀=>wpAny (model prog w) A (assign target env v) (fun _ s₂ =>
     wpAny (model prog w) A (forIn ifs true fun c r=>if r=true then do let ok ← isTrue c env (eval c env); pure (ForInStep.yield ok) else pure (ForInStep.yield r)) (fun ok s₃ =>
      if ok=true then wpAny (model prog w) A (eval elt env) (fun x s₄ =>
       wpAny (model prog w) A (call (.builtin "list.append") [acc,x]) (fun _ s₅=>∃ m,m < n∧I m s₅) (fun _ _=>False) s₄) (fun _ _=>False) s₃
      else ∃ m,m < n∧I m s₃) (fun _ _=>False) s₂) (fun _ _=>False) s₀) (fun _ _=>False) s₁) (fun _ _=>False) s)
  (n:Nat) (h:I n s) : codeAny (model prog w) A (.compLoop (.ListComp elt [⟨target,iter,ifs,0⟩] scope pos) 0 it acc env) R s:=by
 refine codeAny_loop rfl I (fun n s hI=>?_) n h
 show wpAny _ A ((compTurn (.ListComp elt [⟨target,iter,ifs,0⟩] scope pos) 0 it acc env).onRaise (fun x=>do noteFrame x env; theTreesLotGoes x)) _ _ s
 refine wpAny_noted ?_
 rw [compTurn_list]
 refine wpAny_bind (wpAny_standAt (wpAny_bind (wpAny_mono (turn n s hI) (fun r s₁ h₁=>?_) fun _ _ h'=>h'.elim)))
 cases r with
 | none=>exact wpAny_pure h₁
 | some v =>
  refine wpAny_bind (wpAny_mono h₁ (fun _ s₀ h₀=>?_) fun _ _ h'=>h'.elim)
  refine wpAny_bind (wpAny_mono h₀ (fun _ s₂ h₂=>wpAny_bind (wpAny_mono h₂ (fun ok s₃ h₃=>?_) fun _ _ h'=>h'.elim)) fun _ _ h'=>h'.elim)
  cases ok with
  | false=>exact wpAny_pure ⟨rfl,h₃⟩
  | true =>
   exact wpAny_bind (wpAny_bind (wpAny_mono h₃ (fun x s₄ h₄=>wpAny_bind (wpAny_mono h₄ (fun _ s₅ h₅=>wpAny_pure (wpAny_pure ⟨rfl,h₅⟩)) fun _ _ h'=>h'.elim)) fun _ _ h'=>h'.elim))
end

def PTs (X:Cx) (ifs:List Expr) (t:TT) : Prop:=
 ∀ (pins:List (Addr × Obj)) (s:Shared) (σ:St) (H:Hp) (Q:Bool→Hp→Prop),Inv X pins σ H s→t σ H Q →
  wpAny (model X.prog X.w) X.A (forIn ifs true fun c r=>if r=true then do let ok ← isTrue c X.env (eval c X.env); pure (ForInStep.yield ok) else pure (ForInStep.yield r)) (TP X pins σ Q) X.xe s
def tYes:TT:=fun _ H Q=>Q true H
theorem pts_nil {X:Cx} : PTs X [] tYes:=fun _ _ _ H _ I h=>wpAny_tests_nil ⟨H,I,h⟩
abbrev Cx.blk (X:Cx) (N:List Str) (s:Shared) (H:Hp) (scope:Scope) (cl:List (Str × Addr)) (C:Addr) (ex:List Addr) : Cx:=
 { X with N:=N,s₀:=s,H₀:=H,env:=compEnvC scope cl C X.env,outer:=X.stack,stack:=X.stack,ex:=ex,fn:=fun _=>false,pn:=[],xe:=fun _ _=>False }

def AllC (env:Env) : List (Str × Addr)→Prop
 | []=>True
 | p :: r=>env.cells.lookup p.1=some p.2∧AllC env r
theorem lookup_mem {α:Type} : ∀ {l:List (Str × α)} {x:Str} {k:α},l.lookup x=some k→(x,k) ∈ l
 | [],_,_,h=>by simp at h
 | (n,k') :: r,x,k,h=>by
  rw [List.lookup_cons] at h
  cases hx:x == n with
  | true =>
   rw [hx] at h
   have e:x=n:=eq_of_beq hx
   have e2:k' = k:=Option.some.inj h
   rw [e,e2]; exact List.mem_cons_self
  | false =>
   rw [hx] at h
   exact List.mem_cons_of_mem _ (lookup_mem h)
theorem AllC.get {env:Env} : ∀ {cl:List (Str × Addr)} {x:Str} {c:Addr},AllC env cl→cl.lookup x=some c→env.cells.lookup x=some c:=fun {cl x c} h e=>by
 have go:∀ (l:List (Str × Addr)),AllC env l→∀ p ∈ l,env.cells.lookup p.1=some p.2:=by
  intro l
  induction l with
  | nil=>intro _ p hp; cases hp
  | cons q r ih =>
   intro ha p hp
   rcases List.mem_cons.mp hp with rfl | hp
   ·exact ha.1
   ·exact ih ha.2 p hp
 exact go cl h (x,c) (lookup_mem e)
def CapOk (X:Cx) (scope:Scope) (cl:List (Str × Addr)) : List Str→List Nat→Prop
 | [],[]=>True
 | y :: ys,j :: js=>(X.N[j]? = some y∧(X.env.kindOf y=some .cell∨X.env.kindOf y=some .free)∧(cl.lookup y).isSome=true∧((relabel scope X.env).names.lookup y=some .cell∨(relabel scope X.env).names.lookup y=some .free))∧CapOk X scope cl ys js
 | _,_=>False
theorem CapOk.get {X:Cx} {scope:Scope} {cl:List (Str × Addr)} : ∀ {ys:List Str} {js:List Nat} {i:Nat} {y:Str},CapOk X scope cl ys js→ys[i]? = some y →
  ∃ j,js[i]? = some j∧X.N[j]? = some y∧(X.env.kindOf y=some .cell∨X.env.kindOf y=some .free)∧(cl.lookup y).isSome=true∧((relabel scope X.env).names.lookup y=some .cell∨(relabel scope X.env).names.lookup y=some .free)
 | [],_,_,_,_,e=>by simp at e
 | _ :: _,[],_,_,h,_=>h.elim
 | y :: ys,j :: js,0,z,h,e=>by
  have e':y=z:=by simpa using e
  subst e'
  exact ⟨j,rfl,h.1⟩
 | y :: ys,j :: js,i+1,z,h,e=>by
  obtain ⟨k,e1,e2⟩:=CapOk.get (i:=i) h.2 (by simpa using e)
  exact ⟨k,by simpa using e1,e2⟩
theorem CapOk.len {X:Cx} {scope:Scope} {cl:List (Str × Addr)} : ∀ {ys:List Str} {js:List Nat},CapOk X scope cl ys js→ys.length=js.length
 | [],[],_=>rfl
 | [],_ :: _,h=>h.elim
 | _ :: _,[],h=>h.elim
 | _ :: _,_ :: _,h=>by rw [List.length_cons,List.length_cons,CapOk.len h.2]
def capv (σ:St) (js:List Nat) : St:=js.map fun j=>(σ[j]?).join
theorem relabel_free {scope:Scope} {env:Env} {x:Str} (hcell:∀ y ∈ scope.names,y.2≠.cell) (h:(relabel scope env).names.lookup x=some .cell∨(relabel scope env).names.lookup x=some .free) : (x,NameKind.free) ∈ scope.names:=by
 have hm:∃ k,(k=NameKind.cell∨k=NameKind.free)∧(x,k) ∈ (relabel scope env).names:=by
  rcases h with h | h
  ·exact ⟨_,.inl rfl,lookup_mem h⟩
  ·exact ⟨_,.inr rfl,lookup_mem h⟩
 obtain ⟨k,hk,hm⟩:=hm
 obtain ⟨⟨n,k'⟩,hin,e⟩:=List.mem_map.mp hm
 dsimp only at e
 by_cases hc:(k' == NameKind.free && env.scope.kind == .function && env.kindOf n == some .cell)=true
 ·rw [if_pos hc] at e
  cases e
  have:k' = NameKind.free:=by
   rw [Bool.and_eq_true,Bool.and_eq_true] at hc
   exact eq_of_beq hc.1.1
  rw [← this]; exact hin
 ·rw [if_neg hc] at e
  cases e
  rcases hk with hk | hk
  ·exact absurd hk (hcell _ hin)
  ·rw [← hk]; exact hin
section
variable {X:Cx} {pins:List (Addr × Obj)} {σ:St} {H:Hp} {s:Shared}
theorem Inv.adopt {D:Addr} {ys:List V} {its:List Value} {n:Nat} (I:Inv X pins σ H s) (hn:H D=none) (hnew:X.s₀.heap.objs.size≤D) (hL:D≠X.env.locals) (hc:∀ x c,X.env.cells.lookup x=some c→c≠D) (hp:∀ p ∈ X.pn++pins,p.1≠D)
  (e:s.heap.get? D=some { cls:=.type "list",data:=.seq its.toArray n }) (hv:Vals ys its) (hz:ys.length≤sizeLine) : Inv X pins σ (upd H D (.lst ys)) s:=by
 have ne:∀ b u,H b=some u→b≠D:=fun b u q=>ne_of_none q hn
 refine ⟨I.ok,I.os,I.bare,⟨I.base.keep,I.base.slot,fun b o q nn hx=>?_,I.base.there,fun b xs q=>?_,fun b o u q=>?_,fun b ps q=>?_⟩,I.loc,I.cell,?_,fun x c q=>?_,fun p hq=>?_,fun b u q=>?_,I.len⟩
 ·rw [upd_ne (Nat.ne_of_lt (Nat.lt_of_lt_of_le (Heap.lt_size q) hnew))]; exact I.base.free b o q nn hx
 ·have z:=I.base.tups b xs q
  rw [upd_ne (ne b _ z)]; exact z
 ·have z:=I.base.frzs b o u q
  rw [upd_ne (ne b _ z)]; exact z
 ·obtain ⟨more,z⟩:=I.base.tbls b ps q
  exact ⟨more,by rw [upd_ne (ne b _ z)]; exact z⟩
 ·rw [upd_ne (Ne.symm hL)]; exact I.free
 ·rw [upd_ne (hc x c q)]; exact I.freeC x c q
 ·obtain ⟨a1,a2,a3⟩:=I.pin p hq
  exact ⟨a1,by rw [upd_ne (hp p hq)]; exact a2,a3⟩
 ·by_cases hb:b=D
  ·subst hb
   rw [upd_same] at q; cases q
   exact ⟨hz,its,n,hv,e⟩
  ·rw [upd_ne hb] at q
   exact (I.hok b u q).stay (fun c v _ r=>r) (fun c r=>by rw [upd_ne (ne c _ r)]; exact r) fun c xs r=>by rw [upd_ne (ne c _ r)]; exact r
structure Outed (X:Cx) (pins:List (Addr × Obj)) (σ:St) (C D:Addr) (H:Hp) (s:Shared) : Prop where
 inv:Inv X pins σ H s
 ns:∃ m,s.heap.Ns C m
 nL:C≠X.env.locals
 new:X.s₀.heap.objs.size≤C
 nc:∀ x c,X.env.cells.lookup x=some c→c≠C
 np:∀ p ∈ X.pn++pins,p.1≠C
 free:H C=none
theorem Outed.gone {C D:Addr} {h':Heap} (O:Outed X pins σ C D H s) (sb:Heap.SameBut C s.heap h') : Inv X pins σ H { s with heap:=h' }:=
 O.inv.turned (t':=s.toks) (it:=C) (fun b o hb e=>(sb.2 b hb).trans e) O.free O.nL (.inr O.new) O.nc O.np
end

def gLC (J:It) (g:TG) (tc:TT) (te:TE) (n:Nat) (cv:St) (Fin:List V→Hp→Prop) (H1:Hp) : Prop:=
 ∃ W:Nat→Nat→List V→Hp→Prop,(∃ m,W 0 m [] H1)∧∀ i m ys H,W i m ys H →
  (J.stop i H∧Fin ys H) ∨
  (J.go i H∧ys.length < sizeLine∧∃ N:List V→Hp→Prop,(∀ ys' H',N ys' H'→∃ m',m' < m∧W (i+1) m' ys' H')∧∀ x H',J.yld i H x H'→∀ own:St,own.length=n→g x (own++cv) H' fun σ2 H2=>(∃ own2:St,own2.length=n∧σ2=own2++cv) ∧
   tc σ2 H2 fun b H3=>if b=true then te σ2 H3 fun y H4=>N (ys++[y]) H4 else N ys H3)

def clOf (env:Env) : List (Str × NameKind)→List (Str × Addr)→List (Str × Addr)
 | [],acc=>acc
 | (n,k) :: r,acc=>clOf env r (if k == .free then (match env.cells.lookup n with | some c=>(n,c) :: acc | none=>acc) else acc)
theorem clOf_all (env:Env) : ∀ (names:List (Str × NameKind)) (acc:List (Str × Addr)),AllC env acc→AllC env (clOf env names acc)
 | [],_,h=>h
 | (n,k) :: r,acc,h=>by
  refine clOf_all env r _ ?_
  split
  ·split
   ·exact ⟨by assumption,h⟩
   ·exact h
  ·exact h
structure LcOk (X:Cx) (scope:Scope) (cl:List (Str × Addr)) (own caps:List Str) (js:List Nat) : Prop where
 clos:closureFor scope X.env=pure cl
 cell:∀ y ∈ scope.names,y.2≠.cell
 kind:scope.kind = .function
 names:∀ y ∈ scope.names,y.2 = .local→scope.names.lookup y.1=some .local
 allc:AllC X.env cl
 free:(scope.names.all fun y=>y.2 != .free || (cl.lookup y.1).isSome)=true
 cap:CapOk X scope cl caps js

theorem lcok {X:Cx} {scope:Scope} {own caps:List Str} {js:List Nat} (clos:closureFor scope X.env=pure (clOf X.env scope.names []):=by with_unfolding_all rfl) (cell:∀ y ∈ scope.names,y.2≠.cell:=by decide +kernel) (kind:scope.kind = .function:=by rfl)
  (names:∀ y ∈ scope.names,y.2 = .local→scope.names.lookup y.1=some .local:=by decide +kernel) (free:(scope.names.all fun y=>y.2 != .free || ((clOf X.env scope.names []).lookup y.1).isSome)=true:=by with_unfolding_all rfl)
  (cap:CapOk X scope (clOf X.env scope.names []) caps js) : LcOk X scope (clOf X.env scope.names []) own caps js:=⟨clos,cell,kind,names,clOf_all _ _ _ trivial,free,cap⟩
section
variable {X:Cx} {elt iter target:Expr} {ifs:List Expr} {scope:Scope} {cl:List (Str × Addr)} {pos:Pos} {own caps:List Str} {js:List Nat} {g:TG} {tc:TT} {te:TE}
theorem lc_block {pins:List (Addr × Obj)} {σ:St} {s₂:Shared} {H1:Hp} {it:Addr} {fp:List Addr} {tn:Nat→Heap→Prop} {J:It} {Fin:List V→Hp→Prop} {RR:Value→Addr→Result→Shared→Prop} {E:Value→Shared→Prop}
  (hc:X.calm=true) (L:LcOk X scope cl own caps js)
  (hg:∀ s H C ex,PG (X.blk (own++caps) s H scope cl C ex) target g) (ht:∀ s H C ex,PTs (X.blk (own++caps) s H scope cl C ex) ifs tc) (he:∀ s H C ex,PE (X.blk (own++caps) s H scope cl C ex) elt te)
  (I2:Inv X pins σ H1 s₂) (T:Turn X.prog X.w X.K target J fp it tn) (st2:tn 0 s₂.heap) (f2:∀ b ∈ fp,FpOk X pins H1 b)
  (G:gLC J g tc te own.length (capv σ js) Fin H1)
  (hRR:∀ D C H ys s',H D=none→Outed X pins σ C D (upd H D (.lst ys)) s'→Fin ys H→RR (.ref D) C (.ok .next) s') :
  wpAny (model X.prog X.w) X.A (newList []) (fun acc s₃=>wpAny (model X.prog X.w) X.A (newFunctionEnv scope X.env.globals cl [] X.env.qual none .none (some X.env)) (fun cenv s₄ =>
   codeAny (model X.prog X.w) X.A (.compStart (.ListComp elt [⟨target,iter,ifs,0⟩] scope pos) 0 (.ref it) acc { cenv with scope:=relabel scope X.env }) (RR acc cenv.locals) s₄) E s₃) E s₂:=by
 refine wpAny_newObj_type (wpAny_newFunctionEnv L.cell (by intro y hy; simp at hy) (fun h₁ hns₁ hsb₁=>?_) L.kind)
 dsimp only at hns₁ hsb₁ ⊢
 generalize hH2:s₂.heap.push { cls:=.type "list",dict:=none,data:=.seq ([] : List Value).toArray }=G2 at hns₁ hsb₁ ⊢
 have hC:G2.objs.size=s₂.heap.objs.size+1:=by rw [← hH2,Heap.size_push]
 have up2:∀ b o,s₂.heap.get? b=some o→G2.get? b=some o:=fun b o e=>hH2 ▸ Heap.get?_push_of_some _ e
 have hDC:s₂.heap.objs.size≠G2.objs.size:=by rw [hC]; exact Nat.ne_of_lt (Nat.lt_succ_self _)
 have hD2:G2.get? s₂.heap.objs.size=some { cls:=.type "list",data:=.seq ([] : List Value).toArray ([] : List Value).length }:=hH2 ▸ Heap.get?_push_size _ rfl
 -- the state with the list laid
 have I3:Inv X pins σ H1 { s₂ with heap:=G2 }:=I2.kept (t':=s₂.toks) up2
 have up3:∀ b o,G2.get? b=some o→h₁.get? b=some o:=fun b o e=>hsb₁.extBut b o (Nat.ne_of_lt (Heap.lt_size e)) (Heap.get?_push_of_some _ e)
 have DH:H1 s₂.heap.objs.size=none:=I2.fresh
 have CH:H1 G2.objs.size=none:=I3.fresh
 have fpl:∀ b ∈ fp,b < s₂.heap.objs.size:=fun b hb=>by
  obtain ⟨o,e,_⟩:=T.obj 0 _ st2 b hb
  exact Heap.lt_size e
 have celllt:∀ x c,X.env.cells.lookup x=some c→c < s₂.heap.objs.size:=fun x c e=>by
  obtain ⟨v,q⟩:=I2.cell x c e
  exact q.lt
 have locl:X.env.locals < s₂.heap.objs.size:=I2.lt
 generalize hD:s₂.heap.objs.size=D at *
 generalize hCC:G2.objs.size=C at *
 have hDltC:D < C:=by omega
 have noF:∀ b,b ∈ frs X.stack→b < D:=fun b hb=>by
  rcases List.mem_cons.mp (I2.stkSub b hb) with e | hb
  ·rw [e]; exact locl
  ·obtain ⟨_,o,ho,_⟩:=I2.ok.funs.mem hb
   exact Nat.lt_of_lt_of_le (Heap.lt_size ho) (hD ▸ I2.sz)
 have fpF:∀ b ∈ fp,b ∉ frs X.stack:=fun b hb z=>by
  obtain ⟨_,e1,e2,_⟩:=f2 b hb
  rcases List.mem_cons.mp (I2.stkSub b z) with e | z
  ·exact e1 e
  ·exact e2 z
 have ok':(X.blk (own++caps) { s₂ with heap:=G2 } H1 scope cl C (D :: fp)).Ok:={
  mod:=I2.ok.mod
  kind:=L.kind
  glob:=I2.ok.glob
  blt:=I2.ok.blt
  above:=Nat.le_of_eq hCC
  inj:=fun x y c e1 e2=>I2.ok.inj x y c (L.allc.get e1) (L.allc.get e2)
  has:=fun x hx=>by
   have hm:=relabel_free L.cell hx
   have q:=List.all_eq_true.mp L.free _ hm
   have q':(cl.lookup x).isSome=true:=by simpa using q
   exact Option.isSome_iff_exists.mp q'
  cab:=fun x c e=>nomatch e
  hd:=I2.ok.hd
  frames:=I2.ok.frames
  stk:=.inl rfl
  exf:=fun b hb=>by
   rcases List.mem_cons.mp hb with rfl | hb
   ·exact ⟨Nat.ne_of_lt hDltC,fun x c e=>Nat.ne_of_lt (celllt x c (L.allc.get e))⟩
   ·obtain ⟨_,e1,e2,_,e4,_⟩:=f2 b hb
    exact ⟨Nat.ne_of_lt (Nat.lt_trans (fpl b hb) hDltC),fun x c e=>e4 x c (L.allc.get e)⟩
  bs:=fun b o e=>⟨up2 b o (I2.bs b o e).1,(I2.bs b o e).2⟩
  bsz:=by
   show X.base.objs.size≤G2.objs.size
   have:=I2.ok.bsz
   have:=I2.sz
   omega
  noex:=fun b o e hb=>by
   have hlt:=Heap.lt_size (I2.bs b o e).1
   rcases List.mem_cons.mp hb with z | hb
   ·exact absurd (show b < D from hD ▸ hlt) (by rw [z]; exact Nat.lt_irrefl _)
   ·obtain ⟨_,_,_,e3,_⟩:=f2 b hb
    rcases e3 with e3 | e3
    ·exact I2.ok.noex b o e e3
    ·exact absurd (Nat.lt_of_lt_of_le (Heap.lt_size (I2.ok.bs b o e).1) e3) (Nat.lt_irrefl _)
  exfs:=fun b hb z=>by
   rcases List.mem_cons.mp hb with e | hb
   ·exact absurd (noF b z) (by rw [e]; exact Nat.lt_irrefl _)
   ·exact fpF b hb z
  funs:=I3.stack
  frf:=I3.stkFree }
 have hns:h₁.Ns C (fun x=>([] : List (Str × Value)).reverse.lookup x):=hns₁
 have start:Inv (X.blk (own++caps) { s₂ with heap:=G2 } H1 scope cl C (D :: fp)) [(D,LCg.lst [])] (List.replicate own.length none++capv σ js) H1 { s₂ with heap:=h₁,toks:=s₂.toks+([] : List (Str × Value)).length }:=by
  refine ⟨ok',rfl,I2.bare,Un.kept up3,⟨_,hns,fun i x v e1 e2 e3=>?_⟩,fun x c e=>?_,CH,fun x c e=>I2.freeC x c (L.allc.get e),fun p hp=>?_,I3.hok.kept up3,?_⟩
  ·have hlo:own.length≤i:=by
    refine Nat.le_of_not_lt fun hlt=>?_
    rw [List.getElem?_append_left (by rw [List.length_replicate]; exact hlt),List.getElem?_replicate,if_pos hlt] at e2
    cases e2
   have e1':caps[i - own.length]? = some x:=by rw [← List.getElem?_append_right hlo]; exact e1
   obtain ⟨j,j1,j2,j3,j4,j5⟩:=L.cap.get e1'
   have e2':(capv σ js)[i - own.length]? = some (some v):=by
    rw [← e2,List.getElem?_append_right (by rw [List.length_replicate]; exact hlo),List.length_replicate]
   have e4:σ[j]? = some (some v):=by
    unfold capv at e2'
    rw [List.getElem?_map,j1] at e2'
    have e5:(σ[j]?).join=some v:=Option.some.inj e2'
    cases hq:σ[j]? with
    | none=>rw [hq] at e5; cases e5
    | some q=>rw [hq] at e5; exact congrArg some e5
   obtain ⟨m,hn,hl⟩:=I2.loc
   obtain ⟨u,ru,lk⟩:=hl j x v j2 e4 (.inr j3)
   refine ⟨u,ru,.inr ⟨j5,?_⟩⟩
   rcases lk with ⟨k,_⟩ | ⟨_,c,ec,o,ho,hd⟩
   ·rcases j3 with z | z <;> (rw [k] at z; cases z)
   ·obtain ⟨c',ec'⟩:=Option.isSome_iff_exists.mp j4
    have:=L.allc.get ec'
    rw [ec] at this
    cases this
    exact ⟨c,ec',o,up3 _ _ (up2 _ _ ho),hd⟩
  ·obtain ⟨v,o,ho,hd⟩:=I2.cell x c (L.allc.get e)
   exact ⟨v,o,up3 _ _ (up2 _ _ ho),hd⟩
  ·have e:p=(D,LCg.lst []):=by simpa using hp
   subst e
   exact ⟨up3 _ _ hD2,DH,Nat.ne_of_lt hDltC,fun z=>absurd (noF D z) (Nat.lt_irrefl _),fun v z=>by cases z⟩
  ·rw [List.length_append,List.length_append,List.length_replicate]
   unfold capv
   rw [List.length_map,L.cap.len]
 obtain ⟨W,⟨m0,w0⟩,turn⟩:=G
 have loop:codeAny (model X.prog X.w) X.A (.compLoop (.ListComp elt [⟨target,iter,ifs,0⟩] scope pos) 0 (.ref it) (.ref D) (compEnvC scope cl C X.env)) (RR (.ref D) C) { s₂ with heap:=h₁,toks:=s₂.toks+([] : List (Str × Value)).length }:=by
  refine compLoop_any (fun n s'=>∃ i ys its ow H',Inv (X.blk (own++caps) { s₂ with heap:=G2 } H1 scope cl C (D :: fp)) [(D,LCg.lst its)] (ow++capv σ js) H' s'∧ow.length=own.length∧tn i s'.heap∧(∀ b ∈ fp,H' b=none)∧Vals ys its∧ys.length≤sizeLine∧W i n ys H') ?_ m0
   ⟨0,[],[],List.replicate own.length none,H1,start,List.length_replicate,T.keep _ _ _ st2 fun b _ o e=>up3 _ _ (up2 _ _ e),fun b hb=>(f2 b hb).1,.nil,Nat.zero_le _,w0⟩
  rintro n s' ⟨i,ys,its,ow,H',I',hlo,st,fr,hv,hz,wv⟩
  have fpok:∀ {H'':Hp},(∀ b ∈ fp,H'' b=none)→∀ b ∈ fp,FpOk (X.blk (own++caps) { s₂ with heap:=G2 } H1 scope cl C (D :: fp)) [(D,LCg.lst its)] H'' b:=fun hn b hb=>by
   obtain ⟨_,e1,e2,e3,e4,e5⟩:=f2 b hb
   refine ⟨hn b hb,Nat.ne_of_lt (Nat.lt_trans (fpl b hb) hDltC),fpF b hb,.inl (List.mem_cons_of_mem _ hb),fun x c e=>e4 x c (L.allc.get e),fun p hp=>?_⟩
   have e:p=(D,LCg.lst its):=by simpa using hp
   subst e
   exact Nat.ne_of_gt (fpl b hb)
  rcases turn i n ys H' wv with ⟨stop,fin⟩ | ⟨go,hlt,N,hN,step⟩
  ·refine wpAny_mono (T.done (X.blk (own++caps) { s₂ with heap:=G2 } H1 scope cl C (D :: fp)) rfl rfl rfl hc i _ s' _ H' (fun _ _=>False) I' (fpok fr) st stop) (fun r s4 ⟨hr,I4⟩=>?_) fun _ _ f=>f
   subst hr
   have pD:=I4.pin (D,LCg.lst its) (by simp)
   have hch:∀ b ∈ D :: fp,(b ∈ X.ex∨X.s₀.heap.objs.size≤b)∧b≠X.env.locals∧(∀ x c,X.env.cells.lookup x=some c→c≠b)∧∀ p ∈ X.pn++pins,p.1≠b:=fun b hb=>by
    rcases List.mem_cons.mp hb with rfl | hb
    ·exact ⟨.inr (hD ▸ I2.sz),Nat.ne_of_gt locl,fun x c e=>Nat.ne_of_lt (celllt x c e),fun p hp=>Nat.ne_of_lt (hD ▸ Heap.lt_size (I2.pin p hp).1)⟩
    ·obtain ⟨_,e1,e2,e3,e4,e5⟩:=f2 b hb
     exact ⟨e3,e1,e4,e5⟩
   have IX:Inv X pins σ H' s4:=I2.call' (ch:=D :: fp) I4.os ((Un.kept up2).trans I4.base) I4.hok I4.bare hch
   have cD:=hch D List.mem_cons_self
   have IA:Inv X pins σ (upd H' D (.lst ys)) s4:=IX.adopt pD.2.1 (hD ▸ I2.sz) cD.2.1 cD.2.2.1 cD.2.2.2 pD.1 hv hz
   obtain ⟨mm,hmm,_⟩:=I4.loc
   refine hRR D C H' ys s4 pD.2.1 ⟨IA,⟨mm,hmm⟩,Nat.ne_of_gt (Nat.lt_trans locl hDltC),?_,fun x c e=>Nat.ne_of_lt (Nat.lt_trans (celllt x c e) hDltC),fun p hp=>?_,?_⟩ fin
   ·have:=I2.sz
    omega
   ·exact Nat.ne_of_lt (Nat.lt_trans (show p.1 < D from hD ▸ Heap.lt_size (I2.pin p hp).1) hDltC)
   ·rw [upd_ne (Nat.ne_of_gt hDltC)]; exact I4.free
  ·refine wpAny_mono (T.item (X.blk (own++caps) { s₂ with heap:=G2 } H1 scope cl C (D :: fp)) rfl rfl rfl hc i _ s' _ H' (fun _ _=>False) I' (fpok fr) st go) (fun r s4 ⟨u,hr,h4⟩=>?_) fun _ _ f=>f
   subst hr
   refine wpAny_mono h4 (fun _ s5 ⟨x,H5,I5,r5,y5,st5,fr5⟩=>?_) fun _ _ f=>f
   have I5':=I5.pinned (fpok fr5) (T.obj _ _ st5)
   have keepT:∀ {σ8:St} {H8:Hp} {s8:Shared},Inv (X.blk (own++caps) { s₂ with heap:=G2 } H1 scope cl C (D :: fp)) ([(D,LCg.lst its)]++pinsAt fp s5.heap) σ8 H8 s8→tn (i+1) s8.heap∧∀ b ∈ fp,H8 b=none:=fun {σ8 H8 s8} I8 =>
    ⟨T.keep _ _ _ st5 fun b hb o e=>(I8.pin (b,o) (List.mem_append_right _ (List.mem_append_right _ (mem_pinsAt hb e)))).1,fun b hb=>by
     obtain ⟨o,e,d⟩:=T.obj _ _ st5 b hb
     exact (I8.pin (b,o) (List.mem_append_right _ (List.mem_append_right _ (mem_pinsAt hb e)))).2.1⟩
   refine wpAny_mono (hg _ _ _ _ _ s5 _ H5 x u _ I5' r5 (step x H5 y5 ow hlo)) (fun _ s6 ⟨σ6,H6,I6,⟨own2,hl2,e6⟩,q6⟩=>?_) fun _ _ f=>f
   subst e6
   refine wpAny_mono (ht _ _ _ _ _ s6 _ H6 _ I6 q6) (fun b s7 ⟨H7,I7,q7⟩=>?_) fun _ _ f=>f
   cases b with
   | false =>
    rw [if_neg Bool.false_ne_true]
    rw [if_neg Bool.false_ne_true] at q7
    obtain ⟨m',hm,w7⟩:=hN _ _ q7
    obtain ⟨k1,k2⟩:=keepT I7
    exact ⟨m',hm,i+1,ys,its,own2,H7,I7.unpinned,hl2,k1,k2,hv,hz,w7⟩
   | true =>
    rw [if_pos rfl]
    rw [if_pos rfl] at q7
    refine wpAny_mono (he _ _ _ _ _ s7 _ H7 _ I7 q7) (fun y s8 ⟨vy,H8,I8,r8,n8⟩=>?_) fun _ _ f=>f
    obtain ⟨m',hm,w8⟩:=hN _ _ n8
    obtain ⟨k1,k2⟩:=keepT I8
    have pD:=I8.pin (D,LCg.lst its) (by simp)
    have hyl:=hv.length
    refine append_at (hsz:=by show its.toArray.size≤sizeLine; rw [List.size_toArray]; omega) pD.1 fun h9 hs9 hD9=>?_
    have I9:Inv (X.blk (own++caps) { s₂ with heap:=G2 } H1 scope cl C (D :: fp)) [] (own2++capv σ js) H8 { s8 with heap:=h9 }:=by
     refine (I8.pins_of (pins':=[]) fun p hp=>nomatch hp).turned (t':=s8.toks) (it:=D) (fun b o hb e=>(hs9.2 b hb).trans e) pD.2.1 (Nat.ne_of_lt hDltC) (.inl List.mem_cons_self) (fun x c e=>Nat.ne_of_lt (celllt x c (L.allc.get e))) fun p hp=>?_
     simp at hp
    refine ⟨m',hm,i+1,ys++[vy],its++[y],own2,H8,I9.pins_of fun p hp=>?_,hl2,T.keep _ _ _ k1 fun b hb o e=>(hs9.2 b (Nat.ne_of_lt (fpl b hb))).trans e,k2,hv.append (.cons r8 .nil),?_,w8⟩
    ·have e:p=(D,LCg.lst (its++[y])):=by simpa using hp
     subst e
     exact ⟨hD9.trans (congrArg some (LCg.lst_snoc its y)),pD.2.1,Nat.ne_of_lt hDltC,fun z=>absurd (noF D z) (Nat.lt_irrefl _),fun v z=>by cases z⟩
    ·rw [List.length_append,List.length_singleton]; omega
 exact codeAny_compStart_list loop (T.self _ _ _ _ _ (T.keep _ _ _ st2 fun b _ o e=>up3 _ _ (up2 _ _ e)) loop)

def tLCg (wi:TI) (g:TG) (tc:TT) (te:TE) (n:Nat) (js:List Nat) : TE:=fun σ H Q=>wi σ H fun J H1=>gLC J g tc te n (capv σ js) (fun ys H=>∀ p,H p=none→Q (.ref p) (upd H p (.lst ys))) H1
variable {wi:TI}
theorem pe_lcg (hc:X.calm=true) (L:LcOk X scope cl own caps js) (hi:PI X target iter wi)
  (hg:∀ s H C ex,PG (X.blk (own++caps) s H scope cl C ex) target g) (ht:∀ s H C ex,PTs (X.blk (own++caps) s H scope cl C ex) ifs tc) (he:∀ s H C ex,PE (X.blk (own++caps) s H scope cl C ex) elt te)
  (hs:∀ x,foldedSetIterable iter X.env x=pure x:=by intro _; rfl) : PE X (.ListComp elt [⟨target,iter,ifs,0⟩] scope pos) (tLCg wi g tc te own.length js):=by
 intro pins s σ H Q I h
 rw [eval_ListComp]
 refine wpAny_comprehension_free (use:=none) rfl hs L.clos L.kind L.names (thn (hi pins s σ H _ I h) fun v s1 h1=>thn h1 fun itv s2 h2=>?_)
 obtain ⟨it,fp,tn,J,H2,e,I2,T,st2,f2,G⟩:=h2
 subst e
 refine lc_block hc L hg ht he I2 T st2 f2 G ?_
 intro D C H3 ys s' hD O fin
 obtain ⟨m,hn⟩:=O.ns
 exact ⟨m,hn,fun h' sb=>⟨.ref D,_,O.gone sb,rfl,fin D hD⟩⟩
theorem ps_lcg {k:Nat} {y:Str} {py spos:Pos} (hc:X.calm=true) (L:LcOk X scope cl own caps js) (hi:PI X target iter wi)
  (hg:∀ s H C ex,PG (X.blk (own++caps) s H scope cl C ex) target g) (ht:∀ s H C ex,PTs (X.blk (own++caps) s H scope cl C ex) ifs tc) (he:∀ s H C ex,PE (X.blk (own++caps) s H scope cl C ex) elt te)
  (hN:X.N.Nodup) (hk:X.N[k]? = some y) (hy:X.env.scope.names.lookup y=some .local)
  (hsw:swapsWith (.ListComp elt [⟨target,iter,ifs,0⟩] scope pos) (some (.Name y py)) spos.line X.env=pure true:=by rfl)
  (hs:∀ x,foldedSetIterable iter X.env x=pure x:=by intro _; rfl) : PS X (.Assign [.Name y py] (.ListComp elt [⟨target,iter,ifs,0⟩] scope pos) spos) (tAsg (tLCg wi g tc te own.length js) (gName k)):=by
 intro pins s σ H De I h
 rw [exec_Assign_Name_used _ _ _ _ hsw]
 refine wpAny_bind (wpAny_standAt (wpAny_bind ?_))
 show wpAny _ _ (do let _ ← comprehension (.ListComp elt [⟨target,iter,ifs,0⟩] scope pos) scope X.env _ (newList []) false (eval iter X.env) (some (assign (.Name y py) X.env))) _ _ s
 refine wpAny_bind (wpAny_mono (wpAny_comprehension_free (use:=some (assign (.Name y py) X.env)) (Q:=fun _ s'=>SP X pins De .next s') rfl hs L.clos L.kind L.names
  (thn (hi pins s σ H _ I h) fun v s1 h1=>thn h1 fun itv s2 h2=>?_)) (fun _ s' hq=>wpAny_pure (wpAny_pure hq)) fun _ _ e=>e)
 obtain ⟨it,fp,tn,J,H2,e,I2,T,st2,f2,G⟩:=h2
 subst e
 refine lc_block hc L hg ht he I2 T st2 f2 G ?_
 intro D C H3 ys s' hD O fin
 show wpAny _ _ (assign (.Name y py) X.env (.ref D)) _ _ _
 refine wpAny_assign_Name (store_ok2 O.inv hN hk (.inl hy) (show RelV (.ref D) (.ref D) from rfl) (fun s'' I'' sb=>?_) (.inr hy))
 obtain ⟨a,hsb,ha⟩:=sb
 have hne:C≠a:=by
  rcases ha with rfl | ha
  ·exact O.nL
  ·exact Ne.symm (O.nc _ _ ha)
 obtain ⟨m,hn⟩:=O.ns
 refine ⟨m,hn.sameBut hsb hne,fun h' sb'=>⟨_,_,?_,fin D hD⟩⟩
 exact I''.turned (t':=s''.toks) (it:=C) (fun b o hb e=>(sb'.2 b hb).trans e) O.free O.nL (.inr O.new) O.nc O.np
end

section
variable {X:Cx} {elt iter:Expr} {ifs:List Expr} {scope:Scope} {cl:List (Str × Addr)} {pos:Pos} {caps:List Str} {js:List Nat} {tc:TT} {te:TE} {wi:TI} {x:Str} {px:Pos}
theorem gLC1 {J:It} {cv:St} {Fin:List V→Hp→Prop} {H1:Hp} (h:∃ W:Nat→Nat→List V→Hp→Prop,(∃ m,W 0 m [] H1)∧∀ i m ys H,W i m ys H →
  (J.stop i H∧Fin ys H) ∨
  (J.go i H∧ys.length < sizeLine∧∃ N:List V→Hp→Prop,(∀ ys' H',N ys' H'→∃ m',m' < m∧W (i+1) m' ys' H')∧∀ x H',J.yld i H x H' →
   tc (some x :: cv) H' fun b H3=>if b=true then te (some x :: cv) H3 fun y H4=>N (ys++[y]) H4 else N ys H3)) : gLC J (gName 0) tc te 1 cv Fin H1:=by
 obtain ⟨W,w0,turn⟩:=h
 refine ⟨W,w0,fun i m ys H w=>?_⟩
 rcases turn i m ys H w with ⟨a,b⟩ | ⟨a,b,N,hN,c⟩
 ·exact .inl ⟨a,b⟩
 ·refine .inr ⟨a,b,N,hN,fun v H' y own ho=>?_⟩
  match own,ho with
  | [τ],_=>exact ⟨⟨[some v],rfl,rfl⟩,c v H' y⟩
def tLC (wi:TI) (tc:TT) (te:TE) (js:List Nat) : TE:=tLCg wi (gName 0) tc te 1 js
theorem pe_lc (hc:X.calm=true) (L:LcOk X scope cl [x] caps js) (hi:PI X (.Name x px) iter wi)
  (ht:∀ s H C ex,PTs (X.blk (x :: caps) s H scope cl C ex) ifs tc) (he:∀ s H C ex,PE (X.blk (x :: caps) s H scope cl C ex) elt te)
  (hN:(x :: caps).Nodup:=by decide +kernel) (hx:(relabel scope X.env).names.lookup x=some .local:=by with_unfolding_all rfl)
  (hs:∀ x,foldedSetIterable iter X.env x=pure x:=by intro _; rfl) : PE X (.ListComp elt [⟨.Name x px,iter,ifs,0⟩] scope pos) (tLC wi tc te js):=
 pe_lcg (own:=[x]) (g:=gName 0) hc L hi (fun s H C ex=>pg_name (i:=0) hN rfl (.inl hx) (.inr hx)) ht he hs
theorem ps_lc {k:Nat} {y:Str} {py spos:Pos} (hc:X.calm=true) (L:LcOk X scope cl [x] caps js) (hi:PI X (.Name x px) iter wi)
  (ht:∀ s H C ex,PTs (X.blk (x :: caps) s H scope cl C ex) ifs tc) (he:∀ s H C ex,PE (X.blk (x :: caps) s H scope cl C ex) elt te)
  (hXN:X.N.Nodup) (hk:X.N[k]? = some y) (hy:X.env.scope.names.lookup y=some .local) (hN:(x :: caps).Nodup:=by decide +kernel) (hx:(relabel scope X.env).names.lookup x=some .local:=by with_unfolding_all rfl)
  (hsw:swapsWith (.ListComp elt [⟨.Name x px,iter,ifs,0⟩] scope pos) (some (.Name y py)) spos.line X.env=pure true:=by rfl)
  (hs:∀ x,foldedSetIterable iter X.env x=pure x:=by intro _; rfl) : PS X (.Assign [.Name y py] (.ListComp elt [⟨.Name x px,iter,ifs,0⟩] scope pos) spos) (tAsg (tLC wi tc te js) (gName k)):=
 ps_lcg (own:=[x]) (g:=gName 0) hc L hi (fun s H C ex=>pg_name (i:=0) hN rfl (.inl hx) (.inr hx)) ht he hXN hk hy hsw hs
theorem lc_range {lo:Int} {n:Nat} {cv:St} {Fin:List V→Hp→Prop} {H1:Hp} (Pv:Nat→List V→Hp→Prop) (h0:Pv 0 [] H1) (hz:∀ i ys H,i < n→Pv i ys H→ys.length < sizeLine)
  (hs:∀ i ys H,i < n→Pv i ys H→tc (some (.int (lo+i)) :: cv) H fun b H3=>if b=true then te (some (.int (lo+i)) :: cv) H3 fun y H4=>Pv (i+1) (ys++[y]) H4 else Pv (i+1) ys H3)
  (hd:∀ ys H,Pv n ys H→Fin ys H) : gLC (Itr lo n) (gName 0) tc te 1 cv Fin H1:=by
 refine gLC1 ⟨fun i m ys H=>m=n - i∧i≤n∧Pv i ys H,⟨n,by simp,Nat.zero_le _,h0⟩,?_⟩
 rintro i m ys H ⟨rfl,hi,p⟩
 by_cases hlt:i < n
 ·refine .inr ⟨hlt,hz i ys H hlt p,Pv (i+1),fun ys' H' p'=>⟨n - (i+1),by omega,rfl,hlt,p'⟩,fun v H' y=>?_⟩
  obtain ⟨e,y⟩:=y
  subst e y
  exact hs i ys _ hlt p
 ·have e:i=n:=by omega
  subst e
  exact .inl ⟨Nat.le_refl _,hd ys H p⟩
end

theorem yes_go {A B:Hp→Prop} {σ:St} {H:Hp} (h:A H) : tYes σ H (fun b H3=>if b=true then A H3 else B H3):=by
 show if true=true then A H else B H
 rw [if_pos rfl]
 exact h
theorem at_zero {α:Type} (x:α) (r:List α) : atI (x :: r) 0=some x:=atI_nat (j:=0) rfl

def Its (x:Str) : It:=⟨fun i _=>i < x.cps.size,fun i H v H'=>H' = H∧∃ c,x.cps[i]? = some c∧v = .str ⟨#[c]⟩,fun i _=>i=x.cps.size⟩
theorem turn_str {P:Program} {w:World} {K:PySem.W.Frag} {tg:Expr} {x:Str} {t:Tok} {it:Addr} {n:String} (hn:["enumerate","zip","dict_itemiterator","dict_reverseitemiterator","odict_iterator","itertools.zip_longest","itertools.pairwise"].contains n=false)
  (W:∀ A':Around,A'.handled=none→Walks P w A' it [it] [it] x.cps.size (SignAt x) (fun i h=>h.IsStrIter it n x t i))
  (slf:∀ (A:Around) (i:Nat) (s:Shared) (Q:Value→Shared→Prop) (E:Value→Shared→Prop),s.heap.IsStrIter it n x t i→Q (.ref it) s→wpAny (model P w) A (pyIter (.ref it)) Q E s) :
  Turn P w K tg (Its x) [it] it (fun i h=>h.IsStrIter it n x t i) where
 mem:=by simp
 obj:=fun i h st b hb=>by
  have e:b=it:=by simpa using hb
  subst e
  obtain ⟨o,e,c,d⟩:=st
  exact ⟨o,e,fun v z=>by rw [d] at z; cases z⟩
 keep:=fun i h h' st k=>let ⟨o,ho,r⟩:=st; ⟨o,k it (by simp) o ho,r⟩
 item:=by
  intro X hP hw hK hc i pins s σ H E I hf st hg
  subst hP hw hK
  obtain ⟨f0,f1,f2,f3,f4,f5⟩:=hf it (by simp)
  refine (W X.A (I.ok.hd hc)).item i s _ _ hg st fun v h' tk hv st' kk=>?_
  obtain ⟨c,u,hcx,rfl⟩:=hv
  have I1:Inv X pins σ H { s with heap:=h',toks:=tk }:=I.turned (fun b o hb e=>kk b o (by simpa using hb) e) f0 f1 f3 f4 f5
  obtain ⟨o,e,c',d⟩:=id st'
  exact ⟨_,rfl,go_of (s:={ s with heap:=h',toks:=tk }) e c' d hn ⟨.str ⟨#[c]⟩,H,I1,⟨u,rfl⟩,⟨rfl,c,hcx,rfl⟩,st',fun b hb=>(hf b hb).1⟩⟩
 done:=by
  intro X hP hw hK hc i pins s σ H E I hf st hg
  subst hP hw hK
  obtain ⟨f0,f1,f2,f3,f4,f5⟩:=hf it (by simp)
  have e:i=x.cps.size:=hg
  subst e
  exact (W X.A (I.ok.hd hc)).done s _ _ st fun h' tk kk=>⟨rfl,I.turned (fun b o hb e=>kk b o (by simpa using hb) e) f0 f1 f3 f4 f5⟩
 self:=slf
section
variable {X:Cx} {tg:Expr}
def iStr (tl:TE) : TI:=fun σ H R=>tl σ H fun v H1=>∃ x,v = .str x∧R (Its x) H1
theorem pi_str {l:Expr} {tl:TE} (hl:PE X l tl) : PI X tg l (iStr tl):=by
 intro pins s σ H R I h
 refine thn (hl pins s σ H _ I h) fun v s1 ⟨x,H1,I1,r1,q1⟩=>?_
 obtain ⟨z,e,q⟩:=q1
 subst e
 obtain ⟨t,rfl⟩:=r1
 have go:∀ n ob,["enumerate","zip","dict_itemiterator","dict_reverseitemiterator","odict_iterator","itertools.zip_longest","itertools.pairwise"].contains n=false →
   (∀ A':Around,A'.handled=none→Walks X.prog X.w A' s1.heap.objs.size [s1.heap.objs.size] [s1.heap.objs.size] z.cps.size (SignAt z) (fun i h=>h.IsStrIter s1.heap.objs.size n z t i)) →
   (∀ (A:Around) (i:Nat) (s:Shared) (Q:Value→Shared→Prop) (E:Value→Shared→Prop),s.heap.IsStrIter s1.heap.objs.size n z t i→Q (.ref s1.heap.objs.size) s→wpAny (model X.prog X.w) A (pyIter (.ref s1.heap.objs.size)) Q E s) →
   (s1.heap.push ob).IsStrIter s1.heap.objs.size n z t 0→PIE X pins σ tg R (.ref s1.heap.objs.size) { s1 with heap:=s1.heap.push ob }:=fun n ob hn W slf st=>by
  refine ⟨s1.heap.objs.size,[s1.heap.objs.size],_,_,H1,rfl,I1.kept (t':=s1.toks) fun b o e=>Heap.get?_push_of_some _ e,turn_str hn W slf,st,fun b hb=>?_,q⟩
  have e:b=s1.heap.objs.size:=by simpa using hb
  subst e
  exact I1.fpOk (Nat.le_refl _) (I1.hok.fresh (Nat.le_refl _))
 cases ha:z.cps.all (· < 128)
 ·exact wpAny_pyIter_wide ha (go "str_iterator" _ (by decide) (fun A' hA=>Walks.strWide hA _ z t) (fun _ _ _ _ _ st h=>wpAny_pyIter_striter_wide st h) ⟨_,Heap.get?_push_size _ rfl,rfl,rfl⟩)
 ·exact wpAny_pyIter_ascii ha (go "str_ascii_iterator" _ (by decide) (fun A' hA=>Walks.strAscii hA _ z t) (fun _ _ _ _ _ st h=>wpAny_pyIter_striter_ascii st h) ⟨_,Heap.get?_push_size _ rfl,rfl,rfl⟩)
end
theorem lc_str {x:Str} {tc:TT} {te:TE} {cv:St} {Fin:List V→Hp→Prop} {H1:Hp} (Pv:Nat→List V→Hp→Prop) (h0:Pv 0 [] H1) (hz:∀ i ys H,i < x.cps.size→Pv i ys H→ys.length < sizeLine)
  (hs:∀ i c ys H,x.cps[i]? = some c→Pv i ys H→tc (some (.str ⟨#[c]⟩) :: cv) H fun b H3=>if b=true then te (some (.str ⟨#[c]⟩) :: cv) H3 fun y H4=>Pv (i+1) (ys++[y]) H4 else Pv (i+1) ys H3)
  (hd:∀ ys H,Pv x.cps.size ys H→Fin ys H) : gLC (Its x) (gName 0) tc te 1 cv Fin H1:=by
 refine gLC1 ⟨fun i m ys H=>m=x.cps.size - i∧i≤x.cps.size∧Pv i ys H,⟨x.cps.size,by simp,Nat.zero_le _,h0⟩,?_⟩
 rintro i m ys H ⟨rfl,hi,p⟩
 by_cases hlt:i < x.cps.size
 ·refine .inr ⟨hlt,hz i ys H hlt p,Pv (i+1),fun ys' H' p'=>⟨x.cps.size - (i+1),by omega,rfl,hlt,p'⟩,fun v H' y=>?_⟩
  obtain ⟨e,c,hc,y⟩:=y
  subst e y
  exact hs i c ys _ hc p
 ·have e:i=x.cps.size:=by omega
  subst e
  exact .inl ⟨rfl,hd ys H p⟩

section
variable {X:Cx}
theorem vals_strs:∀ (l:List (Str × Tok)),Vals ((l.map (·.1)).map V.str) (strValues l)
 | []=>.nil
 | p :: r=>.cons ⟨p.2,rfl⟩ (vals_strs r)
theorem mt_split1:MtR X "str.split" (fun x xs H Q=>∃ z c,x = .str z∧xs=[.str ⟨#[c]⟩]∧z.length+2≤sizeLine∧∀ p,H p=none→Q (.ref p) (upd H p (.lst ((Txt.split z ⟨#[c]⟩).map V.str)))):=by
 intro pins s σ H x xs v us Q I rx r h
 obtain ⟨z,c,rfl,rfl,hz,q⟩:=h
 obtain ⟨t,rfl⟩:=rx
 obtain ⟨w',rfl,u,rfl⟩:=vals1 r
 have hy:((⟨#[c]⟩ : Str).length == 0)=false:=rfl
 have len:=split_le z ⟨#[c]⟩
 have new:∀ (l:List (Str × Tok)) (k:Nat),l.map (·.1)=Txt.split z ⟨#[c]⟩→EP X pins σ Q (.ref s.heap.objs.size) { s with heap:=s.heap.push { cls:=.type "list",data:=.seq (strValues l).toArray },toks:=k }:=fun l k e =>
  ⟨.ref _,_,I.lnew (t':=k) (vals_strs l) (by rw [e,List.length_map]; exact Nat.le_trans len hz),rfl,by rw [e]; exact q _ I.fresh⟩
 cases h1:(decide (z.length < (⟨#[c]⟩ : Str).length) || decide (Builtin.Str.strKind z < Builtin.Str.strKind ⟨#[c]⟩))
 ·cases hf:(Builtin.Str.occurrences z ⟨#[c]⟩ 0 z.length (z.length+1)).isEmpty
  ·have e1:Txt.split z ⟨#[c]⟩=Builtin.Str.partsBetween z (Builtin.Str.occurrences z ⟨#[c]⟩ 0 z.length (z.length+1)) (⟨#[c]⟩ : Str).length:=
    (if_neg (ne_true_of_eq_false h1)).trans (if_neg (ne_true_of_eq_false hf))
   refine call_meets F.slot_str_split (typeIs_str _ _ _) F.entry_str_split (F.args_str_split_2 _ _) (meets_str_split_sep z ⟨#[c]⟩ t u h1 hy hf (by omega) (by rw [← e1]; omega)) ?_
   show wants _ _ _ { s with toks:=_,heap:=s.heap.push { cls:=.type "list",data:=.seq (strsFrom s.toks (Builtin.Str.partsBetween z (Builtin.Str.occurrences z ⟨#[c]⟩ 0 z.length (z.length+1)) (⟨#[c]⟩ : Str).length)).toArray } }
   rw [strsFrom_eq]
   exact new _ _ ((numbered_texts _ _).trans e1.symm)
  ·exact call_meets F.slot_str_split (typeIs_str _ _ _) F.entry_str_split (F.args_str_split_2 _ _) (meets_str_split_not_found z ⟨#[c]⟩ t u h1 hy hf)
    (new [(z,t)] _ ((if_neg (ne_true_of_eq_false h1)).trans (if_pos hf)).symm)
 ·exact call_meets F.slot_str_split (typeIs_str _ _ _) F.entry_str_split (F.args_str_split_2 _ _) (meets_str_split_cannot_occur z ⟨#[c]⟩ t u h1)
   (new [(z,t)] _ (if_pos h1).symm)
theorem strsAre_of {ys:List Str} : ∀ {us:List Value},Vals (ys.map V.str) us→StrsAre us ys:=by
 induction ys with
 | nil=>intro us h; cases h; exact .nil
 | cons y ys ih =>
  intro us h
  cases h with
  | cons r t =>
   obtain ⟨tk,rfl⟩:=r
   exact .cons y tk (ih t)
theorem mt_join:MtR X "str.join" (fun x xs H Q=>∃ sep a ys,x = .str sep∧xs=[.ref a]∧SqL X.K H a (ys.map V.str)∧sep.length≤16∧(ys.map (·.length)).sum+ys.length≤1048576∧Q (.str (Txt.join sep ys)) H):=by
 intro pins s σ H x xs v us Q I rx r h
 obtain ⟨sep,a,ys,rfl,rfl,hS,h1,h2,q⟩:=h
 obtain ⟨t,rfl⟩:=rx
 obtain ⟨w',rfl,rfl⟩:=vals1 r
 obtain ⟨its,rv,p,hz⟩:=I.list hS
 exact join_listW p.isList (strsAre_of (by simpa using rv)) h1 h2 fun t' k=>⟨.str _,H,I.tok k,⟨t',rfl⟩,q⟩
end
end L2

namespace Tl
open PySem PySem.Builtin PySem.Builtin.Str L2

abbrev tx (l:List Nat) : Str:=⟨l.toArray⟩
theorem tx_of (s:Str) : s=tx s.cps.toList:=by cases s; rfl
theorem tx_app (a b:List Nat) : tx a++tx b=tx (a++b):=by
 show (⟨a.toArray++b.toArray⟩ : Str)=⟨(a++b).toArray⟩
 rw [List.append_toArray]
theorem tx_len (l:List Nat) : (tx l).length=l.length:=by show l.toArray.size=_; simp
theorem tx_inj {a b:List Nat} (h:tx a=tx b) : a=b:=by
 have e:a.toArray=b.toArray:=congrArg Str.cps h
 have e2:=congrArg Array.toList e
 simpa using e2
theorem tx_cps (l:List Nat) (i:Nat) : (tx l).cps[i]? = l[i]?:=by show l.toArray[i]? = _; simp
theorem tx_size (l:List Nat) : (tx l).cps.size=l.length:=by show l.toArray.size=_; simp

def cutL {α:Type} (l:List α) (lo hi:Option Int) : List α:=(l.drop (HT.sIx l.length 0 lo)).take (HT.sIx l.length l.length hi - HT.sIx l.length 0 lo)
theorem cut_to {α:Type} (l:List α) (j:Nat) : cutL l none (some (j:Int))=l.take j:=by
 unfold cutL
 rw [HT.sIx_none,HT.sIx_nat,List.drop_zero,Nat.sub_zero]
 by_cases h:j≤l.length
 ·rw [Nat.min_eq_left h]
 ·rw [Nat.min_eq_right (by omega),List.take_of_length_le (Nat.le_refl _),List.take_of_length_le (by omega)]
theorem cut_from {α:Type} (l:List α) (i:Nat) : cutL l (some (i:Int)) none=l.drop i:=by
 unfold cutL
 rw [HT.sIx_none,HT.sIx_nat]
 by_cases h:i≤l.length
 ·rw [Nat.min_eq_left h,List.take_of_length_le (by rw [List.length_drop]; exact Nat.le_refl _)]
 ·rw [Nat.min_eq_right (by omega),Nat.sub_self,List.take_zero,List.drop_eq_nil_of_le (by omega)]
def splitL (c:Nat) : List Nat→List (List Nat)
 | []=>[[]]
 | x :: r=>if x=c then [] :: splitL c r else match splitL c r with
  | []=>[[x]]
  | p :: ps=>(x :: p) :: ps
theorem splitL_cons (c x:Nat) (r:List Nat) : splitL c (x :: r)=if x=c then [] :: splitL c r else match splitL c r with
  | []=>[[x]]
  | p :: ps=>(x :: p) :: ps:=rfl
theorem splitL_ne (c:Nat) : ∀ l,splitL c l≠[]
 | []=>by simp [splitL]
 | x :: r=>by
  unfold splitL
  split
  ·simp
  ·split <;> simp
def joinL (sep:List Nat) : List (List Nat)→List Nat
 | []=>[]
 | [x]=>x
 | x :: y :: r=>x++sep++joinL sep (y :: r)
theorem join_tx (sep:List Nat) : ∀ ps:List (List Nat),Txt.join (tx sep) (ps.map tx)=tx (joinL sep ps):=by
 have go:∀ ps:List (List Nat),Str.join (tx sep) (ps.map tx)=tx (joinL sep ps):=by
  intro ps
  induction ps with
  | nil=>rfl
  | cons x r ih =>
   cases r with
   | nil=>rfl
   | cons y r =>
    show tx x++tx sep++Str.join (tx sep) (tx y :: r.map tx)=_
    rw [show Str.join (tx sep) (tx y :: r.map tx)=tx (joinL sep (y :: r)) from ih,tx_app,tx_app]
    rfl
 intro ps
 show glued (tx sep) (ps.map tx)=_
 rw [StrLaws.glued_eq_join]
 exact go ps
theorem splitL_join (c:Nat) : ∀ ps:List (List Nat),ps≠[]→(∀ p ∈ ps,c ∉ p)→splitL c (joinL [c] ps)=ps:=by
 have one:∀ p:List Nat,c ∉ p→splitL c p=[p]:=by
  intro p
  induction p with
  | nil=>intro _; rfl
  | cons x r ih =>
   intro h
   have hx:x≠c:=fun e=>h (by rw [e]; exact List.mem_cons_self)
   rw [splitL_cons,if_neg hx,ih fun z=>h (List.mem_cons_of_mem _ z)]
 have app:∀ (p:List Nat) (l:List Nat),c ∉ p→splitL c (p++c :: l)=p :: splitL c l:=by
  intro p l
  induction p with
  | nil =>
   intro _
   show splitL c (c :: l)=_
   rw [splitL_cons,if_pos rfl]
  | cons x r ih =>
   intro h
   have hx:x≠c:=fun e=>h (by rw [e]; exact List.mem_cons_self)
   show splitL c (x :: (r++c :: l))=_
   rw [splitL_cons,if_neg hx,ih fun z=>h (List.mem_cons_of_mem _ z)]
 intro ps
 induction ps with
 | nil=>intro h; exact absurd rfl h
 | cons x r ih =>
  intro _ h
  cases r with
  | nil=>exact one x (h x List.mem_cons_self)
  | cons y r =>
   show splitL c (x++[c]++joinL [c] (y :: r))=_
   rw [List.append_assoc,show [c]++joinL [c] (y :: r)=c :: joinL [c] (y :: r) from rfl,app _ _ (h x List.mem_cons_self),ih (by simp) fun p hp=>h p (List.mem_cons_of_mem _ hp)]
theorem split_tx (l:List Nat) (c:Nat) : Txt.split (tx l) ⟨#[c]⟩=(splitL c l).map tx:=by
 have h1:=StrLaws.join_split (tx l) ⟨#[c]⟩
 have h2:=StrLaws.split_free (tx l) c
 have h3:=PyProof.Rows.split_pos (tx l) ⟨#[c]⟩
 obtain ⟨ps,e⟩ : ∃ ps:List (List Nat),Txt.split (tx l) ⟨#[c]⟩=ps.map tx:=⟨(Txt.split (tx l) ⟨#[c]⟩).map (fun s=>s.cps.toList),by
  rw [List.map_map]
  exact (List.map_id' _).symm.trans (List.map_congr_left fun s _=>tx_of s)⟩
 rw [e] at h1 h2 h3
 have e2:joinL [c] ps=l:=by
  have:=join_tx [c] ps
  have h4:Txt.join (tx [c]) (ps.map tx)=Str.join (tx [c]) (ps.map tx):=StrLaws.glued_eq_join _ _
  rw [h4] at this
  exact tx_inj (this.symm.trans h1)
 have hne:ps≠[]:=by
  intro z
  rw [z] at h3
  simp at h3
 rw [e,← e2,splitL_join c ps hne fun p hp=>?_]
 have:=h2 (tx p) (List.mem_map_of_mem hp)
 simpa using this
theorem in_tx (l:List Nat) (c:Nat) : (!(occurrences (tx l) ⟨#[c]⟩ 0 (tx l).length 1).isEmpty)=decide (c ∈ l):=by
 have:=StrLaws.found_one (tx l) c
 rw [this]
end Tl

namespace L2
open PySem PySem.Spec PyProof.Rows

def isiV (K:PySem.W.Frag) (T:String) (x:V) (H:Hp) (b:Bool) : Prop:=match x with
 | .non=>b=false
 | .bl _=>b=(T == "bool" || T == "int")
 | .int _=>b=(T == "int")
 | .str _=>b=(T == "str")
 | .ref p=>((∃ xs,SqL K H p xs)∧b=(T == "list"))∨((∃ xs,SqT K H p xs)∧b=(T == "tuple"))
 | _=>False
section
variable {X:Cx}
theorem call_isi:CallR X (.builtin "isinstance") (fun xs H Q=>∃ x T b,xs=[x,.ty T]∧(T = "bool"∨T = "int"∨T = "str"∨T = "tuple"∨T = "list")∧isiV X.K T x H b∧Q (.bl b) H):=by
 intro pins s σ H xs us Q I r h
 obtain ⟨x,T,b,rfl,hT,hv,q⟩:=h
 obtain ⟨u,w',rfl,r1,r2⟩:=vals2 r
 cases r2
 have no:b=false→EP X pins σ Q (.bool false) { s with toks:=s.toks+1 }:=fun e=>⟨.bl false,H,I.tok _,rfl,e ▸ q⟩
 have yes:b=true→EP X pins σ Q (.bool true) s:=fun e=>⟨.bl true,H,I,rfl,e ▸ q⟩
 cases x with
 | non =>
  cases r1
  have hv':b=false:=hv
  rcases hT with rfl | rfl | rfl | rfl | rfl
  ·exact IsiPair.NoneType_bool (no hv')
  ·exact IsiPair.NoneType_int (no hv')
  ·exact IsiPair.NoneType_str (no hv')
  ·exact IsiPair.NoneType_tuple (no hv')
  ·exact IsiPair.NoneType_list (no hv')
 | bl c =>
  cases r1
  rcases hT with rfl | rfl | rfl | rfl | rfl
  ·exact IsiPair.bool_bool (yes (hv.trans (by decide)))
  ·exact IsiPair.bool_int (yes (hv.trans (by decide)))
  ·exact IsiPair.bool_str (no (hv.trans (by decide)))
  ·exact IsiPair.bool_tuple (no (hv.trans (by decide)))
  ·exact IsiPair.bool_list (no (hv.trans (by decide)))
 | int c =>
  obtain ⟨t,rfl⟩:=r1
  rcases hT with rfl | rfl | rfl | rfl | rfl
  ·exact IsiPair.int_bool (no (hv.trans (by decide)))
  ·exact IsiPair.int_int (yes (hv.trans (by decide)))
  ·exact IsiPair.int_str (no (hv.trans (by decide)))
  ·exact IsiPair.int_tuple (no (hv.trans (by decide)))
  ·exact IsiPair.int_list (no (hv.trans (by decide)))
 | str c =>
  obtain ⟨t,rfl⟩:=r1
  rcases hT with rfl | rfl | rfl | rfl | rfl
  ·exact IsiPair.str_bool (no (hv.trans (by decide)))
  ·exact IsiPair.str_int (no (hv.trans (by decide)))
  ·exact IsiPair.str_str (yes (hv.trans (by decide)))
  ·exact IsiPair.str_tuple (no (hv.trans (by decide)))
  ·exact IsiPair.str_list (no (hv.trans (by decide)))
 | ref p =>
  cases r1
  rcases hv with ⟨⟨xs,hq⟩,hb⟩ | ⟨⟨xs,hq⟩,hb⟩
  ·obtain ⟨its,_,p',_⟩:=I.list hq
   obtain ⟨o,n,e,c,_⟩:=p'
   rcases hT with rfl | rfl | rfl | rfl | rfl
   ·exact IsiPair.list_bool e c (no (hb.trans (by decide)))
   ·exact IsiPair.list_int e c (no (hb.trans (by decide)))
   ·exact IsiPair.list_str e c (no (hb.trans (by decide)))
   ·exact IsiPair.list_tuple e c (no (hb.trans (by decide)))
   ·exact IsiPair.list_list e c (yes (hb.trans (by decide)))
  ·obtain ⟨its,_,p',_⟩:=I.tuple hq
   obtain ⟨o,e,c,_⟩:=p'
   rcases hT with rfl | rfl | rfl | rfl | rfl
   ·exact IsiPair.tuple_bool e c (no (hb.trans (by decide)))
   ·exact IsiPair.tuple_int e c (no (hb.trans (by decide)))
   ·exact IsiPair.tuple_str e c (no (hb.trans (by decide)))
   ·exact IsiPair.tuple_tuple e c (yes (hb.trans (by decide)))
   ·exact IsiPair.tuple_list e c (no (hb.trans (by decide)))
 | byt c=>exact hv.elim
 | flt c=>exact hv.elim
 | ty c=>exact hv.elim
end

section
variable {X:Cx}
end
structure DefOk (K:PySem.W.Frag) (mg:Str→Option Value) (x:Str) (st:Stmt) (ps:List Str) (f:Addr) (fd:FuncData) : Prop where
 fn:Fun K x x st f fd
 bd:Binds K fd ps []
 mg:mg x=some (.ref f)
 ba:∀ us:List Value,us.length=ps.length→bindArgs fd ⟨us,[]⟩=pure (ps.zip us)
section
variable {X:Cx} {x:Str} {st:Stmt} {ps:List Str} {f:Addr} {fd:FuncData} {k:Nat} {sp:Sp} {e:Expr} {es:List Expr} {t:TA} {p pos:Pos}
theorem pe_callD (D:DefOk X.K X.mg x st ps f fd) (G:FnOk X.prog X.w X.K X.mg X.base CX0 k f fd ps sp) (hr:Room k X.A) (hg:Gl X x) (ha:PA X (e :: es) t) (hd:(x == ("__debug__" : Str))=false:=by decide)
  (he:starEach (e :: es) X.env=(false,eval e X.env) :: starEach es X.env:=by rfl) (hpl:(backTo pos (starEach es X.env)).any (·.1)=false:=by rfl) : PE X (.Call (.Name x p) (e :: es) [] pos) (tCall sp [] E0 t):=pe_call G hr hg D.mg D.fn.kp D.bd .nil pass0 ha hd he hpl
theorem defok_mk {K:PySem.W.Frag} {h:Heap} {mg:Str→Option Value} (KX:K.In h) (G:h.Ns mainGlobals mg) {od an:Option Addr} {sl:Array (Option Value)} {oc kV dc pm cd ct:Value} (a:PySem.W.nsIn K mainGlobals x=some (some (.ref f)))
  (l:K.lookup f=some ⟨oc,od,.func (PySem.W.fnOf x x (defArgs st) (defBody st) (defScope st) .none kV dc pm an cd ct),sl⟩) (c:PySem.W.codeIn K cd x=true) (k:PySem.W.keepIn K (.ref f)=true)
  (b:∀ (kV doc pm:Value) (an:Option Addr) (cdv ct:Value) (us:List Value),us.length=ps.length→bindArgs (PySem.W.fnOf x x (defArgs st) (defBody st) (defScope st) .none kV doc pm an cdv ct) ⟨us,[]⟩=pure (ps.zip us)) :
  DefOk K mg x st ps f (PySem.W.fnOf x x (defArgs st) (defBody st) (defScope st) .none kV dc pm an cd ct):=
 ⟨fun_mk l c k,(fun_mk l c k).binds b,PySem.W.mg_of KX G a,fun us hl=>b _ _ _ _ _ _ us hl⟩
end

theorem cut_seq {t u:TS} {D:Ends} {σ:St} {H:Hp} (Mid:St→Hp→Prop) (h2:∀ σ' H',Mid σ' H'→u D σ' H') (h1:(∀ σ' H',Mid σ' H'→u D σ' H')→t { D with nx:=u D } σ H) : tSeq t u D σ H:=h1 h2

def eqVs:List V→List V→Bool
 | [],[]=>true
 | a :: r,b :: s=>eqV a b && eqVs r s
 | _,_=>false
theorem eqVs_len:∀ {xs ys:List V},xs.length≠ys.length→eqVs xs ys=false
 | [],[],h=>absurd rfl h
 | [],_ :: _,_=>rfl
 | _ :: _,[],_=>rfl
 | a :: r,b :: s,h=>by
  show (eqV a b && eqVs r s)=false
  rw [eqVs_len (xs:=r) (ys:=s) (fun e=>h (by rw [List.length_cons,List.length_cons,e])),Bool.and_false]
theorem eqVs_range:∀ {xs ys:List V},xs.length=ys.length→(List.range xs.length).all (fun j=>eqV ((xs[j]?).getD .non) ((ys[j]?).getD .non))=eqVs xs ys
 | [],[],_=>rfl
 | [],_ :: _,h=>by simp at h
 | _ :: _,[],h=>by simp at h
 | a :: r,b :: s,h=>by
  have ih:=eqVs_range (xs:=r) (ys:=s) (by simpa using h)
  rw [List.length_cons,List.range_succ_eq_map,List.all_cons,List.all_map]
  show (eqV a b && _)=(eqV a b && eqVs r s)
  rw [← ih]
  rfl
theorem eqV_refl:∀ {x:V},flatV x=true→eqV x x=true:=by
 intro x f
 cases x with
 | non=>rfl
 | bl b=>show (b == b)=true; simp
 | int i=>show (i == i)=true; simp
 | str s=>show (s == s)=true; simp
 | _=>exact absurd (show false=true from f) Bool.false_ne_true
theorem eqVs_refl:∀ {xs:List V},xs.all flatV=true→eqVs xs xs=true
 | [],_=>rfl
 | a :: r,h=>by
  rw [List.all_cons,Bool.and_eq_true] at h
  show (eqV a a && eqVs r r)=true
  rw [eqV_refl h.1,eqVs_refl h.2]
  rfl
section
variable {X:Cx}
theorem flat_get {xs:List V} (f:xs.all flatV=true) {j:Nat} {x:V} (h:xs[j]? = some x) : flatV x=true:=List.all_eq_true.mp f x (List.mem_of_getElem? h)
theorem items_eq {A:Around} {s:Shared} {xs ys:List V} {its its2:List Value} (r:Vals xs its) (r2:Vals ys its2) (fx:xs.all flatV=true) (fy:ys.all flatV=true) (j:Nat) (h1:j < its.toArray.size) (h2:j < its2.toArray.size) :
  SeqAt.EqAt A s its.toArray[j] its2.toArray[j] (eqV ((xs[j]?).getD .non) ((ys[j]?).getD .non)):=by
 have l1:=r.length
 have l2:=r2.length
 have h1':j < its.length:=by simpa using h1
 have h2':j < its2.length:=by simpa using h2
 have e1:xs[j]? = some xs[j]:=List.getElem?_eq_getElem (by omega)
 have e2:ys[j]? = some ys[j]:=List.getElem?_eq_getElem (by omega)
 obtain ⟨u,hu,ru⟩:=r.get e1
 obtain ⟨v,hv,rv⟩:=r2.get e2
 have eu:its.toArray[j]=u:=by
  have:its[j]? = some its[j]:=List.getElem?_eq_getElem h1'
  rw [hu] at this
  simpa using this.symm
 have ev:its2.toArray[j]=v:=by
  have:its2[j]? = some its2[j]:=List.getElem?_eq_getElem h2'
  rw [hv] at this
  simpa using this.symm
 rw [eu,ev,e1,e2]
 exact eqAt_V ru rv (flat_get fx e1) (flat_get fy e2)
theorem call_all (hc:X.calm=true) : CallR X (.builtin "all") (fun xs H Q=>∃ (l:Addr) (bs:List Bool),xs=[.ref l]∧SqL X.K H l (bs.map V.bl)∧Q (.bl (bs.all id)) H):=by
 intro pins s σ H xs us Q I r h
 obtain ⟨l,bs,rfl,hl,q⟩:=h
 obtain ⟨u,rfl,ru⟩:=vals1 r
 cases ru
 obtain ⟨its,rv,p,z⟩:=I.list hl
 have hlt:l < s.heap.objs.size:=by obtain ⟨_,_,e,_⟩:=p; exact Heap.lt_size e
 have len:=rv.length
 refine call_all_walk (wpAny_pyIter_list p.isList ?_)
 refine ⟨s.heap.objs.size,[s.heap.objs.size,l],[s.heap.objs.size],its.toArray.size,_,_,fun i=>(bs[i]?).getD true,rfl,Walks.list (A:=X.A.in1) (I.ok.hd hc) _ l (Nat.ne_of_lt hlt) its.toArray,
  ⟨⟨_,Heap.get?_push_size _ rfl,rfl,rfl⟩,p.isList.push _⟩,fun i v s' Q' E' hP hQ=>?_,fun h' tk hk=>?_⟩
 ·have hi:its[i]? = some v:=by simpa using hP
  have hlt2:i < bs.length:=by
   have:=(List.getElem?_eq_some_iff.mp hi).1
   rw [List.length_map] at len
   omega
  have eb:(bs.map V.bl)[i]? = some (V.bl bs[i]):=by rw [List.getElem?_map,List.getElem?_eq_getElem hlt2]; rfl
  obtain ⟨w',hw,rw'⟩:=rv.get eb
  rw [hi] at hw
  cases hw
  cases rw'
  have e2:(bs[i]?).getD true=bs[i]:=by rw [List.getElem?_eq_getElem hlt2]; rfl
  have hQ2:Q' ((bs[i]?).getD true) s':=hQ
  rw [e2] at hQ2
  exact wpAny_truthy_bool hQ2
 ·have e:((List.range its.toArray.size).all fun i=>(bs[i]?).getD true)=bs.all id:=by
   have:its.toArray.size=bs.length:=by rw [List.length_map] at len; simp; omega
   rw [this]
   exact LSm.range_all bs
  rw [e]
  exact ⟨.bl _,H,I.kept fun b x e=>hk b x (fun hm=>by rw [List.mem_singleton.mp hm] at e; exact Nat.lt_irrefl _ (Heap.lt_size e)) (Heap.get?_push_of_some _ e),rfl,q⟩

theorem op_in_dict (hu:X.A.units+1 < cLine) : OpR X (compareOp .In) (fun y x H Q=>∃ a o,x = .ref a∧DGet H a y o∧Q (.bl o.isSome) H):=by
 intro pins s σ H y x u v Q I ry rx h
 obtain ⟨a,o,rfl,g,q⟩:=h
 cases rx
 exact d_in hu I g ry fun s' I'=>⟨.bl _,H,I',rfl,q⟩
theorem op_notin_dict (hu:X.A.units+1 < cLine) : OpR X (compareOp .NotIn) (fun y x H Q=>∃ a o,x = .ref a∧DGet H a y o∧Q (.bl (!o.isSome)) H):=by
 intro pins s σ H y x u v Q I ry rx h
 obtain ⟨a,o,rfl,g,q⟩:=h
 cases rx
 exact d_notIn hu I g ry fun s' I'=>⟨.bl _,H,I',rfl,q⟩
theorem call_dict_of:CallR X (.type "dict") (fun xs H Q=>∃ a kvs,xs=[.ref a]∧Rd H a (.dK kvs)∧∀ p,H p=none→Q (.ref p) (upd H p (.dK kvs))):=by
 intro pins s σ H xs us Q I r h
 obtain ⟨a,kvs,rfl,hr,q⟩:=h
 obtain ⟨u,rfl,ru⟩:=vals1 r
 cases ru
 exact d_copyOf I hr fun p s' hp I'=>⟨.ref p,_,I',rfl,q p hp⟩
end


section
variable {X:Cx} {o i:Expr} {pos:Pos} {td ty:TE}
end

def CXe (P:Program) (w:World) : CXT:=fun outer H s E e s' =>
 ∃ (x C:Addr) (H':Hp) (B:Heap) (a0:Value),e = .ref x∧s'.os=s.os∧AllBare s'.gens∧Un (frs outer) [] H H' s.heap s'.heap∧HOk P w H' B ∧
  (∀ b o,s.heap.get? b=some o→H b=none→b ∉ frs outer→B.get? b=some o)∧(∀ b o,s.heap.get? b=some o→b ∉ frs outer→∃ o',B.get? b=some o') ∧
  Heap.FlyingW B outer x (.ref C) a0 s'.heap∧E (.ref C) none H'
def Wish (X:Cx) (E:XK) : Prop:=∀ (pins:List (Addr × Obj)) (σ:St) (H:Hp) (s:Shared) (x C:Addr) (vs:List Value) (h':Heap),Inv X pins σ H s→Heap.MadeExcOf s.heap h' x (.ref C) vs→E (.ref C) none H→X.xe (.ref x) { s with heap:=h' }
theorem mem_frs {env:Env} {l:List Env} {b L:Addr} (hf:env.frame=some L) (h:b ∈ frs (env :: l)) : b=L∨b ∈ frs l:=by
 unfold frs at h
 rw [List.filterMap_cons,hf] at h
 exact List.mem_cons.mp h
theorem frs_all (l:List Env) : ∀ env ∈ l,∀ a,env.frame=some a→a ∈ frs l:=fun env he a hf=>List.mem_filterMap.mpr ⟨env,he,hf⟩
section
variable {P:Program} {w:World} {K:PySem.W.Frag} {mg:Str→Option Value} {base:Heap} {N:List Str} {qual:Str} {scope:Scope} {f:Addr} {cd:Value} {A:Around} {outer:List Env} {s:Shared} {H:Hp} {E:XK}
theorem wish_cx:Wish (cxOf (CXe P w) P w K mg base N qual scope f cd A outer s H E) E:=by
 intro pins σ H1 s1 x C vs h' I hx ee
 have hfr:(envOfC qual scope s.heap.objs.size f cd).frame=some (envOfC qual scope s.heap.objs.size f cd).locals:=rfl
 have hst:=I.stack
 have hfree:=I.stkFree
 have hsub:=I.stkSub
 show wpAny (model P w) (A.deeper (envOfC qual scope s.heap.objs.size f cd)) (leaving (envOfC qual scope s.heap.objs.size f cd) (.ref x)) (fun _ s''=>CXe P w outer H s E (.ref x) s'') _ _
 have hin:=frs_all (envOfC qual scope s.heap.objs.size f cd :: outer)
 have hff:s1.heap.FunFrames (PySem.W.hideAll s1.heap (frs (envOfC qual scope s.heap.objs.size f cd :: outer))) (envOfC qual scope s.heap.objs.size f cd :: outer):=PySem.W.funFrames_hide hst hin
 have notfr:∀ b,b < s.heap.objs.size→b ∉ frs outer→b ∉ frs (envOfC qual scope s.heap.objs.size f cd :: outer):=fun b hlt hb hm=>by
  rcases mem_frs hfr hm with e | hm
  ·exact absurd (Nat.lt_of_lt_of_le hlt I.ok.above) (by rw [e]; exact Nat.lt_irrefl _)
  ·exact hb hm
 refine wpAny_leaves_madeW (base:=PySem.W.hideAll s1.heap (frs (envOfC qual scope s.heap.objs.size f cd :: outer))) (h:=s1.heap) I.ok.frames hfr (fun b o q=>PySem.W.of_hideAll _ q) hff hx fun h'' t x1 x2 x3 x4=>?_
 have cov1:∀ b o,s.heap.get? b=some o→H b=none→b ∉ frs outer→(PySem.W.hideAll s1.heap (frs (envOfC qual scope s.heap.objs.size f cd :: outer))).get? b=some o:=fun b o q n hb =>
  PySem.W.hideAll_get _ (I.base.keep b o q n hb (show b ∉ ([] : List Addr) by simp)) (notfr b (Heap.lt_size q) hb)
 have cov2:∀ b o,s.heap.get? b=some o→b ∉ frs outer→∃ o',(PySem.W.hideAll s1.heap (frs (envOfC qual scope s.heap.objs.size f cd :: outer))).get? b=some o':=fun b o q hb=>by
  obtain ⟨o',e⟩:=I.base.there b o q (show b ∉ ([] : List Addr) by simp)
  exact ⟨o',PySem.W.hideAll_get _ e (notfr b (Heap.lt_size q) hb)⟩
 have slot:∀ b,b ∈ frs outer→∀ o,s1.heap.get? b=some o→∃ sl,h''.get? b=some { o with slots:=sl }:=fun b hb o q=>by
  have hm:b ∈ frs (envOfC qual scope s.heap.objs.size f cd :: outer):=by
   unfold frs
   rw [List.filterMap_cons,hfr]
   exact List.mem_cons_of_mem _ hb
  obtain ⟨_,o2,e2,nd⟩:=hff.mem hm
  rw [q] at e2
  cases e2
  exact x4 b o (hx.keeps b o q) nd
 refine ⟨x,C,H1,_,_,rfl,I.os,I.bare,⟨fun b o q n hb _=>x1.1 b o (cov1 b o q n hb),fun b o q n hb hx'=>?_,I.base.free,fun b o q _=>?_,I.base.tups,I.base.frzs,I.base.tbls⟩,fun b ob e=>?_,cov1,cov2,x1,ee⟩
 ·obtain ⟨sl,e1⟩:=I.base.slot b o q n hb hx'
  obtain ⟨sl2,e2⟩:=slot b hb _ e1
  exact ⟨sl2,e2⟩
 ·by_cases hb:b ∈ frs outer
  ·obtain ⟨o',e⟩:=I.base.there b o q (show b ∉ ([] : List Addr) by simp)
   obtain ⟨sl2,e2⟩:=slot b hb _ e
   exact ⟨_,e2⟩
  ·obtain ⟨o',e⟩:=cov2 b o q hb
   exact ⟨o',x1.1 b o' e⟩
 ·refine (I.hok b ob e).stay (fun c v hc q=>PySem.W.hideAll_get _ q fun hm=>?_) (fun _ q=>q) fun _ _ q=>q
  have z:=hfree c hm
  rcases hc with rfl | hc
  ·rw [e] at z; cases z
  ·rw [hc] at z; cases z
theorem pass_cx:Passes (CXe P w) (cxOf (CXe P w) P w K mg base N qual scope f cd A outer s H E) E:=by
 intro pins σ H1 s1 e s' I h
 obtain ⟨x,C,H',B,a0,rfl,os,bare,un,hok,cov1,cov2,fl,ee⟩:=h
 have hfr:(envOfC qual scope s.heap.objs.size f cd).frame=some (envOfC qual scope s.heap.objs.size f cd).locals:=rfl
 show wpAny (model P w) (A.deeper (envOfC qual scope s.heap.objs.size f cd)) (leaving (envOfC qual scope s.heap.objs.size f cd) (.ref x)) (fun _ s''=>CXe P w outer H s E (.ref x) s'') _ _
 have notfr:∀ b,b < s.heap.objs.size→b ∉ frs outer→b ∉ frs (envOfC qual scope s.heap.objs.size f cd :: outer):=fun b hlt hb hm=>by
  rcases mem_frs hfr hm with e | hm
  ·exact absurd (Nat.lt_of_lt_of_le hlt I.ok.above) (by rw [e]; exact Nat.lt_irrefl _)
  ·exact hb hm
 refine wpAny_leaves_onW I.ok.frames hfr fl fun h'' f2 up=>?_
 have c1:∀ b o,s.heap.get? b=some o→H b=none→b ∉ frs outer→B.get? b=some o:=fun b o q n hb =>
  cov1 b o (I.base.keep b o q n hb (show b ∉ ([] : List Addr) by simp)) (I.base.free b o q n (show b ∉ ([] : List Addr) by simp)) (notfr b (Heap.lt_size q) hb)
 have c2:∀ b o,s.heap.get? b=some o→b ∉ frs outer→∃ o',B.get? b=some o':=fun b o q hb=>by
  obtain ⟨o',e⟩:=I.base.there b o q (show b ∉ ([] : List Addr) by simp)
  exact cov2 b o' e (notfr b (Heap.lt_size q) hb)
 have fm:∀ b,b ∈ frs outer→b ∈ frs (envOfC qual scope s.heap.objs.size f cd :: outer):=fun b hb=>by
  unfold frs
  rw [List.filterMap_cons,hfr]
  exact List.mem_cons_of_mem _ hb
 refine ⟨x,C,H',B,a0,rfl,os.trans I.os,bare,⟨fun b o q n hb _=>f2.1 b o (c1 b o q n hb),fun b o q n hb hx'=>?_,fun b o q n hx'=>?_,fun b o q _=>?_,fun b xs q=>un.tups b xs (I.base.tups b xs q),fun b o u q=>un.frzs b o u (I.base.frzs b o u q),fun b ps q=>?_⟩,hok,c1,c2,f2,ee⟩
 ·obtain ⟨sl,e1⟩:=I.base.slot b o q n hb hx'
  obtain ⟨sl2,e2⟩:=un.slot b _ e1 (I.base.free b o q n hx') (fm b hb) (by simp)
  obtain ⟨_,o3,e3,nd⟩:=fl.2.2.1.mem (fm b hb)
  rw [e2] at e3
  cases e3
  obtain ⟨sl3,e4⟩:=up b _ e2 nd
  exact ⟨sl3,e4⟩
 ·obtain ⟨o',e⟩:=I.base.there b o q hx'
  exact un.free b o' e (I.base.free b o q n hx') (by simp)
 ·by_cases hb:b ∈ frs outer
  ·obtain ⟨_,o3,e3,_⟩:=f2.2.2.1.mem hb
   exact ⟨o3,e3⟩
  ·obtain ⟨o',e⟩:=c2 b o q hb
   exact ⟨o',f2.1 b o' e⟩
 ·obtain ⟨m1,e1⟩:=I.base.tbls b ps q
  obtain ⟨m2,e2⟩:=un.tbls b _ e1
  exact ⟨m1++m2,by rw [e2,Array.append_assoc]⟩
end

abbrev veTail:List Value:=[.type "ValueError",.type "Exception",.type "BaseException",.type "object"]
structure ExcOk (K:PySem.W.Frag) (mg:Str→Option Value) (c:Str) (C:Addr) : Prop where
 mg:mg c=some (.ref C)
 ex:PySem.W.excIn K C veTail "ValueError.__new__" = true
theorem exc_obj {K:PySem.W.Frag} {h:Heap} {C:Addr} {bmB:List Value} {newId:String} (X:K.In h) (q:PySem.W.excIn K C bmB newId=true) :
  ∃ bm N nm q bs hdct sn sub ab col dd k0 k1 k2 k3 k5 mN,h.get? C=some (excClassObj nm q C N bs bm hdct sn sub ab col dd k0 k1 k2 k3 k5 newId)∧h.Ns N mN∧mN "__init__" = none∧OwnTail h bmB bm:=by
 unfold PySem.W.excIn at q
 split at q
 ·rename_i dd cd sl ho
  split at q
  ·rename_i C' bm k0 k1 k2 k3 n k5 hm hs
   simp only [Bool.and_eq_true,beq_iff_eq,Bool.not_eq_true'] at q
   obtain ⟨⟨⟨⟨⟨rfl,rfl⟩,hdel⟩,ht⟩,hok⟩,hni⟩:=q
   obtain ⟨nm,bs,mro,ns,qn,hd,sn,sub,ab,col,del⟩:=cd
   dsimp only at hm hdel hok hni
   subst hm hdel
   have hsl:sl = #[k0,k1,k2,k3,some (.builtin n),k5]:=by
    obtain ⟨l⟩:=sl
    simp only at hs
    rw [hs]
   subst hsl
   exact ⟨bm,ns,nm,qn,bs,hd,sn,sub,ab,col,dd,k0,k1,k2,k3,k5,_,X _ _ ho,.of_isNs (PySem.W.isNs_of_in X hok),PySem.W.nsMap_none_of_in X hok hni,PySem.W.tail_of_in X ht⟩
  ·cases q
 ·cases q
def tRaise (E:XK) (C:Addr) (t:TA) : TS:=fun _ σ H=>t σ H fun vs H1=>vs.length≤sizeLine∧E (.ref C) none H1
section
variable {X:Cx} {E:XK} {c:Str} {C:Addr} {e:Expr} {es:List Expr} {t:TA} {np cpos pos:Pos}
theorem ps_raise (hc:X.calm=true) (hw:Wish X E) (O:ExcOk X.K X.mg c C) (hg:Gl X c) (ha:PA X (e :: es) t) (hd:(c == ("__debug__" : Str))=false:=by decide)
  (he:starEach (e :: es) X.env=(false,eval e X.env) :: starEach es X.env:=by rfl) (hpl:(backTo cpos (starEach es X.env)).any (·.1)=false:=by rfl) :
  PS X (.Raise (some (.Call (.Name c np) (e :: es) [] cpos)) none pos) (tRaise E C t):=by
 intro pins s σ H D I h
 obtain ⟨bm,N,nm,q,bs,hdct,sn,sub,ab,col,dd,k0,k1,k2,k3,k5,mN,hC,hN,hni,T⟩:=exc_obj I.ok.mod.kin O.ex
 refine wpAny_Raise_call_subU (C:=C) (nm:=nm) (q:=q) (N:=N) (bs:=bs) (bm:=bm) (hdct:=hdct) (sn:=sn) (sub:=sub) (ab:=ab) (col:=col) (dd:=dd) (k0:=k0) (k1:=k1) (k2:=k2) (k3:=k3) (k5:=k5)
  PySem.F.excBase_ValueError (by decide +kernel) PySem.F.excBase_ValueError (mN:=mN) (T.hasType PySem.F.excBase_ValueError.hasBase) (I.ok.hd hc) (by rw [he]; show (false || (backTo cpos (starEach es X.env)).any (·.1))=false; rw [hpl]; rfl) hni
  (ld_glob I hg O.mg ⟨rfl,?_⟩ hd)
 have ha':=ha cpos pins s σ H _ I h
 rw [he] at ha' ⊢
 refine Calls.evalArgs_plain (wpAny_mono ha' (fun vs s₂ h₂=>?_) fun _ _ y=>y)
 obtain ⟨xs,H1,I1,r,hz,ee⟩:=h₂
 exact ⟨rfl,by rw [← r.length]; exact hz,I1.bk _ _ hC,hN.keeps I1.bk,T.keeps I1.bk,fun h' x hm=>hw pins σ H1 s₂ x C _ h' I1 hm ee⟩
end
theorem Fun.okE {P:Program} {w:World} {K:PySem.W.Frag} {mg:Str→Option Value} {base:Heap} {x qual:Str} {st:Stmt} {f:Addr} {fd:FuncData} {N ps:List Str} {k:Nat} {sp:Sp} (F:Fun K x qual st f fd) (S:FnScope N ps (defScope st)) (len:∀ vs H Q E,sp vs H Q E→vs.length=ps.length)
  (hbody:∀ (cdv:Value) (A:Around) (outer:List Env) (s:Shared) (H:Hp) (vs:List V) (Q:VK) (E:XK),Room k (A.deeper (envOfC qual (defScope st) s.heap.objs.size f cdv))→sp vs H Q E →
   ∃ t,PSs (cxOf (CXe P w) P w K mg base N qual (defScope st) f cdv A outer s H E) (defBody st) t∧t { nx:=fun _ H'=>Q .non H',rt:=Q } (start N vs) H) : FnOk P w K mg base (CXe P w) (k+1) f fd ps sp:=by
 obtain ⟨oc,od,kV,doc,pm,an,cdv,ct,osl,rfl,lk,hcd⟩:=F.ex
 exact fn_of lk hcd S len fun A outer s H vs Q E hr hsp=>hbody cdv A outer s H vs Q E hr hsp
theorem pe_callX {X:Cx} {x:Str} {st:Stmt} {ps:List Str} {f:Addr} {fd:FuncData} {k:Nat} {sp:Sp} {e:Expr} {es:List Expr} {t:TA} {p pos:Pos} {CX:CXT} {E:XK} (hx:Passes CX X E) (D:DefOk X.K X.mg x st ps f fd) (G:FnOk X.prog X.w X.K X.mg X.base CX k f fd ps sp) (hr:Room k X.A) (hg:Gl X x) (ha:PA X (e :: es) t) (hd:(x == ("__debug__" : Str))=false:=by decide)
  (he:starEach (e :: es) X.env=(false,eval e X.env) :: starEach es X.env:=by rfl) (hpl:(backTo pos (starEach es X.env)).any (·.1)=false:=by rfl) : PE X (.Call (.Name x p) (e :: es) [] pos) (tCall sp [] E t):=pe_call G hr hg D.mg D.fn.kp D.bd .nil hx ha hd he hpl

abbrev Cx.marked (X:Cx) (v:Value) : Cx:={ X with A:=X.A.mark (some v),calm:=false,xe:=fun _ _=>False }
theorem Inv.marked {X:Cx} {pins:List (Addr × Obj)} {σ:St} {H:Hp} {s:Shared} (I:Inv X pins σ H s) (v:Value) : Inv (X.marked v) pins σ H s:=
 ⟨⟨I.ok.mod,I.ok.kind,I.ok.glob,I.ok.blt,I.ok.above,I.ok.inj,I.ok.has,I.ok.cab,(fun h=>nomatch h),I.ok.frames,I.ok.stk,I.ok.exf,I.ok.bs,I.ok.bsz,I.ok.noex,I.ok.exfs,I.ok.funs,I.ok.frf⟩,I.os,I.bare,I.base,I.loc,I.cell,I.free,I.freeC,I.pin,I.hok,I.len⟩
theorem Inv.unmarked {X:Cx} {pins:List (Addr × Obj)} {σ:St} {H:Hp} {s:Shared} {v:Value} (I:Inv (X.marked v) pins σ H s) (hd:X.calm=true→X.A.handled=none) : Inv X pins σ H s:=
 ⟨⟨I.ok.mod,I.ok.kind,I.ok.glob,I.ok.blt,I.ok.above,I.ok.inj,I.ok.has,I.ok.cab,hd,I.ok.frames,I.ok.stk,I.ok.exf,I.ok.bs,I.ok.bsz,I.ok.noex,I.ok.exfs,I.ok.funs,I.ok.frf⟩,I.os,I.bare,I.base,I.loc,I.cell,I.free,I.freeC,I.pin,I.hok,I.len⟩
theorem SP.unmarked {X:Cx} {pins:List (Addr × Obj)} {D:Ends} {f:Flow} {s':Shared} {v:Value} (hd:X.calm=true→X.A.handled=none) (h:SP (X.marked v) pins D f s') : SP X pins D f s':=by
 cases f with
 | next=>obtain ⟨σ',H',I,q⟩:=h; exact ⟨σ',H',I.unmarked hd,q⟩
 | brk=>obtain ⟨σ',H',I,q⟩:=h; exact ⟨σ',H',I.unmarked hd,q⟩
 | cont=>obtain ⟨σ',H',I,q⟩:=h; exact ⟨σ',H',I.unmarked hd,q⟩
 | ret u=>obtain ⟨v,σ',H',I,r,q⟩:=h; exact ⟨v,σ',H',I.unmarked hd,r,q⟩
def Takes (K:PySem.W.Frag) (C T:Addr) : Prop:=PySem.W.exmOne K (.ref C) (.ref T)=some true
section
variable {X:Cx} {k:Nat} {f T:Addr} {fd:FuncData} {ps:List Str} {sp:Sp} {fx c:Str} {st:Stmt} {e:Expr} {es:List Expr} {t:TA} {b₀:Stmt} {suite:List Stmt} {th:TS} {np pf cpos apos hpos pos:Pos}
end
end L2

set_option maxHeartbeats 4000000
namespace L2
open PySem PySem.Spec PyProof.Rows Tl

def PP (X:Cx) (v:Expr) (c:St→Prop) : Prop:=∀ (pins:List (Addr × Obj)) (s:Shared) (σ:St) (H:Hp) (Q:Value→Shared→Prop),Inv X pins σ H s→c σ→(∀ (y:Str) (t:Tok) (s':Shared),y.length≤20000→Inv X pins σ H s'→Q (.str y t) s')→wpAny (model X.prog X.w) X.A (eval v X.env) Q X.xe s
def PJ (X:Cx) (vs:List Expr) (c:St→Prop) : Prop:=∀ (pins:List (Addr × Obj)) (s:Shared) (σ:St) (H:Hp) (acc:Str) (Q:Str→Shared→Prop),Inv X pins σ H s→c σ→acc.length+20000 * vs.length≤1000000→(∀ (z:Str) (s':Shared),z.length≤1000000→Inv X pins σ H s'→Q z s')→Joins (model X.prog X.w) X.A X.xe (evalEach vs X.env) acc Q s
section
variable {X:Cx}
theorem pj_nil:PJ X [] (fun _=>True):=fun _ s _ _ acc _ I _ ha q=>q acc s (by simpa using ha) I
theorem pj_cons {v:Expr} {vs:List Expr} {c d:St→Prop} (h:PP X v c) (hr:PJ X vs d) (he:evalEach (v :: vs) X.env=eval v X.env :: evalEach vs X.env:=by rfl) : PJ X (v :: vs) (fun σ=>c σ∧d σ):=by
 intro pins s σ H acc Q I hc ha q
 rw [he]
 refine h pins s σ H _ I hc.1 fun y t s' hy I'=>?_
 have hl:(acc++y).length=acc.length+y.length:=strLen_append _ _
 rw [List.length_cons] at ha
 refine ⟨y,t,rfl,?_,hr pins s' σ H (acc++y) Q I' hc.2 (by rw [hl]; omega) q⟩
 rw [hl]
 exact Nat.le_trans (show acc.length+y.length≤1000000 by omega) (by decide)
theorem pp_str {x:Str} {j pos} (hx:x.length≤20000:=by decide +kernel) : PP X (.Constant (.str x) j pos) (fun _=>True):=fun _ s _ _ _ I _ q=>Calls.Constant_str (q x _ _ hx (I.tok _))
theorem fmt_str {pins:List (Addr × Obj)} {s:Shared} {σ:St} {H:Hp} {Q:Value→Shared→Prop} {y:Str} {t:Tok} (I:Inv X pins σ H s) (hy:y.length≤20000) (q:∀ (y:Str) (t:Tok) (s':Shared),y.length≤20000→Inv X pins σ H s'→Q (.str y t) s') :
  wpAny (model X.prog X.w) X.A (formatField (.str y t) Str.empty) Q X.xe s:=
 formatField_str (fun t' tk=>q y t' _ hy (I.tok tk)) (Nat.le_trans hy (by decide))
theorem pp_repr {i:Nat} {e:Expr} {pos:Pos} (he:PE X e (tVar i)) : PP X (.FormattedValue e 114 none pos) (fun σ=>∃ l:List Nat,σ[i]? = some (some (.str (tx l)))∧l.length≤1000∧∀ c ∈ l,c < 127):=by
 intro pins s σ H Q I hc q
 obtain ⟨l,hv,hl,hc⟩:=hc
 refine wpAny_FormattedValue_repr (thn (he pins s σ H (fun v H'=>v = .str (tx l)∧H' = H) I ⟨_,hv,rfl,rfl⟩) fun u s1 ⟨x,H1,I1,r1,e1,e2⟩=>?_)
 subst e1 e2
 obtain ⟨t,rfl⟩:=r1
 have hb:(reprText (tx l)).length≤20000:=by
  have:=StrLaws.reprText_len (tx l) (fun c hm=>Nat.lt_trans (hc c (by simpa using hm)) (by decide))
  have e1:(reprText (tx l)).cps.toList.length=(reprText (tx l)).length:=Array.length_toList
  have e2:=tx_len l
  have e3:(tx l).cps.toList.length=(tx l).length:=Array.length_toList
  omega
 exact wpAny_pyReprObj_str (fmt_str (I1.tok _) hb q) (Nat.le_trans hb (by decide))
theorem pp_int {n:Int} {e:Expr} {pos:Pos} (he:PE X e (tC (.int n))) (hn:n.natAbs.log2 < 1920:=by decide) (hl:(toString n:Str).length≤20000:=by decide +kernel) : PP X (.FormattedValue e (-1) none pos) (fun _=>True):=by
 intro pins s σ H Q I _ q
 refine wpAny_FormattedValue_plain (thn (he pins s σ H (fun v H'=>v = .int n∧H' = H) I ⟨rfl,rfl⟩) fun u s1 ⟨x,H1,I1,r1,e1,e2⟩=>?_)
 subst e1 e2
 obtain ⟨t,rfl⟩:=r1
 exact wpAny_formatField_int hn (q _ _ _ hl (I1.tok _))
def tFs (c:St→Prop) : TE:=fun σ H Q=>c σ∧∀ z:Str,Q (.str z) H
theorem pe_fstr {v v2:Expr} {vs:List Expr} {c:St→Prop} {pos:Pos} (h:PJ X (v :: v2 :: vs) c) (hl:vs.length≤20:=by decide) : PE X (.JoinedStr (v :: v2 :: vs) pos) (tFs c):=by
 intro pins s σ H Q I hw
 refine wpAny_JoinedStr (h pins s σ H _ _ I hw.1 (by show 0+_≤_; simp only [List.length_cons]; omega) fun z s' hz I'=>⟨Nat.le_trans hz (by decide),.str z,H,I'.tok _,⟨_,rfl⟩,hw.2 z⟩)
end

section
variable {X:Cx} {elts:List Expr} {k1:Nat} {tp:Pos}
end

section
variable {X:Cx} {tg:Expr}
end
theorem valV_mem:∀ {kvs:List (Key × V)} {k:Key} {v:V},(kvs.map (·.1)).Nodup→(k,v) ∈ kvs→valV kvs k=some v
 | [],_,_,_,h=>by cases h
 | p :: r,k,v,nd,h=>by
  obtain ⟨h1,h2⟩:=List.nodup_cons.mp (show (p.1 :: r.map (·.1)).Nodup from nd)
  rcases List.mem_cons.mp h with e | h
  ·subst e
   exact valV_pos rfl
  ·rw [valV_neg (fun e=>h1 (List.mem_map.mpr ⟨(k,v),h,e.symm⟩))]
   exact valV_mem h2 h
theorem keq_all {A:Around} {s:Shared} {kvs:List (Key × V)} {vs2:List (Key × Value)} (r2:KV kvs vs2) (nd:(kvs.map (·.1)).Nodup) (fl:∀ p ∈ kvs,flatV p.2=true) :
  ∀ {k':List (Key × V)} {vs:List (Key × Value)},KV k' vs→(∀ p ∈ k',p ∈ kvs)→PySem.W.KeqHits A s vs2 vs true
 | _,_,.nil,_=>.nil
 | p :: k',q :: vs,.cons h t,hm=>by
  obtain ⟨k,v⟩:=q
  obtain ⟨pk,pv⟩:=p
  have ek:pk=k:=h.1
  subst ek
  have hv:=valV_mem nd (hm (pk,pv) List.mem_cons_self)
  obtain ⟨y,hy,ry⟩:=RelO.some_of (v:=pv) (o:=valueAt vs2 pk) (by rw [← hv]; exact r2.val pk)
  have f:=fl (pk,pv) (hm _ List.mem_cons_self)
  have e:=eqAt_V (A:=A) (s:=s) h.2 ry f f
  rw [eqV_refl f] at e
  exact PySem.W.KeqHits.hit (e:=true) (b:=true) hy e (keq_all r2 nd fl t fun p hp=>hm p (List.mem_cons_of_mem _ hp))
theorem op_eqD {X:Cx} (hu:X.A.units < cLine) : OpR X (compareOp .Eq) (fun x y H Q=>∃ a b kvs,x = .ref a∧y = .ref b∧H a=some (.dK kvs)∧H b=some (.dK kvs)∧(∀ p ∈ kvs,flatV p.2=true)∧Q (.bl true) H):=by
 intro pins s σ H x y v u Q I rx ry h
 obtain ⟨a,b,kvs,rfl,rfl,ha,hb,fl,q⟩:=h
 cases rx
 cases ry
 obtain ⟨_,la,vs,r,da⟩:=dk_of I.hok ha
 obtain ⟨_,lb,vs2,r2,db⟩:=dk_of I.hok hb
 have nd:(kvs.map (·.1)).Nodup:=by
  rw [r.keys]
  obtain ⟨_,_,_,_,_,_,_,_,n⟩:=da
  exact n
 refine PySem.W.keq_eq la lb da db hu (fun _=>keq_all r2 nd fl r fun _ h=>h) ?_
 rw [← r.length,← r2.length,beq_self_eq_true,Bool.true_and]
 exact ⟨.bl true,H,I,rfl,q⟩
theorem op_eqNil {X:Cx} (hu:X.A.units < cLine) : OpR X (compareOp .Eq) (fun x y H Q=>∃ a b xs,x = .ref a∧y = .ref b∧SqL X.K H a xs∧SqL X.K H b []∧Q (.bl xs.isEmpty) H):=by
 intro pins s σ H x y v u Q I rx ry h
 obtain ⟨a,b,xs,rfl,rfl,ha,hb,q⟩:=h
 cases rx
 cases ry
 obtain ⟨its,r,p,z⟩:=I.list ha
 obtain ⟨its2,r2,p2,z2⟩:=I.list hb
 have l1:=r.length
 have l2:=r2.length
 cases xs with
 | nil =>
  refine SeqAt.eq_listAt (e:=fun _=>true) p.isList p2.isList (by simp at l1 l2 ⊢; omega) hu (fun j h1 h2=>absurd h1 (by simp at l1 ⊢; omega)) ⟨.bl _,H,I,rfl,?_⟩
  have e:its.toArray.size=0:=by rw [List.size_toArray]; exact l1.symm
  rw [e]
  exact q
 | cons x r=>exact SeqAt.eq_list_lengthsAt p.isList p2.isList (by simp at l1 l2 ⊢; omega) hu ⟨.bl false,H,I,rfl,q⟩
end L2

namespace L2
open PySem PySem.Spec PyProof.Rows

section
variable {X:Cx}
theorem eqVs_min {xs ys:List V} : ((List.range (min xs.length ys.length)).all (fun j=>eqV ((xs[j]?).getD .non) ((ys[j]?).getD .non)) && (xs.length == ys.length))=eqVs xs ys:=by
 by_cases hl:xs.length=ys.length
 ·rw [← hl,Nat.min_self,eqVs_range hl]
  simp
 ·rw [eqVs_len hl]
  simp [hl]
def rEqT (K:PySem.W.Frag) (neg:Bool) : R2:=fun x y H Q=>∃ a b xs ys,x = .ref a∧y = .ref b∧SqT K H a xs∧SqT K H b ys∧xs.all flatV=true∧ys.all flatV=true∧Q (.bl (if neg then !eqVs xs ys else eqVs xs ys)) H
theorem op_eqT (hu:X.A.units < cLine) : OpR X (compareOp .Eq) (rEqT X.K false):=by
 intro pins s σ H x y v u Q I rx ry h
 obtain ⟨a,b,xs,ys,rfl,rfl,ha,hb,fx,fy,q⟩:=h
 cases rx
 cases ry
 obtain ⟨its,r,p,z⟩:=I.tuple ha
 obtain ⟨its2,r2,p2,z2⟩:=I.tuple hb
 have l1:=r.length
 have l2:=r2.length
 refine SeqAt.eq_tupleAt (e:=fun j=>eqV ((xs[j]?).getD .non) ((ys[j]?).getD .non)) p p2 hu (fun j h1 h2=>items_eq r r2 fx fy j h1 h2) ⟨.bl _,H,I,rfl,?_⟩
 have e1:its.toArray.size=xs.length:=by simp; omega
 have e2:its2.toArray.size=ys.length:=by simp; omega
 rw [e1,e2,eqVs_min]
 exact q
theorem op_neT (hu:X.A.units < cLine) : OpR X (compareOp .NotEq) (rEqT X.K true):=by
 intro pins s σ H x y v u Q I rx ry h
 obtain ⟨a,b,xs,ys,rfl,rfl,ha,hb,fx,fy,q⟩:=h
 cases rx
 cases ry
 obtain ⟨its,r,p,z⟩:=I.tuple ha
 obtain ⟨its2,r2,p2,z2⟩:=I.tuple hb
 have l1:=r.length
 have l2:=r2.length
 refine SeqAt.RcNeAt.tuples (e:=fun j=>eqV ((xs[j]?).getD .non) ((ys[j]?).getD .non)) p p2 hu (fun j h1 h2=>items_eq r r2 fx fy j h1 h2) _ _ _ _ ⟨.bl _,H,I,rfl,?_⟩
 have e1:its.toArray.size=xs.length:=by simp; omega
 have e2:its2.toArray.size=ys.length:=by simp; omega
 rw [e1,e2,eqVs_min]
 exact q
theorem orG {a:Prop} {_inst:Decidable a} {X A B:Prop} (ha:a→A) (hx:¬ a→X) : if a then (if true=true then A else B) else X:=by
 by_cases h:a
 ·rw [if_pos h]; exact ha h
 ·rw [if_neg h]; exact hx h
end
end L2

namespace HT
open PySem PyProof.Rows
section
open PySem.SeqAt
open PySem.AutoSeq1 (wpAny_loadPart')
open PySem.MeetsSeq PySem.MeetsSeq2 PySem.MeetsSeq3

end
end HT

namespace L2
open PySem PySem.Spec PyProof.Rows
section
variable {X:Cx}

end
end L2

set_option maxHeartbeats 4000000
namespace L2
open PySem PySem.Spec PyProof.Rows Tl
abbrev pl (x:Int × Int) : List V:=[.int x.1,.int x.2]
abbrev fm (w h f m:Int) : List V:=[.int w,.int h,.int f,.int m]
inductive Say where
 | text (l:List Nat)
 | page (k:Nat)
 | row (k:Nat)
theorem hput {H:Hp} {a l:Addr} {o u:HO} (h:H a=some u) (n:a≠l) : upd H l o a=some u:=by rw [upd_ne n]; exact h
section
variable {X:Cx}
end
structure Wd where
 lead:Int
 kept:Bool
 say:Say
 foot:List Say

section
variable {prog:Program} {w:World} {A:Around} {R:Result→Shared→Prop} {I:Addr} {fp wr:List Addr} {P:Nat→Value→Prop} {St:Nat→Heap→Prop}
end
section
variable {prog:Program} {w:World} {A:Around} {R:Result→Shared→Prop} {I:Addr} {fp wr:List Addr} {P:Nat→Value→Prop} {St:Nat→Heap→Prop}
end
structure Frm where
 w:Int
 h:Int
 f:Int
 m:Int
theorem op_neNil {X:Cx} (hu:X.A.units < cLine) : OpR X (compareOp .NotEq) (fun x y H Q=>∃ a b xs,x = .ref a∧y = .ref b∧SqL X.K H a xs∧SqL X.K H b []∧Q (.bl (!xs.isEmpty)) H):=by
 intro pins s σ H x y v u Q I rx ry h
 obtain ⟨a,b,xs,rfl,rfl,ha,hb,q⟩:=h
 cases rx
 cases ry
 obtain ⟨its,r,p,z⟩:=I.list ha
 obtain ⟨its2,r2,p2,z2⟩:=I.list hb
 have l1:=r.length
 have l2:=r2.length
 cases xs with
 | nil =>
  refine SeqAt.RcNeAt.lists (e:=fun _=>true) p.isList p2.isList (by simp at l1 l2 ⊢; omega) hu (fun j h1 h2=>absurd h1 (by simp at l1 ⊢; omega)) _ _ _ _ ⟨.bl _,H,I,rfl,?_⟩
  have e:its.toArray.size=0:=by rw [List.size_toArray]; exact l1.symm
  rw [e]
  exact q
 | cons x r=>exact SeqAt.RcNeAt.lists_lengths p.isList p2.isList (by simp at l1 l2 ⊢; omega) hu _ _ _ _ ⟨.bl true,H,I,rfl,q⟩
inductive CL:List Expr→List V→Prop where
 | nil:CL [] []
 | int {i:Int} {j:Nat} {pos:Pos} {es:List Expr} {vs:List V} (h:CL es vs) : CL (.Constant (.int i) j pos :: es) (.int i :: vs)
 | str {x:Str} {j:Nat} {pos:Pos} {es:List Expr} {vs:List V} (h:CL es vs) : CL (.Constant (.str x) j pos :: es) (.str x :: vs)
def tVs (vs:List V) : TA:=fun _ H Q=>Q vs H
theorem pa_cl {X:Cx} : ∀ {es:List Expr} {vs:List V},CL es vs→PA X es (tVs vs)
 | _,_,.nil=>pa_nil
 | _,_,.int h=>pa_cons pe_int (pa_cl h)
 | _,_,.str h=>pa_cons pe_str (pa_cl h)
theorem ps_pick {X:Cx} {i:Nat} {x:Str} {es:List Expr} {vs:List V} {b:Expr} {tb:TE} {p1 p2 p3 p4:Pos} (hN:X.N.Nodup) (hi:X.N[i]? = some x) (hx:Loc X.env.scope x) (hc:CL es vs) (hb:PE X b tb) (hs:PlainIx b)
  (hf:X.fn x=true∨X.env.scope.names.lookup x=some .local) : PS X (.Assign [.Name x p1] (.Subscript (.List es p2) b p3) p4) (tAsg (tOp (rIxL X.K) (tLst (tVs vs)) tb) (gName i)):=
 ps_set (i:=i) hN hi hx (pe_ix ix_list (pe_lst (pa_cl hc)) hb hs)
section
variable (F:Frm) (ds:List Wd) (xs:List (Int × Int)) (k:Str) (i:Nat) (j:Int)
end
section
variable {F:Frm} {ds:List Wd} {xs ys:List (Int × Int)}
end
section
variable {prog:Program} {w:World} {A:Around} {R:Result→Shared→Prop} {I:Addr} {fp wr:List Addr} {n:Nat} {P:Nat→Value→Prop} {St:Nat→Heap→Prop}
end
section
variable {F:Frm} {ds:List Wd} {xs:List (Int × Int)} {i:Nat}
end
section
variable {F:Frm} {ds:List Wd} {xs ys:List (Int × Int)} {i:Nat}
end
section
variable {X:Cx} {elts:List Expr} {k1:Nat} {tp:Pos}
end
end L2

set_option maxHeartbeats 4000000
namespace PySem
section
variable {prog:Program} {w:World} {A:Around} {E:Value→Shared→Prop} {s:Shared}
end
section
variable {prog:Program} {w:World} {A:Around} {R:Result→Shared→Prop}
end
namespace F
end F
section
variable {prog:Program} {w:World} {A:Around} {s:Shared} {R:Result→Shared→Prop}
end
section
variable {prog:Program} {w:World} {A:Around} {E:Value→Shared→Prop} {s:Shared}
end
end PySem

set_option maxHeartbeats 4000000
namespace L2
open PySem PySem.Spec PyProof.Rows Tl
section
variable {X:Cx} {x:Str} {st:Stmt} {ps:List Str} {f:Addr} {fd:FuncData} {dv:Value} {k:Nat} {sp:Sp} {e:Expr} {es:List Expr} {t:TA} {p pos:Pos}
end
section
variable {F:Frm} {ds:List Wd} {xs ys zs:List (Int × Int)} {i j:Nat}
end
section
variable {F:Frm} {ds:List Wd} {x0 xs zs:List (Int × Int)} {np i:Nat}
end
section
variable {F:Frm} {ds:List Wd} {xs:List (Int × Int)} {i j:Nat}
end
section
variable {F:Frm} {ds:List Wd} {xs:List (Int × Int)} {i j:Nat}
end
section
variable {F:Frm} {ds es:List Wd} {xs ys:List (Int × Int)} {a r:Nat}
end
section
variable {a:Nat} {ds rs:List Wd}
end
section
variable {X:Cx}
end
end L2

set_option maxHeartbeats 4000000
namespace L2
open PySem PySem.W PySem.Calls PySem.Spec PyProof.Rows Builtin Builtin.ObjectAttr Builtin.Getset_descriptor
section
variable {prog:Program} {w:World} {A:Around} {E:Value→Shared→Prop} {h:Heap} {g:Array GenState} {d:Drawn} {t:Nat} {os:OsState} {K:Frag} {x C:Addr}
end
end L2

namespace L2
open PySem PySem.W PySem.Spec PyProof.Rows
section
variable {X:Cx} {pins:List (Addr × Obj)} {σ:St} {H:Hp} {s:Shared}
end
section
variable {X:Cx} {k:Nat} {f T:Addr} {fd:FuncData} {ps:List Str} {sp:Sp} {fx c n:Str} {i:Nat} {st:Stmt} {e:Expr} {es:List Expr} {t:TA} {b₀:Stmt} {suite:List Stmt} {th:TS} {np pf cpos apos hpos pos:Pos}
end
theorem pass_never {P:Program} {w:World} {X:Cx} : Passes (CXe P w) X (fun _ _ _=>False):=by
 intro pins σ H1 s1 e s' I h
 obtain ⟨x,C,H',B,a0,rfl,os,bare,un,hok,cov1,cov2,fl,ee⟩:=h
 exact ee.elim
end L2

namespace L2
open PySem PySem.Spec PyProof.Rows

structure MetOk (K:PySem.W.Frag) (C:Addr) (m qual:Str) (st:Stmt) (ps:List Str) (f:Addr) (fd:FuncData) : Prop where
 fn:Fun K m qual st f fd
 bd:Binds K fd ps []
 me:Meth K C m f
structure ClsOk (K:PySem.W.Frag) (mg:Str→Option Value) (c:Str) (C:Addr) : Prop where
 mg:mg c=some (.ref C)
 cl:Cls K C
 mks:PySem.W.makesIn K C=true
 kp:PySem.W.keepIn K (.ref C)=true
theorem ClsOk.made {K:PySem.W.Frag} {mg:Str→Option Value} {c qual:Str} {C f:Addr} {st:Stmt} {ps:List Str} {fd:FuncData} (L:ClsOk K mg c C) (D:MetOk K C "__init__" qual st ps f fd) : Mk K C f:=⟨L.mks,D.me.at_,D.me.fn,L.kp⟩
theorem metok_mk {K:PySem.W.Frag} {C f:Addr} {x q:Str} {st:Stmt} {ps:List Str} {od an:Option Addr} {sl:Array (Option Value)} {oc kV dc pm cd ct:Value} (a:PySem.W.findIn K (.ref C) x=some (some (.ref f))) (fn:PySem.W.isFn K (.ref f)=true)
  (l:K.lookup f=some ⟨oc,od,.func (PySem.W.fnOf x q (defArgs st) (defBody st) (defScope st) .none kV dc pm an cd ct),sl⟩) (c:PySem.W.codeIn K cd q=true) (k:PySem.W.keepIn K (.ref f)=true)
  (b:∀ (kV doc pm:Value) (an:Option Addr) (cdv ct:Value) (us:List Value),us.length=ps.length→bindArgs (PySem.W.fnOf x q (defArgs st) (defBody st) (defScope st) .none kV doc pm an cdv ct) ⟨us,[]⟩=pure (ps.zip us)) :
  MetOk K C x q st ps f (PySem.W.fnOf x q (defArgs st) (defBody st) (defScope st) .none kV dc pm an cd ct):=
 ⟨fun_mk l c k,(fun_mk l c k).binds b,a,fn,k⟩
section
variable {X:Cx} {CX:CXT} {E:XK} {c m qual:Str} {st:Stmt} {ps:List Str} {C f:Addr} {fd:FuncData} {k:Nat} {sp:Sp} {o e:Expr} {es:List Expr} {ta:TE} {t:TA} {p pos apos:Pos}
theorem pe_mc {pl:Sem Bool} (hx:Passes CX X E) (L:ClsOk X.K X.mg c C) (D:MetOk X.K C m qual st ps f fd) (G:FnOk X.prog X.w X.K X.mg X.base CX k f fd ps sp) (hr:Room k X.A) (he:PE X o ta) (ha:PA X (e :: es) t)
  (hst:starEach (e :: es) X.env=(false,eval e X.env) :: starEach es X.env:=by rfl) (hpl:(backTo pos (starEach es X.env)).any (·.1)=false:=by rfl)
  (ht:eval (.Call (.Attribute o m apos) (e :: es) [] pos) X.env=(do
   let ov ← eval o X.env
   standAt apos.atName
   let (f,first) ← holding [ov] (getMethod ov m pl)
   callWith pos f first (backTo pos (starEach (e :: es) X.env)) (backToKw pos (keywordEach [] X.env))):=by rfl) :
  PE X (.Call (.Attribute o m apos) (e :: es) [] pos) (tMeth C m sp [] E ta t):=pe_meth he L.cl D.me G hr D.bd .nil hx ha hst hpl ht
theorem pe_mc0 {pl:Sem Bool} (hx:Passes CX X E) (L:ClsOk X.K X.mg c C) (D:MetOk X.K C m qual st ps f fd) (G:FnOk X.prog X.w X.K X.mg X.base CX k f fd ps sp) (hr:Room k X.A) (he:PE X o ta)
  (ht:eval (.Call (.Attribute o m apos) [] [] pos) X.env=(do
   let ov ← eval o X.env
   standAt apos.atName
   let (f,first) ← holding [ov] (getMethod ov m pl)
   callWith pos f first (backTo pos (starEach [] X.env)) (backToKw pos (keywordEach [] X.env))):=by rfl) :
  PE X (.Call (.Attribute o m apos) [] [] pos) (tMeth C m sp [] E ta tNil):=pe_meth0 he L.cl D.me G hr D.bd .nil hx ht
theorem pe_new (hx:Passes CX X E) (L:ClsOk X.K X.mg c C) (D:MetOk X.K C "__init__" qual st ps f fd) (G:FnOk X.prog X.w X.K X.mg X.base CX k f fd ps sp) (hr:Room (k+1) X.A) (hg:Gl X c) (ha:PA X (e :: es) t) (hd:(c == ("__debug__" : Str))=false:=by decide)
  (he:starEach (e :: es) X.env=(false,eval e X.env) :: starEach es X.env:=by rfl) (hpl:(backTo pos (starEach es X.env)).any (·.1)=false:=by rfl) :
  PE X (.Call (.Name c p) (e :: es) [] pos) (tMake C sp [] E t):=pe_make (L.made D) G hr hg L.mg D.bd .nil hx ha hd he hpl
end

section
variable {X:Cx} {k:Nat} {f T C:Addr} {fd:FuncData} {ps:List Str} {sp:Sp} {cn qual c:Str} {st:Stmt} {e:Expr} {es:List Expr} {t:TA} {b₀:Stmt} {suite:List Stmt} {th:TS} {np pf cpos apos hpos pos:Pos}
end
end L2

namespace L2
open PySem PySem.Spec PyProof.Rows PySem.W

theorem rel_key {P:Program} {w:World} {k:Key} {v:Value} (h:(mixKind P w).is k v=true) : RelV (kV k) v:=by
 rcases keyIs_shape (show keyIs k v=true from h) with ⟨i,t,rfl,rfl⟩ | ⟨x,t,rfl,rfl⟩
 ·exact ⟨t,rfl⟩
 ·exact ⟨t,rfl⟩
section
variable {X:Cx}
theorem keys_vals {P:Program} {w:World} {kvs:List (Key × V)} {vs:List (Key × Value)} {us:List Value} (r:KV kvs vs) (hl:us.length=vs.length) (h:∀ (j:Nat) (v:Value),us[j]? = some v→∃ k x,vs[j]? = some (k,x)∧(mixKind P w).is k v=true) : Vals (kvs.map fun p=>kV p.1) us:=by
 unfold KV at r
 induction r generalizing us with
 | nil=>cases us with
  | nil=>exact .nil
  | cons u us=>cases hl
 | @cons p q ps qs hq t ih=>cases us with
  | nil=>cases hl
  | cons u us =>
   refine .cons ?_ (ih (Nat.succ.inj hl) fun j v e=>h (j+1) v e)
   obtain ⟨k,x,e,ek⟩:=h 0 u rfl
   cases e
   show RelV (kV p.1) u
   rw [hq.1]
   exact rel_key ek
theorem dict_at {P:Program} {w:World} {h:Heap} {a:Addr} {vs:List (Key × Value)} (d:h.DictOf (mixKind P w) a vs) : ∃ ep,h.DictAt (mixKind P w) a vs ep:=by
 obtain ⟨o,es,ep,r⟩:=d
 exact ⟨ep,o,es,r⟩
theorem call_list_dict (hc:X.calm=true) : CallR X (.type "list") (fun xs H Q=>∃ a kvs,xs=[.ref a]∧Rd H a (.dK kvs)∧∀ p,H p=none→Q (.ref p) (upd H p (.lst (kvs.map fun q=>kV q.1)))):=by
 intro pins s σ H xs us Q I r h
 obtain ⟨a,kvs,rfl,hr,q⟩:=h
 obtain ⟨u,rfl,ru⟩:=vals1 r
 cases ru
 obtain ⟨hz,hs,vs,rel,dd⟩:=dk_rd I.hok hr
 obtain ⟨ep,da⟩:=dict_at dd
 refine kdl_call (kdl_dict (knd:=mixKind X.prog X.w) (kvs:=vs) (ep:=ep) hs) (I.ok.hd hc) da (by rw [← rel.length]; exact hz) fun h' tk acc c' hk hD hacc=>?_
 have hv:Vals (kvs.map fun p=>kV p.1) acc.toList:=keys_vals (P:=X.prog) (w:=X.w) rel (by rw [Array.length_toList]; exact hacc.1) fun j v e=>hacc.2 j v (by rw [← Array.getElem?_toList]; exact e)
 refine ⟨.ref _,_,I.laid (o:=.lst (kvs.map fun q=>kV q.1)) (t':=tk) hk (Nat.le_refl _) ⟨by rw [List.length_map]; exact hz,acc.toList,c',hv,?_⟩,rfl,q _ I.fresh⟩
 rw [Array.toArray_toList]
 exact hD
end
section
variable {prog:Program} {w:World} {A:Around} {E:Value→Shared→Prop} {s:Shared} {T:String} {r d:Addr} {n:Nat} {P:Nat→Value→Prop} {OK:Heap→Prop}
theorem collect_kdl {Q:List Value→Shared→Prop} (K:KdlSrc prog w T r d n P OK) (hh:A.handled=none) (hok:OK s.heap) (hn:n≤sizeLine)
  (h:∀ (vs:List Value) h' tk,s.heap.objs.size≤h'.objs.size→(∀ b o,s.heap.get? b=some o→h'.get? b=some o)→vs.length=n→(∀ (j:Nat) (v:Value),vs[j]? = some v→P j v)→Q vs { s with heap:=h',toks:=tk }) :
  wpAny (model prog w) A (collect (.ref r)) Q E s:=by
 unfold collect
 refine wpAny_bind (wpAny_runValue (codeAny_builtin entry_proto_collect' ?_))
 show wpAny _ _ (do again (.builtin "list.__iadd__" ⟨[← newList [],.ref r],[]⟩)) _ _ s
 have hlt:=K.there _ hok
 refine wpAny_bind (wpAny_newList (wpAny_pure ⟨Code.quiet_builtin _ (by decide +kernel),codeAny_builtin entry_list_iadd' ?_⟩))
 show wpAny _ _ (Builtin.List.listExtendWith (.ref s.heap.objs.size) (.ref r) (.ref s.heap.objs.size)) _ _ { s with heap:=s.heap.push (seqObj "list" #[] 0) }
 rw [Around.under_plainId (by decide +kernel:plainId "list.__iadd__" = true) _]
 refine kdl_extend (R:=fun r s'=>match r with | .ok (.ret v)=>wpAny (model prog w) A (match v with | .ref a=>(do let o ← load a; match o.data with | .seq xs _=>pure xs.toList | _=>unsupported "internal:collect") | _=>unsupported "internal:collect") Q E s' | .ok _=>False | .error e=>E e s') (s:={ s with heap:=s.heap.push (seqObj "list" #[] 0) }) K hh (K.keep _ _ hok fun b _ o e=>Heap.get?_push_of_some _ e) _ (Nat.ne_of_gt hlt.1) (Nat.ne_of_gt hlt.2) _ 0 (Heap.get?_push_size _ rfl) (fun h' tk acc' c' hk hS hacc=>?_) hn
 show wpAny (model prog w) A (do
   let o ← load s.heap.objs.size
   match o.data with
   | .seq xs _=>pure xs.toList
   | _=>unsupported "internal:collect") Q E { s with heap:=h',toks:=tk }
 refine wpAny_bind (wpAny_load hS ?_)
 show wpAny _ _ (pure acc'.toList) Q E _
 exact wpAny_pure (h _ _ _ (Nat.le_of_lt (Heap.lt_size hS)) (fun b o e=>hk b o (Nat.ne_of_lt (Heap.lt_size e)) (Heap.get?_push_of_some _ e)) (by rw [Array.length_toList]; exact hacc.1) fun j v e=>hacc.2 j v (by rw [← Array.getElem?_toList]; exact e))
end
section
variable {X:Cx}
theorem strs_of:∀ {ss:List Str} {us:List Value},Vals (ss.map V.str) us→StrsAre us ss
 | [],_,.nil=>.nil
 | s :: ss,_,.cons r t=>by
  obtain ⟨k,e⟩:=(show ∃ k,_=Value.str s k from r)
  subst e
  exact .cons s k (strs_of t)
theorem of_strs:∀ {us:List Value} {ss:List Str},StrsAre us ss→Vals (ss.map V.str) us
 | _,_,.nil=>.nil
 | _,_,.cons y t h=>.cons ⟨t,rfl⟩ (of_strs h)
theorem call_sorted_dict (hc:X.calm=true) : CallR X (.builtin "sorted") (fun xs H Q=>∃ a kvs,∃ ss:List Str,xs=[.ref a]∧Rd H a (.dK kvs)∧(kvs.map fun q=>kV q.1)=ss.map V.str∧ss.length < 64∧∀ (p:Addr) (ss':List Str),H p=none→ss'.Perm ss→Q (.ref p) (upd H p (.lst (ss'.map V.str)))):=by
 intro pins s σ H xs us Q I r h
 obtain ⟨a,kvs,ss,rfl,hr,hk,hl,q⟩:=h
 obtain ⟨u,rfl,ru⟩:=vals1 r
 cases ru
 obtain ⟨hz,hs,vs,rel,dd⟩:=dk_rd I.hok hr
 obtain ⟨ep,da⟩:=dict_at dd
 refine Calls.call_function_entry kind_sorted plain_sorted entry_sorted (args_sorted1 _) ?_
 unfold Builtin.«sorted»
 refine wpAny_bind (m:=checkCount "sorted" 1 1 _) (wpAny_pure ?_)
 refine wpAny_bind (collect_kdl (kdl_dict (knd:=mixKind X.prog X.w) (kvs:=vs) (ep:=ep) hs) (I.ok.hd hc) da (by rw [← rel.length]; exact hz) fun ws h' tk hsz hkp hwl hws=>?_)
 have hv:Vals (ss.map V.str) ws:=by rw [← hk]; exact keys_vals (P:=X.prog) (w:=X.w) rel hwl hws
 have hS:=strs_of hv
 have h64:ws.length < 64:=by rw [← hv.length,List.length_map]; exact hl
 refine wpAny_bind (wpAny_newList ?_ (by rw [sizeLine_eq]; omega))
 have hoL:(h'.push (seqObj "list" ws.toArray 0)).get? h'.objs.size=some (seqObj "list" ws.toArray 0):=Heap.get?_push_size _ rfl
 refine wpAny_bind (wpAny_holding (wpAny_call_entry slot_list_sort ⟨_,hoL,rfl⟩ entry_list_sort (list_sort_treeK strKind_oneLt hoL hS.keysOf (fun v₁ v₂ rest e=>keyKind_strs (by rw [← e]; exact hS)) h64 fun st' hp hss=>⟨_,rfl,?_⟩) (args_list_sort _)))
 obtain ⟨ss',a1,a2,a3⟩:=sorted_out_str hS hp hss
 obtain ⟨e,he⟩:=sortedHeap_at (vs:=ws) (out:=(arrOf st').map (·.2)) hoL
 have keep:∀ b u,s.heap.get? b=some u→(sortedHeap (h'.push (seqObj "list" ws.toArray 0)) h'.objs.size ws ((arrOf st').map (·.2))).get? b=some u:=fun b u hb=>by
  have hb':=hkp b u hb
  have hlt:=Heap.lt_size hb'
  rw [sortedHeap_old (Nat.ne_of_lt hlt) (by rw [size_push']; exact Nat.lt_succ_of_lt hlt)]
  exact Heap.get?_push_of_some _ hb'
 refine wpAny_pure ⟨_,rfl,⟨.ref h'.objs.size,_,I.laid (o:=.lst (ss'.map V.str)) (t':=tk) keep hsz ⟨?_,((arrOf st').map (·.2)).toList,e,of_strs a1,?_⟩,rfl,q _ ss' (I.hok.fresh hsz) a2⟩⟩
 ·rw [List.length_map,a2.length_eq,sizeLine_eq]; omega
 ·rw [Array.toArray_toList]; exact he
end

def Hz (X:Cx) (a:Addr) : Prop:=∀ o u,X.H₀ a≠some (.frz o u)
section
variable {X:Cx} {pins:List (Addr × Obj)} {σ:St} {H:Hp} {s:Shared} {a:Addr} {kvs:List (Key × V)}
theorem Inv.hz (I:Inv X pins σ H s) (e:H a=some (.dK kvs)) : Hz X a:=fun o u z=>by
 have:=I.base.frzs a o u z
 rw [e] at this
 cases this
theorem hok_relabel {P:Program} {w:World} {h:Heap} {u v:HO} (ok:HOk P w H h) (e:H a=some u) (hu:∀ b,u≠.own b) (ht:∀ xs,u≠.tup xs) (new:ObjOk P w (upd H a v) h a v) : HOk P w (upd H a v) h:=fun b o q=>by
 by_cases eb:b=a
 ·rw [eb,upd_same] at q
  cases q
  rw [eb]
  exact new
 ·rw [upd_ne eb] at q
  refine (ok b o q).stay (fun _ _ _ z=>z) (fun c z=>?_) fun c xs z=>?_
  ·rw [upd_ne (fun y=>hu b (by rw [y,e] at z; exact Option.some.inj z))]; exact z
  ·rw [upd_ne (fun y=>ht xs (by rw [y,e] at z; exact Option.some.inj z))]; exact z
theorem dk_relabel {P:Program} {w:World} {h:Heap} {H':Hp} (x:ObjOk P w H h a (.dK kvs)) : ObjOk P w H' h a (.dK kvs):=x
theorem Inv.freeze (I:Inv X pins σ H s) (e:H a=some (.dK kvs)) : ∃ o,s.heap.get? a=some o∧Inv X pins σ (upd H a (.frz o (.dK kvs))) s:=by
 have x:ObjOk X.prog X.w H s.heap a (.dK kvs):=I.hok a _ e
 obtain ⟨_,_,vs,_,o,es,ep,ho,_⟩:=id x
 refine ⟨o,ho,?_⟩
 have:=I.step (h':=s.heap) (H':=upd H a (.frz o (.dK kvs))) (g':=s.gens) (d':=s.drawn) (t':=s.toks) (ch:=[]) (fun _ z=>nomatch z) (fun b o _ _ _ z _=>z) (fun b o _ _ _ z _=>⟨o.slots,z⟩)
  (fun b o' _ _ n=>by rw [upd_ne (fun y=>by rw [y,e] at n; cases n)]; exact n) (fun b o _ z=>⟨o,z⟩) (fun b xs z=>by rw [upd_ne (fun y=>by rw [y,e] at z; cases z)]; exact z)
  (fun b o u z=>by rw [upd_ne (fun y=>by rw [y,e] at z; cases z)]; exact z) (fun b ps z=>⟨#[],by rw [upd_ne (fun y=>by rw [y,e] at z; cases z),z]; simp⟩) (fun m hm=>hm)
  (hok_relabel I.hok e (fun b z=>by cases z) (fun xs z=>by cases z) ⟨ho,dk_relabel x⟩) I.bare
 exact this
theorem Inv.thaw {o:Obj} (I:Inv X pins σ H s) (hz:Hz X a) (e:H a=some (.frz o (.dK kvs))) : Inv X pins σ (upd H a (.dK kvs)) s:=by
 have x:ObjOk X.prog X.w H s.heap a (.frz o (.dK kvs)):=I.hok a _ e
 have free:∀ b,H b=none→upd H a (.dK kvs) b=none:=fun b n=>by rw [upd_ne (fun y=>by rw [y,e] at n; cases n)]; exact n
 refine ⟨I.ok,I.os,I.bare,⟨I.base.keep,I.base.slot,fun b o' q n hx=>free b (I.base.free b o' q n hx),I.base.there,fun b xs q=>?_,fun b o' u q=>?_,fun b ps q=>?_⟩,I.loc,I.cell,free _ I.free,fun y c q=>free _ (I.freeC y c q),fun p hp=>?_,?_,I.len⟩
 ·have z:=I.base.tups b xs q
  rw [upd_ne (fun y=>by rw [y,e] at z; cases z)]; exact z
 ·have z:=I.base.frzs b o' u q
  rw [upd_ne (fun y=>hz o' u (by rw [← y]; exact q))]; exact z
 ·obtain ⟨m1,z⟩:=I.base.tbls b ps q
  exact ⟨m1,by rw [upd_ne (fun y=>by rw [y,e] at z; cases z)]; exact z⟩
 ·obtain ⟨z1,z2,z3⟩:=I.pin p hp
  exact ⟨z1,free _ z2,z3⟩
 ·exact hok_relabel I.hok e (fun b z=>by cases z) (fun xs z=>by cases z) (dk_relabel x.2)
end
def Itk (a:Addr) (o:Obj) (kvs:List (Key × V)) : It:=
 ⟨fun i H=>H a=some (.frz o (.dK kvs))∧i < kvs.length,fun i H x H'=>H' = H∧∃ p,kvs[i]? = some p∧x=kV p.1,fun i H=>H a=some (.frz o (.dK kvs))∧kvs.length≤i⟩
def epO (o:Obj) : Nat:=match o.data with
 | .dict _ ep=>ep
 | _=>0
theorem frz_dict {P:Program} {w:World} {H:Hp} {h:Heap} {a:Addr} {o:Obj} {kvs:List (Key × V)} (ok:HOk P w H h) (e:H a=some (.frz o (.dK kvs))) : (a == sysModules)=false∧∃ vs,KV kvs vs∧h.DictAt (mixKind P w) a vs (epO o):=by
 obtain ⟨ho,_,hs,vs,rel,o',es,ep,ho',hx,hd,r⟩:=(show ObjOk P w H h a (.frz o (.dK kvs)) from ok a _ e)
 rw [ho] at ho'
 cases ho'
 refine ⟨hs,vs,rel,o,es,ho,hx,?_,r⟩
 unfold epO
 rw [hd]
theorem kv_get {kvs:List (Key × V)} {vs:List (Key × Value)} (r:KV kvs vs) : ∀ {i:Nat} {p:Key × V},kvs[i]? = some p→∃ x,vs[i]? = some (p.1,x):=by
 unfold KV at r
 induction r with
 | nil=>intro i p h; cases h
 | @cons p q ps qs hq t ih =>
  intro i p' h
  cases i with
  | zero=>cases h; exact ⟨q.2,by show some q=_; rw [hq.1]⟩
  | succ i=>exact ih h
theorem turn_dict {P:Program} {w:World} {K:PySem.W.Frag} {tg:Expr} (a it:Addr) (o:Obj) (kvs:List (Key × V)) (hne:a≠it) : Turn P w K tg (Itk a o kvs) [it] it (fun i h=>h.IsKeyIter it a i kvs.length (epO o)) where
 mem:=by simp
 obj:=fun i h st b hb=>by
  have e:b=it:=by simpa using hb
  subst e
  obtain ⟨o,e,c,d⟩:=st
  exact ⟨o,e,fun v z=>by rw [d] at z; cases z⟩
 keep:=fun i h h' st k=>st.at fun o e=>k it (by simp) o e
 item:=by
  intro X hP hw hK hc i pins s σ H E I hf st hg
  subst hP hw hK
  obtain ⟨he,hi⟩:=hg
  obtain ⟨hs,vs,rel,da⟩:=frz_dict I.hok he
  obtain ⟨x,hx⟩:=kv_get rel (List.getElem?_eq_getElem hi)
  obtain ⟨f0,f1,f2,f3,f4,f5⟩:=hf it (by simp)
  rw [show kvs.length=vs.length from rel.length] at st
  refine wpAny_pyNext_dict_item st da hx fun key h' hk st' sb=>?_
  have I1:Inv X pins σ H { s with heap:=h' }:=I.turned (t':=s.toks) (fun b o hb e=>(sb.2 b hb).trans e) f0 f1 f3 f4 f5
  rw [← show kvs.length=vs.length from rel.length] at st'
  obtain ⟨oi,e,c,d⟩:=id st'
  exact ⟨key,rfl,go_of (s:={ s with heap:=h' }) e c d (by decide) ⟨kV kvs[i].1,H,I1,rel_key hk,⟨rfl,kvs[i],List.getElem?_eq_getElem hi,rfl⟩,st',fun b hb=>(hf b hb).1⟩⟩
 done:=by
  intro X hP hw hK hc i pins s σ H E I hf st hg
  subst hP hw hK
  obtain ⟨he,hi⟩:=hg
  obtain ⟨hs,vs,rel,da⟩:=frz_dict I.hok he
  obtain ⟨f0,f1,f2,f3,f4,f5⟩:=hf it (by simp)
  rw [show kvs.length=vs.length from rel.length] at st
  exact wpAny_pyNext_dict_end (I.ok.hd hc) st da (List.getElem?_eq_none (by rw [← rel.length]; exact hi)) fun h' eb=>⟨rfl,I.turned (t':=s.toks) (fun b o hb e=>eb b o hb e) f0 f1 f3 f4 f5⟩
 self:=fun _ _ _ _ _ st h=>wpAny_pyIter_keyiter st h

def thawP (X:Cx) (P:Hp→Prop) : Hp→Prop:=fun H=>∃ a kvs o,Hz X a∧H a=some (.frz o (.dK kvs))∧P (upd H a (.dK kvs))
def fz (X:Cx) (D:Ends) : Ends:={ nx:=fun σ=>thawP X (D.nx σ),bk:=fun σ=>thawP X (D.bk σ),ct:=fun σ=>thawP X (D.ct σ),rt:=fun v=>thawP X (D.rt v) }
section
variable {X:Cx} {tg:Expr}
theorem SP.thaw {pins:List (Addr × Obj)} {D:Ends} {f:Flow} {s':Shared} (h:SP X pins (fz X D) f s') : SP X pins D f s':=by
 cases f with
 | next=>obtain ⟨σ',H',I,a,kvs,o,hz,e,q⟩:=h; exact ⟨σ',_,I.thaw hz e,q⟩
 | brk=>obtain ⟨σ',H',I,a,kvs,o,hz,e,q⟩:=h; exact ⟨σ',_,I.thaw hz e,q⟩
 | cont=>obtain ⟨σ',H',I,a,kvs,o,hz,e,q⟩:=h; exact ⟨σ',_,I.thaw hz e,q⟩
 | ret u=>obtain ⟨v,σ',H',I,r,a,kvs,o,hz,e,q⟩:=h; exact ⟨v,σ',_,I.thaw hz e,r,q⟩
def iDict (X:Cx) (tl:TE) : TI:=fun σ H R=>tl σ H fun x H1=>∃ a kvs,x = .ref a∧H1 a=some (.dK kvs)∧(Hz X a→∀ o,R (Itk a o kvs) (upd H1 a (.frz o (.dK kvs))))
theorem pi_dict {l:Expr} {tl:TE} (hl:PE X l tl) : PI X tg l (iDict X tl):=by
 intro pins s σ H R I h
 refine thn (hl pins s σ H _ I h) fun v s1 ⟨x,H1,I1,r1,q1⟩=>?_
 obtain ⟨a,kvs,e,ha,q⟩:=q1
 subst e
 cases r1
 obtain ⟨o,ho,I2⟩:=I1.freeze ha
 have hf:=q (I1.hz ha) o
 have he:upd H1 a (.frz o (.dK kvs)) a=some (.frz o (.dK kvs)):=upd_same
 generalize upd H1 a (.frz o (.dK kvs))=H2 at I2 hf he
 obtain ⟨hs,vs,rel,da⟩:=frz_dict I2.hok he
 refine wpAny_pyIter_dict hs da ?_
 refine ⟨s1.heap.objs.size,[s1.heap.objs.size],_,_,H2,rfl,I2.kept (t':=s1.toks) fun b o e=>Heap.get?_push_of_some _ e,turn_dict a _ o kvs (Nat.ne_of_lt (Heap.lt_size ho)),⟨_,Heap.get?_push_size _ rfl,rfl,?_⟩,fun b hb=>?_,hf⟩
 ·rw [rel.length]; rfl
 ·have e:b=s1.heap.objs.size:=by simpa using hb
  subst e
  exact I2.fpOk (Nat.le_refl _) (I2.hok.fresh (Nat.le_refl _))
def tForD (X:Cx) (tl:TE) (g:TG) (tb:TS) : TS:=fun D σ H=>tFor (iDict X tl) g tb (fz X D) σ H
theorem ps_forD {iter:Expr} {body:List Stmt} {tl:TE} {g:TG} {tb:TS} {pos:Pos} (hp:PassesOwn (model X.prog X.w) X.A X.env X.xe) (hc:X.calm=true) (hi:PE X iter tl) (hg:PG X tg g) (hb:PSs X body tb)
  (hs:∀ x,foldedSetIterable iter X.env x=pure x:=by intro _; rfl) : PS X (.For tg iter body [] pos) (tForD X tl g tb):=by
 intro pins s σ H D I h
 exact wpAny_mono (ps_for hp hc (pi_dict hi) hg hb hs pins s σ H (fz X D) I h) (fun _ _ z=>z.thaw) fun _ _ z=>z
end
theorem upd_back {H:Hp} {a:Addr} {u v:HO} (e:H a=some v) : upd (upd H a u) a v=H:=by
 funext b
 by_cases h:b=a
 ·rw [h,upd_same,e]
 ·rw [upd_ne h,upd_ne h]
theorem for_dict {X:Cx} {a:Addr} {o:Obj} {kvs:List (Key × V)} {g:TG} {tb:TS} {D:Ends} {σ:St} {H:Hp} (hz:Hz X a) (ha:H a=some (.dK kvs)) (Pv:Nat→St→Prop) (h0:Pv 0 σ)
  (hs:∀ i p σ,kvs[i]? = some p→Pv i σ→g (kV p.1) σ (upd H a (.frz o (.dK kvs))) fun σ2 H2=>tb { fz X D with nx:=fun σ' H'=>H' = upd H a (.frz o (.dK kvs))∧Pv (i+1) σ',ct:=fun σ' H'=>H' = upd H a (.frz o (.dK kvs))∧Pv (i+1) σ',bk:=(fz X D).nx } σ2 H2) (hd:∀ σ,Pv kvs.length σ→D.nx σ H) :
  ∃ W:Nat→Nat→St→Hp→Prop,(∃ m,W 0 m σ (upd H a (.frz o (.dK kvs))))∧∀ i m σ H,W i m σ H →
   ((Itk a o kvs).stop i H∧(fz X D).nx σ H)∨((Itk a o kvs).go i H∧∃ N:St→Hp→Prop,(∀ σ' H',N σ' H'→∃ m',m' < m∧W (i+1) m' σ' H')∧∀ x H',(Itk a o kvs).yld i H x H'→g x σ H' fun σ2 H2=>tb { fz X D with nx:=N,ct:=N,bk:=(fz X D).nx } σ2 H2):=by
 refine ⟨fun i m σ H'=>m=kvs.length - i∧i≤kvs.length∧H' = upd H a (.frz o (.dK kvs))∧Pv i σ,⟨kvs.length,by simp,Nat.zero_le _,rfl,h0⟩,?_⟩
 rintro i m σ H' ⟨rfl,hi,rfl,p⟩
 by_cases hlt:i < kvs.length
 ·refine .inr ⟨⟨upd_same,hlt⟩,fun σ' H'=>H' = upd H a (.frz o (.dK kvs))∧Pv (i+1) σ',fun σ' H' p'=>⟨kvs.length - (i+1),by omega,rfl,hlt,p'⟩,fun x H' y=>?_⟩
  obtain ⟨rfl,p',hp',rfl⟩:=y
  exact hs i p' σ hp' p
 ·have e:i=kvs.length:=by omega
  subst e
  exact .inl ⟨⟨upd_same,Nat.le_refl _⟩,a,kvs,o,hz,upd_same,by rw [upd_back ha]; exact hd σ p⟩

def NotTakes (K:PySem.W.Frag) (C T:Addr) : Prop:=PySem.W.exmOne K (.ref C) (.ref T)=some false
def HT (K:PySem.W.Frag) : List (Addr × TS)→Addr→Ends→St→Hp→Prop
 | [],_,_,_,_=>False
 | (T,th) :: r,C,D,σ,H=>(Takes K C T∧th D σ H)∨(NotTakes K C T∧HT K r C D σ H)
inductive HL (X:Cx) : List ExceptHandler→List (Addr × TS)→Prop where
 | nil:HL X [] []
 | cons {c:Str} {T:Addr} {b₀:Stmt} {suite:List Stmt} {th:TS} {np hpos:Pos} {hs:List ExceptHandler} {ts:List (Addr × TS)} (hgc:Gl X c) (O:ExcOk X.K X.mg c T) (hh:∀ v,PSs (X.marked v) (b₀ :: suite) th) (hdc:(c == ("__debug__" : Str))=false) (r:HL X hs ts) :
   HL X (.ExceptHandler (some (.Name c np)) none (b₀ :: suite) hpos :: hs) ((T,th) :: ts)
section
variable {X:Cx}
theorem handleL {pins:List (Addr × Obj)} {σ:St} {H':Hp} {s2:Shared} {D:Ends} {x C:Addr} {B:Heap} {a0:Value} {E2:Value→Shared→Prop} {h₅:Heap} (hst:X.stack=X.env :: X.outer∧X.env.frame=some X.env.locals) (hcalm:X.calm=true→X.A.handled=none)
  (I5:Inv X pins σ H' { s2 with heap:=h₅ }) (fl5:Heap.FlyingW B (X.env :: X.outer) x (.ref C) a0 h₅) (after:∀ h6:Heap,Heap.FlyingW B X.stack x (.ref C) a0 h6→h₅.UpToSlots h6→Inv X pins σ H' { s2 with heap:=h6 })
  {hs:List ExceptHandler} {ts:List (Addr × TS)} (L:HL X hs ts) (q:HT X.K ts C D σ H') : wpAny (model X.prog X.w) X.A (handleBy (.ref x) X.env hs) (SP X pins D) E2 { s2 with heap:=h₅ }:=by
 induction L with
 | nil=>exact q.elim
 | cons hgc O hh hdc r ih =>
  have I5m:=I5.marked (.ref x)
  refine wpAny_handleBy_cons (codeAny_handlers_test (ld_glob (X:=X.marked (.ref x)) I5m hgc O.mg ?_ hdc)) (by intro q; cases q)
  obtain ⟨ob,hob,hobc⟩:=fl5.there
  have LT:PySem.W.Looks (model X.prog X.w) h₅ (typeOf (.ref x)) (.ref C):=by
   have z:PySem.W.Looks (model X.prog X.w) h₅ (typeOf (.ref x)) ob.cls:=(PySem.W.Looks.ld hob).andThen .now
   rw [hobc] at z
   exact z
  rcases q with ⟨tk,q⟩ | ⟨nt,q⟩
  ·refine (PySem.W.exm_one (M:=model X.prog X.w) (I5.kIn) LT tk).here ?_
   refine codeAny_handlers_suite ?_
   refine lands_againW fl5 fun h₆ fl6 up6=>?_
   have I6:=after h₆ (hst.1 ▸ fl6) up6
   refine wpAny_mono (hh (.ref x) pins _ σ H' D (I6.marked (.ref x)) q) (fun fl s' h=>?_) fun _ _ z=>False.elim z
   exact h.unmarked hcalm
  ·refine (PySem.W.exm_one (M:=model X.prog X.w) (I5.kIn) LT nt).here ?_
   exact ih q
theorem caughtL {pins:List (Addr × Obj)} {σ:St} {H1 H':Hp} {s1 s2:Shared} {D:Ends} {x C:Addr} {B:Heap} {a0:Value} {E2:Value→Shared→Prop} {hs:List ExceptHandler} {ts:List (Addr × TS)} (I1:Inv X pins σ H1 s1) (hst:X.stack=X.env :: X.outer∧X.env.frame=some X.env.locals)
  (os:s2.os=s1.os) (bare:AllBare s2.gens) (un:Un (frs X.stack) [] H1 H' s1.heap s2.heap) (hok:HOk X.prog X.w H' B)
  (cov1:∀ b o,s1.heap.get? b=some o→H1 b=none→b ∉ frs X.stack→B.get? b=some o) (cov2:∀ b o,s1.heap.get? b=some o→b ∉ frs X.stack→∃ o',B.get? b=some o') (fl:Heap.FlyingW B X.stack x (.ref C) a0 s2.heap)
  (L:HL X hs ts) (q:HT X.K ts C D σ H') :
  wpAny (model X.prog X.w) X.A (noteFrame (.ref x) X.env) (fun _ s₂=>wpAny (model X.prog X.w) X.A (setFlight (.ref x) none) (fun _ s₃=>wpAny (model X.prog X.w) X.A (handleBy (.ref x) X.env hs) (SP X pins D) E2 s₃) E2 s₂) E2 s2:=by
 have hfr:X.A.frames=some (X.env :: X.outer):=hst.1 ▸ I1.ok.frames
 have after:∀ h6:Heap,Heap.FlyingW B X.stack x (.ref C) a0 h6→s2.heap.UpToSlots h6→Inv X pins σ H' { s2 with heap:=h6 }:=fun h6 fl6 up=>by
  refine I1.call' (ch:=[]) os ⟨fun b o q n hb _=>fl6.1 b o (cov1 b o q n hb),fun b o q n hb hx'=>?_,un.free,fun b o q _=>?_,un.tups,un.frzs,un.tbls⟩ (hok.kept fl6.1) bare (fun b z=>absurd z (by simp))
  ·obtain ⟨sl,e1⟩:=un.slot b o q n hb hx'
   obtain ⟨_,o3,e3,nd⟩:=fl.2.2.1.mem hb
   rw [e1] at e3
   cases e3
   obtain ⟨sl3,e4⟩:=up b _ e1 nd
   exact ⟨sl3,e4⟩
  ·by_cases hb:b ∈ frs X.stack
   ·obtain ⟨_,o3,e3,_⟩:=fl6.2.2.1.mem hb
    exact ⟨o3,e3⟩
   ·obtain ⟨o',e⟩:=cov2 b o q hb
    exact ⟨o',fl6.1 b o' e⟩
 rw [hst.1] at fl
 refine wpAny_looks_onW hfr hst.2 fl fun h₄ held up4=>?_
 refine wpAny_landsW held fun h₅ fl5 up5=>?_
 have fl5':Heap.FlyingW B X.stack x (.ref C) a0 h₅:=hst.1 ▸ fl5
 exact handleL hst I1.ok.hd (after h₅ fl5' (up4.trans up5)) fl5 (fun h6 fl6 up6=>after h6 fl6 ((up4.trans up5).trans up6)) L q
abbrev TTb:=St→Hp→(St→Hp→Prop)→(St→XK)→Prop
def PTb (X:Cx) (ss:List Stmt) (t:TTb) : Prop:=∀ (pins:List (Addr × Obj)) (s:Shared) (σ:St) (H:Hp) (W:Value→Shared→Prop) (Nx:St→Hp→Prop) (EE:St→XK),Inv X pins σ H s→t σ H Nx EE →
 (∀ σ' H1 s1 e s2,Inv X pins σ' H1 s1→CXe X.prog X.w X.stack H1 s1 (EE σ') e s2→W e s2)→wpAny (model X.prog X.w) X.A (execs ss X.env) (fun fl s'=>fl = .next∧∃ σ' H',Inv X pins σ' H' s'∧Nx σ' H') W s
def tbIf (tc:TT) (t1 t2:TTb) : TTb:=fun σ H Nx EE=>tc σ H fun b H1=>if b=true then t1 σ H1 Nx EE else t2 σ H1 Nx EE
theorem ptb_if {c:Expr} {a b:List Stmt} {tc:TT} {t1 t2:TTb} {pos:Pos} (hc:∀ W,PT (X.wish W) c tc) (h1:PTb X a t1) (h2:PTb X b t2) : PTb X [.If c a b pos] (tbIf tc t1 t2):=by
 intro pins s σ H W Nx EE I h hW
 refine wpAny_execs_cons (wpAny_If (thn (hc W pins s σ H _ (I.wish W) h) fun d s1 ⟨H1,I1,q1⟩=>?_))
 cases d with
 | true=>exact thn (h1 pins s1 σ H1 W Nx EE I1.unwish q1 hW) fun fl s' ⟨e,z⟩=>by subst e; exact wpAny_execs_nil ⟨rfl,z⟩
 | false=>exact thn (h2 pins s1 σ H1 W Nx EE I1.unwish q1 hW) fun fl s' ⟨e,z⟩=>by subst e; exact wpAny_execs_nil ⟨rfl,z⟩
section
variable {k:Nat} {f C:Addr} {fd:FuncData} {ps:List Str} {sp:Sp} {m qual cn:Str} {st:Stmt} {o e:Expr} {es:List Expr} {ta:TE} {t:TA} {apos pos:Pos} {W:Value→Shared→Prop} {pins:List (Addr × Obj)} {σ:St} {H:Hp} {s:Shared} {Q:VK} {E:XK}
theorem run_try {dvs:List V} {ds:List Value} {us:List Value} {vs:List V} (G:FnOk X.prog X.w X.K X.mg X.base (CXe X.prog X.w) k f fd ps sp) (hr:Room k X.A) (hb:Binds X.K fd ps ds) (hd:Vals dvs ds)
  (I:Inv X pins σ H s) (r:Vals vs us) (h:sp (vs++dvs) H Q E) (hW:∀ H1 s1 e s2,Inv X pins σ H1 s1→CXe X.prog X.w X.stack H1 s1 E e s2→W e s2) : wpAny (model X.prog X.w) X.A (call (.ref f) us) (EP X pins σ Q) W s:=by
 have r2:Vals (vs++dvs) (us++ds):=r.append hd
 have hl:(us++ds).length=ps.length:=by rw [← r2.length]; exact G.len _ _ _ _ h
 refine wpAny_call (codeAny_mono (G.run X.A X.stack s H ⟨us,[]⟩ (us++ds) (vs++dvs) Q E hr I.env0 (hb s us I.kIn hl) r2 h) fun r s' hq=>?_)
 cases r with
 | error e=>exact hW H s e s' I hq
 | ok fl =>
  cases fl with
  | ret u=>exact I.after hq
  | next=>exact False.elim hq
  | brk=>exact False.elim hq
  | cont=>exact False.elim hq
theorem meth_try {pl:Sem Bool} (I:Inv X pins σ H s) (L:ClsOk X.K X.mg cn C) (D:MetOk X.K C m qual st ps f fd) (G:FnOk X.prog X.w X.K X.mg X.base (CXe X.prog X.w) k f fd ps sp) (hr:Room k X.A) (he:PE (X.wish W) o ta) (ha:PA (X.wish W) (e :: es) t)
  (h:tMeth C m sp [] E ta t σ H Q) (hW:∀ H1 s1 e s2,Inv X pins σ H1 s1→CXe X.prog X.w X.stack H1 s1 E e s2→W e s2)
  (hst:starEach (e :: es) X.env=(false,eval e X.env) :: starEach es X.env:=by rfl) (hpl:(backTo pos (starEach es X.env)).any (·.1)=false:=by rfl)
  (ht:eval (.Call (.Attribute o m apos) (e :: es) [] pos) X.env=(do
   let ov ← eval o X.env
   standAt apos.atName
   let (f,first) ← holding [ov] (getMethod ov m pl)
   callWith pos f first (backTo pos (starEach (e :: es) X.env)) (backToKw pos (keywordEach [] X.env))):=by rfl) :
  wpAny (model X.prog X.w) X.A (eval (.Call (.Attribute o m apos) (e :: es) [] pos) X.env) (EP X pins σ Q) W s:=by
 refine PySem.W.methodCall_KW (pl:=pl) (thn (he pins s σ H _ (I.wish W) h) fun u s1 ⟨x,H1,I1,rx,a,dx,fs,ex,ea,l,q⟩=>?_) ht
 subst ex
 obtain rfl:u=Value.ref a:=rx
 refine getmeth_ok (X:=X.wish W) I1 ea L.cl D.me l ?_
 refine PySem.W.callWith_K (first:=[.ref a]) (h₀:=X.base) I.ok.mod.kin D.me.kp (thn (ha pos pins s1 σ H1 _ I1 q) fun us s2 ⟨vs,H2,I2,r,q2⟩=>⟨I2.kIn,?_⟩) hst hpl
 exact run_try (us:=.ref a :: us) (vs:=.ref a :: vs) G hr D.bd .nil I2.unwish (.cons rfl r) q2 hW
theorem meth_try0 {pl:Sem Bool} (I:Inv X pins σ H s) (L:ClsOk X.K X.mg cn C) (D:MetOk X.K C m qual st ps f fd) (G:FnOk X.prog X.w X.K X.mg X.base (CXe X.prog X.w) k f fd ps sp) (hr:Room k X.A) (he:PE (X.wish W) o ta)
  (h:tMeth C m sp [] E ta tNil σ H Q) (hW:∀ H1 s1 e s2,Inv X pins σ H1 s1→CXe X.prog X.w X.stack H1 s1 E e s2→W e s2)
  (ht:eval (.Call (.Attribute o m apos) [] [] pos) X.env=(do
   let ov ← eval o X.env
   standAt apos.atName
   let (f,first) ← holding [ov] (getMethod ov m pl)
   callWith pos f first (backTo pos (starEach [] X.env)) (backToKw pos (keywordEach [] X.env))):=by rfl) :
  wpAny (model X.prog X.w) X.A (eval (.Call (.Attribute o m apos) [] [] pos) X.env) (EP X pins σ Q) W s:=by
 refine PySem.W.methodCall_KW (pl:=pl) (thn (he pins s σ H _ (I.wish W) h) fun u s1 ⟨x,H1,I1,rx,a,dx,fs,ex,ea,l,q⟩=>?_) ht
 subst ex
 obtain rfl:u=Value.ref a:=rx
 refine getmeth_ok (X:=X.wish W) I1 ea L.cl D.me l ?_
 exact PySem.W.callWith_K0 (first:=[.ref a]) I1.kIn D.me.kp (run_try (us:=[.ref a]) (vs:=[.ref a]) G hr D.bd .nil I1.unwish (.cons rfl .nil) q hW)
end
def tbMeth (C:Addr) (m:Str) (sp:Sp) (i:Nat) (ta:TE) (t:TA) : TTb:=fun σ H Nx EE=>tMeth C m sp [] (EE σ) ta t σ H fun v H1=>Nx (σ.set i (some v)) H1
theorem ptb_meth {k:Nat} {f C:Addr} {fd:FuncData} {ps:List Str} {sp:Sp} {m qual cn y:Str} {st:Stmt} {o e:Expr} {es:List Expr} {ta:TE} {t:TA} {apos pos asp py:Pos} {i:Nat} {pl:Sem Bool} (hN:X.N.Nodup) (hi:X.N[i]? = some y) (hy:Loc X.env.scope y)
  (L:ClsOk X.K X.mg cn C) (D:MetOk X.K C m qual st ps f fd) (G:FnOk X.prog X.w X.K X.mg X.base (CXe X.prog X.w) k f fd ps sp) (hr:Room k X.A) (he:∀ W,PE (X.wish W) o ta) (ha:∀ W,PA (X.wish W) (e :: es) t)
  (hs:swapsWith (.Call (.Attribute o m apos) (e :: es) [] pos) (some (.Name y py)) asp.line X.env=pure false:=by rfl) (hf:X.fn y=true∨X.env.scope.names.lookup y=some .local:=by first | exact .inl rfl | exact .inr rfl | assumption)
  (hst:starEach (e :: es) X.env=(false,eval e X.env) :: starEach es X.env:=by rfl) (hpl:(backTo pos (starEach es X.env)).any (·.1)=false:=by rfl)
  (ht:eval (.Call (.Attribute o m apos) (e :: es) [] pos) X.env=(do
   let ov ← eval o X.env
   standAt apos.atName
   let (f,first) ← holding [ov] (getMethod ov m pl)
   callWith pos f first (backTo pos (starEach (e :: es) X.env)) (backToKw pos (keywordEach [] X.env))):=by rfl) :
  PTb X [.Assign [.Name y py] (.Call (.Attribute o m apos) (e :: es) [] pos) asp] (tbMeth C m sp i ta t):=by
 intro pins s σ H W Nx EE I h hW
 refine wpAny_execs_cons (wpAny_Assign_Name (thn (meth_try I L D G hr (he W) (ha W) h (fun H1 s1 ex s2 I1 hx=>hW σ H1 s1 ex s2 I1 hx) hst hpl ht) fun v s1 ⟨y,H1,I1,r1,q1⟩=>?_) hs)
 exact store_ok I1 hN hi hy r1 (fun s2 I2=>wpAny_execs_nil ⟨rfl,_,H1,I2,q1⟩) hf
theorem ptb_meth0 {k:Nat} {f C:Addr} {fd:FuncData} {ps:List Str} {sp:Sp} {m qual cn y:Str} {st:Stmt} {o:Expr} {ta:TE} {apos pos asp py:Pos} {i:Nat} {pl:Sem Bool} (hN:X.N.Nodup) (hi:X.N[i]? = some y) (hy:Loc X.env.scope y)
  (L:ClsOk X.K X.mg cn C) (D:MetOk X.K C m qual st ps f fd) (G:FnOk X.prog X.w X.K X.mg X.base (CXe X.prog X.w) k f fd ps sp) (hr:Room k X.A) (he:∀ W,PE (X.wish W) o ta)
  (hs:swapsWith (.Call (.Attribute o m apos) [] [] pos) (some (.Name y py)) asp.line X.env=pure false:=by rfl) (hf:X.fn y=true∨X.env.scope.names.lookup y=some .local:=by first | exact .inl rfl | exact .inr rfl | assumption)
  (ht:eval (.Call (.Attribute o m apos) [] [] pos) X.env=(do
   let ov ← eval o X.env
   standAt apos.atName
   let (f,first) ← holding [ov] (getMethod ov m pl)
   callWith pos f first (backTo pos (starEach [] X.env)) (backToKw pos (keywordEach [] X.env))):=by rfl) :
  PTb X [.Assign [.Name y py] (.Call (.Attribute o m apos) [] [] pos) asp] (tbMeth C m sp i ta tNil):=by
 intro pins s σ H W Nx EE I h hW
 refine wpAny_execs_cons (wpAny_Assign_Name (thn (meth_try0 I L D G hr (he W) h (fun H1 s1 ex s2 I1 hx=>hW σ H1 s1 ex s2 I1 hx) ht) fun v s1 ⟨y,H1,I1,r1,q1⟩=>?_) hs)
 exact store_ok I1 hN hi hy r1 (fun s2 I2=>wpAny_execs_nil ⟨rfl,_,H1,I2,q1⟩) hf
def tTryH (K:PySem.W.Frag) (t:TTb) (ts:List (Addr × TS)) : TS:=fun D σ H=>t σ H (fun σ' H'=>D.nx σ' H') fun σ' cls _ H2=>∃ C,cls = .ref C∧HT K ts C D σ' H2
theorem ps_tryH {b:Stmt} {body:List Stmt} {h₁:ExceptHandler} {hs:List ExceptHandler} {t:TTb} {ts:List (Addr × TS)} {pos:Pos} (hb:PTb X (b :: body) t) (L:HL X (h₁ :: hs) ts) (hst:X.stack=X.env :: X.outer∧X.env.frame=some X.env.locals) :
  PS X (.Try (b :: body) (h₁ :: hs) [] [] pos) (tTryH X.K t ts):=by
 intro pins s σ H D I h
 refine wpAny_Try_except (wpAny_mono (hb pins s σ H _ _ _ I h (fun σ' H1 s1 ex s2 I1 hx=>?_)) (fun fl s' ⟨e,σ',H',I',q'⟩=>?_) fun _ _ z=>z)
 ·obtain ⟨x,C,H',B,a0,rfl,os,bare,un,hok,cov1,cov2,fl,C',ec,q⟩:=hx
  cases ec
  exact caughtL I1 hst os bare un hok cov1 cov2 fl L q
 ·subst e
  exact wpAny_execs_nil ⟨σ',H',I',q'⟩
end

theorem call_isiD {X:Cx} : CallR X (.builtin "isinstance") (fun xs H Q=>∃ a kvs,xs=[.ref a,.ty "dict"]∧H a=some (.dK kvs)∧Q (.bl true) H):=by
 intro pins s σ H xs us Q I r h
 obtain ⟨a,kvs,rfl,ha,q⟩:=h
 obtain ⟨u,w',rfl,r1,r2⟩:=vals2 r
 cases r2
 exact isinst_ok I r1 (.dK ha) (by rfl) fun tk=>⟨.bl true,H,I.tok _,rfl,q⟩
end L2

namespace K74
open PySem PySem.Spec L2 Tl
theorem same_new {H:Hp} {p:Addr} (h:H p=none) (o:HO) : Same H (upd H p o):=fun b u q=>by rw [upd_ne (ne_of_none q h)]; exact q
def sp_law (K:PySem.W.Frag) : Sp:=fun vs H Q _=>∃ (a:Addr) (ns:List Int),vs=[.ref a]∧SqL K H a (ns.map V.int)∧ns.length≤63∧∀ H',Q (.bl true) H'
theorem small {n:Nat} (h:n≤1000) : n≤sizeLine:=Nat.le_of_lt (small1000 h)
theorem le1:1≤sizeLine:=by decide
theorem le2:2≤sizeLine:=by decide
theorem small2 {n:Nat} (h:n≤1000000) : n≤sizeLine:=Nat.le_trans h (by decide)
theorem cutV_map {α:Type} (f:α→V) (ns:List α) (lo hi:Option Int) : cutV (ns.map f) lo hi=(cutL ns lo hi).map f:=by
 unfold cutV cutL
 rw [List.length_map,List.map_take,List.map_drop]
theorem cut_len {α:Type} (ns:List α) (lo hi:Option Int) : (cutL ns lo hi).length≤ns.length:=by
 unfold cutL
 rw [List.length_take,List.length_drop]
 omega
theorem get_int {ns:List Int} {i:Nat} {y:V} (h:(ns.map V.int)[i]? = some y) : ∃ z,y=V.int z:=by
 rw [List.getElem?_map] at h
 cases e:ns[i]? with
 | none=>rw [e] at h; cases h
 | some z=>rw [e] at h; exact ⟨z,(Option.some.inj h).symm⟩
def isL (c:Nat) : Bool:=decide (97≤c∧c≤122)
def isF (c:Nat) : Bool:=decide (48≤c∧c≤57)
def LL:List Nat:=[97,98,99,100,101,102,103,104,105,106,107,108,109,110,111,112,113,114,115,116,117,118,119,120,121,122]
def FF:List Nat:=[48,49,50,51,52,53,54,55,56,57]
theorem cLET:(PySem.Str.ofString "abcdefghijklmnopqrstuvwxyz")=tx LL:=by decide +kernel
theorem cFIG:(PySem.Str.ofString "0123456789")=tx FF:=by decide +kernel
theorem mem_LL (c:Nat) : decide (c ∈ LL)=isL c:=by
 by_cases h:c < 123
 ·have:∀ c < 123,decide (c ∈ LL)=isL c:=by decide +kernel
  exact this c h
 ·have h1:c ∉ LL:=fun hm=>h ((show ∀ x ∈ LL,x < 123 by decide) c hm)
  unfold isL
  rw [decide_eq_false h1,decide_eq_false (by omega)]
theorem mem_FF (c:Nat) : decide (c ∈ FF)=isF c:=by
 by_cases h:c < 123
 ·have:∀ c < 123,decide (c ∈ FF)=isF c:=by decide +kernel
  exact this c h
 ·have h1:c ∉ FF:=fun hm=>h ((show ∀ x ∈ FF,x < 123 by decide) c hm)
  unfold isF
  rw [decide_eq_false h1,decide_eq_false (by omega)]
theorem in_let (c:Nat) : (!(Builtin.Str.occurrences (PySem.Str.ofString "abcdefghijklmnopqrstuvwxyz") ⟨#[c]⟩ 0 (PySem.Str.ofString "abcdefghijklmnopqrstuvwxyz").length 1).isEmpty)=isL c:=by rw [cLET,in_tx,mem_LL]
theorem in_fig (c:Nat) : (!(Builtin.Str.occurrences (PySem.Str.ofString "0123456789") ⟨#[c]⟩ 0 (PySem.Str.ofString "0123456789").length 1).isEmpty)=isF c:=by rw [cFIG,in_tx,mem_FF]
def isName:List Nat→Bool
 | []=>false
 | c :: r=>decide ((c :: r).length≤12) && (isL c && (c :: r).all fun d=>isL d || isF d)
theorem name_long {c:Nat} {r:List Nat} (h:¬ (c :: r).length≤12) : isName (c :: r)=false:=by
 show (decide _ && _)=false
 rw [decide_eq_false h,Bool.false_and]
theorem name_short {c:Nat} {r:List Nat} (h:(c :: r).length≤12) : isName (c :: r)=(isL c && (c :: r).all fun d=>isL d || isF d):=by
 show (decide _ && _)=_
 rw [decide_eq_true h,Bool.true_and]
theorem ce:(PySem.Str.ofString "")=tx []:=by decide +kernel
theorem ne_empty (c:Nat) (r:List Nat) : decide (V.str (tx (c :: r))=V.str (PySem.Str.ofString ""))=false:=by
 refine decide_eq_false fun h=>?_
 have h2:=V.str.inj h
 rw [ce] at h2
 have h3:=tx_inj h2
 cases h3
theorem is_empty:decide (V.str (tx [])=V.str (PySem.Str.ofString ""))=true:=decide_eq_true (by rw [ce])
theorem all_id (l:List Nat) (f:Nat→Bool) : ((l.map f).all id)=l.all f:=by rw [List.all_map]; rfl

theorem pp_intV {i:Nat} {e:Expr} {pos:Pos} (he:PE X e (tVar i)) : PP X (.FormattedValue e (-1) none pos) (fun σ=>∃ n:Int,σ[i]? = some (some (.int n))∧n.natAbs.log2 < 1920∧(toString n:Str).length≤20000):=by
 intro pins s σ H Q I hc q
 obtain ⟨n,hv,hn,hl⟩:=hc
 refine wpAny_FormattedValue_plain (thn (he pins s σ H (fun v H'=>v = .int n∧H' = H) I ⟨_,hv,rfl,rfl⟩) fun u s1 ⟨x,H1,I1,r1,e1,e2⟩=>?_)
 subst e1 e2
 obtain ⟨t,rfl⟩:=r1
 exact wpAny_formatField_int hn (q _ _ _ hl (I1.tok _))

def fsD (fa pa ea ia:Addr) : List (Str × V):=[("form",.ref fa),("parts",.ref pa),("elder",.ref ea),("issued",.ref ia)]
theorem lk_parts {fa pa ea ia:Addr} : List.lookup ("parts" : Str) (fsD fa pa ea ia)=some (.ref pa):=by
 have e:(("parts" : Str) == "form")=false:=by decide +kernel
 simp [fsD,List.lookup,e]
theorem lk_elder {fa pa ea ia:Addr} : List.lookup ("elder" : Str) (fsD fa pa ea ia)=some (.ref ea):=by
 have e:(("elder" : Str) == "form")=false:=by decide +kernel
 have e2:(("elder" : Str) == "parts")=false:=by decide +kernel
 simp [fsD,List.lookup,e,e2]
theorem lkn {m:Str} (h:((m == "form") || (m == "parts") || (m == "elder") || (m == "issued"))=false) {fa pa ea ia:Addr} : (fsD fa pa ea ia).lookup m=none:=by
 simp only [Bool.or_eq_false_iff] at h
 simp [fsD,List.lookup,h.1.1.1,h.1.1.2,h.1.2,h.2]
theorem lkn_do_deed {fa pa ea ia:Addr} : List.lookup ("do_deed" : Str) (fsD fa pa ea ia)=none:=lkn (by decide +kernel)
theorem lkn_rows_of {fa pa ea ia:Addr} : List.lookup ("rows_of" : Str) (fsD fa pa ea ia)=none:=lkn (by decide +kernel)
theorem lkn_put_part {fa pa ea ia:Addr} : List.lookup ("put_part" : Str) (fsD fa pa ea ia)=none:=lkn (by decide +kernel)
theorem lkn_drop_part {fa pa ea ia:Addr} : List.lookup ("drop_part" : Str) (fsD fa pa ea ia)=none:=lkn (by decide +kernel)
theorem lkn_put_row {fa pa ea ia:Addr} : List.lookup ("put_row" : Str) (fsD fa pa ea ia)=none:=lkn (by decide +kernel)
theorem lkn_cut_row {fa pa ea ia:Addr} : List.lookup ("cut_row" : Str) (fsD fa pa ea ia)=none:=lkn (by decide +kernel)
theorem lkn_undo {fa pa ea ia:Addr} : List.lookup ("undo" : Str) (fsD fa pa ea ia)=none:=lkn (by decide +kernel)
theorem lkn_shelf {fa pa ea ia:Addr} : List.lookup ("shelf" : Str) (fsD fa pa ea ia)=none:=lkn (by decide +kernel)
theorem put_parts {fa pa ea ia p:Addr} : putF "parts" (.ref p) (fsD fa pa ea ia)=fsD fa p ea ia:=by
 have e:¬ (("form" : Str) = "parts"):=by decide +kernel
 simp [fsD,putF,e]
def HsA (H:Hp) : List V→List (List (Key × V))→Prop
 | [],[]=>True
 | v :: r,k :: s=>(∃ b,v = .ref b∧H b=some (.dK k))∧HsA H r s
 | _,_=>False
theorem HsA.len {H:Hp} : ∀ {es:List V} {hs:List (List (Key × V))},HsA H es hs→es.length=hs.length
 | [],[],_=>rfl
 | _ :: _,_ :: _,h=>congrArg (·+1) (HsA.len h.2)
theorem HsA.mono {H H':Hp} : ∀ {es:List V} {hs:List (List (Key × V))},HsA H es hs→(∀ b k,V.ref b ∈ es→H b=some (.dK k)→H' b=some (.dK k))→HsA H' es hs
 | [],[],_,_=>trivial
 | _ :: _,_ :: _,⟨⟨b,e,h⟩,r⟩,m=>⟨⟨b,e,m b _ (e ▸ List.mem_cons_self) h⟩,r.mono fun b k hb=>m b k (List.mem_cons_of_mem _ hb)⟩
theorem HsA.snoc {H:Hp} {p:Addr} {k:List (Key × V)} (hp:H p=some (.dK k)) : ∀ {es:List V} {hs:List (List (Key × V))},HsA H es hs→HsA H (es++[.ref p]) (hs++[k])
 | [],[],_=>⟨⟨p,rfl,hp⟩,trivial⟩
 | _ :: _,_ :: _,h=>⟨h.1,h.2.snoc hp⟩
theorem HsA.last {H:Hp} : ∀ {es:List V} {hs:List (List (Key × V))},HsA H es hs→es≠[]→∃ b k,es[es.length - 1]? = some (.ref b)∧hs.getLast? = some k∧H b=some (.dK k)∧HsA H es.dropLast hs.dropLast
 | [],[],_,n=>absurd rfl n
 | [v],[k],⟨⟨b,e,h⟩,_⟩,_=>⟨b,k,congrArg some e,rfl,h,trivial⟩
 | v :: v' :: r,k :: k' :: s,⟨h1,h2⟩,_=>by
  obtain ⟨b,k2,e1,e2,e3,e4⟩:=HsA.last (es:=v' :: r) (hs:=k' :: s) h2 (by simp)
  refine ⟨b,k2,?_,?_,e3,⟨h1,e4⟩⟩
  ·simpa using e1
  ·rw [List.getLast?_cons_cons]; exact e2
 | [_],_ :: _ :: _,⟨_,h⟩,_=>h.elim
 | _ :: _ :: _,[_],⟨_,h⟩,_=>h.elim
structure Dk (C:Addr) (H:Hp) (d pa ea:Addr) (kvs:List (Key × V)) (hist:List (List (Key × V))) : Prop where
 ob:∃ dx fa ia,H d=some (.ins C dx (fsD fa pa ea ia))
 pt:H pa=some (.dK kvs)
 el:∃ es,H ea=some (.lst es)∧HsA H es hist
def DkF (C:Addr) (H:Hp) (d pa ea:Addr) (kvs:List (Key × V)) (hist:List (List (Key × V))) : Prop:=Dk C H d pa ea kvs hist∧∀ es,H ea=some (.lst es)→V.ref pa ∉ es
def FrA (H H':Hp) (os:List Addr) : Prop:=∀ b o,b ∉ os→H b=some o→H' b=some o
theorem FrA.of {H H':Hp} (s:Same H H') (os:List Addr) : FrA H H' os:=fun b o _ h=>s b o h
theorem FrA.trans {H H1 H2:Hp} {os:List Addr} (a:FrA H H1 os) (b:FrA H1 H2 os) : FrA H H2 os:=fun c o n h=>b c o n (a c o n h)
theorem FrA.new {H H1:Hp} {os:List Addr} {p:Addr} {o:HO} (a:FrA H H1 os) (h:H p=none) : FrA H (upd H1 p o) os:=fun c u n q=>by
 rw [upd_ne (ne_of_none q h)]
 exact a c u n q
theorem Dk.same {C d pa ea:Addr} {H H':Hp} {kvs:List (Key × V)} {hist:List (List (Key × V))} (D:Dk C H d pa ea kvs hist) (s:Same H H') : Dk C H' d pa ea kvs hist:=by
 obtain ⟨⟨dx,fa,ia,h1⟩,h2,es,h3,h4⟩:=D
 exact ⟨⟨dx,fa,ia,s _ _ h1⟩,s _ _ h2,es,s _ _ h3,h4.mono fun b k _ h=>s _ _ h⟩
theorem DkF.same {C d pa ea:Addr} {H H':Hp} {kvs:List (Key × V)} {hist:List (List (Key × V))} (D:DkF C H d pa ea kvs hist) (s:Same H H') : DkF C H' d pa ea kvs hist:=by
 obtain ⟨D,f⟩:=D
 obtain ⟨es,h3,_⟩:=D.el
 exact ⟨D.same s,fun es' h=>by rw [s _ _ h3] at h; cases h; exact f es h3⟩
theorem DkF.put {C d pa ea:Addr} {H:Hp} {kvs kvs':List (Key × V)} {hist:List (List (Key × V))} (D:DkF C H d pa ea kvs hist) : Dk C (upd H pa (.dK kvs')) d pa ea kvs' hist:=by
 obtain ⟨⟨⟨dx,fa,ia,h1⟩,h2,es,h3,h4⟩,f⟩:=D
 refine ⟨⟨dx,fa,ia,?_⟩,upd_same,es,?_,h4.mono fun b k hb h=>?_⟩
 ·rw [upd_ne (fun z=>by rw [z,h2] at h1; cases h1)]; exact h1
 ·rw [upd_ne (fun z=>by rw [z,h2] at h3; cases h3)]; exact h3
 ·have z:b≠pa:=fun z=>f es h3 (by rw [← z]; exact hb)
  rw [upd_ne z]; exact h
theorem deed_dk {C d pa ea p dx fa ia:Addr} {H:Hp} {kvs:List (Key × V)} {hist:List (List (Key × V))} {es:List V} (h1:H d=some (.ins C dx (fsD fa pa ea ia))) (h2:H pa=some (.dK kvs)) (h3:H ea=some (.lst es)) (h4:HsA H es hist)
  (hp:upd H ea (.lst (es++[.ref pa])) p=none) :
  H p=none∧DkF C (upd (upd (upd H ea (.lst (es++[.ref pa]))) p (.dK kvs)) d (.ins C dx (fsD fa p ea ia))) d p ea kvs (hist++[kvs])∧FrA H (upd (upd (upd H ea (.lst (es++[.ref pa]))) p (.dK kvs)) d (.ins C dx (fsD fa p ea ia))) [d,ea]:=by
 have nde:d≠ea:=fun z=>by rw [z,h3] at h1; cases h1
 have npe:p≠ea:=fun z=>by rw [z,upd_same] at hp; cases hp
 have hp':H p=none:=by rw [upd_ne npe] at hp; exact hp
 have ndp:d≠p:=fun z=>by rw [z,hp'] at h1; cases h1
 have he:∀ es',upd (upd (upd H ea (.lst (es++[.ref pa]))) p (.dK kvs)) d (.ins C dx (fsD fa p ea ia)) ea=some (.lst es')→es' = es++[.ref pa]:=fun es' h=>by
  rw [upd_ne (Ne.symm nde),upd_ne (Ne.symm npe),upd_same] at h
  cases h; rfl
 have hm:∀ b k,H b=some (.dK k)→upd (upd (upd H ea (.lst (es++[.ref pa]))) p (.dK kvs)) d (.ins C dx (fsD fa p ea ia)) b=some (.dK k):=fun b k h=>by
  rw [upd_ne (fun z=>by rw [z,h1] at h; cases h),upd_ne (fun z=>by rw [z,hp'] at h; cases h),upd_ne (fun z=>by rw [z,h3] at h; cases h)]
  exact h
 refine ⟨hp',⟨⟨⟨dx,fa,ia,upd_same⟩,?_,es++[.ref pa],?_,?_⟩,fun es' h hb=>?_⟩,fun b o hb h=>?_⟩
 ·rw [upd_ne (Ne.symm ndp),upd_same]
 ·rw [upd_ne (Ne.symm nde),upd_ne (Ne.symm npe),upd_same]
 ·exact (h4.mono fun b k _ h=>hm b k h).snoc (hm _ _ h2)
 ·rw [he es' h] at hb
  have:∀ {es:List V} {hs:List (List (Key × V))},HsA H es hs→V.ref p ∉ es:=fun {es hs}=>by
   induction es generalizing hs with
   | nil=>intro _ z; cases z
   | cons v r ih =>
    cases hs with
    | nil=>intro z; exact z.elim
    | cons k s =>
     rintro ⟨⟨b,e,h⟩,r'⟩ z
     rcases List.mem_cons.mp z with z | z
     ·rw [e] at z; cases z; rw [hp'] at h; cases h
     ·exact ih r' z
  rcases List.mem_append.mp hb with z | z
  ·exact this h4 z
  ·have e:=List.mem_singleton.mp z
   cases e
   rw [hp'] at h2; cases h2
 ·rw [upd_ne (fun z=>hb (by rw [z]; simp)),upd_ne (fun z=>by rw [z,hp'] at h; cases h),upd_ne (fun z=>hb (by rw [z]; simp))]
  exact h
structure Deed where
 k:Nat
 n:List Nat
 at_:Int
 l:List Nat
theorem fsD_len {fa pa ea ia:Addr} : (fsD fa pa ea ia).length < 1000:=by show 4 < 1000; decide
structure Fr where
 w:Int
 h:Int
 f:Int
 m:Int
def frV (F:Fr) : List V:=[.int F.w,.int F.h,.int F.f,.int F.m]
def FrOk (F:Fr) : Prop:=(1≤F.w∧F.w≤200)∧(1≤F.h∧F.h≤60)∧(0≤F.f∧F.f≤10 ^ 60)∧(1≤F.m∧F.m≤60)
theorem p60c:(10:Int) ^ (60:Int).toNat=10 ^ 60:=by decide +kernel
theorem sum_tx (ps:List (List Nat)) : ((ps.map tx).map (·.length)).sum=(ps.map (·.length)).sum:=by
 rw [List.map_map]
 congr 1
theorem split_sum (c:Nat) : ∀ l:List Nat,((splitL c l).map (·.length)).sum+(splitL c l).length=l.length+1
 | []=>rfl
 | x :: r=>by
  have ih:=split_sum c r
  have ne:=splitL_ne c r
  rw [splitL_cons]
  by_cases h:x=c
  ·rw [if_pos h]; simp only [List.map_cons,List.sum_cons,List.length_cons,List.length_nil]; omega
  ·rw [if_neg h]
   cases e:splitL c r with
   | nil=>exact absurd e ne
   | cons p ps =>
    rw [e] at ih
    simp only [List.map_cons,List.sum_cons,List.length_cons] at ih ⊢
    omega
theorem sum_cut (R:List (List Nat)) (n m:Nat) (h:n≤m) : ((R.take n++R.drop m).map (·.length)).sum≤(R.map (·.length)).sum∧(R.take n++R.drop m).length≤R.length:=by
 have e:R=R.take n++((R.drop n).take (m - n)++R.drop m):=by
  have e1:(R.drop n).drop (m - n)=R.drop m:=by rw [List.drop_drop]; congr 1; omega
  rw [← e1,List.take_append_drop,List.take_append_drop]
 have e2:=congrArg (fun R:List (List Nat)=>(R.map (·.length)).sum) e
 have e3:=congrArg List.length e
 simp only [List.map_append,List.sum_append,List.length_append] at e2 e3 ⊢
 omega
def unT:V→List Nat
 | .str ⟨c⟩=>c.toList
 | _=>[]
def rwV (v:V) : List (List Nat):=splitL 10 (unT v)
def kn:Nat→Str
 | 0=>"put"
 | 1=>"drop"
 | 2=>"row"
 | 3=>"cut"
 | _=>"undo"
def dV (D:Deed) : List V:=[.str (kn D.k),.str (tx D.n),.int D.at_,.str (tx D.l)]
theorem knE (i j:Nat) (h:(kn i == kn j)=false) : decide (V.str (kn i)=V.str (kn j))=false:=decide_eq_false fun z=>by
 rw [V.str.inj z] at h
 simp at h
theorem iteY {b:Bool} {A B:Prop} (e:b=true) (h:A) : if b=true then A else B:=by rw [if_pos e]; exact h
theorem iteN {b:Bool} {A B:Prop} (e:b=false) (h:B) : if b=true then A else B:=by rw [if_neg (by rw [e]; exact Bool.false_ne_true)]; exact h
def ky (n:List Nat) : Key:=.inr (tx n)
def due (kvs:List (Key × V)) (m:Nat) (D:Deed) : Option Nat:=
 match D.k with
 | 0=>if isName D.n=false then some 0 else if (valV kvs (ky D.n)).isSome=true then some 1 else if 20≤kvs.length then some 2 else none
 | 1=>if (valV kvs (ky D.n)).isSome=true then none else some 3
 | 2=>match valV kvs (ky D.n) with
  | none=>some 3
  | some v=>if D.at_ < 0∨((rwV v).length:Int) < D.at_ then some 4 else if 200≤(rwV v).length then some 2 else none
 | 3=>match valV kvs (ky D.n) with
  | none=>some 3
  | some v=>if D.at_ < 0∨((rwV v).length:Int)≤D.at_ then some 4 else none
 | _=>if m=0 then some 5 else none
def rwsV (kvs:List (Key × V)) (n:List Nat) : List (List Nat):=match valV kvs (ky n) with | some v=>rwV v | none=>[]
def nxt (kvs:List (Key × V)) (hist:List (List (Key × V))) (D:Deed) : List (Key × V):=
 match D.k with
 | 0=>kvs++[(ky D.n,.str (tx D.l))]
 | 1=>dropK kvs (ky D.n)
 | 2=>putK kvs (ky D.n) (.str (tx (joinL [10] ((rwsV kvs D.n).take D.at_.toNat++[D.l]++(rwsV kvs D.n).drop D.at_.toNat))))
 | 3=>putK kvs (ky D.n) (.str (tx (joinL [10] ((rwsV kvs D.n).take D.at_.toNat++(rwsV kvs D.n).drop (D.at_.toNat+1)))))
 | _=>hist.getLast?.getD []
def nhs (kvs:List (Key × V)) (hist:List (List (Key × V))) (D:Deed) : List (List (Key × V)):=if D.k < 4 then hist++[kvs] else hist.dropLast
structure NmOk (n:List Nat) : Prop where
 len:n.length≤1000
 sg:∀ c ∈ n,c < 127
def TxOk (kvs:List (Key × V)) : Prop:=∀ p ∈ kvs,∃ l,p.2 = .str (tx l)∧l.length≤200000
theorem TxOk.val {kvs:List (Key × V)} (h:TxOk kvs) {k:Key} {v:V} (e:valV kvs k=some v) : ∃ l,v = .str (tx l)∧l.length≤200000:=by
 unfold valV at e
 obtain ⟨p,hp,rfl⟩:=Option.map_eq_some_iff.mp e
 exact h p (List.mem_of_find?_eq_some hp)
structure DPre (C:Addr) (H:Hp) (d pa ea:Addr) (kvs:List (Key × V)) (hist:List (List (Key × V))) (D:Deed) : Prop where
 dk:Dk C H d pa ea kvs hist
 nm:NmOk D.n
 tx:TxOk kvs
 ln:D.l.length≤100000
 kl:kvs.length≤100
 hl:hist.length≤900
structure DPost (cls:Nat→Addr) (C:Addr) (H:Hp) (d ea:Addr) (kvs:List (Key × V)) (hist:List (List (Key × V))) (D:Deed) (Q:VK) (E:XK) : Prop where
 no:∀ i,due kvs hist.length D=some i→∀ H',Same H H'→E (.ref (cls i)) none H'
 ok:due kvs hist.length D=none→∀ H' p',Dk C H' d p' ea (nxt kvs hist D) (nhs kvs hist D)→FrA H H' [d,ea]→Q .non H'

theorem FrA.same {H0 H H':Hp} {os:List Addr} (f:FrA H H' os) (s:Same H0 H) (h:∀ b ∈ os,H0 b=none) : Same H0 H':=fun b o q=>f b o (fun z=>by rw [h b z] at q; cases q) (s b o q)
theorem rw_join {ps:List (List Nat)} (h:ps≠[]) (h2:∀ p ∈ ps,10 ∉ p) : rwV (.str (tx (joinL [10] ps)))=ps:=splitL_join 10 ps h h2
def nMain:List Nat:=[109,97,105,110]
def pn (j:Nat) : List Nat:=if j < 10 then [112,48+j] else [112,49,48+(j - 10)]
theorem cMain:(PySem.Str.ofString "main")=tx nMain:=by decide +kernel
theorem cA:(PySem.Str.ofString "a")=tx [97]:=by decide +kernel
theorem cE:(PySem.Str.ofString "")=tx []:=by decide +kernel
theorem cP:∀ j:Nat,j < 20→(PySem.Str.ofString "p")++(toString ((j:Nat) : Int) : Str)=tx (pn j):=by decide +kernel
theorem dv_eq {k:Nat} {nm l:List Nat} {at_:Int} {s1 s2:Str} (e1:s1=tx nm) (e2:s2=tx l) : [V.str (kn k),.str s1,.int at_,.str s2]=dV ⟨k,nm,at_,l⟩:=by rw [e1,e2]; rfl
def kvN (i:Nat) : List (Key × V):=(List.range i).map fun j=>(ky (pn j),.str (tx [97]))
theorem kvN_succ (i:Nat) : kvN (i+1)=kvN i++[(ky (pn i),.str (tx [97]))]:=by unfold kvN; rw [List.range_succ,List.map_append]; rfl
theorem kvN_tx (i:Nat) : TxOk (kvN i):=fun p hp=>by
 obtain ⟨j,_,rfl⟩:=List.mem_map.mp hp
 exact ⟨[97],rfl,by decide⟩
theorem pn_ok:∀ j:Nat,j < 20→isName (pn j)=true∧(pn j).length≤1000∧∀ c ∈ pn j,c < 127:=by decide +kernel
theorem nm_main:NmOk nMain:=⟨by decide,by decide⟩
theorem nm_pn {j:Nat} (h:j < 20) : NmOk (pn j):=⟨(pn_ok j h).2.1,(pn_ok j h).2.2⟩
theorem put_pn (i:Nat) (h:i < 20) (m:Nat) : due (kvN i) m ⟨0,pn i,0,[97]⟩=none:=
 (show ∀ i:Nat,i < 20→due (kvN i) 0 ⟨0,pn i,0,[97]⟩=none by decide +kernel) i h
theorem nm_e:NmOk []:=⟨by decide,by decide⟩
def kvF {α:Type} (f:α→V) (D:List (List Nat × α)) : List (Key × V):=D.map fun p=>(ky p.1,f p.2)
def lkG {α:Type} (D:List (List Nat × α)) (n:List Nat) : Option α:=(D.find? fun p=>decide (p.1=n)).map (·.2)
def putG {α:Type} (D:List (List Nat × α)) (n:List Nat) (r:α) : List (List Nat × α):=if (D.any fun p=>decide (p.1=n))=true then D.map (fun p=>if p.1=n then (p.1,r) else p) else D++[(n,r)]
def dropG {α:Type} (D:List (List Nat × α)) (n:List Nat) : List (List Nat × α):=D.filter fun p=>decide (p.1≠n)
def mapG {α β:Type} (g:α→β) (D:List (List Nat × α)) : List (List Nat × β):=D.map fun p=>(p.1,g p.2)
theorem ky_inj {n m:List Nat} : ky n=ky m↔n=m:=⟨fun h=>tx_inj (Sum.inr.inj h),fun h=>by rw [h]⟩
section
variable {α β:Type} {f:α→V} {D:List (List Nat × α)} {n:List Nat} {r:α}
theorem val_kvF:valV (kvF f D) (ky n)=(lkG D n).map f:=by
 induction D with
 | nil=>rfl
 | cons p D ih =>
  by_cases e:p.1=n
  ·rw [show kvF f (p :: D)=(ky p.1,f p.2) :: kvF f D from rfl,valV_pos (by rw [e])]
   simp [lkG,e]
  ·rw [show kvF f (p :: D)=(ky p.1,f p.2) :: kvF f D from rfl,valV_neg (fun z=>e (ky_inj.mp z)),ih]
   simp [lkG,e]
theorem any_kvF:((kvF f D).any fun kv=>decide (kv.1=ky n))=D.any fun p=>decide (p.1=n):=by
 unfold kvF
 rw [List.any_map]
 congr 1
 funext p
 exact decide_eq_decide.mpr ky_inj
theorem put_kvF:putK (kvF f D) (ky n) (f r)=kvF f (putG D n r):=by
 unfold putK putG
 rw [any_kvF]
 by_cases h:(D.any fun p=>decide (p.1=n))=true
 ·rw [if_pos h,if_pos h]
  unfold kvF
  rw [List.map_map,List.map_map]
  congr 1
  funext p
  by_cases e:p.1=n
  ·simp [e]
  ·have e':¬ ky p.1=ky n:=fun z=>e (ky_inj.mp z)
   simp [e,e']
 ·rw [if_neg h,if_neg h]
  unfold kvF
  rw [List.map_append]
  rfl
theorem drop_kvF:dropK (kvF f D) (ky n)=kvF f (dropG D n):=by
 unfold dropK dropG kvF
 rw [List.filter_map]
 congr 1
 refine List.filter_congr fun p _=>?_
 exact decide_eq_decide.mpr (not_congr ky_inj)
theorem app_kvF:kvF f D++[(ky n,f r)]=kvF f (D++[(n,r)]):=by unfold kvF; rw [List.map_append]; rfl
theorem len_kvF:(kvF f D).length=D.length:=List.length_map _
theorem lk_map (g:α→β) : lkG (mapG g D) n=(lkG D n).map g:=by
 induction D with
 | nil=>rfl
 | cons p D ih =>
  by_cases e:p.1=n
  ·simp [lkG,mapG,e]
  ·have:lkG (mapG g (p :: D)) n=lkG (mapG g D) n:=by simp [lkG,mapG,e]
   rw [this,ih]
   simp [lkG,e]
theorem put_map (g:α→β) : mapG g (putG D n r)=putG (mapG g D) n (g r):=by
 unfold putG
 rw [show ((mapG g D).any fun p=>decide (p.1=n))=D.any fun p=>decide (p.1=n) by unfold mapG; rw [List.any_map]; rfl]
 by_cases h:(D.any fun p=>decide (p.1=n))=true
 ·rw [if_pos h,if_pos h]
  unfold mapG
  rw [List.map_map,List.map_map]
  congr 1
  funext p
  by_cases e:p.1=n <;> simp [e]
 ·rw [if_neg h,if_neg h]
  unfold mapG
  rw [List.map_append]
  rfl
theorem drop_map (g:α→β) : mapG g (dropG D n)=dropG (mapG g D) n:=by
 unfold dropG mapG
 rw [List.filter_map]
 rfl
theorem lk_mem {x:α} (h:lkG D n=some x) : (n,x) ∈ D:=by
 unfold lkG at h
 obtain ⟨p,hp,rfl⟩:=Option.map_eq_some_iff.mp h
 have e:p.1=n:=by have:=List.find?_some hp; exact of_decide_eq_true this
 rw [← e]
 exact List.mem_of_find?_eq_some hp
theorem lk_any:(D.any fun p=>decide (p.1=n))=(lkG D n).isSome:=by
 induction D with
 | nil=>rfl
 | cons p D ih =>
  by_cases e:p.1=n
  ·simp [lkG,e]
  ·have:lkG (p :: D) n=lkG D n:=by simp [lkG,e]
   rw [this,← ih]
   simp [e]
theorem lk_none (h:lkG D n=none) : n ∉ D.map (·.1):=fun z=>by
 obtain ⟨p,hp,e⟩:=List.mem_map.mp z
 have:(D.any fun p=>decide (p.1=n))=true:=List.any_eq_true.mpr ⟨p,hp,decide_eq_true e⟩
 rw [lk_any,h] at this
 cases this
theorem put_names (h:(lkG D n).isSome=true) : (putG D n r).map (·.1)=D.map (·.1):=by
 unfold putG
 rw [lk_any,if_pos h,List.map_map]
 refine List.map_congr_left fun p _=>?_
 by_cases e:p.1=n <;> simp [e]
theorem put_mem {p:List Nat × α} (h:(lkG D n).isSome=true) (hp:p ∈ putG D n r) : p ∈ D∨p=(n,r):=by
 unfold putG at hp
 rw [lk_any,if_pos h] at hp
 obtain ⟨q,hq,e⟩:=List.mem_map.mp hp
 by_cases z:q.1=n
 ·rw [if_pos z,z] at e; exact .inr e.symm
 ·rw [if_neg z] at e; rw [← e]; exact .inl hq
end
abbrev PD:=List (List Nat × List (List Nat))
def jn (rs:List (List Nat)) : V:=.str (tx (joinL [10] rs))
structure RwOk (rs:List (List Nat)) : Prop where
 ne:rs≠[]
 ln:rs.length≤200
 ok:∀ r ∈ rs,10 ∉ r∧r.length≤400
theorem RwOk.rw {rs:List (List Nat)} (h:RwOk rs) : rwV (jn rs)=rs:=rw_join h.ne fun p hp=>(h.ok p hp).1
theorem join_le:∀ (ps:List (List Nat)),(∀ p ∈ ps,p.length≤400)→(joinL [10] ps).length≤401 * ps.length
 | [],_=>by simp [joinL]
 | [x],h=>by have:=h x List.mem_cons_self; simp [joinL]; omega
 | x :: y :: r,h=>by
  have h1:=h x List.mem_cons_self
  have h2:=join_le (y :: r) fun p hp=>h p (List.mem_cons_of_mem _ hp)
  show (x++[10]++joinL [10] (y :: r)).length≤_
  rw [List.length_append,List.length_append]
  simp only [List.length_cons,List.length_nil] at h2 ⊢
  omega
theorem join_split:∀ l:List Nat,joinL [10] (splitL 10 l)=l
 | []=>rfl
 | x :: r=>by
  have ih:=join_split r
  have ne:=splitL_ne 10 r
  rw [splitL_cons]
  by_cases h:x=10
  ·rw [if_pos h]
   cases e:splitL 10 r with
   | nil=>exact absurd e ne
   | cons p ps =>
    rw [e] at ih
    show []++[10]++joinL [10] (p :: ps)=x :: r
    rw [ih,h]
    rfl
  ·rw [if_neg h]
   cases e:splitL 10 r with
   | nil=>exact absurd e ne
   | cons p ps =>
    rw [e] at ih
    show joinL [10] ((x :: p) :: ps)=x :: r
    cases ps with
    | nil=>show x :: p=x :: r; rw [← ih]; rfl
    | cons p2 ps=>show (x :: p)++[10]++joinL [10] (p2 :: ps)=x :: r; rw [← ih]; rfl
structure DOk (D:PD) : Prop where
 nd:(D.map (·.1)).Nodup
 ln:D.length≤20
 ok:∀ p ∈ D,NmOk p.1∧RwOk p.2
theorem DOk.tx {D:PD} (h:DOk D) : TxOk (kvF jn D):=fun p hp=>by
 obtain ⟨q,hq,rfl⟩:=List.mem_map.mp hp
 refine ⟨joinL [10] q.2,rfl,?_⟩
 have h2:=(h.ok q hq).2
 have:=join_le q.2 fun r hr=>(h2.ok r hr).2
 have:=h2.ln
 omega
theorem DOk.lk {D:PD} (h:DOk D) {n:List Nat} {rs:List (List Nat)} (e:lkG D n=some rs) : RwOk rs:=(h.ok _ (lk_mem e)).2
structure DeedOk (d:Deed) : Prop where
 k4:d.k < 4
 nm:NmOk d.n
 t0:d.k=0→RwOk (splitL 10 d.l)
 t2:d.k=2→10 ∉ d.l∧d.l.length≤400
 ln:d.l.length≤100000
def dueD (D:PD) (d:Deed) : Option Nat:=
 match d.k with
 | 0=>if isName d.n=false then some 0 else if (lkG D d.n).isSome=true then some 1 else if 20≤D.length then some 2 else none
 | 1=>if (lkG D d.n).isSome=true then none else some 3
 | 2=>match lkG D d.n with
  | none=>some 3
  | some rs=>if d.at_ < 0∨(rs.length:Int) < d.at_ then some 4 else if 200≤rs.length then some 2 else none
 | 3=>match lkG D d.n with
  | none=>some 3
  | some rs=>if d.at_ < 0∨(rs.length:Int)≤d.at_ then some 4 else none
 | _=>none
def nxtD (D:PD) (d:Deed) : PD:=
 match d.k with
 | 0=>D++[(d.n,splitL 10 d.l)]
 | 1=>dropG D d.n
 | 2=>putG D d.n (((lkG D d.n).getD []).take d.at_.toNat++[d.l]++((lkG D d.n).getD []).drop d.at_.toNat)
 | 3=>putG D d.n (if ((lkG D d.n).getD []).length=1 then [[]] else ((lkG D d.n).getD []).take d.at_.toNat++((lkG D d.n).getD []).drop (d.at_.toNat+1))
 | _=>D
theorem due_kv {D:PD} (h:DOk D) {d:Deed} (hk:d.k < 4) (m:Nat) : due (kvF jn D) m d=dueD D d:=by
 obtain ⟨k,n,at_,l⟩:=d
 match k,hk with
 | 0,_=>simp only [due,dueD,val_kvF,len_kvF,Option.isSome_map]
 | 1,_=>simp only [due,dueD,val_kvF,Option.isSome_map]
 | 2,_ =>
  simp only [due,dueD,val_kvF]
  cases e:lkG D n with
  | none=>rfl
  | some rs=>simp only [Option.map_some,(h.lk e).rw]
 | 3,_ =>
  simp only [due,dueD,val_kvF]
  cases e:lkG D n with
  | none=>rfl
  | some rs=>simp only [Option.map_some,(h.lk e).rw]
theorem nxt_kv {D:PD} (h:DOk D) {d:Deed} (hk:d.k < 4) (hd:dueD D d=none) (hist:List (List (Key × V))) : nxt (kvF jn D) hist d=kvF jn (nxtD D d):=by
 obtain ⟨k,n,at_,l⟩:=d
 match k,hk with
 | 0,_ =>
  simp only [nxt,nxtD]
  rw [← app_kvF]
  show _++[(ky n,V.str (tx l))]=_++[(ky n,jn (splitL 10 l))]
  unfold jn
  rw [join_split]
 | 1,_=>exact drop_kvF
 | 2,_ =>
  cases e:lkG D n with
  | none=>simp only [dueD,e] at hd; cases hd
  | some rs =>
   have e2:rwsV (kvF jn D) n=rs:=by unfold rwsV; rw [val_kvF,e]; exact (h.lk e).rw
   simp only [nxt,nxtD,e2,e,Option.getD_some]
   exact put_kvF (f:=jn)
 | 3,_ =>
  cases e:lkG D n with
  | none=>simp only [dueD,e] at hd; cases hd
  | some rs =>
   have e2:rwsV (kvF jn D) n=rs:=by unfold rwsV; rw [val_kvF,e]; exact (h.lk e).rw
   simp only [nxt,nxtD,e2,e,Option.getD_some]
   rw [← put_kvF (f:=jn)]
   congr 1
   by_cases z:rs.length=1
   ·rw [if_pos z]
    have hat:¬ (at_ < 0∨(rs.length:Int)≤at_):=fun y=>by simp only [dueD,e] at hd; rw [if_pos y] at hd; cases hd
    have:at_.toNat=0:=by omega
    rw [this,List.take_zero,List.nil_append,List.drop_of_length_le (by omega)]
    rfl
   ·rw [if_neg z]; rfl
theorem DOk.nxt {D:PD} (h:DOk D) {d:Deed} (ok:DeedOk d) (hd:dueD D d=none) : DOk (nxtD D d):=by
 obtain ⟨k,n,at_,l⟩:=d
 have nm:=ok.nm
 match k,ok.k4 with
 | 0,_ =>
  simp only [dueD] at hd
  split at hd
  ·cases hd
  split at hd
  ·cases hd
  split at hd
  ·cases hd
  rename_i c1 c2 c3
  have e:lkG D n=none:=by simpa using c2
  have hn:=lk_none e
  refine ⟨?_,?_,fun p hp=>?_⟩
  ·show ((D++[(n,splitL 10 l)]).map (·.1)).Nodup
   rw [List.map_append]
   refine List.nodup_append.mpr ⟨h.nd,by simp,fun a ha b hb=>?_⟩
   rw [List.mem_singleton.mp hb]
   intro z
   have z':a=n:=z
   rw [z'] at ha
   exact hn ha
  ·show (D++[(n,splitL 10 l)]).length≤20
   rw [List.length_append]
   simp only [List.length_cons,List.length_nil]
   omega
  ·rcases List.mem_append.mp hp with z | z
   ·exact h.ok p z
   ·rw [List.mem_singleton.mp z]; exact ⟨nm,ok.t0 rfl⟩
 | 1,_ =>
  refine ⟨?_,?_,fun p hp=>h.ok p (List.mem_filter.mp hp).1⟩
  ·exact h.nd.sublist (List.Sublist.map _ List.filter_sublist)
  ·exact Nat.le_trans (List.length_filter_le _ _) h.ln
 | 2,_ =>
  cases e:lkG D n with
  | none=>simp only [dueD,e] at hd; cases hd
  | some rs =>
   have ro:=h.lk e
   simp only [dueD,e] at hd
   split at hd
   ·cases hd
   split at hd
   ·cases hd
   rename_i c1 c2
   have es:(lkG D n).isSome=true:=by rw [e]; rfl
   simp only [nxtD,e,Option.getD_some]
   refine ⟨by rw [put_names es]; exact h.nd,?_,fun p hp=>?_⟩
   ·have:=congrArg List.length (put_names (r:=rs.take at_.toNat++[l]++rs.drop at_.toNat) es)
    rw [List.length_map,List.length_map] at this
    rw [this]; exact h.ln
   ·rcases put_mem es hp with z | z
    ·exact h.ok p z
    ·rw [z]
     refine ⟨nm,by simp,?_,fun r hr=>?_⟩
     ·simp only [List.length_append,List.length_take,List.length_drop,List.length_cons,List.length_nil]; omega
     ·rcases List.mem_append.mp hr with hr | hr
      ·rcases List.mem_append.mp hr with hr | hr
       ·exact ro.ok r (List.mem_of_mem_take hr)
       ·rw [List.mem_singleton.mp hr]; exact ok.t2 rfl
      ·exact ro.ok r (List.mem_of_mem_drop hr)
 | 3,_ =>
  cases e:lkG D n with
  | none=>simp only [dueD,e] at hd; cases hd
  | some rs =>
   have ro:=h.lk e
   simp only [dueD,e] at hd
   split at hd
   ·cases hd
   rename_i c1
   have es:(lkG D n).isSome=true:=by rw [e]; rfl
   simp only [nxtD,e,Option.getD_some]
   have rok:RwOk (if rs.length=1 then [[]] else rs.take at_.toNat++rs.drop (at_.toNat+1)):=by
    split
    ·exact ⟨by simp,by simp,fun r hr=>by rw [List.mem_singleton.mp hr]; simp⟩
    ·rename_i z
     have hl:=ro.ln
     have hlen:(rs.take at_.toNat++rs.drop (at_.toNat+1)).length=rs.length - 1:=by rw [List.length_append,List.length_take,List.length_drop]; omega
     have hne:0 < rs.length:=List.length_pos_iff.mpr ro.ne
     refine ⟨fun y=>by rw [y] at hlen; simp at hlen; omega,by omega,fun r hr=>?_⟩
     rcases List.mem_append.mp hr with hr | hr
     ·exact ro.ok r (List.mem_of_mem_take hr)
     ·exact ro.ok r (List.mem_of_mem_drop hr)
   refine ⟨by rw [put_names es]; exact h.nd,?_,fun p hp=>?_⟩
   ·have:=congrArg List.length (put_names (r:=if rs.length=1 then [[]] else rs.take at_.toNat++rs.drop (at_.toNat+1)) es)
    rw [List.length_map,List.length_map] at this
    rw [this]; exact h.ln
   ·rcases put_mem es hp with z | z
    ·exact h.ok p z
    ·rw [z]; exact ⟨nm,rok⟩
abbrev AD:=List (List Nat × (List (List Nat) × Addr))
def rfA (x:List (List Nat) × Addr) : V:=.ref x.2
structure OwA (H:Hp) (o:Addr) (A:AD) : Prop where
 at_:H o=some (.dK (kvF rfA A))
 ls:∀ p ∈ A,H p.2.2=some (.lst ((p.2.1.map tx).map V.str))
def OwnA (H:Hp) (o:Addr) (D:PD) : Prop:=∃ A:AD,mapG Prod.fst A=D∧OwA H o A
theorem OwA.same {H H':Hp} {o:Addr} {A:AD} (h:OwA H o A) (s:Same H H') : OwA H' o A:=⟨s _ _ h.at_,fun p hp=>s _ _ (h.ls p hp)⟩
theorem OwnA.same {H H':Hp} {o:Addr} {D:PD} (h:OwnA H o D) (s:Same H H') : OwnA H' o D:=let ⟨A,e,q⟩:=h; ⟨A,e,q.same s⟩
def wd:Option Nat→Str
 | none=>""
 | some 0=>"name"
 | some 1=>"twice"
 | some 2=>"long"
 | some 3=>"part"
 | some 4=>"row"
 | some _=>"nothing"

theorem c10:(PySem.Str.ofString "\n")=tx [10]:=by decide +kernel
theorem tx_of (s:Str) : tx s.cps.toList=s:=by
 obtain ⟨c⟩:=s
 show (⟨c.toList.toArray⟩ : Str)=⟨c⟩
 rw [Array.toArray_toList]
def sgn94:List Nat:=((List.range 95).map (·+32)).filter (·≠37)
theorem csome94:(PySem.Str.ofString " !\"#$&'()*+,-./0123456789:;<=>?@ABCDEFGHIJKLMNOPQRSTUVWXYZ[\\]^_")++(PySem.Str.ofString "`abcdefghijklmnopqrstuvwxyz{|}~")=tx sgn94:=by decide +kernel
theorem lsome94:(PySem.Str.ofString " !\"#$&'()*+,-./0123456789:;<=>?@ABCDEFGHIJKLMNOPQRSTUVWXYZ[\\]^_").length+(PySem.Str.ofString "`abcdefghijklmnopqrstuvwxyz{|}~").length≤1000:=by decide +kernel
theorem sgn94_in:∀ d:Nat,d < 94→32≤sgn94.getD d 0∧sgn94.getD d 0 < 127:=by decide +kernel
theorem at_s94 (k:Int) : ∃ c,atI (tx sgn94).cps.toList (k % 94)=some c∧32≤c∧c < 127:=by
 have b1:=Int.emod_nonneg k (show (94:Int)≠0 by decide)
 have b2:=Int.emod_lt_of_pos k (show (0:Int) < 94 by decide)
 obtain ⟨d,hd⟩:=Int.eq_ofNat_of_zero_le b1
 rw [hd]
 have hd2:d < 94:=by omega
 have hl:d < sgn94.length:=by rw [show sgn94.length=94 by decide +kernel]; exact hd2
 refine ⟨sgn94.getD d 0,?_,sgn94_in d hd2⟩
 refine atI_nat ?_
 show (sgn94.toArray.toList)[d]? = _
 rw [List.getD_eq_getElem?_getD,List.getElem?_eq_getElem hl]
 rfl
theorem sum_one (cs:List Nat) : ((cs.map fun d=>tx [d]).map (·.length)).sum=cs.length:=by
 induction cs with
 | nil=>rfl
 | cons c r ih=>rw [List.map_cons,List.map_cons,List.sum_cons,ih,List.length_cons]; show 1+r.length=_; omega
theorem join_one:∀ cs:List Nat,joinL [] (cs.map fun d=>[d])=cs
 | []=>rfl
 | [x]=>rfl
 | x :: y :: r=>by
  show [x]++[]++joinL [] ((y :: r).map fun d=>[d])=_
  rw [join_one (y :: r)]
  rfl
theorem lk_of_mem {α:Type} {D:List (List Nat × α)} (nd:(D.map (·.1)).Nodup) {n:List Nat} {x:α} (h:(n,x) ∈ D) : lkG D n=some x:=by
 induction D with
 | nil=>cases h
 | cons p D ih =>
  rw [List.map_cons] at nd
  have nd':=List.nodup_cons.mp nd
  rcases List.mem_cons.mp h with e | h
  ·rw [← e]; simp [lkG]
  ·have ne:¬ p.1=n:=fun z=>nd'.1 (by rw [z]; exact List.mem_map.mpr ⟨_,h,rfl⟩)
   have:lkG (p :: D) n=lkG D n:=by simp [lkG,ne]
   rw [this]
   exact ih nd'.2 h
theorem put_len (kvs:List (Key × V)) (k:Key) (v:V) : (putK kvs k v).length≤kvs.length+1:=by
 unfold putK
 split
 ·rw [List.length_map]; omega
 ·rw [List.length_append]; exact Nat.le_refl _
def ownN (D:PD) (d:Deed) : PD:=if dueD D d=none then nxtD D d else D
theorem keys_own (A:AD) : ((kvF rfA A).map fun q=>kV q.1)=(A.map fun p=>tx p.1).map V.str:=by
 unfold kvF
 rw [List.map_map,List.map_map]
 rfl
theorem HsA.refs {H:Hp} : ∀ {es:List V} {hs:List (List (Key × V))},HsA H es hs→∀ v ∈ es,∃ b,v = .ref b
 | [],_,_,v,hv=>nomatch hv
 | _ :: _,_ :: _,⟨⟨b,e,_⟩,r⟩,v,hv=>by
  rcases List.mem_cons.mp hv with z | z
  ·exact ⟨b,z.trans e⟩
  ·exact r.refs v z
theorem Dk.ne_el {C d pa ea b:Addr} {H:Hp} {kvs:List (Key × V)} {hist:List (List (Key × V))} (D:Dk C H d pa ea kvs hist) {v:V} {xs:List V} (h:H b=some (.lst (v :: xs))) (hv:∀ c,v≠.ref c) : b ∉ [d,ea]:=fun z=>by
 obtain ⟨⟨dx,fa,ia,h1⟩,_,es,h3,h4⟩:=D
 rcases List.mem_cons.mp z with z | z
 ·rw [z,h1] at h; cases h
 ·rw [List.mem_singleton.mp z,h3] at h
  cases h
  obtain ⟨c,e⟩:=h4.refs v List.mem_cons_self
  exact hv c e
theorem Dk.ne_dk {C d pa ea b:Addr} {H:Hp} {kvs w:List (Key × V)} {hist:List (List (Key × V))} (D:Dk C H d pa ea kvs hist) (h:H b=some (.dK w)) : b ∉ [d,ea]:=fun z=>by
 obtain ⟨⟨dx,fa,ia,h1⟩,_,es,h3,h4⟩:=D
 rcases List.mem_cons.mp z with z | z
 ·rw [z,h1] at h; cases h
 ·rw [List.mem_singleton.mp z,h3] at h; cases h
def DN (i:Nat) : PD:=(List.range i).map fun j=>(pn j,[[97]])
theorem DN_succ (i:Nat) : DN (i+1)=DN i++[(pn i,[[97]])]:=by unfold DN; rw [List.range_succ,List.map_append]; rfl
theorem kvN_DN (i:Nat) : kvF jn (DN i)=kvN i:=by unfold kvF DN kvN; rw [List.map_map]; rfl
theorem pn_inj:∀ i:Nat,i < 20→∀ j:Nat,j < 20→pn i=pn j→i=j:=by decide +kernel
theorem DN_ok {i:Nat} (h:i≤20) : DOk (DN i):=by
 refine ⟨?_,by simp [DN]; exact h,fun p hp=>?_⟩
 ·have:(DN i).map (·.1)=(List.range i).map pn:=by unfold DN; rw [List.map_map]; rfl
  rw [this]
  refine List.pairwise_map.mpr (List.nodup_range.imp_of_mem fun {a b} ha hb ne e=>ne ?_)
  have ha:=List.mem_range.mp ha
  have hb:=List.mem_range.mp hb
  exact pn_inj a (by omega) b (by omega) e
 ·obtain ⟨j,hj,rfl⟩:=List.mem_map.mp hp
  exact ⟨nm_pn (by have:=List.mem_range.mp hj; omega),⟨by simp,by simp,fun r hr=>by rw [List.mem_singleton.mp hr]; exact ⟨by decide,by decide⟩⟩⟩
theorem DN_lk {i:Nat} (h:i < 20) : lkG (DN i) (pn i)=none:=by
 cases e:lkG (DN i) (pn i) with
 | none=>rfl
 | some x =>
  obtain ⟨j,hj,ej⟩:=List.mem_map.mp (lk_mem e)
  have hj:=List.mem_range.mp hj
  have:=pn_inj j (by omega) i h (Prod.mk.inj ej).1
  omega
def rowOk (l:List Nat) : Prop:=10 ∉ l∧l.length≤400

theorem kv_flat {kvs:List (Key × V)} (h:TxOk kvs) : ∀ p ∈ kvs,flatV p.2=true:=fun p hp=>by
 obtain ⟨l,e,_⟩:=h p hp
 rw [e]
 rfl

abbrev OL:=List (PD × Addr)
structure OlA (G:Hp) (le:Addr) (P:OL) : Prop where
 at_:G le=some (.lst (P.map fun q=>V.ref q.2))
 ow:∀ q ∈ P,OwnA G q.2 q.1
def hsOf (L:OL) : List (List (Key × V)):=L.map fun q=>kvF jn q.1
theorem OlA.same {G G':Hp} {le:Addr} {P:OL} (h:OlA G le P) (s:Same G G') : OlA G' le P:=⟨s _ _ h.at_,fun q hq=>(h.ow q hq).same s⟩
theorem OwnA.keep {G G':Hp} {o:Addr} {D:PD} (h:OwnA G o D) (ok:DOk D) (k1:∀ b w,G b=some (.dK w)→G' b=some (.dK w)) (k2:∀ b s r,G b=some (.lst (V.str s :: r))→G' b=some (.lst (V.str s :: r))) : OwnA G' o D:=by
 obtain ⟨A,eA,ow⟩:=h
 refine ⟨A,eA,k1 _ _ ow.at_,fun p hp=>?_⟩
 have hl:=ow.ls p hp
 have hp':(p.1,p.2.1) ∈ D:=by rw [← eA]; exact List.mem_map.mpr ⟨p,hp,rfl⟩
 have hn:=(ok.ok _ hp').2.ne
 cases e:p.2.1 with
 | nil=>exact absurd e hn
 | cons r rs=>rw [e] at hl; exact k2 _ _ _ hl
theorem OwnA.frd {C d pa ea o:Addr} {H H':Hp} {kvs:List (Key × V)} {hist:List (List (Key × V))} {D:PD} (h:OwnA H o D) (ok:DOk D) (dk:Dk C H d pa ea kvs hist) (f:FrA H H' [d,ea]) : OwnA H' o D:=
 h.keep ok (fun b w z=>f _ _ (dk.ne_dk z) z) fun b s r z=>f _ _ (dk.ne_el z (fun c e=>by cases e)) z
theorem OwnA.at_le {G:Hp} {o le:Addr} {D:PD} {P:OL} {ys:List V} (h:OwnA G o D) (ok:DOk D) (hl:G le=some (.lst (P.map fun q=>V.ref q.2))) : OwnA (upd G le (.lst ys)) o D:=by
 refine h.keep ok (fun b w z=>?_) fun b s r z=>?_
 ·rw [upd_ne (fun e=>by rw [e,hl] at z; cases z)]; exact z
 ·rw [upd_ne (fun e=>by
   rw [e,hl] at z
   cases P with
   | nil=>cases z
   | cons q P=>cases z)]
  exact z
theorem Dk.at_le {C d pa ea le:Addr} {G:Hp} {kvs:List (Key × V)} {hist:List (List (Key × V))} {xs ys:List V} (D:Dk C G d pa ea kvs hist) (hl:G le=some (.lst xs)) (ne:le≠ea) : Dk C (upd G le (.lst ys)) d pa ea kvs hist:=by
 obtain ⟨⟨dx,fa,ia,k1⟩,k2,es,k3,k4⟩:=D
 have kd:∀ b w,G b=some (.dK w)→upd G le (.lst ys) b=some (.dK w):=fun b w z=>by rw [upd_ne (fun e=>by rw [e,hl] at z; cases z)]; exact z
 exact ⟨⟨dx,fa,ia,by rw [upd_ne (fun e=>by rw [e,hl] at k1; cases k1)]; exact k1⟩,kd _ _ k2,es,by rw [upd_ne (Ne.symm ne)]; exact k3,k4.mono fun b k _ z=>kd b k z⟩
structure WkA (C:Addr) (G:Hp) (x ea le pa:Addr) (L:OL) (D:PD) (o:Addr) : Prop where
 dk:Dk C G x pa ea (kvF jn D) (hsOf L)
 ol:OlA G le (L++[(D,o)])
 ok:∀ q ∈ L++[(D,o)],DOk q.1
 ne:le≠ea
theorem WkA.same {C x ea le pa o:Addr} {G G':Hp} {L:OL} {D:PD} (h:WkA C G x ea le pa L D o) (s:Same G G') : WkA C G' x ea le pa L D o:=⟨h.dk.same s,h.ol.same s,h.ok,h.ne⟩
theorem WkA.dok {C x ea le pa o:Addr} {G:Hp} {L:OL} {D:PD} (h:WkA C G x ea le pa L D o) : DOk D:=h.ok (D,o) (List.mem_append_right _ List.mem_cons_self)
theorem WkA.own {C x ea le pa o:Addr} {G:Hp} {L:OL} {D:PD} (h:WkA C G x ea le pa L D o) : OwnA G o D:=h.ol.ow (D,o) (List.mem_append_right _ List.mem_cons_self)
theorem WkA.at_ {C x ea le pa o:Addr} {G:Hp} {L:OL} {D:PD} (h:WkA C G x ea le pa L D o) : G le=some (.lst ((L.map fun q=>V.ref q.2)++[V.ref o])):=by have:=h.ol.at_; rw [List.map_append] at this; exact this
end K74
namespace K74
open PySem PySem.Spec L2 Tl

noncomputable abbrev s_check_number:Stmt:=top 23
noncomputable abbrev s_check_form:Stmt:=top 22
noncomputable abbrev s_Desk_init:Stmt:=mtop 119 0
noncomputable abbrev s_Desk_do_deed:Stmt:=mtop 119 10
noncomputable abbrev s_is_name:Stmt:=top 30
noncomputable abbrev s_Desk_put_part:Stmt:=mtop 119 1
noncomputable abbrev s_Desk_shelf:Stmt:=mtop 119 6
noncomputable abbrev s_l_cell_at:Stmt:=top 121
noncomputable abbrev s_rows_in:Stmt:=top 35
noncomputable abbrev s_Desk_rows_of:Stmt:=mtop 119 9
noncomputable abbrev s_Desk_cut_row:Stmt:=mtop 119 4
noncomputable abbrev s_Desk_drop_part:Stmt:=mtop 119 2
noncomputable abbrev s_Desk_put_row:Stmt:=mtop 119 3
noncomputable abbrev s_Desk_undo:Stmt:=mtop 119 5
noncomputable abbrev s_l_did:Stmt:=top 131
noncomputable abbrev s_l_mixed:Stmt:=top 122
noncomputable abbrev s_l_shelf_is:Stmt:=top 132
noncomputable abbrev s_l_at:Stmt:=top 127
noncomputable abbrev s_l_name:Stmt:=top 126
noncomputable abbrev s_l_signs:Stmt:=top 123
noncomputable abbrev s_l_row:Stmt:=top 124
noncomputable abbrev s_l_text:Stmt:=top 125
noncomputable abbrev s_l_deed:Stmt:=top 133
noncomputable abbrev s_l_is_name:Stmt:=top 128
noncomputable abbrev s_l_put_by:Stmt:=top 129
noncomputable abbrev s_l_done_by:Stmt:=top 130
noncomputable abbrev s_l_walk:Stmt:=top 134
noncomputable abbrev s_law:Stmt:=top 135
set_option genInjectivity false in
structure Adr where
 f_check_number:Addr
 fd_check_number:FuncData
 f_check_form:Addr
 fd_check_form:FuncData
 f_Desk_init:Addr
 fd_Desk_init:FuncData
 f_Desk_do_deed:Addr
 fd_Desk_do_deed:FuncData
 f_is_name:Addr
 fd_is_name:FuncData
 f_Desk_put_part:Addr
 fd_Desk_put_part:FuncData
 f_Desk_shelf:Addr
 fd_Desk_shelf:FuncData
 f_l_cell_at:Addr
 fd_l_cell_at:FuncData
 f_rows_in:Addr
 fd_rows_in:FuncData
 f_Desk_rows_of:Addr
 fd_Desk_rows_of:FuncData
 f_Desk_cut_row:Addr
 fd_Desk_cut_row:FuncData
 f_Desk_drop_part:Addr
 fd_Desk_drop_part:FuncData
 f_Desk_put_row:Addr
 fd_Desk_put_row:FuncData
 f_Desk_undo:Addr
 fd_Desk_undo:FuncData
 f_l_did:Addr
 fd_l_did:FuncData
 f_l_mixed:Addr
 fd_l_mixed:FuncData
 f_l_shelf_is:Addr
 fd_l_shelf_is:FuncData
 f_l_at:Addr
 fd_l_at:FuncData
 f_l_name:Addr
 fd_l_name:FuncData
 f_l_signs:Addr
 fd_l_signs:FuncData
 f_l_row:Addr
 fd_l_row:FuncData
 f_l_text:Addr
 fd_l_text:FuncData
 f_l_deed:Addr
 fd_l_deed:FuncData
 f_l_is_name:Addr
 fd_l_is_name:FuncData
 f_l_put_by:Addr
 fd_l_put_by:FuncData
 f_l_done_by:Addr
 fd_l_done_by:FuncData
 f_l_walk:Addr
 fd_l_walk:FuncData
 f_law:Addr
 fd_law:FuncData
 c_BadForm:Addr
 c_BadName:Addr
 c_NoPart:Addr
 c_NoRow:Addr
 c_NothingDone:Addr
 c_TooLong:Addr
 c_Twice:Addr
 c_Desk:Addr
structure Txt (P:Program) (w:World) (K:PySem.W.Frag) (mg:Str→Option Value) (a:Adr) : Prop where
 k_Desk:ClsOk K mg "Desk" a.c_Desk
 na_Desk_form:NoAttr K a.c_Desk "form"
 na_Desk_parts:NoAttr K a.c_Desk "parts"
 na_Desk_elder:NoAttr K a.c_Desk "elder"
 na_Desk_issued:NoAttr K a.c_Desk "issued"
 d_check_number:DefOk K mg "check_number" s_check_number ["number","least","most"] a.f_check_number a.fd_check_number
 d_check_form:DefOk K mg "check_form" s_check_form ["form"] a.f_check_form a.fd_check_form
 d_Desk_init:MetOk K a.c_Desk "__init__" "Desk.__init__" s_Desk_init ["self","form"] a.f_Desk_init a.fd_Desk_init
 d_Desk_do_deed:MetOk K a.c_Desk "do_deed" "Desk.do_deed" s_Desk_do_deed ["self"] a.f_Desk_do_deed a.fd_Desk_do_deed
 d_is_name:DefOk K mg "is_name" s_is_name ["word"] a.f_is_name a.fd_is_name
 d_Desk_put_part:MetOk K a.c_Desk "put_part" "Desk.put_part" s_Desk_put_part ["self","name","text"] a.f_Desk_put_part a.fd_Desk_put_part
 d_Desk_shelf:MetOk K a.c_Desk "shelf" "Desk.shelf" s_Desk_shelf ["self"] a.f_Desk_shelf a.fd_Desk_shelf
 d_l_cell_at:DefOk K mg "_law_cell_at" s_l_cell_at ["script","k"] a.f_l_cell_at a.fd_l_cell_at
 d_rows_in:DefOk K mg "rows_in" s_rows_in ["text"] a.f_rows_in a.fd_rows_in
 d_Desk_rows_of:MetOk K a.c_Desk "rows_of" "Desk.rows_of" s_Desk_rows_of ["self","name"] a.f_Desk_rows_of a.fd_Desk_rows_of
 d_Desk_cut_row:MetOk K a.c_Desk "cut_row" "Desk.cut_row" s_Desk_cut_row ["self","name","at"] a.f_Desk_cut_row a.fd_Desk_cut_row
 d_Desk_drop_part:MetOk K a.c_Desk "drop_part" "Desk.drop_part" s_Desk_drop_part ["self","name"] a.f_Desk_drop_part a.fd_Desk_drop_part
 d_Desk_put_row:MetOk K a.c_Desk "put_row" "Desk.put_row" s_Desk_put_row ["self","name","at","row"] a.f_Desk_put_row a.fd_Desk_put_row
 d_Desk_undo:MetOk K a.c_Desk "undo" "Desk.undo" s_Desk_undo ["self"] a.f_Desk_undo a.fd_Desk_undo
 d_l_did:DefOk K mg "_law_did" s_l_did ["desk","deed"] a.f_l_did a.fd_l_did
 d_l_mixed:DefOk K mg "_law_mixed" s_l_mixed ["cell"] a.f_l_mixed a.fd_l_mixed
 d_l_shelf_is:DefOk K mg "_law_shelf_is" s_l_shelf_is ["desk","own"] a.f_l_shelf_is a.fd_l_shelf_is
 d_l_at:DefOk K mg "_law_at" s_l_at ["number","many"] a.f_l_at a.fd_l_at
 d_l_name:DefOk K mg "_law_name" s_l_name ["number","known"] a.f_l_name a.fd_l_name
 d_l_signs:DefOk K mg "_law_signs" s_l_signs ["number","size"] a.f_l_signs a.fd_l_signs
 d_l_row:DefOk K mg "_law_row" s_l_row ["number"] a.f_l_row a.fd_l_row
 d_l_text:DefOk K mg "_law_text" s_l_text ["number"] a.f_l_text a.fd_l_text
 d_l_deed:DefOk K mg "_law_deed" s_l_deed ["cell","own"] a.f_l_deed a.fd_l_deed
 d_l_is_name:DefOk K mg "_law_is_name" s_l_is_name ["name"] a.f_l_is_name a.fd_l_is_name
 d_l_put_by:DefOk K mg "_law_put_by" s_l_put_by ["own","name","text"] a.f_l_put_by a.fd_l_put_by
 d_l_done_by:DefOk K mg "_law_done_by" s_l_done_by ["own","deed"] a.f_l_done_by a.fd_l_done_by
 d_l_walk:DefOk K mg "_law_walk" s_l_walk ["desk","script","elder"] a.f_l_walk a.fd_l_walk
 d_law:DefOk K mg "law" s_law ["script"] a.f_law a.fd_law
 z_all:mg "all" = none
 z_dict:mg "dict" = none
 z_isinstance:mg "isinstance" = none
 z_len:mg "len" = none
 z_list:mg "list" = none
 z_min:mg "min" = none
 z_range:mg "range" = none
 z_sorted:mg "sorted" = none
 z_str:mg "str" = none
 x_BadForm:ExcOk K mg "BadForm" a.c_BadForm
 x_BadName:ExcOk K mg "BadName" a.c_BadName
 x_NoPart:ExcOk K mg "NoPart" a.c_NoPart
 x_NoRow:ExcOk K mg "NoRow" a.c_NoRow
 x_NothingDone:ExcOk K mg "NothingDone" a.c_NothingDone
 x_TooLong:ExcOk K mg "TooLong" a.c_TooLong
 x_Twice:ExcOk K mg "Twice" a.c_Twice
 t_BadName_BadName:Takes K a.c_BadName a.c_BadName
 t_Twice_Twice:Takes K a.c_Twice a.c_Twice
 t_TooLong_TooLong:Takes K a.c_TooLong a.c_TooLong
 t_NoPart_NoPart:Takes K a.c_NoPart a.c_NoPart
 t_NoRow_NoRow:Takes K a.c_NoRow a.c_NoRow
 t_NothingDone_NothingDone:Takes K a.c_NothingDone a.c_NothingDone
 nt_BadName_NoPart:NotTakes K a.c_BadName a.c_NoPart
 nt_BadName_NoRow:NotTakes K a.c_BadName a.c_NoRow
 nt_BadName_Twice:NotTakes K a.c_BadName a.c_Twice
 nt_BadName_TooLong:NotTakes K a.c_BadName a.c_TooLong
 nt_BadName_NothingDone:NotTakes K a.c_BadName a.c_NothingDone
 nt_Twice_BadName:NotTakes K a.c_Twice a.c_BadName
 nt_Twice_NoPart:NotTakes K a.c_Twice a.c_NoPart
 nt_Twice_NoRow:NotTakes K a.c_Twice a.c_NoRow
 nt_Twice_TooLong:NotTakes K a.c_Twice a.c_TooLong
 nt_Twice_NothingDone:NotTakes K a.c_Twice a.c_NothingDone
 nt_TooLong_BadName:NotTakes K a.c_TooLong a.c_BadName
 nt_TooLong_NoPart:NotTakes K a.c_TooLong a.c_NoPart
 nt_TooLong_NoRow:NotTakes K a.c_TooLong a.c_NoRow
 nt_TooLong_Twice:NotTakes K a.c_TooLong a.c_Twice
 nt_TooLong_NothingDone:NotTakes K a.c_TooLong a.c_NothingDone
 nt_NoPart_BadName:NotTakes K a.c_NoPart a.c_BadName
 nt_NoPart_NoRow:NotTakes K a.c_NoPart a.c_NoRow
 nt_NoPart_Twice:NotTakes K a.c_NoPart a.c_Twice
 nt_NoPart_TooLong:NotTakes K a.c_NoPart a.c_TooLong
 nt_NoPart_NothingDone:NotTakes K a.c_NoPart a.c_NothingDone
 nt_NoRow_BadName:NotTakes K a.c_NoRow a.c_BadName
 nt_NoRow_NoPart:NotTakes K a.c_NoRow a.c_NoPart
 nt_NoRow_Twice:NotTakes K a.c_NoRow a.c_Twice
 nt_NoRow_TooLong:NotTakes K a.c_NoRow a.c_TooLong
 nt_NoRow_NothingDone:NotTakes K a.c_NoRow a.c_NothingDone
 nt_NothingDone_BadName:NotTakes K a.c_NothingDone a.c_BadName
 nt_NothingDone_NoPart:NotTakes K a.c_NothingDone a.c_NoPart
 nt_NothingDone_NoRow:NotTakes K a.c_NothingDone a.c_NoRow
 nt_NothingDone_Twice:NotTakes K a.c_NothingDone a.c_Twice
 nt_NothingDone_TooLong:NotTakes K a.c_NothingDone a.c_TooLong
 m_FIGURES:∃ t,mg "FIGURES" = some (.str (PySem.Str.ofString "0123456789") t)
 m_LETTERS:∃ t,mg "LETTERS" = some (.str (PySem.Str.ofString "abcdefghijklmnopqrstuvwxyz") t)
 m_LONGEST_NAME:∃ t,mg "LONGEST_NAME" = some (.int 12 t)
 m_MOST_PARTS:∃ t,mg "MOST_PARTS" = some (.int 20 t)
 m_MOST_ROWS_desk:∃ t,mg "MOST_ROWS_desk" = some (.int 200 t)
section
variable {P:Program} {w:World} {K:PySem.W.Frag} {mg:Str→Option Value} {base:Heap} {a:Adr}

def sp_check_number (C:Addr) : Sp:=fun vs H Q E=>∃ (n lo hi:Int),vs=[.int n,.int lo,.int hi]∧(lo.natAbs.log2 < 1920∧(toString lo:Str).length≤20000)∧(hi.natAbs.log2 < 1920∧(toString hi:Str).length≤20000)∧(¬ (lo≤n∧n≤hi)→E (.ref C) none H)∧((lo≤n∧n≤hi)→Q .non H)
theorem sc_check_number:FnScope ["number","least","most"] ["number","least","most"] (defScope s_check_number):=⟨rfl,rfl,rfl,by decide +kernel,rfl,by decide +kernel,by decide +kernel⟩
theorem ok_check_number (T:Txt P w K mg a) : FnOk P w K mg base (CXe P w) 1 a.f_check_number a.fd_check_number ["number","least","most"] (sp_check_number a.c_BadForm):=by
 have x_BadForm:=T.x_BadForm
 refine T.d_check_number.fn.okE sc_check_number (fun vs H Q E h=>?_) (fun cdv A outer s H vs Q E hr h=>?_)
 ·obtain ⟨n,lo,hi,rfl,_⟩:=h
  rfl
 obtain ⟨n,lo,hi,rfl,b1,b2,q1,q⟩:=h
 have hu:=Nat.lt_of_succ_lt (hu_of hr)
 refine ⟨_,(pss_one (ps_if (PW.pt (pw_or (pt_cmpR op_lt (pv 0) (pv 1) (nomark _)) (pw_or1 (pt_cmpR op_gt (pv 0) (pv 2) (nomark _))))) (pss_one (ps_raise rfl wish_cx x_BadForm rfl (pa_cons (pe_fstr (pj_cons pp_str (pj_cons (pp_intV (pv 1)) (pj_cons pp_str (pj_cons (pp_intV (pv 2)) pj_nil))))) pa_nil))) pss_nil)),?_⟩
 refine ⟨_,rfl,_,rfl,_,_,rfl,rfl,_,rfl,?_⟩
 refine orG (fun c=>?_) (fun c=>?_)
 ·have:=of_decide_eq_true c
  exact ⟨⟨trivial,⟨lo,rfl,b1⟩,trivial,⟨hi,rfl,b2⟩,trivial⟩,fun z=>⟨le1,q1 (by omega)⟩⟩
 have c1:¬ n < lo:=fun z=>c (decide_eq_true z)
 refine ⟨_,rfl,_,rfl,_,_,rfl,rfl,_,rfl,?_⟩
 refine ite2 (fun c=>?_) (fun c=>?_)
 ·have:=of_decide_eq_true c
  exact ⟨⟨trivial,⟨lo,rfl,b1⟩,trivial,⟨hi,rfl,b2⟩,trivial⟩,fun z=>⟨le1,q1 (by omega)⟩⟩
 ·have c2:¬ n > hi:=fun z=>c (decide_eq_true z)
  exact q (by omega)
theorem bn0:((0:Int).natAbs.log2 < 1920∧(toString (0:Int) : Str).length≤20000):=by decide +kernel
theorem bn1:((1:Int).natAbs.log2 < 1920∧(toString (1:Int) : Str).length≤20000):=by decide +kernel
theorem bn60:((60:Int).natAbs.log2 < 1920∧(toString (60:Int) : Str).length≤20000):=by decide +kernel
theorem bn200:((200:Int).natAbs.log2 < 1920∧(toString (200:Int) : Str).length≤20000):=by decide +kernel
theorem bn10:(((10:Int) ^ (60:Int).toNat).natAbs.log2 < 1920∧(toString ((10:Int) ^ (60:Int).toNat) : Str).length≤20000):=by decide +kernel

def sp_check_form (K:PySem.W.Frag) (C:Addr) : Sp:=fun vs H Q E=>∃ (fa:Addr) (F:Fr),vs=[.ref fa]∧H fa=some (.tup (frV F))∧(¬ FrOk F→E (.ref C) none H)∧(FrOk F→Q .non H)
theorem sc_check_form:FnScope ["form"] ["form"] (defScope s_check_form):=⟨rfl,rfl,rfl,by decide +kernel,rfl,by decide +kernel,by decide +kernel⟩
theorem ok_check_form (T:Txt P w K mg a) : FnOk P w K mg base (CXe P w) 2 a.f_check_form a.fd_check_form ["form"] (sp_check_form K a.c_BadForm):=by
 have g_check_number:=ok_check_number (P:=P) (w:=w) (base:=base) T
 have d_check_number:=T.d_check_number
 refine T.d_check_form.fn.okE sc_check_form (fun vs H Q E h=>?_) (fun cdv A outer s H vs Q E hr h=>?_)
 ·obtain ⟨fa,F,rfl,_⟩:=h
  rfl
 obtain ⟨fa,F,rfl,hf,q1,q⟩:=h
 have hu:=Nat.lt_of_succ_lt (hu_of hr)
 refine ⟨_,(pss_cons (ps_expr (pe_callX pass_cx d_check_number g_check_number (hr.mono (by decide)) rfl (pa_cons (pe_ix ix_tup (pv 0) pe_int (fun _ _=>rfl)) (pa_cons pe_int (pa_cons pe_int pa_nil)))))
   (pss_cons (ps_expr (pe_callX pass_cx d_check_number g_check_number (hr.mono (by decide)) rfl (pa_cons (pe_ix ix_tup (pv 0) pe_int (fun _ _=>rfl)) (pa_cons pe_int (pa_cons pe_int pa_nil)))))
   (pss_cons (ps_expr (pe_callX pass_cx d_check_number g_check_number (hr.mono (by decide)) rfl (pa_cons (pe_ix ix_tup (pv 0) pe_int (fun _ _=>rfl)) (pa_cons pe_int (pa_cons (pe_op op_pow pe_int pe_int) pa_nil)))))
   (pss_one (ps_expr (pe_callX pass_cx d_check_number g_check_number (hr.mono (by decide)) rfl (pa_cons (pe_ix ix_tup (pv 0) pe_int (fun _ _=>rfl)) (pa_cons pe_int (pa_cons pe_int pa_nil))))))))),?_⟩
 have hf':=SqT.of (K:=K) hf
 refine ⟨_,rfl,_,_,_,_,rfl,rfl,hf',rfl,_,_,_,rfl,bn1,bn200,fun c=>q1 (fun z=>c z.1),fun c1=>?_⟩
 refine ⟨_,rfl,_,_,_,_,rfl,rfl,hf',rfl,_,_,_,rfl,bn1,bn60,fun c=>q1 (fun z=>c z.2.1),fun c2=>?_⟩
 refine ⟨_,rfl,_,_,_,_,rfl,rfl,hf',rfl,_,_,rfl,rfl,⟨by decide,by decide,by decide⟩,_,_,_,rfl,bn0,bn10,fun c=>q1 (fun z=>c (by rw [p60c]; exact z.2.2.1)),fun c3=>?_⟩
 refine ⟨_,rfl,_,_,_,_,rfl,rfl,hf',rfl,_,_,_,rfl,bn1,bn60,fun c=>q1 (fun z=>c z.2.2.2),fun c4=>?_⟩
 exact q ⟨c1,c2,by rw [p60c] at c3; exact c3,c4⟩
theorem pf2 (u v:V) : putF "parts" v [("form",u)]=([("form",u),("parts",v)] : List (Str × V)):=by
 have e:¬ (("form" : Str) = "parts"):=by decide +kernel
 simp [putF,e]
theorem pf3 (u v w:V) : putF "elder" v [("form",u),("parts",w)]=([("form",u),("parts",w),("elder",v)] : List (Str × V)):=by
 have e:¬ (("form" : Str) = "elder"):=by decide +kernel
 have e2:¬ (("parts" : Str) = "elder"):=by decide +kernel
 simp [putF,e,e2]
theorem pf4 (u v w z:V) : putF "issued" v [("form",u),("parts",w),("elder",z)]=([("form",u),("parts",w),("elder",z),("issued",v)] : List (Str × V)):=by
 have e:¬ (("form" : Str) = "issued"):=by decide +kernel
 have e2:¬ (("parts" : Str) = "issued"):=by decide +kernel
 have e3:¬ (("elder" : Str) = "issued"):=by decide +kernel
 simp [putF,e,e2,e3]
theorem FrA.at {H0 H:Hp} {x:Addr} {o:HO} (f:FrA H0 H [x]) : FrA H0 (upd H x o) [x]:=fun b u hb h=>by
 rw [upd_ne (fun z=>hb (by rw [z]; simp))]
 exact f b u hb h
def sp_Desk_init (C B:Addr) : Sp:=fun vs H Q E=>∃ (x dx fa:Addr) (F:Fr),vs=[.ref x,.ref fa]∧H fa=some (.tup (frV F))∧H x=some (.ins C dx [])∧(¬ FrOk F→E (.ref B) none H)∧(FrOk F→∀ H' pa ea,H ea=none→Dk C H' x pa ea [] []→FrA H H' [x]→Q .non H')
theorem sc_Desk_init:FnScope ["self","form"] ["self","form"] (defScope s_Desk_init):=⟨rfl,rfl,rfl,by decide +kernel,rfl,by decide +kernel,by decide +kernel⟩
theorem ok_Desk_init (T:Txt P w K mg a) : FnOk P w K mg base (CXe P w) 3 a.f_Desk_init a.fd_Desk_init ["self","form"] (sp_Desk_init a.c_Desk a.c_BadForm):=by
 have g_check_form:=ok_check_form (P:=P) (w:=w) (base:=base) T
 have d_check_form:=T.d_check_form
 refine T.d_Desk_init.fn.okE sc_Desk_init (fun vs H Q E h=>?_) (fun cdv A outer s H vs Q E hr h=>?_)
 ·obtain ⟨x,dx,fa,F,rfl,_⟩:=h
  rfl
 obtain ⟨x,dx,fa,F,rfl,hfa,hx,qn,q⟩:=h
 have hu:=Nat.lt_of_succ_lt (hu_of hr)
 refine ⟨_,(pss_cons (ps_expr (pe_callX pass_cx d_check_form g_check_form (hr.mono (by decide)) rfl (pa_cons (pv 1) pa_nil)))
   (pss_cons (ps_fld (pv 0) (pv 1) rfl)
   (pss_cons (ps_fld (pv 0) pe_dnewK rfl)
   (pss_cons (ps_fld (pv 0) (pe_lst pa_nil) rfl)
   (pss_one (ps_fld (pv 0) (pe_lst pa_nil) rfl)))))),?_⟩
 refine ⟨_,rfl,fa,F,rfl,hfa,fun e=>qn e,fun e=>?_⟩
 refine ⟨_,rfl,_,rfl,_,_,_,_,rfl,hx,T.k_Desk.cl,T.na_Desk_form,(by simp),?_⟩
 rw [show putF "form" (.ref fa) []=([("form",V.ref fa)] : List (Str × V)) from rfl]
 have k1:upd H x (.ins a.c_Desk dx [("form",V.ref fa)]) x=some (.ins a.c_Desk dx [("form",V.ref fa)]):=upd_same
 have f1:FrA H (upd H x (.ins a.c_Desk dx [("form",V.ref fa)])) [x]:=FrA.at (fun _ _ _ h=>h)
 generalize upd H x (.ins a.c_Desk dx [("form",V.ref fa)])=H1 at k1 f1 ⊢
 intro p1 hp1
 have f2:=f1.trans (FrA.of (same_new hp1 (.dK [])) _)
 have k2:=same_new hp1 (.dK []) _ _ k1
 have a2:upd H1 p1 (.dK []) p1=some (.dK []):=upd_same
 generalize upd H1 p1 (.dK [])=H2 at k2 f2 a2 ⊢
 refine ⟨_,rfl,_,_,_,_,rfl,k2,T.k_Desk.cl,T.na_Desk_parts,(by simp),?_⟩
 rw [pf2]
 have n1:p1≠x:=fun z=>by rw [z,k2] at a2; cases a2
 have f3:FrA H (upd H2 x (.ins a.c_Desk dx [("form",V.ref fa),("parts",V.ref p1)])) [x]:=f2.at
 have k3:upd H2 x (.ins a.c_Desk dx [("form",V.ref fa),("parts",V.ref p1)]) x=some (.ins a.c_Desk dx [("form",V.ref fa),("parts",V.ref p1)]):=upd_same
 have a3:upd H2 x (.ins a.c_Desk dx [("form",V.ref fa),("parts",V.ref p1)]) p1=some (.dK []):=by rw [upd_ne n1]; exact a2
 generalize upd H2 x (.ins a.c_Desk dx [("form",V.ref fa),("parts",V.ref p1)])=H3 at k3 f3 a3 ⊢
 refine ⟨small (by simp),fun p2 hp2=>?_⟩
 have f4:=f3.trans (FrA.of (same_new hp2 (.lst [])) _)
 have k4:=same_new hp2 (.lst []) _ _ k3
 have a4:=same_new hp2 (.lst []) _ _ a3
 have b4:upd H3 p2 (.lst []) p2=some (.lst []):=upd_same
 have he:H p2=none:=by
  cases z:H p2 with
  | none=>rfl
  | some o =>
   by_cases e:p2=x
   ·rw [e,k3] at hp2; cases hp2
   ·rw [f3 p2 o (by simp [e]) z] at hp2; cases hp2
 generalize upd H3 p2 (.lst [])=H4 at k4 f4 a4 b4 ⊢
 refine ⟨_,rfl,_,_,_,_,rfl,k4,T.k_Desk.cl,T.na_Desk_elder,(by simp),?_⟩
 rw [pf3]
 have n2:p2≠x:=fun z=>by rw [z,k4] at b4; cases b4
 have f5:FrA H (upd H4 x (.ins a.c_Desk dx [("form",V.ref fa),("parts",V.ref p1),("elder",V.ref p2)])) [x]:=f4.at
 have k5:upd H4 x (.ins a.c_Desk dx [("form",V.ref fa),("parts",V.ref p1),("elder",V.ref p2)]) x=some (.ins a.c_Desk dx [("form",V.ref fa),("parts",V.ref p1),("elder",V.ref p2)]):=upd_same
 have a5:upd H4 x (.ins a.c_Desk dx [("form",V.ref fa),("parts",V.ref p1),("elder",V.ref p2)]) p1=some (.dK []):=by rw [upd_ne n1]; exact a4
 have b5:upd H4 x (.ins a.c_Desk dx [("form",V.ref fa),("parts",V.ref p1),("elder",V.ref p2)]) p2=some (.lst []):=by rw [upd_ne n2]; exact b4
 generalize upd H4 x (.ins a.c_Desk dx [("form",V.ref fa),("parts",V.ref p1),("elder",V.ref p2)])=H5 at k5 f5 a5 b5 ⊢
 refine ⟨small (by simp),fun p3 hp3=>?_⟩
 have f6:=f5.trans (FrA.of (same_new hp3 (.lst [])) _)
 have k6:=same_new hp3 (.lst []) _ _ k5
 have a6:=same_new hp3 (.lst []) _ _ a5
 have b6:=same_new hp3 (.lst []) _ _ b5
 generalize upd H5 p3 (.lst [])=H6 at k6 f6 a6 b6 ⊢
 refine ⟨_,rfl,_,_,_,_,rfl,k6,T.k_Desk.cl,T.na_Desk_issued,(by simp),?_⟩
 rw [pf4]
 refine q e _ p1 p2 he ⟨⟨dx,fa,p3,upd_same⟩,by rw [upd_ne n1]; exact a6,[],by rw [upd_ne n2]; exact b6,trivial⟩ f6.at
def clsA (a:Adr) : Nat→Addr
 | 0=>a.c_BadName
 | 1=>a.c_Twice
 | 2=>a.c_TooLong
 | 3=>a.c_NoPart
 | 4=>a.c_NoRow
 | _=>a.c_NothingDone
def sp_Desk_do_deed (C:Addr) : Sp:=fun vs H Q _=>∃ (d pa ea:Addr) (kvs:List (Key × V)) (hist:List (List (Key × V))),vs=[.ref d]∧Dk C H d pa ea kvs hist∧hist.length≤900∧∀ H' p,H p=none→DkF C H' d p ea kvs (hist++[kvs])→FrA H H' [d,ea]→Q .non H'
theorem sc_Desk_do_deed:FnScope ["self"] ["self"] (defScope s_Desk_do_deed):=⟨rfl,rfl,rfl,by decide +kernel,rfl,by decide +kernel,by decide +kernel⟩
theorem ok_Desk_do_deed (T:Txt P w K mg a) : FnOk P w K mg base CX0 1 a.f_Desk_do_deed a.fd_Desk_do_deed ["self"] (sp_Desk_do_deed a.c_Desk):=by
 have z_dict:=T.z_dict
 refine T.d_Desk_do_deed.fn.ok sc_Desk_do_deed (fun vs H Q E h=>?_) (fun cdv A outer s H vs Q E hr h=>?_)
 ·obtain ⟨d,pa,ea,kvs,hist,rfl,_⟩:=h
  rfl
 obtain ⟨d,pa,ea,kvs,hist,rfl,dk,hl,q⟩:=h
 have hu:=Nat.lt_of_succ_lt (hu_of hr)
 refine ⟨_,(pss_cons (ps_expr (pe_bm PySem.F.plainAttrs_list PySem.F.slot_list_append PySem.F.type_list_append mt_append (pe_fld (pv 0) rfl) (pa_cons (pe_fld (pv 0) rfl) pa_nil)))
   (pss_one (ps_fld (pv 0) (pe_callTy call_dict_of rfl z_dict PyProof.Rows.boot_dict (pa_cons (pe_fld (pv 0) rfl) pa_nil)) rfl))),?_⟩
 obtain ⟨⟨dx,fa,ia,h1⟩,h2,es,h3,h4⟩:=dk
 have el:=h4.len
 have nde:d≠ea:=fun z=>by rw [z,h3] at h1; cases h1
 have npe:pa≠ea:=fun z=>by rw [z,h3] at h2; cases h2
 refine ⟨_,rfl,_,_,_,_,_,rfl,h1,T.k_Desk.cl,T.na_Desk_elder,lk_elder,.inl ⟨rfl,_,SqL.of h3⟩,_,rfl,_,_,_,_,_,rfl,h1,T.k_Desk.cl,T.na_Desk_parts,lk_parts,_,_,_,rfl,rfl,h3,small1000 (by omega),?_⟩
 have h1':upd H ea (.lst (es++[.ref pa])) d=some (.ins a.c_Desk dx (fsD fa pa ea ia)):=by rw [upd_ne nde]; exact h1
 have h2':upd H ea (.lst (es++[.ref pa])) pa=some (.dK kvs):=by rw [upd_ne npe]; exact h2
 refine ⟨_,rfl,_,_,_,_,_,rfl,h1',T.k_Desk.cl,T.na_Desk_parts,lk_parts,_,_,rfl,.inl h2',fun p hp=>?_⟩
 have h1'':upd (upd H ea (.lst (es++[.ref pa]))) p (.dK kvs) d=some (.ins a.c_Desk dx (fsD fa pa ea ia)):=by rw [upd_ne (ne_of_none h1' hp)]; exact h1'
 refine ⟨_,rfl,_,_,_,_,rfl,h1'',T.k_Desk.cl,T.na_Desk_parts,fsD_len,?_⟩
 rw [put_parts]
 obtain ⟨f1,f2,f3⟩:=deed_dk h1 h2 h3 h4 hp
 exact q _ p f1 f2 f3
def sp_is_name:Sp:=fun vs H Q _=>∃ l:List Nat,vs=[.str (tx l)]∧l.length≤1000∧∀ H',Same H H'→Q (.bl (isName l)) H'
theorem sc_is_name:FnScope ["word"] ["word"] (defScope s_is_name):=⟨rfl,rfl,rfl,by decide +kernel,rfl,by decide +kernel,by decide +kernel⟩
theorem ok_is_name (T:Txt P w K mg a) : FnOk P w K mg base CX0 1 a.f_is_name a.fd_is_name ["word"] sp_is_name:=by
 have z_all:=T.z_all
 have z_len:=T.z_len
 have m_FIGURES:=T.m_FIGURES
 have m_LETTERS:=T.m_LETTERS
 have m_LONGEST_NAME:=T.m_LONGEST_NAME
 obtain ⟨t_FIGURES,m_FIGURES⟩:=m_FIGURES
 obtain ⟨t_LETTERS,m_LETTERS⟩:=m_LETTERS
 obtain ⟨t_LONGEST_NAME,m_LONGEST_NAME⟩:=m_LONGEST_NAME
 refine T.d_is_name.fn.ok sc_is_name (fun vs H Q E h=>?_) (fun cdv A outer s H vs Q E hr h=>?_)
 ·obtain ⟨l,rfl,_⟩:=h
  rfl
 obtain ⟨l,rfl,hl,q⟩:=h
 have hu:=Nat.lt_of_succ_lt (hu_of hr)
 refine ⟨_,(pss_cons (ps_if (PW.pt (pw_or (pt_cmpR op_eq (pv 0) pe_str (nomark _)) (pw_or1 (pt_cmpR op_gt (pe_callB call_len_str rfl z_len PySem.boot_len (pa_cons (pv 0) pa_nil)) (pe_glob (v:=.int 12) rfl m_LONGEST_NAME ⟨_,rfl⟩) (nomark _))))) (pss_one (ps_ret pe_bl)) pss_nil)
   (pss_one (ps_ret (pe_and (pe_cmpR op_in_str (pe_ix ix_str (pv 0) pe_int (fun _ _=>rfl)) (pe_glob (v:=.str (PySem.Str.ofString "abcdefghijklmnopqrstuvwxyz")) rfl m_LETTERS ⟨_,rfl⟩) (by with_unfolding_all rfl)) (pe_one (pe_callB (call_all rfl) rfl z_all PyProof.Rows.boot_all (pa_cons (pe_lc rfl (lcok (caps:=[]) (js:=[]) (cap:=trivial)) (pi_str (pv 0)) (fun _ _ _ _=>pts_nil) (fun _ _ _ _=>(pe_or (pe_cmpR op_in_str (pv 0) (pe_glob (v:=.str (PySem.Str.ofString "abcdefghijklmnopqrstuvwxyz")) rfl m_LETTERS ⟨_,rfl⟩) (by with_unfolding_all rfl)) (pe_one (pe_cmpR op_in_str (pv 0) (pe_glob (v:=.str (PySem.Str.ofString "0123456789")) rfl m_FIGURES ⟨_,rfl⟩) (by with_unfolding_all rfl)))))) pa_nil))))))),?_⟩
 refine ⟨_,rfl,rfl,_,rfl,?_⟩
 cases l with
 | nil =>
  rw [is_empty]
  refine iteT ?_
  refine iteT ?_
  exact q H (Same.refl _)
 | cons c r =>
  rw [ne_empty]
  refine iteF ?_
  refine ⟨_,rfl,_,rfl,small (by rw [tx_len]; exact hl),_,_,rfl,rfl,_,rfl,?_⟩
  rw [tx_len]
  refine ite2 (fun h=>?_) (fun h=>?_)
  ·have h2:¬ (c :: r).length≤12:=by have:=of_decide_eq_true h; omega
   have:=q H (Same.refl _)
   rw [name_long h2] at this
   exact this
  ·have h2:(c :: r).length≤12:=by
    refine Nat.le_of_not_lt fun z=>h (decide_eq_true ?_)
    omega
   rw [name_short h2] at q
   refine ⟨_,rfl,_,_,c,rfl,rfl,small (by rw [tx_len]; exact hl),at_zero c r,_,_,rfl,rfl,_,rfl,?_⟩
   rw [in_let]
   cases hc:isL c with
   | false =>
    rw [hc] at q
    refine iteF ?_
    exact q H (Same.refl _)
   | true =>
    rw [hc] at q
    refine iteT ?_
    refine ⟨_,rfl,_,rfl,lc_str (x:=tx (c :: r)) (fun i ys H2=>H2=H∧ys=(((c :: r).take i).map fun d=>isL d || isF d).map V.bl) ⟨rfl,rfl⟩ ?_ ?_ ?_⟩
    ·rintro i ys H2 hi ⟨rfl,rfl⟩
     rw [List.length_map,List.length_map,List.length_take]
     exact Nat.lt_of_le_of_lt (show _≤12 by omega) (small1000 (by omega))
    ·rintro i d ys H2 hd ⟨rfl,rfl⟩
     rw [tx_cps] at hd
     refine yes_go ?_
     refine ⟨_,rfl,_,_,rfl,rfl,_,rfl,?_⟩
     rw [in_let,List.take_add_one,hd]
     cases h3:isL d with
     | true =>
      refine iteT ?_
      refine ⟨rfl,?_⟩
      simp [h3]
     | false =>
      refine iteF ?_
      refine ⟨_,rfl,_,_,rfl,rfl,?_⟩
      rw [in_fig]
      refine ⟨rfl,?_⟩
      simp [h3]
    ·rintro ys H2 ⟨rfl,rfl⟩ p hp
     rw [tx_size,List.take_of_length_le (Nat.le_refl _)]
     refine ⟨_,_,rfl,SqL.of upd_same,?_⟩
     rw [all_id]
     have:=q _ (same_new hp (.lst ((((c :: r)).map fun d=>isL d || isF d).map V.bl)))
     rw [Bool.true_and] at this
     exact this
def sp_Desk_put_part (cls:Nat→Addr) (C:Addr) : Sp:=fun vs H Q E=>∃ (d pa ea:Addr) (kvs:List (Key × V)) (hist:List (List (Key × V))) (at_:Int) (nm l:List Nat),vs=[.ref d,.str (tx nm),.str (tx l)]∧DPre C H d pa ea kvs hist ⟨0,nm,at_,l⟩∧DPost cls C H d ea kvs hist ⟨0,nm,at_,l⟩ Q E
theorem sc_Desk_put_part:FnScope ["self","name","text"] ["self","name","text"] (defScope s_Desk_put_part):=⟨rfl,rfl,rfl,by decide +kernel,rfl,by decide +kernel,by decide +kernel⟩
theorem ok_Desk_put_part (T:Txt P w K mg a) : FnOk P w K mg base (CXe P w) 2 a.f_Desk_put_part a.fd_Desk_put_part ["self","name","text"] (sp_Desk_put_part (clsA a) a.c_Desk):=by
 have g_Desk_do_deed:=ok_Desk_do_deed (P:=P) (w:=w) (base:=base) T
 have d_Desk_do_deed:=T.d_Desk_do_deed
 have g_is_name:=ok_is_name (P:=P) (w:=w) (base:=base) T
 have d_is_name:=T.d_is_name
 have z_len:=T.z_len
 have x_BadName:=T.x_BadName
 have x_TooLong:=T.x_TooLong
 have x_Twice:=T.x_Twice
 have k_Desk:=T.k_Desk
 have m_MOST_PARTS:=T.m_MOST_PARTS
 obtain ⟨t_MOST_PARTS,m_MOST_PARTS⟩:=m_MOST_PARTS
 refine T.d_Desk_put_part.fn.okE sc_Desk_put_part (fun vs H Q E h=>?_) (fun cdv A outer s H vs Q E hr h=>?_)
 ·obtain ⟨d,pa,ea,kvs,hist,at_,nm,l,rfl,_⟩:=h
  rfl
 obtain ⟨d,pa,ea,kvs,hist,at_,nm,l,rfl,⟨dk,nmok,tk,ln,kl,hl⟩,post⟩:=h
 have hu:=Nat.lt_of_succ_lt (hu_of hr)
 refine ⟨_,(pss_cons (ps_if (pt_not (pt_val (pe_callD d_is_name g_is_name (hr.mono (by decide)) rfl (pa_cons (pv 1) pa_nil)) (fun _=>rfl))) (pss_one (ps_raise rfl wish_cx x_BadName rfl (pa_cons (pe_fstr (pj_cons (pp_repr (pv 1)) (pj_cons pp_str pj_nil))) pa_nil))) pss_nil)
   (pss_cons (ps_if (pt_cmpR (op_in_dict (hu_of hr)) (pv 1) (pe_fld (pv 0) rfl) (by with_unfolding_all rfl)) (pss_one (ps_raise rfl wish_cx x_Twice rfl (pa_cons (pe_fstr (pj_cons pp_str (pj_cons (pp_repr (pv 1)) (pj_cons pp_str pj_nil)))) pa_nil))) pss_nil)
   (pss_cons (ps_if (pt_cmpR op_ge (pe_callB call_lenD rfl z_len PySem.boot_len (pa_cons (pe_fld (pv 0) rfl) pa_nil)) (pe_glob (v:=.int 20) rfl m_MOST_PARTS ⟨_,rfl⟩) (nomark _)) (pss_one (ps_raise rfl wish_cx x_TooLong rfl (pa_cons (pe_fstr (pj_cons pp_str (pj_cons (pp_int (pe_glob (v:=.int 20) rfl m_MOST_PARTS ⟨_,rfl⟩)) (pj_cons pp_str pj_nil)))) pa_nil))) pss_nil)
   (pss_cons (ps_expr (pe_mc0 pass0 k_Desk d_Desk_do_deed g_Desk_do_deed (hr.mono (by decide)) (pv 0) ))
   (pss_one (ps_dput (hu_of hr) (pe_fld (pv 0) rfl) (pv 1) (pv 2) rfl)))))),?_⟩
 have nmok:NmOk nm:=nmok
 refine ⟨_,rfl,nm,rfl,nmok.len,fun H1 s1=>⟨_,rfl,?_⟩⟩
 have D1:=dk.same s1
 refine ite2 (fun c=>?_) (fun c=>?_)
 ·have e:isName nm=false:=by simpa using c
  exact ⟨⟨⟨nm,rfl,nmok.len,nmok.sg⟩,trivial,trivial⟩,fun z=>⟨le1,post.no 0 (by simp [due,e]) H1 s1⟩⟩
 have e:isName nm=true:=by simpa using c
 have D1':=D1
 obtain ⟨⟨dx,fa,ia,h1⟩,h2,_⟩:=D1'
 dsimp only [tNext]
 refine ⟨_,rfl,_,rfl,_,_,_,_,_,rfl,h1,T.k_Desk.cl,T.na_Desk_parts,lk_parts,_,_,rfl,DGet.k (k:=ky nm) h2,_,rfl,?_⟩
 refine ite2 (fun c=>?_) (fun c=>?_)
 ·exact ⟨⟨trivial,⟨nm,rfl,nmok.len,nmok.sg⟩,trivial,trivial⟩,fun z=>⟨le1,post.no 1 (by simp [due,e,c]) H1 s1⟩⟩
 have c1:valV kvs (ky nm)=none:=by simpa using c
 dsimp only [tNext]
 refine ⟨_,rfl,_,_,_,_,_,rfl,h1,T.k_Desk.cl,T.na_Desk_parts,lk_parts,_,_,rfl,h2,_,_,rfl,rfl,_,rfl,?_⟩
 refine ite2 (fun c=>?_) (fun c=>?_)
 ·have c2:20≤kvs.length:=by have:=of_decide_eq_true c; omega
  exact ⟨⟨trivial,trivial,trivial,trivial⟩,fun z=>⟨le1,post.no 2 (by simp [due,e,c1,c2]) H1 s1⟩⟩
 have c2:¬ 20≤kvs.length:=fun z=>c (decide_eq_true (by omega))
 dsimp only [tNext]
 refine ⟨_,rfl,_,_,_,rfl,h1,lkn_do_deed,d,pa,ea,kvs,hist,rfl,D1,hl,fun H2 p hp df fr=>?_⟩
 have df':=df
 obtain ⟨⟨⟨dx2,fa2,ia2,g1⟩,g2,_⟩,_⟩:=df'
 refine ⟨_,rfl,_,rfl,_,_,_,_,_,rfl,g1,T.k_Desk.cl,T.na_Desk_parts,lk_parts,_,rfl,_,_,rfl,DPut.k (k:=ky nm) g2 (small1000 (by omega)),?_⟩
 rw [putK_new _ c1]
 exact post.ok (by simp [due,e,c1,c2]) _ p df.put (((FrA.of s1 _).trans fr).new (s1.free hp))
def sp_Desk_shelf (C:Addr) : Sp:=fun vs H Q _=>∃ (d pa ea:Addr) (kvs:List (Key × V)) (hist:List (List (Key × V))),vs=[.ref d]∧Dk C H d pa ea kvs hist∧∀ p,H p=none→Q (.ref p) (upd H p (.dK kvs))
theorem sc_Desk_shelf:FnScope ["self"] ["self"] (defScope s_Desk_shelf):=⟨rfl,rfl,rfl,by decide +kernel,rfl,by decide +kernel,by decide +kernel⟩
theorem ok_Desk_shelf (T:Txt P w K mg a) : FnOk P w K mg base CX0 1 a.f_Desk_shelf a.fd_Desk_shelf ["self"] (sp_Desk_shelf a.c_Desk):=by
 have z_dict:=T.z_dict
 refine T.d_Desk_shelf.fn.ok sc_Desk_shelf (fun vs H Q E h=>?_) (fun cdv A outer s H vs Q E hr h=>?_)
 ·obtain ⟨d,pa,ea,kvs,hist,rfl,_⟩:=h
  rfl
 obtain ⟨d,pa,ea,kvs,hist,rfl,dk,q⟩:=h
 have hu:=Nat.lt_of_succ_lt (hu_of hr)
 refine ⟨_,(pss_one (ps_ret (pe_callTy call_dict_of rfl z_dict PyProof.Rows.boot_dict (pa_cons (pe_fld (pv 0) rfl) pa_nil)))),?_⟩
 obtain ⟨⟨dx,fa,ia,h1⟩,h2,_⟩:=dk
 exact ⟨_,rfl,_,_,_,_,_,rfl,h1,T.k_Desk.cl,T.na_Desk_parts,lk_parts,_,_,rfl,.inl h2,fun p hp=>q p hp⟩
def sp_l_cell_at (K:PySem.W.Frag) : Sp:=fun vs H Q _=>∃ (b:Addr) (ns:List Int) (k:Nat),vs=[.ref b,.int (k:Int)]∧SqL K H b (ns.map V.int)∧Q (.int (ns.getD k 0)) H
theorem sc_l_cell_at:FnScope ["script","k"] ["script","k"] (defScope s_l_cell_at):=⟨rfl,rfl,rfl,by decide +kernel,rfl,by decide +kernel,by decide +kernel⟩
theorem ok_l_cell_at (T:Txt P w K mg a) : FnOk P w K mg base CX0 1 a.f_l_cell_at a.fd_l_cell_at ["script","k"] (sp_l_cell_at K):=by
 have z_len:=T.z_len
 refine T.d_l_cell_at.fn.ok sc_l_cell_at (fun vs H Q E h=>?_) (fun cdv A outer s H vs Q E hr h=>?_)
 ·obtain ⟨b,ns,k,rfl,_⟩:=h
  rfl
 obtain ⟨b,ns,k,rfl,hS,q⟩:=h
 have hu:=Nat.lt_of_succ_lt (hu_of hr)
 refine ⟨_,(pss_cons (ps_if (pt_cmpR op_lt (pv 1) (pe_callB call_len_seq rfl z_len PySem.boot_len (pa_cons (pv 0) pa_nil)) (nomark _)) (pss_one (ps_ret (pe_ix ix_list (pv 0) (pv 1) (fun _ _=>rfl)))) pss_nil)
   (pss_one (ps_ret pe_int))),?_⟩
 refine ⟨_,rfl,_,rfl,_,_,rfl,.inl hS,_,_,rfl,rfl,_,rfl,?_⟩
 refine ite2 (fun c=>?_) (fun c=>?_)
 ·have hk:k < ns.length:=by
   have:=of_decide_eq_true c
   rw [List.length_map] at this
   omega
  refine ⟨_,rfl,_,rfl,_,_,_,_,rfl,rfl,hS,atI_nat (j:=k) (v:=.int (ns.getD k 0)) ?_,q⟩
  rw [List.getElem?_map,List.getElem?_eq_getElem hk,List.getD_eq_getElem?_getD,List.getElem?_eq_getElem hk]
  rfl
 ·have hk:ns.length≤k:=by
   refine Nat.le_of_not_lt fun hk=>c (decide_eq_true ?_)
   rw [List.length_map]
   omega
  have e:ns.getD k 0=0:=by rw [List.getD_eq_getElem?_getD,List.getElem?_eq_none hk]; rfl
  rw [e] at q
  exact q
def sp_rows_in:Sp:=fun vs H Q _=>∃ l:List Nat,vs=[.str (tx l)]∧l.length≤200000∧∀ p,H p=none→Q (.ref p) (upd H p (.lst (((splitL 10 l).map tx).map V.str)))
theorem sc_rows_in:FnScope ["text"] ["text"] (defScope s_rows_in):=⟨rfl,rfl,rfl,by decide +kernel,rfl,by decide +kernel,by decide +kernel⟩
theorem ok_rows_in (T:Txt P w K mg a) : FnOk P w K mg base CX0 1 a.f_rows_in a.fd_rows_in ["text"] sp_rows_in:=by
 refine T.d_rows_in.fn.ok sc_rows_in (fun vs H Q E h=>?_) (fun cdv A outer s H vs Q E hr h=>?_)
 ·obtain ⟨l,rfl,_⟩:=h
  rfl
 obtain ⟨l,rfl,hl,q⟩:=h
 have hu:=Nat.lt_of_succ_lt (hu_of hr)
 refine ⟨_,(pss_one (ps_ret (pe_bm PySem.F.plainAttrs_str PySem.F.slot_str_split PySem.F.type_str_split mt_split1 (pv 0) (pa_cons pe_str pa_nil)))),?_⟩
 refine ⟨_,rfl,rfl,_,10,rfl,congrArg (fun z=>[V.str z]) c10,?_,fun p hp=>?_⟩
 ·rw [tx_len]
  exact small2 (by omega)
 ·have:=q p hp
  rw [← split_tx] at this
  exact this
def sp_Desk_rows_of (C N:Addr) : Sp:=fun vs H Q E=>∃ (d pa ea:Addr) (kvs:List (Key × V)) (hist:List (List (Key × V))) (nm:List Nat),vs=[.ref d,.str (tx nm)]∧Dk C H d pa ea kvs hist∧NmOk nm∧TxOk kvs∧(valV kvs (ky nm)=none→E (.ref N) none H)∧∀ v,valV kvs (ky nm)=some v→∀ p,H p=none→Q (.ref p) (upd H p (.lst (((rwV v).map tx).map V.str)))
theorem sc_Desk_rows_of:FnScope ["self","name"] ["self","name"] (defScope s_Desk_rows_of):=⟨rfl,rfl,rfl,by decide +kernel,rfl,by decide +kernel,by decide +kernel⟩
theorem ok_Desk_rows_of (T:Txt P w K mg a) : FnOk P w K mg base (CXe P w) 2 a.f_Desk_rows_of a.fd_Desk_rows_of ["self","name"] (sp_Desk_rows_of a.c_Desk a.c_NoPart):=by
 have g_rows_in:=ok_rows_in (P:=P) (w:=w) (base:=base) T
 have d_rows_in:=T.d_rows_in
 have x_NoPart:=T.x_NoPart
 refine T.d_Desk_rows_of.fn.okE sc_Desk_rows_of (fun vs H Q E h=>?_) (fun cdv A outer s H vs Q E hr h=>?_)
 ·obtain ⟨d,pa,ea,kvs,hist,nm,rfl,_⟩:=h
  rfl
 obtain ⟨d,pa,ea,kvs,hist,nm,rfl,dk,nmok,tk,q1,q⟩:=h
 have hu:=Nat.lt_of_succ_lt (hu_of hr)
 refine ⟨_,(pss_cons (ps_if (pt_cmpR (op_notin_dict (hu_of hr)) (pv 1) (pe_fld (pv 0) rfl) (by with_unfolding_all rfl)) (pss_one (ps_raise rfl wish_cx x_NoPart rfl (pa_cons (pe_fstr (pj_cons pp_str (pj_cons (pp_repr (pv 1)) pj_nil))) pa_nil))) pss_nil)
   (pss_one (ps_ret (pe_callD d_rows_in g_rows_in (hr.mono (by decide)) rfl (pa_cons (pe_dget (hu_of hr) (pe_fld (pv 0) rfl) (pv 1) (fun _ _=>rfl)) pa_nil))))),?_⟩
 obtain ⟨⟨dx,fa,ia,h1⟩,h2,_⟩:=dk
 refine ⟨_,rfl,_,rfl,_,_,_,_,_,rfl,h1,T.k_Desk.cl,T.na_Desk_parts,lk_parts,_,_,rfl,DGet.k (k:=ky nm) h2,_,rfl,?_⟩
 cases hv:valV kvs (ky nm) with
 | none =>
  refine iteT ?_
  exact ⟨⟨trivial,⟨nm,rfl,nmok.len,nmok.sg⟩,trivial⟩,fun z=>⟨le1,q1 hv⟩⟩
 | some v =>
  refine iteF ?_
  dsimp only [tNext]
  obtain ⟨l,rfl,hl⟩:=tk.val hv
  have hg:DGet H pa (kV (ky nm)) (some (.str (tx l))):=by rw [← hv]; exact DGet.k h2
  exact ⟨_,rfl,_,_,_,_,_,rfl,h1,T.k_Desk.cl,T.na_Desk_parts,lk_parts,_,rfl,_,_,rfl,hg,l,rfl,hl,fun p hp=>q _ hv p hp⟩
def sp_Desk_cut_row (cls:Nat→Addr) (C:Addr) : Sp:=fun vs H Q E=>∃ (d pa ea:Addr) (kvs:List (Key × V)) (hist:List (List (Key × V))) (at_:Int) (nm l:List Nat),vs=[.ref d,.str (tx nm),.int at_]∧DPre C H d pa ea kvs hist ⟨3,nm,at_,l⟩∧DPost cls C H d ea kvs hist ⟨3,nm,at_,l⟩ Q E
theorem sc_Desk_cut_row:FnScope ["self","name","at","rows"] ["self","name","at"] (defScope s_Desk_cut_row):=⟨rfl,rfl,rfl,by decide +kernel,rfl,by decide +kernel,by decide +kernel⟩
theorem ok_Desk_cut_row (T:Txt P w K mg a) : FnOk P w K mg base (CXe P w) 3 a.f_Desk_cut_row a.fd_Desk_cut_row ["self","name","at"] (sp_Desk_cut_row (clsA a) a.c_Desk):=by
 have g_Desk_do_deed:=ok_Desk_do_deed (P:=P) (w:=w) (base:=base) T
 have d_Desk_do_deed:=T.d_Desk_do_deed
 have g_Desk_rows_of:=ok_Desk_rows_of (P:=P) (w:=w) (base:=base) T
 have d_Desk_rows_of:=T.d_Desk_rows_of
 have z_len:=T.z_len
 have x_NoRow:=T.x_NoRow
 have k_Desk:=T.k_Desk
 refine T.d_Desk_cut_row.fn.okE sc_Desk_cut_row (fun vs H Q E h=>?_) (fun cdv A outer s H vs Q E hr h=>?_)
 ·obtain ⟨d,pa,ea,kvs,hist,at_,nm,l,rfl,_⟩:=h
  rfl
 obtain ⟨d,pa,ea,kvs,hist,at_,nm,l,rfl,⟨dk,nmok,tk,ln,kl,hl⟩,post⟩:=h
 have hu:=Nat.lt_of_succ_lt (hu_of hr)
 refine ⟨_,(pss_cons (ps_set (i:=3) sc_Desk_cut_row.nd rfl (Or.inl rfl) (pe_mc pass_cx k_Desk d_Desk_rows_of g_Desk_rows_of (hr.mono (by decide)) (pv 0) (pa_cons (pv 1) pa_nil)))
   (pss_cons (ps_if (PW.pt (pw_or (pt_cmpR op_lt (pv 2) pe_int (nomark _)) (pw_or1 (pt_cmpR op_ge (pv 2) (pe_callB call_len_seq rfl z_len PySem.boot_len (pa_cons (pv 3) pa_nil)) (nomark _))))) (pss_one (ps_raise rfl wish_cx x_NoRow rfl (pa_cons (pe_fstr (pj_cons pp_str (pj_cons (pp_repr (pv 1)) pj_nil))) pa_nil))) pss_nil)
   (pss_cons (ps_expr (pe_mc0 pass0 k_Desk d_Desk_do_deed g_Desk_do_deed (hr.mono (by decide)) (pv 0) ))
   (pss_one (ps_dput (hu_of hr) (pe_fld (pv 0) rfl) (pv 1) (pe_bm PySem.F.plainAttrs_str PySem.F.slot_str_join PySem.F.type_str_join mt_join pe_str (pa_cons (pe_op op_cat (pe_slice sl_list (pv 3) po_none (po_some (pv 2))) (pe_slice sl_list (pv 3) (po_some (pe_op op_add (pv 2) pe_int)) po_none)) pa_nil)) rfl))))),?_⟩
 have nmok:NmOk nm:=nmok
 have ln:l.length≤100000:=ln
 have dk0:=dk
 obtain ⟨⟨dx,fa,ia,h1⟩,h2,es,h3,_⟩:=dk0
 refine ⟨_,rfl,_,_,_,rfl,h1,lkn_rows_of,_,rfl,d,pa,ea,kvs,hist,nm,rfl,dk,nmok,tk,fun e=>post.no 3 (by simp [due,e]) H (Same.refl _),fun v hv p0 hp0=>?_⟩
 have hs:((rwV v).map (·.length)).sum+(rwV v).length≤200001:=by
  obtain ⟨l0,rfl,hl0⟩:=tk.val hv
  have:=split_sum 10 l0
  show ((splitL 10 l0).map (·.length)).sum+(splitL 10 l0).length≤200001
  omega
 obtain ⟨R,hR⟩ : ∃ R,rwV v=R:=⟨_,rfl⟩
 have hRs:rwsV kvs nm=R:=by unfold rwsV; rw [hv]; exact hR
 rw [hR] at hs ⊢
 have npd:p0≠d:=fun z=>by rw [z,h1] at hp0; cases hp0
 have npe:p0≠ea:=fun z=>by rw [z,h3] at hp0; cases hp0
 have s1:=same_new hp0 (.lst ((R.map tx).map V.str))
 have k1:upd H p0 (.lst ((R.map tx).map V.str)) p0=some (.lst ((R.map tx).map V.str)):=upd_same
 generalize upd H p0 (.lst ((R.map tx).map V.str))=H1 at s1 k1 ⊢
 dsimp only [gName]
 refine ⟨_,rfl,_,_,rfl,rfl,_,rfl,?_⟩
 refine orG (fun c=>?_) (fun c=>?_)
 ·have c:=of_decide_eq_true c
  exact ⟨⟨trivial,⟨nm,rfl,nmok.len,nmok.sg⟩,trivial⟩,fun z=>⟨le1,post.no 4 (by simp [due,hv,hR,c]) H1 s1⟩⟩
 have c1:¬ at_ < 0:=fun z=>c (decide_eq_true z)
 refine ⟨_,rfl,_,rfl,_,_,rfl,.inl (SqL.of k1),_,_,rfl,rfl,_,rfl,?_⟩
 rw [List.length_map,List.length_map]
 refine ite2 (fun c=>?_) (fun c=>?_)
 ·have c:=of_decide_eq_true c
  exact ⟨⟨trivial,⟨nm,rfl,nmok.len,nmok.sg⟩,trivial⟩,fun z=>⟨le1,post.no 4 (by simp only [due,hv,hR]; rw [if_pos (Or.inr (by omega))]) H1 s1⟩⟩
 have c2:¬ ((R.length:Int)≤at_):=fun z=>c (decide_eq_true (by omega))
 dsimp only [tNext]
 refine ⟨_,rfl,_,_,_,rfl,s1 _ _ h1,lkn_do_deed,d,pa,ea,kvs,hist,rfl,dk.same s1,hl,fun H2 p hp df fr=>?_⟩
 have k2:H2 p0=some (.lst ((R.map tx).map V.str)):=fr p0 _ (by simp [npd,npe]) k1
 obtain ⟨n,rfl⟩ : ∃ n:Nat,at_=(n:Int):=⟨at_.toNat,by omega⟩
 refine ⟨rfl,_,rfl,_,rfl,_,rfl,_,_,rfl,SqL.of k2,fun p1 hp1=>?_⟩
 rw [List.map_map,cutV_map,cut_to,← List.map_map]
 have sp1:=same_new hp1 (.lst ((R.take n |>.map tx).map V.str))
 have kp1:upd H2 p1 (.lst ((R.take n |>.map tx).map V.str)) p1=some (.lst ((R.take n |>.map tx).map V.str)):=upd_same
 generalize upd H2 p1 (.lst ((R.take n |>.map tx).map V.str))=H3 at sp1 kp1 ⊢
 refine ⟨_,rfl,_,rfl,_,_,rfl,rfl,_,rfl,_,_,rfl,SqL.of (sp1 _ _ k2),fun p2 hp2=>?_⟩
 rw [List.map_map,cutV_map,show ((n:Int)+1)=((n+1:Nat) : Int) by omega,cut_from,← List.map_map]
 have sp2:=same_new hp2 (.lst (((R.drop (n+1)).map tx).map V.str))
 have kp2:upd H3 p2 (.lst (((R.drop (n+1)).map tx).map V.str)) p2=some (.lst (((R.drop (n+1)).map tx).map V.str)):=upd_same
 generalize upd H3 p2 (.lst (((R.drop (n+1)).map tx).map V.str))=H4 at sp2 kp2 ⊢
 refine ⟨_,_,_,_,rfl,rfl,sp2 _ _ kp1,kp2,small2 (by simp only [List.length_map,List.length_take,List.length_drop]; omega),fun p3 hp3=>?_⟩
 rw [show (((R.take n).map tx).map V.str++((R.drop (n+1)).map tx).map V.str)=((R.take n++R.drop (n+1)).map tx).map V.str by simp]
 have sp3:=same_new hp3 (.lst (((R.take n++R.drop (n+1)).map tx).map V.str))
 have kp3:upd H4 p3 (.lst (((R.take n++R.drop (n+1)).map tx).map V.str)) p3=some (.lst (((R.take n++R.drop (n+1)).map tx).map V.str)):=upd_same
 generalize upd H4 p3 (.lst (((R.take n++R.drop (n+1)).map tx).map V.str))=H5 at sp3 kp3 ⊢
 have s5:=sp1.trans (sp2.trans sp3)
 have dg:=df.same s5
 have dg':=dg
 obtain ⟨⟨⟨dx2,fa2,ia2,g1⟩,g2,_⟩,_⟩:=dg'
 have hsum:=sum_cut R n (n+1) (Nat.le_succ _)
 refine ⟨_,_,_,rfl,rfl,SqL.of kp3,by decide,?_,_,rfl,_,_,_,_,_,rfl,g1,T.k_Desk.cl,T.na_Desk_parts,lk_parts,_,rfl,_,_,rfl,DPut.k (k:=ky nm) g2 (small1000 (by omega)),?_⟩
 ·rw [sum_tx,List.length_map]
  omega
 rw [c10,join_tx]
 have:=post.ok (by simp only [due,hv,hR]; rw [if_neg (by omega)]) (upd H5 p (.dK (putK kvs (ky nm) (.str (tx (joinL [10] (R.take n++R.drop (n+1)))))))) p
 simp only [nxt,hRs,Int.toNat_natCast] at this
 exact this dg.put ((((FrA.of s1 _).trans fr).trans (FrA.of s5 _)).new (s1.free hp))
def sp_Desk_drop_part (cls:Nat→Addr) (C:Addr) : Sp:=fun vs H Q E=>∃ (d pa ea:Addr) (kvs:List (Key × V)) (hist:List (List (Key × V))) (at_:Int) (nm l:List Nat),vs=[.ref d,.str (tx nm)]∧DPre C H d pa ea kvs hist ⟨1,nm,at_,l⟩∧DPost cls C H d ea kvs hist ⟨1,nm,at_,l⟩ Q E
theorem sc_Desk_drop_part:FnScope ["self","name"] ["self","name"] (defScope s_Desk_drop_part):=⟨rfl,rfl,rfl,by decide +kernel,rfl,by decide +kernel,by decide +kernel⟩
theorem ok_Desk_drop_part (T:Txt P w K mg a) : FnOk P w K mg base (CXe P w) 3 a.f_Desk_drop_part a.fd_Desk_drop_part ["self","name"] (sp_Desk_drop_part (clsA a) a.c_Desk):=by
 have g_Desk_do_deed:=ok_Desk_do_deed (P:=P) (w:=w) (base:=base) T
 have d_Desk_do_deed:=T.d_Desk_do_deed
 have g_Desk_rows_of:=ok_Desk_rows_of (P:=P) (w:=w) (base:=base) T
 have d_Desk_rows_of:=T.d_Desk_rows_of
 have k_Desk:=T.k_Desk
 refine T.d_Desk_drop_part.fn.okE sc_Desk_drop_part (fun vs H Q E h=>?_) (fun cdv A outer s H vs Q E hr h=>?_)
 ·obtain ⟨d,pa,ea,kvs,hist,at_,nm,l,rfl,_⟩:=h
  rfl
 obtain ⟨d,pa,ea,kvs,hist,at_,nm,l,rfl,⟨dk,nmok,tk,ln,kl,hl⟩,post⟩:=h
 have hu:=Nat.lt_of_succ_lt (hu_of hr)
 refine ⟨_,(pss_cons (ps_expr (pe_mc pass_cx k_Desk d_Desk_rows_of g_Desk_rows_of (hr.mono (by decide)) (pv 0) (pa_cons (pv 1) pa_nil)))
   (pss_cons (ps_expr (pe_mc0 pass0 k_Desk d_Desk_do_deed g_Desk_do_deed (hr.mono (by decide)) (pv 0) ))
   (pss_one (ps_expr (pe_dpop1 (pe_fld (pv 0) rfl) (pv 1) ⟨rfl,rfl,rfl,rfl⟩))))),?_⟩
 have nmok:NmOk nm:=nmok
 have dk0:=dk
 obtain ⟨⟨dx,fa,ia,h1⟩,h2,_⟩:=dk0
 refine ⟨_,rfl,_,_,_,rfl,h1,lkn_rows_of,_,rfl,d,pa,ea,kvs,hist,nm,rfl,dk,nmok,tk,fun e=>post.no 3 (by simp [due,e]) H (Same.refl _),fun v hv p0 hp0=>?_⟩
 have s1:=same_new hp0 (.lst (((rwV v).map tx).map V.str))
 generalize upd H p0 (.lst (((rwV v).map tx).map V.str))=H1 at s1 ⊢
 refine ⟨_,rfl,_,_,_,rfl,s1 _ _ h1,lkn_do_deed,d,pa,ea,kvs,hist,rfl,dk.same s1,hl,fun H2 p hp df fr=>?_⟩
 have df':=df
 obtain ⟨⟨⟨dx2,fa2,ia2,g1⟩,g2,_⟩,_⟩:=df'
 refine ⟨_,rfl,_,_,_,_,_,rfl,g1,T.k_Desk.cl,T.na_Desk_parts,lk_parts,_,rfl,.inl ⟨_,.inl g2⟩,_,rfl,_,ky nm,_,g2,rfl,hv,?_⟩
 exact post.ok (by simp [due,hv]) _ p df.put (((FrA.of s1 _).trans fr).new (s1.free hp))
def sp_Desk_put_row (cls:Nat→Addr) (C:Addr) : Sp:=fun vs H Q E=>∃ (d pa ea:Addr) (kvs:List (Key × V)) (hist:List (List (Key × V))) (at_:Int) (nm l:List Nat),vs=[.ref d,.str (tx nm),.int at_,.str (tx l)]∧DPre C H d pa ea kvs hist ⟨2,nm,at_,l⟩∧DPost cls C H d ea kvs hist ⟨2,nm,at_,l⟩ Q E
theorem sc_Desk_put_row:FnScope ["self","name","at","row","rows"] ["self","name","at","row"] (defScope s_Desk_put_row):=⟨rfl,rfl,rfl,by decide +kernel,rfl,by decide +kernel,by decide +kernel⟩
theorem ok_Desk_put_row (T:Txt P w K mg a) : FnOk P w K mg base (CXe P w) 3 a.f_Desk_put_row a.fd_Desk_put_row ["self","name","at","row"] (sp_Desk_put_row (clsA a) a.c_Desk):=by
 have g_Desk_do_deed:=ok_Desk_do_deed (P:=P) (w:=w) (base:=base) T
 have d_Desk_do_deed:=T.d_Desk_do_deed
 have g_Desk_rows_of:=ok_Desk_rows_of (P:=P) (w:=w) (base:=base) T
 have d_Desk_rows_of:=T.d_Desk_rows_of
 have z_len:=T.z_len
 have x_NoRow:=T.x_NoRow
 have x_TooLong:=T.x_TooLong
 have k_Desk:=T.k_Desk
 have m_MOST_ROWS_desk:=T.m_MOST_ROWS_desk
 obtain ⟨t_MOST_ROWS_desk,m_MOST_ROWS_desk⟩:=m_MOST_ROWS_desk
 refine T.d_Desk_put_row.fn.okE sc_Desk_put_row (fun vs H Q E h=>?_) (fun cdv A outer s H vs Q E hr h=>?_)
 ·obtain ⟨d,pa,ea,kvs,hist,at_,nm,l,rfl,_⟩:=h
  rfl
 obtain ⟨d,pa,ea,kvs,hist,at_,nm,l,rfl,⟨dk,nmok,tk,ln,kl,hl⟩,post⟩:=h
 have hu:=Nat.lt_of_succ_lt (hu_of hr)
 refine ⟨_,(pss_cons (ps_set (i:=4) sc_Desk_put_row.nd rfl (Or.inl rfl) (pe_mc pass_cx k_Desk d_Desk_rows_of g_Desk_rows_of (hr.mono (by decide)) (pv 0) (pa_cons (pv 1) pa_nil)))
   (pss_cons (ps_if (PW.pt (pw_or (pt_cmpR op_lt (pv 2) pe_int (nomark _)) (pw_or1 (pt_cmpR op_gt (pv 2) (pe_callB call_len_seq rfl z_len PySem.boot_len (pa_cons (pv 4) pa_nil)) (nomark _))))) (pss_one (ps_raise rfl wish_cx x_NoRow rfl (pa_cons (pe_fstr (pj_cons pp_str (pj_cons (pp_repr (pv 1)) pj_nil))) pa_nil))) pss_nil)
   (pss_cons (ps_if (pt_cmpR op_ge (pe_callB call_len_seq rfl z_len PySem.boot_len (pa_cons (pv 4) pa_nil)) (pe_glob (v:=.int 200) rfl m_MOST_ROWS_desk ⟨_,rfl⟩) (nomark _)) (pss_one (ps_raise rfl wish_cx x_TooLong rfl (pa_cons (pe_fstr (pj_cons pp_str (pj_cons (pp_repr (pv 1)) (pj_cons pp_str (pj_cons (pp_int (pe_glob (v:=.int 200) rfl m_MOST_ROWS_desk ⟨_,rfl⟩)) (pj_cons pp_str pj_nil)))))) pa_nil))) pss_nil)
   (pss_cons (ps_expr (pe_mc0 pass0 k_Desk d_Desk_do_deed g_Desk_do_deed (hr.mono (by decide)) (pv 0) ))
   (pss_one (ps_dput (hu_of hr) (pe_fld (pv 0) rfl) (pv 1) (pe_bm PySem.F.plainAttrs_str PySem.F.slot_str_join PySem.F.type_str_join mt_join pe_str (pa_cons (pe_op op_cat (pe_op op_cat (pe_slice sl_list (pv 4) po_none (po_some (pv 2))) (pe_lst (pa_cons (pv 3) pa_nil))) (pe_slice sl_list (pv 4) (po_some (pv 2)) po_none)) pa_nil)) rfl)))))),?_⟩
 have nmok:NmOk nm:=nmok
 have ln:l.length≤100000:=ln
 have dk0:=dk
 obtain ⟨⟨dx,fa,ia,h1⟩,h2,es,h3,_⟩:=dk0
 refine ⟨_,rfl,_,_,_,rfl,h1,lkn_rows_of,_,rfl,d,pa,ea,kvs,hist,nm,rfl,dk,nmok,tk,fun e=>post.no 3 (by simp [due,e]) H (Same.refl _),fun v hv p0 hp0=>?_⟩
 have hs:((rwV v).map (·.length)).sum+(rwV v).length≤200001:=by
  obtain ⟨l0,rfl,hl0⟩:=tk.val hv
  have:=split_sum 10 l0
  show ((splitL 10 l0).map (·.length)).sum+(splitL 10 l0).length≤200001
  omega
 obtain ⟨R,hR⟩ : ∃ R,rwV v=R:=⟨_,rfl⟩
 have hRs:rwsV kvs nm=R:=by unfold rwsV; rw [hv]; exact hR
 rw [hR] at hs ⊢
 have npd:p0≠d:=fun z=>by rw [z,h1] at hp0; cases hp0
 have npe:p0≠ea:=fun z=>by rw [z,h3] at hp0; cases hp0
 have s1:=same_new hp0 (.lst ((R.map tx).map V.str))
 have k1:upd H p0 (.lst ((R.map tx).map V.str)) p0=some (.lst ((R.map tx).map V.str)):=upd_same
 generalize upd H p0 (.lst ((R.map tx).map V.str))=H1 at s1 k1 ⊢
 dsimp only [gName]
 refine ⟨_,rfl,_,_,rfl,rfl,_,rfl,?_⟩
 refine orG (fun c=>?_) (fun c=>?_)
 ·have c:=of_decide_eq_true c
  exact ⟨⟨trivial,⟨nm,rfl,nmok.len,nmok.sg⟩,trivial⟩,fun z=>⟨le1,post.no 4 (by simp [due,hv,hR,c]) H1 s1⟩⟩
 have c1:¬ at_ < 0:=fun z=>c (decide_eq_true z)
 refine ⟨_,rfl,_,rfl,_,_,rfl,.inl (SqL.of k1),_,_,rfl,rfl,_,rfl,?_⟩
 rw [List.length_map,List.length_map]
 refine ite2 (fun c=>?_) (fun c=>?_)
 ·have c:=of_decide_eq_true c
  exact ⟨⟨trivial,⟨nm,rfl,nmok.len,nmok.sg⟩,trivial⟩,fun z=>⟨le1,post.no 4 (by simp only [due,hv,hR]; rw [if_pos (Or.inr (by omega))]) H1 s1⟩⟩
 have c2:¬ ((R.length:Int) < at_):=fun z=>c (decide_eq_true (by omega))
 dsimp only [tNext]
 refine ⟨_,rfl,_,_,rfl,.inl (SqL.of k1),_,_,rfl,rfl,_,rfl,?_⟩
 rw [List.length_map,List.length_map]
 refine ite2 (fun c=>?_) (fun c=>?_)
 ·have c:=of_decide_eq_true c
  exact ⟨⟨trivial,⟨nm,rfl,nmok.len,nmok.sg⟩,trivial,trivial,trivial,trivial⟩,fun z=>⟨le1,post.no 2 (by simp only [due,hv,hR]; rw [if_neg (by omega),if_pos (by omega)]) H1 s1⟩⟩
 have c3:¬ 200≤R.length:=fun z=>c (decide_eq_true (by omega))
 dsimp only [tNext]
 refine ⟨_,rfl,_,_,_,rfl,s1 _ _ h1,lkn_do_deed,d,pa,ea,kvs,hist,rfl,dk.same s1,hl,fun H2 p hp df fr=>?_⟩
 have k2:H2 p0=some (.lst ((R.map tx).map V.str)):=fr p0 _ (by simp [npd,npe]) k1
 obtain ⟨n,rfl⟩ : ∃ n:Nat,at_=(n:Int):=⟨at_.toNat,by omega⟩
 refine ⟨rfl,_,rfl,_,rfl,_,rfl,_,_,rfl,SqL.of k2,fun p1 hp1=>?_⟩
 rw [List.map_map,cutV_map,cut_to,← List.map_map]
 have sp1:=same_new hp1 (.lst ((R.take n |>.map tx).map V.str))
 have kp1:upd H2 p1 (.lst ((R.take n |>.map tx).map V.str)) p1=some (.lst ((R.take n |>.map tx).map V.str)):=upd_same
 generalize upd H2 p1 (.lst ((R.take n |>.map tx).map V.str))=H3 at sp1 kp1 ⊢
 refine ⟨_,rfl,le1,fun p2 hp2=>?_⟩
 have sp2:=same_new hp2 (.lst ([V.str (tx l)]))
 have kp2:upd H3 p2 (.lst ([V.str (tx l)])) p2=some (.lst ([V.str (tx l)])):=upd_same
 generalize upd H3 p2 (.lst ([V.str (tx l)]))=H4 at sp2 kp2 ⊢
 refine ⟨_,_,_,_,rfl,rfl,sp2 _ _ kp1,kp2,small2 (by simp only [List.length_map,List.length_take,List.length_cons,List.length_nil]; omega),fun p3 hp3=>?_⟩
 rw [show (((R.take n).map tx).map V.str++[V.str (tx l)])=((R.take n++[l]).map tx).map V.str by simp]
 have sp3:=same_new hp3 (.lst (((R.take n++[l]).map tx).map V.str))
 have kp3:upd H4 p3 (.lst (((R.take n++[l]).map tx).map V.str)) p3=some (.lst (((R.take n++[l]).map tx).map V.str)):=upd_same
 generalize upd H4 p3 (.lst (((R.take n++[l]).map tx).map V.str))=H5 at sp3 kp3 ⊢
 have s5:=sp1.trans (sp2.trans sp3)
 refine ⟨_,rfl,_,rfl,_,rfl,_,_,rfl,SqL.of (s5 _ _ k2),fun p4 hp4=>?_⟩
 rw [List.map_map,cutV_map,cut_from,← List.map_map]
 have sp4:=same_new hp4 (.lst (((R.drop n).map tx).map V.str))
 have kp4:upd H5 p4 (.lst (((R.drop n).map tx).map V.str)) p4=some (.lst (((R.drop n).map tx).map V.str)):=upd_same
 generalize upd H5 p4 (.lst (((R.drop n).map tx).map V.str))=H6 at sp4 kp4 ⊢
 refine ⟨_,_,_,_,rfl,rfl,sp4 _ _ kp3,kp4,small2 (by simp only [List.length_map,List.length_append,List.length_take,List.length_drop,List.length_cons,List.length_nil]; omega),fun p5 hp5=>?_⟩
 rw [show (((R.take n++[l]).map tx).map V.str++((R.drop n).map tx).map V.str)=((R.take n++[l]++R.drop n).map tx).map V.str by simp]
 have sp5:=same_new hp5 (.lst (((R.take n++[l]++R.drop n).map tx).map V.str))
 have kp5:upd H6 p5 (.lst (((R.take n++[l]++R.drop n).map tx).map V.str)) p5=some (.lst (((R.take n++[l]++R.drop n).map tx).map V.str)):=upd_same
 generalize upd H6 p5 (.lst (((R.take n++[l]++R.drop n).map tx).map V.str))=H7 at sp5 kp5 ⊢
 have s7:=s5.trans (sp4.trans sp5)
 have dg:=df.same s7
 have dg':=dg
 obtain ⟨⟨⟨dx2,fa2,ia2,g1⟩,g2,_⟩,_⟩:=dg'
 have hsum:=sum_cut R n n (Nat.le_refl _)
 refine ⟨_,_,_,rfl,rfl,SqL.of kp5,by decide,?_,_,rfl,_,_,_,_,_,rfl,g1,T.k_Desk.cl,T.na_Desk_parts,lk_parts,_,rfl,_,_,rfl,DPut.k (k:=ky nm) g2 (small1000 (by omega)),?_⟩
 ·rw [sum_tx,List.length_map]
  simp only [List.map_append,List.sum_append,List.length_append,List.map_cons,List.map_nil,List.sum_cons,List.sum_nil,List.length_cons,List.length_nil] at hsum ⊢
  omega
 rw [c10,join_tx]
 have:=post.ok (by simp only [due,hv,hR]; rw [if_neg (by omega),if_neg c3]) (upd H7 p (.dK (putK kvs (ky nm) (.str (tx (joinL [10] (R.take n++[l]++R.drop n))))))) p
 simp only [nxt,hRs,Int.toNat_natCast] at this
 exact this dg.put ((((FrA.of s1 _).trans fr).trans (FrA.of s7 _)).new (s1.free hp))
def sp_Desk_undo (cls:Nat→Addr) (C:Addr) : Sp:=fun vs H Q E=>∃ (d pa ea:Addr) (kvs:List (Key × V)) (hist:List (List (Key × V))) (at_:Int) (nm l:List Nat),vs=[.ref d]∧DPre C H d pa ea kvs hist ⟨4,nm,at_,l⟩∧DPost cls C H d ea kvs hist ⟨4,nm,at_,l⟩ Q E
theorem sc_Desk_undo:FnScope ["self"] ["self"] (defScope s_Desk_undo):=⟨rfl,rfl,rfl,by decide +kernel,rfl,by decide +kernel,by decide +kernel⟩
theorem ok_Desk_undo (T:Txt P w K mg a) : FnOk P w K mg base (CXe P w) 1 a.f_Desk_undo a.fd_Desk_undo ["self"] (sp_Desk_undo (clsA a) a.c_Desk):=by
 have x_NothingDone:=T.x_NothingDone
 refine T.d_Desk_undo.fn.okE sc_Desk_undo (fun vs H Q E h=>?_) (fun cdv A outer s H vs Q E hr h=>?_)
 ·obtain ⟨d,pa,ea,kvs,hist,at_,nm,l,rfl,_⟩:=h
  rfl
 obtain ⟨d,pa,ea,kvs,hist,at_,nm,l,rfl,⟨dk,nmok,tk,ln,kl,hl⟩,post⟩:=h
 have hu:=Nat.lt_of_succ_lt (hu_of hr)
 refine ⟨_,(pss_cons (ps_if (pt_cmpR (op_eqNil hu) (pe_fld (pv 0) rfl) (pe_lst pa_nil) (nomark _)) (pss_one (ps_raise rfl wish_cx x_NothingDone rfl (pa_cons pe_str pa_nil))) pss_nil)
   (pss_one (ps_fld (pv 0) (pe_bm0 PySem.F.plainAttrs_list PySem.F.slot_list_pop PySem.F.type_list_pop mt_pop (pe_fld (pv 0) rfl)) rfl))),?_⟩
 obtain ⟨⟨dx,fa,ia,h1⟩,h2,es,h3,h4⟩:=dk
 have el:=h4.len
 refine ⟨_,rfl,_,_,_,_,_,rfl,h1,T.k_Desk.cl,T.na_Desk_elder,lk_elder,small (by simp),fun p1 hp1=>?_⟩
 have s1:=same_new hp1 (.lst [])
 have k1:upd H p1 (.lst []) p1=some (.lst []):=upd_same
 generalize upd H p1 (.lst [])=H1 at s1 k1 ⊢
 refine ⟨_,_,_,rfl,rfl,SqL.of (s1 _ _ h3),SqL.of k1,_,rfl,?_⟩
 refine ite2 (fun c=>?_) (fun c=>?_)
 ·have e:hist.length=0:=by rw [← el]; simpa using c
  exact ⟨le1,post.no 5 (by simp [due,e]) H1 s1⟩
 have ne:es≠[]:=fun z=>c (by rw [z]; rfl)
 dsimp only [tNext]
 have h4':HsA H1 es hist:=h4.mono fun b k _ h=>s1 _ _ h
 obtain ⟨b,k,e1,e2,e3,e4⟩:=h4'.last ne
 have nde:d≠ea:=fun z=>by rw [z,h3] at h1; cases h1
 have h1':upd H1 ea (.lst es.dropLast) d=some (.ins a.c_Desk dx (fsD fa pa ea ia)):=by rw [upd_ne nde]; exact s1 _ _ h1
 refine ⟨_,rfl,_,_,_,_,_,rfl,s1 _ _ h1,T.k_Desk.cl,T.na_Desk_elder,lk_elder,.inl ⟨rfl,_,SqL.of (s1 _ _ h3)⟩,_,_,_,rfl,rfl,s1 _ _ h3,e1,_,rfl,_,_,_,_,rfl,h1',T.k_Desk.cl,T.na_Desk_parts,fsD_len,?_⟩
 rw [put_parts]
 have nl:hist.length≠0:=fun z=>ne (List.eq_nil_of_length_eq_zero (by omega))
 have hm:∀ b k,H1 b=some (.dK k)→upd (upd H1 ea (.lst es.dropLast)) d (.ins a.c_Desk dx (fsD fa b ea ia)) b=some (.dK k):=fun b k h=>by
  rw [upd_ne (fun z=>by rw [z,s1 _ _ h1] at h; cases h),upd_ne (fun z=>by rw [z,s1 _ _ h3] at h; cases h)]
  exact h
 have hm':∀ b' k,H1 b' = some (.dK k)→upd (upd H1 ea (.lst es.dropLast)) d (.ins a.c_Desk dx (fsD fa b ea ia)) b' = some (.dK k):=fun b k h=>by
  rw [upd_ne (fun z=>by rw [z,s1 _ _ h1] at h; cases h),upd_ne (fun z=>by rw [z,s1 _ _ h3] at h; cases h)]
  exact h
 have:=post.ok (by simp [due,nl]) (upd (upd H1 ea (.lst es.dropLast)) d (.ins a.c_Desk dx (fsD fa b ea ia))) b
 simp only [nxt,nhs,e2,Option.getD_some] at this
 refine this ⟨⟨dx,fa,ia,upd_same⟩,hm _ _ e3,es.dropLast,?_,e4.mono fun b k _ h=>hm' b k h⟩ fun b' o hb h=>?_
 ·rw [upd_ne (Ne.symm nde),upd_same]
 ·rw [upd_ne (fun z=>hb (by rw [z]; simp)),upd_ne (fun z=>hb (by rw [z]; simp))]
  exact s1 _ _ h
theorem due_lt {kvs:List (Key × V)} {m:Nat} {D:Deed} {i:Nat} (h:due kvs m D=some i) : i < 6:=by
 obtain ⟨k,n,at_,l⟩:=D
 unfold due at h
 split at h
 ·split at h
  ·cases h; decide
  split at h
  ·cases h; decide
  split at h
  ·cases h; decide
  ·cases h
 ·split at h
  ·cases h
  ·cases h; decide
 ·split at h
  ·cases h; decide
  split at h
  ·cases h; decide
  split at h
  ·cases h; decide
  ·cases h
 ·split at h
  ·cases h; decide
  split at h
  ·cases h; decide
  ·cases h
 ·split at h
  ·cases h; decide
  ·cases h
def sp_l_did (K:PySem.W.Frag) (C:Addr) : Sp:=fun vs H Q _=>∃ (d pa ea:Addr) (kvs:List (Key × V)) (hist:List (List (Key × V))) (D:Deed) (da:Addr),vs=[.ref d,.ref da]∧H da=some (.tup (dV D))∧D.k < 5∧DPre C H d pa ea kvs hist D∧(∀ i,due kvs hist.length D=some i→∀ H' p,Same H H'→H' p=some (.tup [.str (wd (some i)),.non])→Q (.ref p) H')∧(due kvs hist.length D=none→∀ H' p pa',Dk C H' d pa' ea (nxt kvs hist D) (nhs kvs hist D)→FrA H H' [d,ea]→H' p=some (.tup [.str (wd none),.non])→Q (.ref p) H')
theorem sc_l_did:FnScope ["desk","deed","kind","name","at","text","word","told"] ["desk","deed"] (defScope s_l_did):=⟨rfl,rfl,rfl,by decide +kernel,rfl,by decide +kernel,by decide +kernel⟩
theorem ok_l_did (T:Txt P w K mg a) : FnOk P w K mg base CX0 4 a.f_l_did a.fd_l_did ["desk","deed"] (sp_l_did K a.c_Desk):=by
 have g_Desk_cut_row:=ok_Desk_cut_row (P:=P) (w:=w) (base:=base) T
 have d_Desk_cut_row:=T.d_Desk_cut_row
 have g_Desk_drop_part:=ok_Desk_drop_part (P:=P) (w:=w) (base:=base) T
 have d_Desk_drop_part:=T.d_Desk_drop_part
 have g_Desk_put_part:=ok_Desk_put_part (P:=P) (w:=w) (base:=base) T
 have d_Desk_put_part:=T.d_Desk_put_part
 have g_Desk_put_row:=ok_Desk_put_row (P:=P) (w:=w) (base:=base) T
 have d_Desk_put_row:=T.d_Desk_put_row
 have g_Desk_undo:=ok_Desk_undo (P:=P) (w:=w) (base:=base) T
 have d_Desk_undo:=T.d_Desk_undo
 have x_BadName:=T.x_BadName
 have x_NoPart:=T.x_NoPart
 have x_NoRow:=T.x_NoRow
 have x_NothingDone:=T.x_NothingDone
 have x_TooLong:=T.x_TooLong
 have x_Twice:=T.x_Twice
 have k_Desk:=T.k_Desk
 refine T.d_l_did.fn.ok sc_l_did (fun vs H Q E h=>?_) (fun cdv A outer s H vs Q E hr h=>?_)
 ·obtain ⟨d,pa,ea,kvs,hist,D,da,rfl,_⟩:=h
  rfl
 obtain ⟨d,pa,ea,kvs,hist,D,da,rfl,hda,hk,pre,q1,q2⟩:=h
 have hu:=Nat.lt_of_succ_lt (hu_of hr)
 refine ⟨_,(pss_cons (ps_asg (pv 1) (pg_tup rfl (pgs_cons (pg_name (i:=2) sc_l_did.nd rfl (Or.inl rfl)) (pgs_cons (pg_name (i:=3) sc_l_did.nd rfl (Or.inl rfl)) (pgs_cons (pg_name (i:=4) sc_l_did.nd rfl (Or.inl rfl)) (pgs_cons (pg_name (i:=5) sc_l_did.nd rfl (Or.inl rfl)) pgs_nil))))))
   (pss_cons (ps_set (i:=6) sc_l_did.nd rfl (Or.inl rfl) pe_str)
   (pss_cons (ps_set (i:=7) sc_l_did.nd rfl (Or.inl rfl) pe_non)
   (pss_cons (ps_tryH (ptb_if (fun _=>(pt_cmpR op_eq (pv 2) pe_str (nomark _))) (ptb_meth (i:=7) sc_l_did.nd rfl (Or.inl rfl) k_Desk d_Desk_put_part g_Desk_put_part (hr.mono (by decide)) (fun _=>(pv 0)) (fun _=>(pa_cons (pv 3) (pa_cons (pv 5) pa_nil)))) (ptb_if (fun _=>(pt_cmpR op_eq (pv 2) pe_str (nomark _))) (ptb_meth (i:=7) sc_l_did.nd rfl (Or.inl rfl) k_Desk d_Desk_drop_part g_Desk_drop_part (hr.mono (by decide)) (fun _=>(pv 0)) (fun _=>(pa_cons (pv 3) pa_nil))) (ptb_if (fun _=>(pt_cmpR op_eq (pv 2) pe_str (nomark _))) (ptb_meth (i:=7) sc_l_did.nd rfl (Or.inl rfl) k_Desk d_Desk_put_row g_Desk_put_row (hr.mono (by decide)) (fun _=>(pv 0)) (fun _=>(pa_cons (pv 3) (pa_cons (pv 4) (pa_cons (pv 5) pa_nil))))) (ptb_if (fun _=>(pt_cmpR op_eq (pv 2) pe_str (nomark _))) (ptb_meth (i:=7) sc_l_did.nd rfl (Or.inl rfl) k_Desk d_Desk_cut_row g_Desk_cut_row (hr.mono (by decide)) (fun _=>(pv 0)) (fun _=>(pa_cons (pv 3) (pa_cons (pv 4) pa_nil)))) (ptb_meth0 (i:=7) sc_l_did.nd rfl (Or.inl rfl) k_Desk d_Desk_undo g_Desk_undo (hr.mono (by decide)) (fun _=>(pv 0)) ))))) (HL.cons rfl x_BadName (fun _=>(pss_one (ps_set (i:=6) sc_l_did.nd rfl (Or.inl rfl) pe_str))) (by decide) (HL.cons rfl x_NoPart (fun _=>(pss_one (ps_set (i:=6) sc_l_did.nd rfl (Or.inl rfl) pe_str))) (by decide) (HL.cons rfl x_NoRow (fun _=>(pss_one (ps_set (i:=6) sc_l_did.nd rfl (Or.inl rfl) pe_str))) (by decide) (HL.cons rfl x_Twice (fun _=>(pss_one (ps_set (i:=6) sc_l_did.nd rfl (Or.inl rfl) pe_str))) (by decide) (HL.cons rfl x_TooLong (fun _=>(pss_one (ps_set (i:=6) sc_l_did.nd rfl (Or.inl rfl) pe_str))) (by decide) (HL.cons rfl x_NothingDone (fun _=>(pss_one (ps_set (i:=6) sc_l_did.nd rfl (Or.inl rfl) pe_str))) (by decide) HL.nil)))))) ⟨rfl,rfl⟩)
   (pss_one (ps_ret (pe_tup (pa_cons (pv 6) (pa_cons (pv 7) pa_nil))))))))),?_⟩
 have pre0:=pre
 obtain ⟨⟨⟨dx,fa,ia,h1⟩,_⟩,_⟩:=pre0
 refine ⟨_,rfl,da,_,rfl,SqT.of hda,rfl,_,_,rfl,_,_,rfl,_,_,rfl,_,_,rfl,rfl,?_⟩
 obtain ⟨k,nm,at_,l⟩:=D
 dsimp only [gName]
 match k,hk with
 | 0,_ =>
  refine ⟨_,rfl,rfl,_,rfl,?_⟩
  refine iteY (decide_eq_true rfl) ?_
  refine ⟨_,rfl,_,_,_,rfl,h1,lkn_put_part,_,rfl,_,rfl,d,pa,ea,kvs,hist,at_,nm,l,rfl,pre,⟨fun i e H1 s1=>?_,fun e H1 p' dk1 fr1=>?_⟩⟩
  ·match i,due_lt e,e with
   | 0,_,e =>
    refine ⟨a.c_BadName,rfl,.inl ⟨T.t_BadName_BadName,?_⟩⟩
    refine ⟨_,rfl,_,rfl,le2,fun pe hpe=>?_⟩
    exact q1 0 e _ pe (s1.trans (same_new hpe _)) upd_same
   | 1,_,e =>
    refine ⟨a.c_Twice,rfl,.inr ⟨T.nt_Twice_BadName,.inr ⟨T.nt_Twice_NoPart,.inr ⟨T.nt_Twice_NoRow,.inl ⟨T.t_Twice_Twice,?_⟩⟩⟩⟩⟩
    refine ⟨_,rfl,_,rfl,le2,fun pe hpe=>?_⟩
    exact q1 1 e _ pe (s1.trans (same_new hpe _)) upd_same
   | 2,_,e =>
    refine ⟨a.c_TooLong,rfl,.inr ⟨T.nt_TooLong_BadName,.inr ⟨T.nt_TooLong_NoPart,.inr ⟨T.nt_TooLong_NoRow,.inr ⟨T.nt_TooLong_Twice,.inl ⟨T.t_TooLong_TooLong,?_⟩⟩⟩⟩⟩⟩
    refine ⟨_,rfl,_,rfl,le2,fun pe hpe=>?_⟩
    exact q1 2 e _ pe (s1.trans (same_new hpe _)) upd_same
   | 3,_,e =>
    refine ⟨a.c_NoPart,rfl,.inr ⟨T.nt_NoPart_BadName,.inl ⟨T.t_NoPart_NoPart,?_⟩⟩⟩
    refine ⟨_,rfl,_,rfl,le2,fun pe hpe=>?_⟩
    exact q1 3 e _ pe (s1.trans (same_new hpe _)) upd_same
   | 4,_,e =>
    refine ⟨a.c_NoRow,rfl,.inr ⟨T.nt_NoRow_BadName,.inr ⟨T.nt_NoRow_NoPart,.inl ⟨T.t_NoRow_NoRow,?_⟩⟩⟩⟩
    refine ⟨_,rfl,_,rfl,le2,fun pe hpe=>?_⟩
    exact q1 4 e _ pe (s1.trans (same_new hpe _)) upd_same
   | 5,_,e =>
    refine ⟨a.c_NothingDone,rfl,.inr ⟨T.nt_NothingDone_BadName,.inr ⟨T.nt_NothingDone_NoPart,.inr ⟨T.nt_NothingDone_NoRow,.inr ⟨T.nt_NothingDone_Twice,.inr ⟨T.nt_NothingDone_TooLong,.inl ⟨T.t_NothingDone_NothingDone,?_⟩⟩⟩⟩⟩⟩⟩
    refine ⟨_,rfl,_,rfl,le2,fun pe hpe=>?_⟩
    exact q1 5 e _ pe (s1.trans (same_new hpe _)) upd_same
  ·refine ⟨_,rfl,_,rfl,le2,fun pe hpe=>?_⟩
   exact q2 e _ pe p' (dk1.same (same_new hpe _)) (fr1.trans (FrA.of (same_new hpe _) _)) upd_same
 | 1,_ =>
  refine ⟨_,rfl,rfl,_,rfl,?_⟩
  refine iteN (knE 1 0 (by decide +kernel)) ?_
  refine ⟨_,rfl,rfl,_,rfl,?_⟩
  refine iteY (decide_eq_true rfl) ?_
  refine ⟨_,rfl,_,_,_,rfl,h1,lkn_drop_part,_,rfl,d,pa,ea,kvs,hist,at_,nm,l,rfl,pre,⟨fun i e H1 s1=>?_,fun e H1 p' dk1 fr1=>?_⟩⟩
  ·match i,due_lt e,e with
   | 0,_,e =>
    refine ⟨a.c_BadName,rfl,.inl ⟨T.t_BadName_BadName,?_⟩⟩
    refine ⟨_,rfl,_,rfl,le2,fun pe hpe=>?_⟩
    exact q1 0 e _ pe (s1.trans (same_new hpe _)) upd_same
   | 1,_,e =>
    refine ⟨a.c_Twice,rfl,.inr ⟨T.nt_Twice_BadName,.inr ⟨T.nt_Twice_NoPart,.inr ⟨T.nt_Twice_NoRow,.inl ⟨T.t_Twice_Twice,?_⟩⟩⟩⟩⟩
    refine ⟨_,rfl,_,rfl,le2,fun pe hpe=>?_⟩
    exact q1 1 e _ pe (s1.trans (same_new hpe _)) upd_same
   | 2,_,e =>
    refine ⟨a.c_TooLong,rfl,.inr ⟨T.nt_TooLong_BadName,.inr ⟨T.nt_TooLong_NoPart,.inr ⟨T.nt_TooLong_NoRow,.inr ⟨T.nt_TooLong_Twice,.inl ⟨T.t_TooLong_TooLong,?_⟩⟩⟩⟩⟩⟩
    refine ⟨_,rfl,_,rfl,le2,fun pe hpe=>?_⟩
    exact q1 2 e _ pe (s1.trans (same_new hpe _)) upd_same
   | 3,_,e =>
    refine ⟨a.c_NoPart,rfl,.inr ⟨T.nt_NoPart_BadName,.inl ⟨T.t_NoPart_NoPart,?_⟩⟩⟩
    refine ⟨_,rfl,_,rfl,le2,fun pe hpe=>?_⟩
    exact q1 3 e _ pe (s1.trans (same_new hpe _)) upd_same
   | 4,_,e =>
    refine ⟨a.c_NoRow,rfl,.inr ⟨T.nt_NoRow_BadName,.inr ⟨T.nt_NoRow_NoPart,.inl ⟨T.t_NoRow_NoRow,?_⟩⟩⟩⟩
    refine ⟨_,rfl,_,rfl,le2,fun pe hpe=>?_⟩
    exact q1 4 e _ pe (s1.trans (same_new hpe _)) upd_same
   | 5,_,e =>
    refine ⟨a.c_NothingDone,rfl,.inr ⟨T.nt_NothingDone_BadName,.inr ⟨T.nt_NothingDone_NoPart,.inr ⟨T.nt_NothingDone_NoRow,.inr ⟨T.nt_NothingDone_Twice,.inr ⟨T.nt_NothingDone_TooLong,.inl ⟨T.t_NothingDone_NothingDone,?_⟩⟩⟩⟩⟩⟩⟩
    refine ⟨_,rfl,_,rfl,le2,fun pe hpe=>?_⟩
    exact q1 5 e _ pe (s1.trans (same_new hpe _)) upd_same
  ·refine ⟨_,rfl,_,rfl,le2,fun pe hpe=>?_⟩
   exact q2 e _ pe p' (dk1.same (same_new hpe _)) (fr1.trans (FrA.of (same_new hpe _) _)) upd_same
 | 2,_ =>
  refine ⟨_,rfl,rfl,_,rfl,?_⟩
  refine iteN (knE 2 0 (by decide +kernel)) ?_
  refine ⟨_,rfl,rfl,_,rfl,?_⟩
  refine iteN (knE 2 1 (by decide +kernel)) ?_
  refine ⟨_,rfl,rfl,_,rfl,?_⟩
  refine iteY (decide_eq_true rfl) ?_
  refine ⟨_,rfl,_,_,_,rfl,h1,lkn_put_row,_,rfl,_,rfl,_,rfl,d,pa,ea,kvs,hist,at_,nm,l,rfl,pre,⟨fun i e H1 s1=>?_,fun e H1 p' dk1 fr1=>?_⟩⟩
  ·match i,due_lt e,e with
   | 0,_,e =>
    refine ⟨a.c_BadName,rfl,.inl ⟨T.t_BadName_BadName,?_⟩⟩
    refine ⟨_,rfl,_,rfl,le2,fun pe hpe=>?_⟩
    exact q1 0 e _ pe (s1.trans (same_new hpe _)) upd_same
   | 1,_,e =>
    refine ⟨a.c_Twice,rfl,.inr ⟨T.nt_Twice_BadName,.inr ⟨T.nt_Twice_NoPart,.inr ⟨T.nt_Twice_NoRow,.inl ⟨T.t_Twice_Twice,?_⟩⟩⟩⟩⟩
    refine ⟨_,rfl,_,rfl,le2,fun pe hpe=>?_⟩
    exact q1 1 e _ pe (s1.trans (same_new hpe _)) upd_same
   | 2,_,e =>
    refine ⟨a.c_TooLong,rfl,.inr ⟨T.nt_TooLong_BadName,.inr ⟨T.nt_TooLong_NoPart,.inr ⟨T.nt_TooLong_NoRow,.inr ⟨T.nt_TooLong_Twice,.inl ⟨T.t_TooLong_TooLong,?_⟩⟩⟩⟩⟩⟩
    refine ⟨_,rfl,_,rfl,le2,fun pe hpe=>?_⟩
    exact q1 2 e _ pe (s1.trans (same_new hpe _)) upd_same
   | 3,_,e =>
    refine ⟨a.c_NoPart,rfl,.inr ⟨T.nt_NoPart_BadName,.inl ⟨T.t_NoPart_NoPart,?_⟩⟩⟩
    refine ⟨_,rfl,_,rfl,le2,fun pe hpe=>?_⟩
    exact q1 3 e _ pe (s1.trans (same_new hpe _)) upd_same
   | 4,_,e =>
    refine ⟨a.c_NoRow,rfl,.inr ⟨T.nt_NoRow_BadName,.inr ⟨T.nt_NoRow_NoPart,.inl ⟨T.t_NoRow_NoRow,?_⟩⟩⟩⟩
    refine ⟨_,rfl,_,rfl,le2,fun pe hpe=>?_⟩
    exact q1 4 e _ pe (s1.trans (same_new hpe _)) upd_same
   | 5,_,e =>
    refine ⟨a.c_NothingDone,rfl,.inr ⟨T.nt_NothingDone_BadName,.inr ⟨T.nt_NothingDone_NoPart,.inr ⟨T.nt_NothingDone_NoRow,.inr ⟨T.nt_NothingDone_Twice,.inr ⟨T.nt_NothingDone_TooLong,.inl ⟨T.t_NothingDone_NothingDone,?_⟩⟩⟩⟩⟩⟩⟩
    refine ⟨_,rfl,_,rfl,le2,fun pe hpe=>?_⟩
    exact q1 5 e _ pe (s1.trans (same_new hpe _)) upd_same
  ·refine ⟨_,rfl,_,rfl,le2,fun pe hpe=>?_⟩
   exact q2 e _ pe p' (dk1.same (same_new hpe _)) (fr1.trans (FrA.of (same_new hpe _) _)) upd_same
 | 3,_ =>
  refine ⟨_,rfl,rfl,_,rfl,?_⟩
  refine iteN (knE 3 0 (by decide +kernel)) ?_
  refine ⟨_,rfl,rfl,_,rfl,?_⟩
  refine iteN (knE 3 1 (by decide +kernel)) ?_
  refine ⟨_,rfl,rfl,_,rfl,?_⟩
  refine iteN (knE 3 2 (by decide +kernel)) ?_
  refine ⟨_,rfl,rfl,_,rfl,?_⟩
  refine iteY (decide_eq_true rfl) ?_
  refine ⟨_,rfl,_,_,_,rfl,h1,lkn_cut_row,_,rfl,_,rfl,d,pa,ea,kvs,hist,at_,nm,l,rfl,pre,⟨fun i e H1 s1=>?_,fun e H1 p' dk1 fr1=>?_⟩⟩
  ·match i,due_lt e,e with
   | 0,_,e =>
    refine ⟨a.c_BadName,rfl,.inl ⟨T.t_BadName_BadName,?_⟩⟩
    refine ⟨_,rfl,_,rfl,le2,fun pe hpe=>?_⟩
    exact q1 0 e _ pe (s1.trans (same_new hpe _)) upd_same
   | 1,_,e =>
    refine ⟨a.c_Twice,rfl,.inr ⟨T.nt_Twice_BadName,.inr ⟨T.nt_Twice_NoPart,.inr ⟨T.nt_Twice_NoRow,.inl ⟨T.t_Twice_Twice,?_⟩⟩⟩⟩⟩
    refine ⟨_,rfl,_,rfl,le2,fun pe hpe=>?_⟩
    exact q1 1 e _ pe (s1.trans (same_new hpe _)) upd_same
   | 2,_,e =>
    refine ⟨a.c_TooLong,rfl,.inr ⟨T.nt_TooLong_BadName,.inr ⟨T.nt_TooLong_NoPart,.inr ⟨T.nt_TooLong_NoRow,.inr ⟨T.nt_TooLong_Twice,.inl ⟨T.t_TooLong_TooLong,?_⟩⟩⟩⟩⟩⟩
    refine ⟨_,rfl,_,rfl,le2,fun pe hpe=>?_⟩
    exact q1 2 e _ pe (s1.trans (same_new hpe _)) upd_same
   | 3,_,e =>
    refine ⟨a.c_NoPart,rfl,.inr ⟨T.nt_NoPart_BadName,.inl ⟨T.t_NoPart_NoPart,?_⟩⟩⟩
    refine ⟨_,rfl,_,rfl,le2,fun pe hpe=>?_⟩
    exact q1 3 e _ pe (s1.trans (same_new hpe _)) upd_same
   | 4,_,e =>
    refine ⟨a.c_NoRow,rfl,.inr ⟨T.nt_NoRow_BadName,.inr ⟨T.nt_NoRow_NoPart,.inl ⟨T.t_NoRow_NoRow,?_⟩⟩⟩⟩
    refine ⟨_,rfl,_,rfl,le2,fun pe hpe=>?_⟩
    exact q1 4 e _ pe (s1.trans (same_new hpe _)) upd_same
   | 5,_,e =>
    refine ⟨a.c_NothingDone,rfl,.inr ⟨T.nt_NothingDone_BadName,.inr ⟨T.nt_NothingDone_NoPart,.inr ⟨T.nt_NothingDone_NoRow,.inr ⟨T.nt_NothingDone_Twice,.inr ⟨T.nt_NothingDone_TooLong,.inl ⟨T.t_NothingDone_NothingDone,?_⟩⟩⟩⟩⟩⟩⟩
    refine ⟨_,rfl,_,rfl,le2,fun pe hpe=>?_⟩
    exact q1 5 e _ pe (s1.trans (same_new hpe _)) upd_same
  ·refine ⟨_,rfl,_,rfl,le2,fun pe hpe=>?_⟩
   exact q2 e _ pe p' (dk1.same (same_new hpe _)) (fr1.trans (FrA.of (same_new hpe _) _)) upd_same
 | 4,_ =>
  refine ⟨_,rfl,rfl,_,rfl,?_⟩
  refine iteN (knE 4 0 (by decide +kernel)) ?_
  refine ⟨_,rfl,rfl,_,rfl,?_⟩
  refine iteN (knE 4 1 (by decide +kernel)) ?_
  refine ⟨_,rfl,rfl,_,rfl,?_⟩
  refine iteN (knE 4 2 (by decide +kernel)) ?_
  refine ⟨_,rfl,rfl,_,rfl,?_⟩
  refine iteN (knE 4 3 (by decide +kernel)) ?_
  refine ⟨_,rfl,_,_,_,rfl,h1,lkn_undo,d,pa,ea,kvs,hist,at_,nm,l,rfl,pre,⟨fun i e H1 s1=>?_,fun e H1 p' dk1 fr1=>?_⟩⟩
  ·match i,due_lt e,e with
   | 0,_,e =>
    refine ⟨a.c_BadName,rfl,.inl ⟨T.t_BadName_BadName,?_⟩⟩
    refine ⟨_,rfl,_,rfl,le2,fun pe hpe=>?_⟩
    exact q1 0 e _ pe (s1.trans (same_new hpe _)) upd_same
   | 1,_,e =>
    refine ⟨a.c_Twice,rfl,.inr ⟨T.nt_Twice_BadName,.inr ⟨T.nt_Twice_NoPart,.inr ⟨T.nt_Twice_NoRow,.inl ⟨T.t_Twice_Twice,?_⟩⟩⟩⟩⟩
    refine ⟨_,rfl,_,rfl,le2,fun pe hpe=>?_⟩
    exact q1 1 e _ pe (s1.trans (same_new hpe _)) upd_same
   | 2,_,e =>
    refine ⟨a.c_TooLong,rfl,.inr ⟨T.nt_TooLong_BadName,.inr ⟨T.nt_TooLong_NoPart,.inr ⟨T.nt_TooLong_NoRow,.inr ⟨T.nt_TooLong_Twice,.inl ⟨T.t_TooLong_TooLong,?_⟩⟩⟩⟩⟩⟩
    refine ⟨_,rfl,_,rfl,le2,fun pe hpe=>?_⟩
    exact q1 2 e _ pe (s1.trans (same_new hpe _)) upd_same
   | 3,_,e =>
    refine ⟨a.c_NoPart,rfl,.inr ⟨T.nt_NoPart_BadName,.inl ⟨T.t_NoPart_NoPart,?_⟩⟩⟩
    refine ⟨_,rfl,_,rfl,le2,fun pe hpe=>?_⟩
    exact q1 3 e _ pe (s1.trans (same_new hpe _)) upd_same
   | 4,_,e =>
    refine ⟨a.c_NoRow,rfl,.inr ⟨T.nt_NoRow_BadName,.inr ⟨T.nt_NoRow_NoPart,.inl ⟨T.t_NoRow_NoRow,?_⟩⟩⟩⟩
    refine ⟨_,rfl,_,rfl,le2,fun pe hpe=>?_⟩
    exact q1 4 e _ pe (s1.trans (same_new hpe _)) upd_same
   | 5,_,e =>
    refine ⟨a.c_NothingDone,rfl,.inr ⟨T.nt_NothingDone_BadName,.inr ⟨T.nt_NothingDone_NoPart,.inr ⟨T.nt_NothingDone_NoRow,.inr ⟨T.nt_NothingDone_Twice,.inr ⟨T.nt_NothingDone_TooLong,.inl ⟨T.t_NothingDone_NothingDone,?_⟩⟩⟩⟩⟩⟩⟩
    refine ⟨_,rfl,_,rfl,le2,fun pe hpe=>?_⟩
    exact q1 5 e _ pe (s1.trans (same_new hpe _)) upd_same
  ·refine ⟨_,rfl,_,rfl,le2,fun pe hpe=>?_⟩
   exact q2 e _ pe p' (dk1.same (same_new hpe _)) (fr1.trans (FrA.of (same_new hpe _) _)) upd_same
def mixed (c:Int) : Int:=(c+1) * 1357913579135791357 % 2305843009213693951
theorem mixed_in (c:Int) : 0≤mixed c∧mixed c < 2305843009213693951:=⟨Int.emod_nonneg _ (by (first | decide | (show (0:Int) < _; first | decide | omega))),Int.emod_lt_of_pos _ (by (first | decide | (show (0:Int) < _; first | decide | omega)))⟩
def sp_l_mixed:Sp:=fun vs H Q _=>∃ c:Int,vs=[.int c]∧Q (.int (mixed c)) H
theorem sc_l_mixed:FnScope ["cell"] ["cell"] (defScope s_l_mixed):=⟨rfl,rfl,rfl,by decide +kernel,rfl,by decide +kernel,by decide +kernel⟩
theorem ok_l_mixed (T:Txt P w K mg a) : FnOk P w K mg base CX0 1 a.f_l_mixed a.fd_l_mixed ["cell"] sp_l_mixed:=by
 refine T.d_l_mixed.fn.ok sc_l_mixed (fun vs H Q E h=>?_) (fun cdv A outer s H vs Q E hr h=>?_)
 ·obtain ⟨c,rfl,_⟩:=h
  rfl
 obtain ⟨c,rfl,q⟩:=h
 have hu:=Nat.lt_of_succ_lt (hu_of hr)
 refine ⟨_,(pss_one (ps_ret (pe_op op_mod (pe_op op_mul (pe_op op_add (pv 0) pe_int) pe_int) pe_int))),?_⟩
 exact ⟨_,rfl,_,_,rfl,rfl,_,_,rfl,rfl,.inr ⟨by decide,by decide⟩,_,_,rfl,rfl,(by (first | decide | (show (0:Int) < _; first | decide | omega))),q⟩
def sp_l_shelf_is (K:PySem.W.Frag) (C:Addr) : Sp:=fun vs H Q _=>∃ (d pa ea o:Addr) (D:PD) (hist:List (List (Key × V))),vs=[.ref d,.ref o]∧Dk C H d pa ea (kvF jn D) hist∧OwnA H o D∧DOk D∧∀ H',Same H H'→Q (.bl true) H'
theorem sc_l_shelf_is:FnScope ["desk","own","found","name"] ["desk","own"] (defScope s_l_shelf_is):=⟨rfl,rfl,rfl,by decide +kernel,rfl,by decide +kernel,by decide +kernel⟩
theorem ok_l_shelf_is (T:Txt P w K mg a) : FnOk P w K mg base CX0 2 a.f_l_shelf_is a.fd_l_shelf_is ["desk","own"] (sp_l_shelf_is K a.c_Desk):=by
 have g_Desk_shelf:=ok_Desk_shelf (P:=P) (w:=w) (base:=base) T
 have d_Desk_shelf:=T.d_Desk_shelf
 have z_dict:=T.z_dict
 have z_isinstance:=T.z_isinstance
 have z_len:=T.z_len
 have z_list:=T.z_list
 have z_str:=T.z_str
 have k_Desk:=T.k_Desk
 refine T.d_l_shelf_is.fn.ok sc_l_shelf_is (fun vs H Q E h=>?_) (fun cdv A outer s H vs Q E hr h=>?_)
 ·obtain ⟨d,pa,ea,o,D,hist,rfl,_⟩:=h
  rfl
 obtain ⟨d,pa,ea,o,D,hist,rfl,dk,⟨A,eA,ow⟩,dok,q⟩:=h
 have hu:=Nat.lt_of_succ_lt (hu_of hr)
 refine ⟨_,(pss_cons (ps_set (i:=2) sc_l_shelf_is.nd rfl (Or.inl rfl) (pe_mc0 pass0 k_Desk d_Desk_shelf g_Desk_shelf (hr.mono (by decide)) (pv 0) ))
   (pss_cons (ps_if (PW.pt (pw_or (pt_not (pt_val (pe_callB call_isiD rfl z_isinstance PyProof.Rows.boot_isinstance (pa_cons (pv 2) (pa_cons (pe_bltn (v:=.ty "dict") rfl z_dict PyProof.Rows.boot_dict rfl) pa_nil))) (fun _=>rfl))) (pw_or1 (pt_cmpR op_ne (pe_callB call_lenD rfl z_len PySem.boot_len (pa_cons (pv 2) pa_nil)) (pe_callB call_lenD rfl z_len PySem.boot_len (pa_cons (pv 1) pa_nil)) (nomark _))))) (pss_one (ps_ret pe_bl)) pss_nil)
   (pss_cons (ps_forD PassesOwn.never rfl (pv 1) (pg_name (i:=3) sc_l_shelf_is.nd rfl (Or.inl rfl)) (pss_one (ps_if (PW.pt (pw_or (pt_cmpR (op_notin_dict (hu_of hr)) (pv 3) (pv 2) (by with_unfolding_all rfl)) (pw_or (pt_not (pt_val (pe_callB call_isi rfl z_isinstance PyProof.Rows.boot_isinstance (pa_cons (pe_dget (hu_of hr) (pv 2) (pv 3) (fun _ _=>rfl)) (pa_cons (pe_bltn (v:=.ty "str") rfl z_str PyProof.Rows.boot_str rfl) pa_nil))) (fun _=>rfl))) (pw_or1 (pt_cmpR op_ne (pe_dget (hu_of hr) (pv 2) (pv 3) (fun _ _=>rfl)) (pe_bm PySem.F.plainAttrs_str PySem.F.slot_str_join PySem.F.type_str_join mt_join pe_str (pa_cons (pe_dget (hu_of hr) (pv 1) (pv 3) (fun _ _=>rfl)) pa_nil)) (nomark _)))))) (pss_one (ps_ret pe_bl)) pss_nil)))
   (pss_cons (ps_for PassesOwn.never rfl (pi_list (pe_callTy (call_list_dict rfl) rfl z_list PyProof.Rows.boot_list (pa_cons (pv 2) pa_nil))) (pg_name (i:=3) sc_l_shelf_is.nd rfl (Or.inl rfl)) (pss_one (ps_dput (hu_of hr) (pv 2) (pv 3) pe_str rfl)))
   (pss_cons (ps_dput (hu_of hr) (pv 2) pe_str pe_str rfl)
   (pss_one (ps_ret pe_bl))))))),?_⟩
 have dk0:=dk
 obtain ⟨⟨dx,fa,ia,h1⟩,_⟩:=dk0
 refine ⟨_,rfl,_,_,_,rfl,h1,lkn_shelf,d,pa,ea,_,hist,rfl,dk,fun p hp=>?_⟩
 have s1:=same_new hp (.dK (kvF jn D))
 have k1:upd H p (.dK (kvF jn D)) p=some (.dK (kvF jn D)):=upd_same
 generalize upd H p (.dK (kvF jn D))=H1 at s1 k1 ⊢
 have ow1:=ow.same s1
 have npo:p≠o:=fun z=>by rw [z,ow.at_] at hp; cases hp
 have eln:(kvF rfA A).length=(kvF jn D).length:=by rw [len_kvF,len_kvF,← eA]; simp [mapG]
 have hD20:=dok.ln
 refine ⟨_,rfl,p,_,rfl,k1,_,rfl,?_⟩
 refine iteN rfl ?_
 refine ⟨_,rfl,_,_,rfl,k1,_,rfl,_,_,rfl,ow1.at_,rfl,_,rfl,?_⟩
 rw [eln]
 refine iteN (by rw [decide_eq_true rfl]; rfl) ?_
 dsimp only [tNext]
 refine ⟨_,rfl,o,_,rfl,ow1.at_,fun hz ob=>for_dict hz ow1.at_ (fun i σ=>∃ v,σ=[some (.ref d),some (.ref o),some (.ref p),v]) ⟨none,rfl⟩ ?_ ?_⟩
 ·rintro i qq σ hq ⟨v,rfl⟩
  have kp:upd H1 o (.frz ob (.dK (kvF rfA A))) p=some (.dK (kvF jn D)):=by rw [upd_ne npo]; exact k1
  have ko:upd H1 o (.frz ob (.dK (kvF rfA A))) o=some (.frz ob (.dK (kvF rfA A))):=upd_same
  have kl:∀ b xs,H1 b=some (.lst xs)→upd H1 o (.frz ob (.dK (kvF rfA A))) b=some (.lst xs):=fun b xs h=>by rw [upd_ne (fun z=>by rw [z,ow1.at_] at h; cases h)]; exact h
  generalize upd H1 o (.frz ob (.dK (kvF rfA A)))=Hf at kp ko kl ⊢
  unfold kvF at hq
  rw [List.getElem?_map] at hq
  obtain ⟨⟨n,rs,ad⟩,hpa,rfl⟩:=Option.map_eq_some_iff.mp hq
  have hmA:(n,(rs,ad)) ∈ A:=List.mem_of_getElem? hpa
  have hmD:(n,rs) ∈ D:=by rw [← eA]; exact List.mem_map.mpr ⟨_,hmA,rfl⟩
  have elk:=lk_of_mem dok.nd hmD
  have ndA:(A.map (·.1)).Nodup:=by
   have:A.map (·.1)=D.map (·.1):=by rw [← eA]; unfold mapG; rw [List.map_map]; rfl
   rw [this]; exact dok.nd
  have elA:=lk_of_mem ndA hmA
  have hls:=kl _ _ (ow1.ls _ hmA)
  have rok:RwOk rs:=(dok.ok _ hmD).2
  have hval:valV (kvF jn D) (ky n)=some (jn rs):=by rw [val_kvF,elk]; rfl
  have hvalA:valV (kvF rfA A) (ky n)=some (.ref ad):=by rw [val_kvF,elA]; rfl
  have hg:DGet Hf p (kV (ky n)) (some (jn rs)):=by rw [← hval]; exact DGet.k kp
  have hgo:DGet Hf o (kV (ky n)) (some (.ref ad)):=.inl ⟨_,ky n,.inr ⟨ob,ko⟩,rfl,hvalA.symm⟩
  refine ⟨_,rfl,_,rfl,_,_,rfl,hg,_,rfl,?_⟩
  refine iteN rfl ?_
  refine ⟨_,rfl,_,rfl,_,_,rfl,hg,_,"str",true,rfl,(by decide),rfl,_,rfl,?_⟩
  refine iteN rfl ?_
  have hsum:(rs.map (·.length)).sum≤401 * rs.length:=by
   have hh:∀ qs:List (List Nat),(∀ p ∈ qs,p.length≤400)→(qs.map (·.length)).sum≤401 * qs.length:=fun qs=>by
    induction qs with
    | nil=>intro _; simp
    | cons x r ih =>
     intro hall
     have h1:=hall x List.mem_cons_self
     have h2:=ih fun p hp=>hall p (List.mem_cons_of_mem _ hp)
     rw [List.map_cons,List.sum_cons,List.length_cons]
     omega
   exact hh rs fun r hr=>(rok.ok r hr).2
  have hrl:=rok.ln
  refine ⟨_,rfl,_,rfl,_,_,rfl,hg,rfl,_,rfl,_,rfl,_,_,rfl,hgo,_,_,rs.map tx,rfl,rfl,SqL.of hls,by decide,by rw [sum_tx,List.length_map]; omega,rfl,_,rfl,?_⟩
  rw [c10,join_tx]
  refine iteN (by rw [decide_eq_true (show jn rs=V.str (tx (joinL [10] rs)) from rfl)]; rfl) ?_
  exact ⟨rfl,_,rfl⟩
 ·rintro σ ⟨v,rfl⟩
  refine ⟨_,rfl,p,_,rfl,.inl k1,fun pl hpl=>?_⟩
  have s2:=same_new hpl (.lst ((kvF jn D).map fun q=>kV q.1))
  have k2:upd H1 pl (.lst ((kvF jn D).map fun q=>kV q.1)) pl=some (.lst ((kvF jn D).map fun q=>kV q.1)):=upd_same
  have k12:=s2 _ _ k1
  generalize upd H1 pl (.lst ((kvF jn D).map fun q=>kV q.1))=H2 at s2 k2 k12 ⊢
  have npl:p≠pl:=fun z=>by rw [z,k2] at k12; cases k12
  have hkl:((kvF jn D).map fun q=>kV q.1).length=D.length:=by rw [List.length_map,len_kvF]
  refine ⟨_,rfl,⟨_,SqL.of k2⟩,for_list (K:=K) (a:=pl) (xs:=(kvF jn D).map fun q=>kV q.1) (fun i σ G=>Same H G∧G pl=some (.lst ((kvF jn D).map fun q=>kV q.1))∧∃ v kvs,σ=[some (.ref d),some (.ref o),some (.ref p),v]∧G p=some (.dK kvs)∧kvs.length≤20+i) ⟨s1.trans s2,k2,_,_,rfl,k12,by rw [len_kvF]; omega⟩ (fun i σ G _ z=>SqL.of z.2.1) ?_ ?_⟩
  ·rintro i y σ G hy ⟨sG,kG,v,kvs,rfl,kp,hkv⟩
   rw [List.getElem?_map] at hy
   obtain ⟨qq,hq,rfl⟩:=Option.map_eq_some_iff.mp hy
   have hi:i < D.length:=by have:=(List.getElem?_eq_some_iff.mp hq).1; rw [len_kvF] at this; exact this
   refine ⟨_,rfl,_,rfl,_,_,rfl,DPut.k (k:=qq.1) kp (small1000 (by omega)),?_⟩
   refine ⟨fun b u h=>?_,?_,_,_,rfl,upd_same,?_⟩
   ·rw [upd_ne (ne_of_none h hp)]; exact sG _ _ h
   ·rw [upd_ne (Ne.symm npl)]; exact kG
   ·have:=put_len kvs qq.1 (.str (PySem.Str.ofString "?")); omega
  ·rintro σ G ⟨sG,kG,v,kvs,rfl,kp,hkv⟩
   rw [hkl] at hkv
   refine ⟨_,rfl,_,_,rfl,DPut.k (k:=.inr (PySem.Str.ofString "zz")) kp (small1000 (by omega)),?_⟩
   exact q _ fun b u h=>by rw [upd_ne (ne_of_none h hp)]; exact sG _ _ h
theorem four_at {a b c d:Int} {n:Nat} (h:n < 4) : ∃ z,atI [V.int a,V.int b,V.int c,V.int d] (n:Int)=some (.int z):=by
 match n,h with
 | 0,_=>exact ⟨a,rfl⟩
 | 1,_=>exact ⟨b,rfl⟩
 | 2,_=>exact ⟨c,rfl⟩
 | 3,_=>exact ⟨d,rfl⟩
theorem two_sg {n:Nat} (h:n < 2) : ∃ z:Int,atI [V.int (-1),V.int 1] (n:Int)=some (.int z)∧-1≤z∧z≤1:=by
 match n,h with
 | 0,_=>exact ⟨-1,rfl,by decide,by decide⟩
 | 1,_=>exact ⟨1,rfl,by decide,by decide⟩
def sp_l_at (K:PySem.W.Frag) : Sp:=fun vs H Q _=>∃ (n many:Nat),vs=[.int (n:Int),.int (many:Int)]∧∀ (z:Int) (H':Hp),Same H H'→Q (.int z) H'
theorem sc_l_at:FnScope ["number","many"] ["number","many"] (defScope s_l_at):=⟨rfl,rfl,rfl,by decide +kernel,rfl,by decide +kernel,by decide +kernel⟩
theorem ok_l_at (T:Txt P w K mg a) : FnOk P w K mg base CX0 1 a.f_l_at a.fd_l_at ["number","many"] (sp_l_at K):=by
 refine T.d_l_at.fn.ok sc_l_at (fun vs H Q E h=>?_) (fun cdv A outer s H vs Q E hr h=>?_)
 ·obtain ⟨n,many,rfl,_⟩:=h
  rfl
 obtain ⟨n,many,rfl,q⟩:=h
 have hu:=Nat.lt_of_succ_lt (hu_of hr)
 refine ⟨_,(@pss_cons _ _ _ _ _ (@ps_if _ _ _ _ _ _ _ _ (pt_cmpR op_eq (pe_op op_mod (pv 0) pe_int) pe_int (nomark _)) (@pss_one _ _ _ (@ps_ret _ _ _ _ (@pe_ix _ _ _ _ _ _ _ ix_list (@pe_lst _ _ _ _ (@pa_cons _ _ _ _ _ (pe_un un_neg pe_int) (@pa_cons _ _ _ _ _ (pv 1) (@pa_cons _ _ _ _ _ (pe_op op_add (pv 1) pe_int) (@pa_cons _ _ _ _ _ (pe_op op_sub (pe_un un_neg pe_int) (pv 1)) pa_nil (by rfl)) (by rfl)) (by rfl)) (by rfl))) (pe_op op_mod (pe_op op_fdiv (pv 0) pe_int) pe_int) (fun _ _=>rfl)))) pss_nil)
   (@pss_cons _ _ _ _ _ (@ps_if _ _ _ _ _ _ _ _ (pt_cmpR op_eq (pe_op op_mod (pv 0) pe_int) pe_int (nomark _)) (@pss_one _ _ _ (@ps_ret _ _ _ _ (pe_op op_mul (@pe_ix _ _ _ _ _ _ _ ix_list (@pe_lst _ _ _ _ (@pa_cons _ _ _ _ _ (pe_un un_neg pe_int) (@pa_cons _ _ _ _ _ pe_int pa_nil (by rfl)) (by rfl))) (pe_op op_mod (pe_op op_fdiv (pv 0) pe_int) pe_int) (fun _ _=>rfl)) (pe_op op_add (pe_op op_mod (pe_op op_fdiv (pv 0) pe_int) (pe_op op_pow pe_int pe_int)) pe_int)))) pss_nil)
   (@pss_one _ _ _ (@ps_ret _ _ _ _ (pe_op op_mod (pe_op op_fdiv (pv 0) pe_int) (pe_op op_add (pv 1) pe_int)))))),?_⟩
 refine ⟨_,rfl,_,_,rfl,rfl,(by (first | decide | (show (0:Int) < _; first | decide | omega))),rfl,_,rfl,?_⟩
 refine ite2 (fun c=>?_) (fun c=>?_)
 ·refine ⟨_,rfl,_,rfl,_,rfl,_,_,rfl,rfl,_,rfl,_,rfl,_,_,rfl,rfl,small (by simp),fun p1 hp1=>?_⟩
  obtain ⟨z,ez⟩:=four_at (a:=-1) (b:=many) (c:=(many:Int)+1) (d:=-1 - (many:Int)) (n:=n / 7 % 4) (by omega)
  exact ⟨_,rfl,_,_,rfl,rfl,⟨by decide,by decide⟩,_,_,rfl,rfl,(by (first | decide | (show (0:Int) < _; first | decide | omega))),_,_,_,_,rfl,rfl,SqL.of upd_same,by rw [show (n:Int) / 7 % 4=((n / 7 % 4:Nat) : Int) by omega]; exact ez,q _ _ (same_new hp1 _)⟩
 dsimp only [tNext]
 refine ⟨_,rfl,_,_,rfl,rfl,(by (first | decide | (show (0:Int) < _; first | decide | omega))),rfl,_,rfl,?_⟩
 refine ite2 (fun c=>?_) (fun c=>?_)
 ·refine ⟨_,rfl,small (by simp),fun p2 hp2=>?_⟩
  obtain ⟨z,ez,z1,z2⟩:=two_sg (n:=n / 49 % 2) (by omega)
  have p12:(0:Int) < (10:Int) ^ (12:Int).toNat:=by decide +kernel
  exact ⟨_,rfl,_,_,rfl,rfl,⟨by decide,by decide⟩,_,_,rfl,rfl,(by (first | decide | (show (0:Int) < _; first | decide | omega))),_,_,_,_,rfl,rfl,SqL.of upd_same,by rw [show (n:Int) / 49 % 2=((n / 49 % 2:Nat) : Int) by omega]; exact ez,_,rfl,_,_,rfl,rfl,⟨by decide,by decide⟩,_,_,rfl,rfl,⟨by decide,by decide,by decide⟩,_,_,rfl,rfl,p12,_,_,rfl,rfl,_,_,rfl,rfl,.inl ⟨by omega,by omega⟩,q _ _ (same_new hp2 _)⟩
 ·dsimp only [tNext]
  exact ⟨_,rfl,_,_,rfl,rfl,⟨by decide,by decide⟩,_,rfl,_,_,rfl,rfl,_,_,rfl,rfl,(show (0:Int) < (many:Int)+1 by omega),q _ _ (Same.refl _)⟩
theorem nm10 (n:Nat) (h:n < 10) : ∃ l,atI [V.str (PySem.Str.ofString ""),V.str (PySem.Str.ofString "A"),V.str (PySem.Str.ofString "2b"),V.str (PySem.Str.ofString "toolongname12"),V.str (PySem.Str.ofString "a b"),V.str (PySem.Str.ofString "a-"),V.str (PySem.Str.ofString "maiN"),V.str (PySem.Str.ofString " main"),V.str (PySem.Str.ofString "main "),V.str (PySem.Str.ofString "_a")] (n:Int)=some (.str (tx l))∧NmOk l:=by
 match n,h with
 | 0,_=>exact ⟨[],congrArg (fun z=>some (V.str z)) (show (PySem.Str.ofString "")=tx [] by decide +kernel),⟨by decide,by decide⟩⟩
 | 1,_=>exact ⟨[65],congrArg (fun z=>some (V.str z)) (show (PySem.Str.ofString "A")=tx [65] by decide +kernel),⟨by decide,by decide⟩⟩
 | 2,_=>exact ⟨[50,98],congrArg (fun z=>some (V.str z)) (show (PySem.Str.ofString "2b")=tx [50,98] by decide +kernel),⟨by decide,by decide⟩⟩
 | 3,_=>exact ⟨[116,111,111,108,111,110,103,110,97,109,101,49,50],congrArg (fun z=>some (V.str z)) (show (PySem.Str.ofString "toolongname12")=tx [116,111,111,108,111,110,103,110,97,109,101,49,50] by decide +kernel),⟨by decide,by decide⟩⟩
 | 4,_=>exact ⟨[97,32,98],congrArg (fun z=>some (V.str z)) (show (PySem.Str.ofString "a b")=tx [97,32,98] by decide +kernel),⟨by decide,by decide⟩⟩
 | 5,_=>exact ⟨[97,45],congrArg (fun z=>some (V.str z)) (show (PySem.Str.ofString "a-")=tx [97,45] by decide +kernel),⟨by decide,by decide⟩⟩
 | 6,_=>exact ⟨[109,97,105,78],congrArg (fun z=>some (V.str z)) (show (PySem.Str.ofString "maiN")=tx [109,97,105,78] by decide +kernel),⟨by decide,by decide⟩⟩
 | 7,_=>exact ⟨[32,109,97,105,110],congrArg (fun z=>some (V.str z)) (show (PySem.Str.ofString " main")=tx [32,109,97,105,110] by decide +kernel),⟨by decide,by decide⟩⟩
 | 8,_=>exact ⟨[109,97,105,110,32],congrArg (fun z=>some (V.str z)) (show (PySem.Str.ofString "main ")=tx [109,97,105,110,32] by decide +kernel),⟨by decide,by decide⟩⟩
 | 9,_=>exact ⟨[95,97],congrArg (fun z=>some (V.str z)) (show (PySem.Str.ofString "_a")=tx [95,97] by decide +kernel),⟨by decide,by decide⟩⟩
theorem nm4 (n:Nat) (h:n < 4) : ∃ l,atI [V.str (PySem.Str.ofString "a"),V.str (PySem.Str.ofString "aa"),V.str (PySem.Str.ofString "b2"),V.str (PySem.Str.ofString "twelvesigns0")] (n:Int)=some (.str (tx l))∧NmOk l:=by
 match n,h with
 | 0,_=>exact ⟨[97],congrArg (fun z=>some (V.str z)) (show (PySem.Str.ofString "a")=tx [97] by decide +kernel),⟨by decide,by decide⟩⟩
 | 1,_=>exact ⟨[97,97],congrArg (fun z=>some (V.str z)) (show (PySem.Str.ofString "aa")=tx [97,97] by decide +kernel),⟨by decide,by decide⟩⟩
 | 2,_=>exact ⟨[98,50],congrArg (fun z=>some (V.str z)) (show (PySem.Str.ofString "b2")=tx [98,50] by decide +kernel),⟨by decide,by decide⟩⟩
 | 3,_=>exact ⟨[116,119,101,108,118,101,115,105,103,110,115,48],congrArg (fun z=>some (V.str z)) (show (PySem.Str.ofString "twelvesigns0")=tx [116,119,101,108,118,101,115,105,103,110,115,48] by decide +kernel),⟨by decide,by decide⟩⟩
theorem p22:∀ j:Nat,j < 22→(((PySem.Str.ofString "p")++(toString ((j:Nat) : Int) : Str)).cps.toList.length≤1000∧∀ c ∈ ((PySem.Str.ofString "p")++(toString ((j:Nat) : Int) : Str)).cps.toList,c < 127):=by decide +kernel
def sp_l_name (K:PySem.W.Frag) : Sp:=fun vs H Q _=>∃ (n:Nat) (pk:Addr) (ss:List (List Nat)),vs=[.int (n:Int),.ref pk]∧H pk=some (.lst ((ss.map tx).map V.str))∧ss.length≤100∧(∀ s ∈ ss,NmOk s)∧∀ (l:List Nat) (H':Hp),Same H H'→NmOk l→Q (.str (tx l)) H'
theorem sc_l_name:FnScope ["number","known","kind"] ["number","known"] (defScope s_l_name):=⟨rfl,rfl,rfl,by decide +kernel,rfl,by decide +kernel,by decide +kernel⟩
theorem ok_l_name (T:Txt P w K mg a) : FnOk P w K mg base CX0 1 a.f_l_name a.fd_l_name ["number","known"] (sp_l_name K):=by
 have z_len:=T.z_len
 have z_str:=T.z_str
 refine T.d_l_name.fn.ok sc_l_name (fun vs H Q E h=>?_) (fun cdv A outer s H vs Q E hr h=>?_)
 ·obtain ⟨n,pk,ss,rfl,_⟩:=h
  rfl
 obtain ⟨n,pk,ss,rfl,hpk,hsl,hss,q⟩:=h
 have hu:=Nat.lt_of_succ_lt (hu_of hr)
 refine ⟨_,(@pss_cons _ _ _ _ _ (ps_set (i:=2) sc_l_name.nd rfl (Or.inl rfl) (pe_op op_mod (pv 0) pe_int))
   (@pss_cons _ _ _ _ _ (ps_set (i:=0) sc_l_name.nd rfl (Or.inl rfl) (pe_op op_fdiv (pv 0) pe_int))
   (@pss_cons _ _ _ _ _ (@ps_if _ _ _ _ _ _ _ _ (PW.pt (pw_and (pt_cmpR op_lt (pv 2) pe_int (nomark _)) (pw_and1 (pt_cmpR (op_neNil hu) (pv 1) (@pe_lst _ _ _ _ pa_nil) (nomark _))))) (@pss_one _ _ _ (@ps_ret _ _ _ _ (@pe_ix _ _ _ _ _ _ _ ix_list (pv 1) (pe_op op_mod (pv 0) (pe_callB call_len_seq rfl z_len PySem.boot_len (@pa_cons _ _ _ _ _ (pv 1) pa_nil (by rfl)))) (fun _ _=>rfl)))) pss_nil)
   (@pss_cons _ _ _ _ _ (@ps_if _ _ _ _ _ _ _ _ (pt_cmpR op_lt (pv 2) pe_int (nomark _)) (@pss_one _ _ _ (@ps_ret _ _ _ _ pe_str)) pss_nil)
   (@pss_cons _ _ _ _ _ (@ps_if _ _ _ _ _ _ _ _ (pt_cmpR op_eq (pv 2) pe_int (nomark _)) (@pss_one _ _ _ (@ps_ret _ _ _ _ (@pe_ix _ _ _ _ _ _ _ ix_list (@pe_lst _ _ _ _ (@pa_cl _ _ _ (CL.str (CL.str (CL.str (CL.str (CL.str (CL.str (CL.str (CL.str (CL.str (CL.str CL.nil)))))))))))) (pe_op op_mod (pv 0) pe_int) (fun _ _=>rfl)))) pss_nil)
   (@pss_cons _ _ _ _ _ (@ps_if _ _ _ _ _ _ _ _ (pt_cmpR op_eq (pv 2) pe_int (nomark _)) (@pss_one _ _ _ (@ps_ret _ _ _ _ (@pe_ix _ _ _ _ _ _ _ ix_list (@pe_lst _ _ _ _ (@pa_cons _ _ _ _ _ pe_str (@pa_cons _ _ _ _ _ pe_str (@pa_cons _ _ _ _ _ pe_str (@pa_cons _ _ _ _ _ pe_str pa_nil (by rfl)) (by rfl)) (by rfl)) (by rfl))) (pe_op op_mod (pv 0) pe_int) (fun _ _=>rfl)))) pss_nil)
   (@pss_one _ _ _ (@ps_ret _ _ _ _ (pe_op op_add_str pe_str (pe_callTy call_str_int rfl z_str PyProof.Rows.boot_str (@pa_cons _ _ _ _ _ (pe_op op_mod (pv 0) pe_int) pa_nil (by rfl)))))))))))),?_⟩
 refine ⟨_,rfl,_,_,rfl,rfl,(by (first | decide | (show (0:Int) < _; first | decide | omega))),?_⟩
 refine ⟨_,rfl,_,_,rfl,rfl,⟨by decide,by decide⟩,?_⟩
 dsimp only [gName]
 refine cut_seq (fun σ' H'=>σ' = [some (.int ((n:Int) / 9)),some (.ref pk),some (.int ((n:Int) % 9))]∧Same H H') ?rest (fun key=>?_)
 case rest =>
  rintro σ' H1 ⟨rfl,s1⟩
  refine ⟨_,rfl,_,_,rfl,rfl,_,rfl,?_⟩
  refine ite2 (fun c=>?_) (fun c=>?_)
  ·rw [show tRet (tC (V.str (PySem.Str.ofString "main")))=tRet (tC (V.str (tx nMain))) by rw [cMain]]
   exact q nMain _ s1 nm_main
  dsimp only [tNext]
  refine ⟨_,rfl,rfl,_,rfl,?_⟩
  refine ite2 (fun c=>?_) (fun c=>?_)
  ·refine ⟨small (by simp),fun p2 hp2=>?_⟩
   obtain ⟨l,el,hl⟩:=nm10 (n / 9 % 10) (by omega)
   exact ⟨_,rfl,_,_,rfl,rfl,(by (first | decide | (show (0:Int) < _; first | decide | omega))),_,_,_,_,rfl,rfl,SqL.of upd_same,by rw [show (n:Int) / 9 % 10=((n / 9 % 10:Nat) : Int) by omega]; exact el,q l _ (s1.trans (same_new hp2 _)) hl⟩
  dsimp only [tNext]
  refine ⟨_,rfl,rfl,_,rfl,?_⟩
  refine ite2 (fun c=>?_) (fun c=>?_)
  ·refine ⟨small (by simp),fun p3 hp3=>?_⟩
   obtain ⟨l,el,hl⟩:=nm4 (n / 9 % 4) (by omega)
   exact ⟨_,rfl,_,_,rfl,rfl,(by (first | decide | (show (0:Int) < _; first | decide | omega))),_,_,_,_,rfl,rfl,SqL.of upd_same,by rw [show (n:Int) / 9 % 4=((n / 9 % 4:Nat) : Int) by omega]; exact el,q l _ (s1.trans (same_new hp3 _)) hl⟩
  dsimp only [tNext]
  have e22:(n:Int) / 9 % 22=((n / 9 % 22:Nat) : Int):=by omega
  have hp:=p22 (n / 9 % 22) (by omega)
  refine ⟨_,rfl,_,_,rfl,rfl,(by (first | decide | (show (0:Int) < _; first | decide | omega))),_,rfl,by rw [e22]; exact (show ∀ j:Nat,j < 22→((j:Int)).natAbs.log2 < 1920 by decide +kernel) _ (by omega),_,_,rfl,rfl,by rw [e22]; exact small ((show ∀ j:Nat,j < 22→(PySem.Str.ofString "p").length+(toString ((j:Nat) : Int) : Str).length≤1000 by decide +kernel) _ (by omega)),?_⟩
  dsimp only
  rw [e22,← tx_of ((PySem.Str.ofString "p")++(toString ((n / 9 % 22:Nat) : Int) : Str))]
  exact q _ _ s1 ⟨hp.1,hp.2⟩
 ·have rest:∀ H1,Same H H1→_:=fun H1 s1=>key _ H1 ⟨rfl,s1⟩
  refine ⟨_,rfl,_,_,rfl,rfl,_,rfl,?_⟩
  refine ite2 (fun c=>?_) (fun c=>?_)
  ·refine ⟨_,rfl,small (by simp),fun p1 hp1=>?_⟩
   have s1:=same_new hp1 (.lst [])
   refine ⟨_,_,_,rfl,rfl,SqL.of (s1 _ _ hpk),SqL.of upd_same,_,rfl,?_⟩
   cases hs:ss with
   | nil =>
    refine iteF ?_
    dsimp only [tNext]
    exact rest _ s1
   | cons x r =>
    refine iteT ?_
    have hln:((ss.map tx).map V.str).length=ss.length:=by rw [List.length_map,List.length_map]
    have h0:0 < ss.length:=by rw [hs]; simp
    obtain ⟨j,hj,hj2⟩ : ∃ j:Nat,(n:Int) / 9 % (ss.length:Int)=(j:Int)∧j < ss.length:=⟨((n:Int) / 9 % (ss.length:Int)).toNat,by have:=Int.emod_nonneg ((n:Int) / 9) (show (ss.length:Int)≠0 by omega); omega,by have:=Int.emod_nonneg ((n:Int) / 9) (show (ss.length:Int)≠0 by omega); have:=Int.emod_lt_of_pos ((n:Int) / 9) (show (0:Int) < ss.length by omega); omega⟩
    refine ⟨_,rfl,_,rfl,_,rfl,_,_,rfl,.inl (SqL.of (s1 _ _ hpk)),_,_,rfl,rfl,(by rw [hln]; show (0:Int) < _; omega),_,_,_,_,rfl,rfl,SqL.of (s1 _ _ hpk),?_,q ss[j] _ s1 (hss _ (List.getElem_mem hj2))⟩
    rw [hln,hj]
    refine atI_nat ?_
    rw [List.getElem?_map,List.getElem?_map,List.getElem?_eq_getElem hj2]
    rfl
  ·dsimp only [tNext]
   exact rest _ (Same.refl _)
def sp_l_signs:Sp:=fun vs H Q _=>∃ n size:Int,vs=[.int n,.int size]∧0≤size∧size≤400∧∀ (l:List Nat) (H':Hp),Same H H'→rowOk l→(∀ c ∈ l,c < 127)→Q (.str (tx l)) H'
theorem sc_l_signs:FnScope ["number","size","some","step"] ["number","size"] (defScope s_l_signs):=⟨rfl,rfl,rfl,by decide +kernel,rfl,by decide +kernel,by decide +kernel⟩
theorem ok_l_signs (T:Txt P w K mg a) : FnOk P w K mg base CX0 1 a.f_l_signs a.fd_l_signs ["number","size"] sp_l_signs:=by
 have z_range:=T.z_range
 refine T.d_l_signs.fn.ok sc_l_signs (fun vs H Q E h=>?_) (fun cdv A outer s H vs Q E hr h=>?_)
 ·obtain ⟨n,size,rfl,_⟩:=h
  rfl
 obtain ⟨n,size,rfl,z1,z2,q⟩:=h
 have hu:=Nat.lt_of_succ_lt (hu_of hr)
 refine ⟨_,(pss_cons (ps_set (i:=2) sc_l_signs.nd rfl (Or.inr rfl) pe_str)
   (pss_cons (ps_set (i:=2) sc_l_signs.nd rfl (Or.inr rfl) (pe_op op_add_str (pv 2) pe_str))
   (pss_cons (ps_set (i:=3) sc_l_signs.nd rfl (Or.inr rfl) (pe_op op_add pe_int (pe_op op_mod (pe_op op_fdiv (pv 0) pe_int) pe_int)))
   (pss_one (ps_ret (pe_bm PySem.F.plainAttrs_str PySem.F.slot_str_join PySem.F.type_str_join mt_join pe_str (pa_cons (pe_lc rfl (lcok (caps:=["number","some","step"]) (js:=[0,2,3]) (cap:=⟨⟨rfl,.inl rfl,rfl,.inl rfl⟩,⟨⟨rfl,.inl rfl,rfl,.inl rfl⟩,⟨⟨rfl,.inl rfl,rfl,.inl rfl⟩,trivial⟩⟩⟩)) (pi_range1 rfl z_range (pa_cons (pv 1) pa_nil)) (fun _ _ _ _=>pts_nil) (fun _ _ _ _=>(pe_ix ix_str (pv 2) (pe_op op_mod (pe_op op_add (pv 1) (pe_op op_mul (pv 0) (pv 3))) pe_int) (fun _ _=>rfl)))) pa_nil))))))),?_⟩
 refine ⟨_,rfl,_,_,rfl,rfl,small lsome94,?_⟩
 rw [csome94]
 refine ⟨_,rfl,_,_,rfl,rfl,⟨by decide,by decide⟩,_,_,rfl,rfl,(by (first | decide | (show (0:Int) < _; first | decide | omega))),_,_,rfl,rfl,?_⟩
 have b1:=Int.emod_nonneg (n / 94) (show (93:Int)≠0 by decide)
 have b2:=Int.emod_lt_of_pos (n / 94) (show (0:Int) < 93 by decide)
 obtain ⟨k,hk⟩:=Int.eq_ofNat_of_zero_le (show 0≤size by omega)
 subst hk
 refine ⟨rfl,_,rfl,_,rfl,(by omega),(by omega),lc_range (fun i ys H'=>H' = H∧∃ cs:List Nat,cs.length=i∧(∀ d ∈ cs,32≤d∧d < 127)∧ys=cs.map fun d=>V.str (tx [d])) ⟨rfl,[],rfl,by simp,rfl⟩ ?_ ?_ ?_⟩
 ·rintro i ys H' hi ⟨_,cs,hl,_,rfl⟩
  rw [List.length_map,hl]
  exact Nat.lt_of_lt_of_le (show i < 1000 by simp at hi; omega) (small (Nat.le_refl _))
 ·rintro i ys H' hi ⟨rfl,cs,hl,hd,rfl⟩
  refine yes_go ?_
  have hi':i < 400:=by simp at hi; omega
  obtain ⟨c,ec,hc⟩:=at_s94 (n+(0+(i:Int)) * (1+n / 94 % 93))
  refine ⟨_,rfl,_,rfl,_,rfl,_,rfl,_,_,rfl,rfl,.inl ⟨by omega,by omega⟩,_,_,rfl,rfl,_,_,rfl,rfl,(by (first | decide | (show (0:Int) < _; first | decide | omega))),_,_,_,rfl,rfl,small (by rw [tx_len]; decide +kernel),ec,rfl,cs++[c],by simp [hl],?_,by simp⟩
  intro e he
  rcases List.mem_append.mp he with he | he
  ·exact hd e he
  ·rw [List.mem_singleton.mp he]; exact hc
 ·rintro ys H' ⟨rfl,cs,hl,hd,rfl⟩ p hp
  have hl':cs.length=k:=by rw [hl]; simp
  have g1:Same H' (upd H' p (.lst (cs.map fun d=>V.str (tx [d])))):=same_new hp _
  refine ⟨_,p,cs.map (fun d=>tx [d]),rfl,rfl,SqL.of (by rw [upd_same,List.map_map]; rfl),by decide,by rw [sum_one,List.length_map]; omega,?_⟩
  have ej:Txt.join (PySem.Str.ofString "") (cs.map fun d=>tx [d])=tx cs:=by
   have:=join_tx [] (cs.map fun d=>[d])
   rw [List.map_map,join_one] at this
   rw [cE]
   exact this
  rw [ej]
  exact q _ _ g1 ⟨fun z=>by have:=hd 10 z; omega,by omega⟩ fun c hc=>(hd c hc).2
def sp_l_row:Sp:=fun vs H Q _=>∃ n:Nat,vs=[.int (n:Int)]∧∀ (l:List Nat) (H':Hp),Same H H'→rowOk l→(∀ c ∈ l,c < 127)→Q (.str (tx l)) H'
theorem sc_l_row:FnScope ["number","size"] ["number"] (defScope s_l_row):=⟨rfl,rfl,rfl,by decide +kernel,rfl,by decide +kernel,by decide +kernel⟩
theorem ok_l_row (T:Txt P w K mg a) : FnOk P w K mg base CX0 2 a.f_l_row a.fd_l_row ["number"] sp_l_row:=by
 have g_l_signs:=ok_l_signs (P:=P) (w:=w) (base:=base) T
 have d_l_signs:=T.d_l_signs
 refine T.d_l_row.fn.ok sc_l_row (fun vs H Q E h=>?_) (fun cdv A outer s H vs Q E hr h=>?_)
 ·obtain ⟨n,rfl,_⟩:=h
  rfl
 obtain ⟨n,rfl,q⟩:=h
 have hu:=Nat.lt_of_succ_lt (hu_of hr)
 refine ⟨_,(pss_cons (ps_set (i:=1) sc_l_row.nd rfl (Or.inl rfl) (pe_op op_mod (pv 0) pe_int))
   (pss_cons (ps_if (pt_cmpR op_eq (pe_op op_mod (pe_op op_fdiv (pv 0) pe_int) pe_int) pe_int (nomark _)) (pss_one (ps_set (i:=1) sc_l_row.nd rfl (Or.inl rfl) (pe_op op_sub pe_int (pe_op op_mod (pe_op op_fdiv (pv 0) pe_int) pe_int)))) pss_nil)
   (pss_one (ps_ret (pe_callD d_l_signs g_l_signs (hr.mono (by decide)) rfl (pa_cons (pe_op op_fdiv (pv 0) pe_int) (pa_cons (pv 1) pa_nil))))))),?_⟩
 refine ⟨_,rfl,_,_,rfl,rfl,(by (first | decide | (show (0:Int) < _; first | decide | omega))),?_⟩
 dsimp only [gName]
 refine cut_seq (fun σ' H'=>H' = H∧∃ z:Int,0≤z∧z≤400∧σ' = [some (.int (n:Int)),some (.int z)]) ?_ (fun key=>?_)
 ·rintro σ' H' ⟨eH,z,z1,z2,rfl⟩
  rw [eH]
  exact ⟨_,rfl,_,_,rfl,rfl,⟨by decide,by decide⟩,_,rfl,_,_,rfl,z1,z2,fun l H1 s1 h1 h2=>q l H1 s1 h1 h2⟩
 ·refine ⟨_,rfl,_,_,rfl,rfl,⟨by decide,by decide⟩,_,_,rfl,rfl,(by (first | decide | (show (0:Int) < _; first | decide | omega))),rfl,_,rfl,?_⟩
  refine ite2 (fun c=>?_) (fun c=>?_)
  ·refine ⟨_,rfl,_,_,rfl,rfl,⟨by decide,by decide⟩,_,_,rfl,rfl,(by (first | decide | (show (0:Int) < _; first | decide | omega))),_,_,rfl,rfl,?_⟩
   exact key _ _ ⟨rfl,_,(by omega),(by omega),rfl⟩
  ·exact key _ _ ⟨rfl,_,(by omega),(by omega),rfl⟩
theorem reps_a (k:Nat) : (List.replicate k [V.str (PySem.Str.ofString "a")]).flatten=((List.replicate k [97]).map tx).map V.str:=by
 rw [cA]
 induction k with
 | zero=>rfl
 | succ k ih=>rw [List.replicate_succ,List.flatten_cons,ih,List.replicate_succ]; rfl
def sp_l_text (K:PySem.W.Frag) : Sp:=fun vs H Q _=>∃ n:Nat,vs=[.int (n:Int)]∧∀ (l:List Nat) (H':Hp),Same H H'→RwOk (splitL 10 l)→l.length≤100000→Q (.str (tx l)) H'
theorem sc_l_text:FnScope ["number","many","rows"] ["number"] (defScope s_l_text):=⟨rfl,rfl,rfl,by decide +kernel,rfl,by decide +kernel,by decide +kernel⟩
theorem ok_l_text (T:Txt P w K mg a) : FnOk P w K mg base CX0 3 a.f_l_text a.fd_l_text ["number"] (sp_l_text K):=by
 have g_l_mixed:=ok_l_mixed (P:=P) (w:=w) (base:=base) T
 have d_l_mixed:=T.d_l_mixed
 have g_l_row:=ok_l_row (P:=P) (w:=w) (base:=base) T
 have d_l_row:=T.d_l_row
 have z_len:=T.z_len
 have z_min:=T.z_min
 have z_range:=T.z_range
 refine T.d_l_text.fn.ok sc_l_text (fun vs H Q E h=>?_) (fun cdv A outer s H vs Q E hr h=>?_)
 ·obtain ⟨n,rfl,_⟩:=h
  rfl
 obtain ⟨n,rfl,q⟩:=h
 have hu:=Nat.lt_of_succ_lt (hu_of hr)
 refine ⟨_,(pss_cons (ps_set (i:=1) sc_l_text.nd rfl (Or.inl rfl) (pe_op op_add pe_int (pe_op op_mod (pv 0) pe_int)))
   (pss_cons (ps_if (pt_cmpR op_eq (pe_op op_mod (pe_op op_fdiv (pv 0) pe_int) pe_int) pe_int (nomark _)) (pss_one (ps_set (i:=1) sc_l_text.nd rfl (Or.inl rfl) (pe_op op_add pe_int (pe_op op_mod (pv 0) pe_int)))) pss_nil)
   (pss_cons (ps_lc (k:=2) rfl (lcok (caps:=["number"]) (js:=[0]) (cap:=⟨⟨rfl,.inl rfl,rfl,.inl rfl⟩,trivial⟩)) (pi_range1 rfl z_range (pa_cons (pe_callB (call_min2 rfl) rfl z_min PyProof.Rows.boot_min (pa_cons (pv 1) (pa_cons pe_int pa_nil))) pa_nil)) (fun _ _ _ _=>pts_nil) (fun _ _ _ _=>(pe_callD d_l_row g_l_row (hr.mono (by decide)) rfl (pa_cons (pe_callD d_l_mixed g_l_mixed (hr.mono (by decide)) rfl (pa_cons (pe_op op_mul (pe_op op_fdiv (pv 1) pe_int) (pe_op op_add (pe_op op_add (pe_op op_mul (pv 0) (pv 0)) (pe_op op_mul pe_int (pv 0))) pe_int)) pa_nil)) pa_nil))) sc_l_text.nd rfl rfl)
   (pss_one (ps_ret (pe_bm PySem.F.plainAttrs_str PySem.F.slot_str_join PySem.F.type_str_join mt_join pe_str (pa_cons (pe_op op_cat (pv 2) (pe_op op_rep (pe_lst (pa_cons pe_str pa_nil)) (pe_op op_sub (pv 1) (pe_callB call_len_seq rfl z_len PySem.boot_len (pa_cons (pv 2) pa_nil))))) pa_nil))))))),?_⟩
 refine ⟨_,rfl,_,_,rfl,rfl,(by (first | decide | (show (0:Int) < _; first | decide | omega))),_,_,rfl,rfl,?_⟩
 dsimp only [gName]
 refine cut_seq (fun σ' H'=>H' = H∧∃ z:Nat,1≤z∧z≤200∧σ' = [some (.int (n:Int)),some (.int (z:Int)),none]) ?_ (fun key=>?_)
 ·rintro σ' H' ⟨eH,z,z1,z2,rfl⟩
  rw [eH]
  refine ⟨_,rfl,_,_,rfl,_,rfl,(by omega),(by omega),lc_range (fun i ys H2=>Same H H2∧∃ ps:List (List Nat),ps.length=i∧(∀ p ∈ ps,rowOk p)∧ys=(ps.map tx).map V.str) ⟨Same.refl _,[],rfl,by simp,rfl⟩ ?_ ?_ ?_⟩
  ·rintro i ys H2 hi ⟨_,ps,hl,_,rfl⟩
   rw [List.length_map,List.length_map,hl]
   exact small1000 (by omega)
  ·rintro i ys H2 hi ⟨s2,ps,hl,hps,rfl⟩
   refine yes_go ?_
   have hi3:i < 3:=by omega
   have hq:∃ w:Int,(0+(i:Int)) * (0+(i:Int))=w∧0≤w∧w≤4:=by
    match i,hi3 with
    | 0,_=>exact ⟨0,rfl,by decide,by decide⟩
    | 1,_=>exact ⟨1,rfl,by decide,by decide⟩
    | 2,_=>exact ⟨4,rfl,by decide,by decide⟩
   obtain ⟨w,hw,w0,w4⟩:=hq
   refine ⟨_,rfl,_,_,rfl,rfl,⟨by decide,by decide⟩,_,rfl,_,rfl,_,_,rfl,rfl,.inl ⟨by omega,by omega⟩,_,rfl,_,_,rfl,rfl,.inl ⟨by decide,by decide⟩,_,_,rfl,rfl,_,_,rfl,rfl,_,_,rfl,rfl,.inr ⟨?_,?_⟩,_,rfl,?_⟩
   ·rw [hw]; omega
   ·rw [hw]; omega
   have hm:=mixed_in ((n:Int) / 24 * ((0+(i:Int)) * (0+(i:Int))+3 * (0+(i:Int))+3))
   refine ⟨(mixed ((n:Int) / 24 * ((0+(i:Int)) * (0+(i:Int))+3 * (0+(i:Int))+3))).toNat,?_,fun l H3 s3 h1 h2=>?_⟩
   ·rw [Int.toNat_of_nonneg hm.1]; rfl
   ·refine ⟨s2.trans s3,ps++[l],by simp [hl],fun p hp=>?_,by simp⟩
    rcases List.mem_append.mp hp with hp | hp
    ·exact hps p hp
    ·rw [List.mem_singleton.mp hp]; exact h1
  rintro ys H2 ⟨s2,ps,hl,hps,rfl⟩ pr hpr
  have s3:=same_new hpr (.lst ((ps.map tx).map V.str))
  have k3:upd H2 pr (.lst ((ps.map tx).map V.str)) pr=some (.lst ((ps.map tx).map V.str)):=upd_same
  generalize upd H2 pr (.lst ((ps.map tx).map V.str))=H3 at s3 k3 ⊢
  refine ⟨rfl,_,rfl,le1,fun p1 hp1=>?_⟩
  have s4:=same_new hp1 (.lst [V.str (PySem.Str.ofString "a")])
  have k4:upd H3 p1 (.lst [V.str (PySem.Str.ofString "a")]) p1=some (.lst [V.str (PySem.Str.ofString "a")]):=upd_same
  have k34:=s4 _ _ k3
  generalize upd H3 p1 (.lst [V.str (PySem.Str.ofString "a")])=H4 at s4 k4 k34 ⊢
  have hln:((ps.map tx).map V.str).length=ps.length:=by rw [List.length_map,List.length_map]
  have hl3:ps.length≤3:=by omega
  have hlz:ps.length≤z:=by omega
  refine ⟨_,rfl,_,rfl,_,_,rfl,.inl (SqL.of k34),_,_,rfl,rfl,_,_,_,rfl,rfl,k4,(by rw [hln]; omega),(by rw [hln]; omega),(by rw [hln]; exact small (by show 1 * _≤1000; omega)),fun p2 hp2=>?_⟩
  rw [reps_a,hln]
  obtain ⟨j,hj⟩ : ∃ j,((z:Int) - (ps.length:Int)).toNat=j:=⟨_,rfl⟩
  rw [hj]
  have s5:=same_new hp2 (.lst (((List.replicate j [97]).map tx).map V.str))
  have k5:upd H4 p2 (.lst (((List.replicate j [97]).map tx).map V.str)) p2=some (.lst (((List.replicate j [97]).map tx).map V.str)):=upd_same
  have k35:=s5 _ _ k34
  generalize upd H4 p2 (.lst (((List.replicate j [97]).map tx).map V.str))=H5 at s5 k5 k35 ⊢
  refine ⟨_,_,_,_,rfl,rfl,k35,k5,small (by simp only [List.length_map,List.length_replicate]; omega),fun p3 hp3=>?_⟩
  rw [show ((ps.map tx).map V.str++((List.replicate j [97]).map tx).map V.str)=((ps++List.replicate j [97]).map tx).map V.str by simp]
  have hall:∀ p ∈ ps++List.replicate j [97],rowOk p:=fun p hp=>by
   rcases List.mem_append.mp hp with hp | hp
   ·exact hps p hp
   ·rw [(List.mem_replicate.mp hp).2]; exact ⟨by decide,by decide⟩
  have hlen:(ps++List.replicate j [97]).length=z:=by rw [List.length_append,List.length_replicate]; omega
  generalize ps++List.replicate j [97]=qs at hall hlen
  have s6:=same_new hp3 (.lst ((qs.map tx).map V.str))
  have k6:upd H5 p3 (.lst ((qs.map tx).map V.str)) p3=some (.lst ((qs.map tx).map V.str)):=upd_same
  generalize upd H5 p3 (.lst ((qs.map tx).map V.str))=H6 at s6 k6 ⊢
  have hsum:(qs.map (·.length)).sum≤401 * qs.length:=by
   clear hlen k6
   induction qs with
   | nil=>simp
   | cons x r ih =>
    have h1:=(hall x List.mem_cons_self).2
    have h2:=ih fun p hp=>hall p (List.mem_cons_of_mem _ hp)
    rw [List.map_cons,List.sum_cons,List.length_cons]
    omega
  refine ⟨_,_,_,rfl,rfl,SqL.of k6,by decide,by rw [sum_tx,List.length_map]; omega,?_⟩
  rw [c10,join_tx]
  have ne:qs≠[]:=fun e=>by rw [e] at hlen; simp at hlen; omega
  have hsp:=splitL_join 10 qs ne fun p hp=>(hall p hp).1
  refine q _ _ (s2.trans (s3.trans (s4.trans (s5.trans s6)))) (by rw [hsp]; exact ⟨ne,by omega,hall⟩) ?_
  have:=join_le qs fun p hp=>(hall p hp).2
  omega
 ·refine ⟨_,rfl,_,_,rfl,rfl,⟨by decide,by decide⟩,_,_,rfl,rfl,(by (first | decide | (show (0:Int) < _; first | decide | omega))),rfl,_,rfl,?_⟩
  refine ite2 (fun c=>?_) (fun c=>?_)
  ·refine ⟨_,rfl,_,_,rfl,rfl,(by (first | decide | (show (0:Int) < _; first | decide | omega))),_,_,rfl,rfl,?_⟩
   exact key _ _ ⟨rfl,198+n % 3,(by omega),(by omega),by (try dsimp only); rw [show (198:Int)+(n:Int) % 3=((198+n % 3:Nat) : Int) by omega]; rfl⟩
  ·exact key _ _ ⟨rfl,1+n % 3,(by omega),(by omega),by (try dsimp only); rw [show (1:Int)+(n:Int) % 3=((1+n % 3:Nat) : Int) by omega]; rfl⟩
theorem kd8 (n:Nat) (h:n < 8) : ∃ k,atI [V.str (PySem.Str.ofString "put"),V.str (PySem.Str.ofString "put"),V.str (PySem.Str.ofString "row"),V.str (PySem.Str.ofString "row"),V.str (PySem.Str.ofString "row"),V.str (PySem.Str.ofString "cut"),V.str (PySem.Str.ofString "cut"),V.str (PySem.Str.ofString "drop")] (n:Int)=some (.str (kn k))∧k < 4:=by
 match n,h with
 | 0,_=>exact ⟨0,rfl,by decide⟩
 | 1,_=>exact ⟨0,rfl,by decide⟩
 | 2,_=>exact ⟨2,rfl,by decide⟩
 | 3,_=>exact ⟨2,rfl,by decide⟩
 | 4,_=>exact ⟨2,rfl,by decide⟩
 | 5,_=>exact ⟨3,rfl,by decide⟩
 | 6,_=>exact ⟨3,rfl,by decide⟩
 | 7,_=>exact ⟨1,rfl,by decide⟩
def sp_l_deed (K:PySem.W.Frag) : Sp:=fun vs H Q _=>∃ (c:Int) (o:Addr) (D:PD),vs=[.int c,.ref o]∧OwnA H o D∧DOk D∧∀ H' p d,Same H H'→H' p=some (.tup (dV d))→DeedOk d→Q (.ref p) H'
theorem sc_l_deed:FnScope ["cell","own","number","kind","name","many","text"] ["cell","own"] (defScope s_l_deed):=⟨rfl,rfl,rfl,by decide +kernel,rfl,by decide +kernel,by decide +kernel⟩
theorem ok_l_deed (T:Txt P w K mg a) : FnOk P w K mg base CX0 4 a.f_l_deed a.fd_l_deed ["cell","own"] (sp_l_deed K):=by
 have g_l_at:=ok_l_at (P:=P) (w:=w) (base:=base) T
 have d_l_at:=T.d_l_at
 have g_l_mixed:=ok_l_mixed (P:=P) (w:=w) (base:=base) T
 have d_l_mixed:=T.d_l_mixed
 have g_l_name:=ok_l_name (P:=P) (w:=w) (base:=base) T
 have d_l_name:=T.d_l_name
 have g_l_row:=ok_l_row (P:=P) (w:=w) (base:=base) T
 have d_l_row:=T.d_l_row
 have g_l_text:=ok_l_text (P:=P) (w:=w) (base:=base) T
 have d_l_text:=T.d_l_text
 have z_len:=T.z_len
 have z_sorted:=T.z_sorted
 refine T.d_l_deed.fn.ok sc_l_deed (fun vs H Q E h=>?_) (fun cdv A outer s H vs Q E hr h=>?_)
 ·obtain ⟨c,o,D,rfl,_⟩:=h
  rfl
 obtain ⟨c,o,D,rfl,⟨A,eA,ow⟩,dok,q⟩:=h
 have hu:=Nat.lt_of_succ_lt (hu_of hr)
 refine ⟨_,(@pss_cons _ _ _ _ _ (ps_set (i:=2) sc_l_deed.nd rfl (Or.inl rfl) (pe_callD d_l_mixed g_l_mixed (hr.mono (by decide)) rfl (pa_cons (pv 0) pa_nil)))
   (@pss_cons _ _ _ _ _ (@ps_pick _ 3 _ _ _ _ _ _ _ _ _ sc_l_deed.nd rfl (Or.inl rfl) (CL.str (CL.str (CL.str (CL.str (CL.str (CL.str (CL.str (CL.str CL.nil)))))))) (pe_op op_mod (pv 2) pe_int) (fun _ _=>rfl) (by first | exact .inl rfl | exact .inr rfl))
   (@pss_cons _ _ _ _ _ (ps_set (i:=4) sc_l_deed.nd rfl (Or.inl rfl) (pe_callD d_l_name g_l_name (hr.mono (by decide)) rfl (pa_cons (pe_op op_fdiv (pv 2) pe_int) (pa_cons (pe_callB (call_sorted_dict rfl) rfl z_sorted PyProof.Rows.boot_sorted (pa_cons (pv 1) pa_nil)) pa_nil))))
   (@pss_cons _ _ _ _ _ (ps_set (i:=2) sc_l_deed.nd rfl (Or.inl rfl) (pe_op op_fdiv (pv 2) pe_int))
   (@pss_cons _ _ _ _ _ (ps_set (i:=5) sc_l_deed.nd rfl (Or.inl rfl) (pe_callB call_len_seq rfl z_len PySem.boot_len (pa_cons (pe_dget2 (hu_of hr) (pv 1) (pv 4) (pe_lst pa_nil) ⟨rfl,rfl,rfl,rfl⟩) pa_nil)))
   (@pss_cons _ _ _ _ _ (ps_set (i:=6) sc_l_deed.nd rfl (Or.inl rfl) (pe_callD d_l_row g_l_row (hr.mono (by decide)) rfl (pa_cons (pe_op op_fdiv (pv 2) pe_int) pa_nil)))
   (@pss_cons _ _ _ _ _ (ps_if (pt_cmpR op_eq (pv 3) pe_str (nomark _)) (pss_one (ps_set (i:=6) sc_l_deed.nd rfl (Or.inl rfl) (pe_callD d_l_text g_l_text (hr.mono (by decide)) rfl (pa_cons (pe_op op_fdiv (pv 2) pe_int) pa_nil)))) pss_nil)
   (pss_one (ps_ret (pe_tup (pa_cons (pv 3) (pa_cons (pv 4) (pa_cons (pe_callD d_l_at g_l_at (hr.mono (by decide)) rfl (pa_cons (pe_op op_fdiv (pv 2) pe_int) (pa_cons (pv 5) pa_nil))) (pa_cons (pv 6) pa_nil)))))))))))))),?_⟩
 have hm:=mixed_in c
 obtain ⟨m,hm'⟩ : ∃ m:Nat,mixed c=(m:Int):=⟨(mixed c).toNat,by omega⟩
 refine ⟨_,rfl,c,rfl,?_⟩
 rw [hm']
 refine ⟨small (by simp),fun p1 hp1=>?_⟩
 have s1:=same_new hp1 (.lst [V.str (PySem.Str.ofString "put"),V.str (PySem.Str.ofString "put"),V.str (PySem.Str.ofString "row"),V.str (PySem.Str.ofString "row"),V.str (PySem.Str.ofString "row"),V.str (PySem.Str.ofString "cut"),V.str (PySem.Str.ofString "cut"),V.str (PySem.Str.ofString "drop")])
 have k1:upd H p1 (.lst [V.str (PySem.Str.ofString "put"),V.str (PySem.Str.ofString "put"),V.str (PySem.Str.ofString "row"),V.str (PySem.Str.ofString "row"),V.str (PySem.Str.ofString "row"),V.str (PySem.Str.ofString "cut"),V.str (PySem.Str.ofString "cut"),V.str (PySem.Str.ofString "drop")]) p1=some (.lst [V.str (PySem.Str.ofString "put"),V.str (PySem.Str.ofString "put"),V.str (PySem.Str.ofString "row"),V.str (PySem.Str.ofString "row"),V.str (PySem.Str.ofString "row"),V.str (PySem.Str.ofString "cut"),V.str (PySem.Str.ofString "cut"),V.str (PySem.Str.ofString "drop")]):=upd_same
 generalize upd H p1 (.lst [V.str (PySem.Str.ofString "put"),V.str (PySem.Str.ofString "put"),V.str (PySem.Str.ofString "row"),V.str (PySem.Str.ofString "row"),V.str (PySem.Str.ofString "row"),V.str (PySem.Str.ofString "cut"),V.str (PySem.Str.ofString "cut"),V.str (PySem.Str.ofString "drop")])=H1 at s1 k1 ⊢
 obtain ⟨k,ek,hk4⟩:=kd8 (m % 8) (by omega)
 refine ⟨_,rfl,_,_,rfl,rfl,(by (first | decide | (show (0:Int) < _; first | decide | omega))),_,_,_,_,rfl,rfl,SqL.of k1,by rw [show (m:Int) % 8=((m % 8:Nat) : Int) by omega]; exact ek,?_⟩
 dsimp only [gName]
 have ow1:=ow.same s1
 have hAl:A.length=D.length:=by rw [← eA]; simp [mapG]
 have hD20:=dok.ln
 refine ⟨_,rfl,_,_,rfl,rfl,⟨by decide,by decide⟩,_,rfl,o,_,A.map (fun p=>tx p.1),rfl,.inl ow1.at_,keys_own A,by rw [List.length_map]; omega,fun p2 ss hp2 pm=>?_⟩
 have hss:ss=(ss.map fun s=>s.cps.toList).map tx:=by
  rw [List.map_map]
  refine (List.map_id ss).symm.trans (List.map_congr_left fun s _=>?_)
  exact (tx_of s).symm
 obtain ⟨ns,hns⟩ : ∃ ns,(ss.map fun s=>s.cps.toList)=ns:=⟨_,rfl⟩
 rw [hns] at hss
 have hnl:ns.length≤100:=by rw [← hns,List.length_map,pm.length_eq,List.length_map]; omega
 have hnok:∀ s ∈ ns,NmOk s:=fun s hs=>by
  have:tx s ∈ ss:=by rw [hss]; exact List.mem_map.mpr ⟨s,hs,rfl⟩
  obtain ⟨p,hp,e⟩:=List.mem_map.mp (pm.mem_iff.mp this)
  rw [← tx_inj e]
  have hp':(p.1,p.2.1) ∈ D:=by rw [← eA]; exact List.mem_map.mpr ⟨p,hp,rfl⟩
  exact (dok.ok _ hp').1
 rw [hss]
 have s2:=same_new hp2 (.lst ((ns.map tx).map V.str))
 have k2:upd H1 p2 (.lst ((ns.map tx).map V.str)) p2=some (.lst ((ns.map tx).map V.str)):=upd_same
 generalize upd H1 p2 (.lst ((ns.map tx).map V.str))=H2 at s2 k2 ⊢
 refine ⟨m / 8,p2,ns,by dsimp only; rw [show (m:Int) / 8=((m / 8:Nat) : Int) by omega]; rfl,k2,hnl,hnok,fun nm H3 s3 nmok=>?_⟩
 have ow3:=ow1.same (s2.trans s3)
 have s03:=s1.trans (s2.trans s3)
 refine ⟨_,rfl,_,_,rfl,rfl,⟨by decide,by decide⟩,?_⟩
 have e2000:(m:Int) / 2000=((m / 2000:Nat) : Int):=by omega
 dsimp only
 rw [e2000]
 obtain ⟨n,hn⟩ : ∃ n,m / 2000=n:=⟨_,rfl⟩
 rw [hn]
 have e7:(n:Int) / 7=((n / 7:Nat) : Int):=by omega
 refine ⟨_,rfl,_,rfl,.inl ⟨_,.inl ow3.at_⟩,_,rfl,small (by simp),fun p3 hp3=>?_⟩
 have s4:=same_new hp3 (.lst [])
 have k4:upd H3 p3 (.lst []) p3=some (.lst []):=upd_same
 generalize upd H3 p3 (.lst [])=H4 at s4 k4 ⊢
 have ow4:=ow3.same s4
 have hlen:∃ (b:Addr) (xs:List V),((valV (kvF rfA A) (ky nm)).getD (.ref p3)) = .ref b∧H4 b=some (.lst xs):=by
  rw [val_kvF]
  cases ea:lkG A nm with
  | none=>exact ⟨p3,[],rfl,k4⟩
  | some ra=>exact ⟨ra.2,_,rfl,ow4.ls _ (lk_mem ea)⟩
 obtain ⟨b,xs,eb,hb⟩:=hlen
 refine ⟨_,DGet.k (k:=ky nm) ow4.at_,?_⟩
 rw [eb]
 refine ⟨b,xs,rfl,.inl (SqL.of hb),?_⟩
 refine ⟨_,rfl,_,_,rfl,rfl,⟨by decide,by decide⟩,n / 7,by dsimp only; rw [e7]; rfl,fun l0 H5 s5 r0 c0=>?_⟩
 have s05:=s03.trans (s4.trans s5)
 dsimp only [gName]
 refine cut_seq (fun σ' H'=>Same H H'∧∃ l:List Nat,σ' = [some (.int c),some (.ref o),some (.int (n:Int)),some (.str (kn k)),some (.str (tx nm)),some (.int (xs.length:Nat)),some (.str (tx l))]∧(k=0→RwOk (splitL 10 l))∧(k=2→rowOk l)∧l.length≤100000) ?_ (fun key=>?_)
 ·rintro σ' H' ⟨sH,l,rfl,t0,t2,ln⟩
  refine ⟨_,rfl,_,rfl,_,rfl,_,_,rfl,rfl,⟨by decide,by decide⟩,_,rfl,n / 1600000,xs.length,by dsimp only; rw [show (n:Int) / 1600000=((n / 1600000:Nat) : Int) by omega]; rfl,fun z H6 s6=>?_⟩
  refine ⟨_,rfl,small (by simp),fun p4 hp4=>?_⟩
  exact q _ p4 ⟨k,nm,z,l⟩ ((sH.trans s6).trans (same_new hp4 _)) upd_same ⟨hk4,nmok,t0,t2,ln⟩
 ·refine ⟨_,rfl,rfl,_,rfl,?_⟩
  by_cases c0':k=0
  ·subst c0'
   refine iteY (decide_eq_true rfl) ?_
   refine ⟨_,rfl,_,_,rfl,rfl,⟨by decide,by decide⟩,n / 7,by dsimp only; rw [e7]; rfl,fun l H6 s6 h1 h2=>?_⟩
   exact key _ _ ⟨s05.trans s6,l,rfl,fun _=>h1,fun z=>absurd z (by decide),h2⟩
  ·refine iteN ?_ ?_
   ·match k,hk4,c0' with
    | 1,_,_=>exact knE 1 0 (by decide +kernel)
    | 2,_,_=>exact knE 2 0 (by decide +kernel)
    | 3,_,_=>exact knE 3 0 (by decide +kernel)
   ·exact key _ _ ⟨s05,l0,rfl,fun z=>absurd z c0',fun _=>r0,by have:=r0.2; omega⟩
def sp_l_is_name:Sp:=fun vs H Q _=>∃ l:List Nat,vs=[.str (tx l)]∧l.length≤1000∧∀ H',Same H H'→Q (.bl (isName l)) H'
theorem sc_l_is_name:FnScope ["name","letters"] ["name"] (defScope s_l_is_name):=⟨rfl,rfl,rfl,by decide +kernel,rfl,by decide +kernel,by decide +kernel⟩
theorem ok_l_is_name (T:Txt P w K mg a) : FnOk P w K mg base CX0 1 a.f_l_is_name a.fd_l_is_name ["name"] sp_l_is_name:=by
 have z_all:=T.z_all
 have z_len:=T.z_len
 refine T.d_l_is_name.fn.ok sc_l_is_name (fun vs H Q E h=>?_) (fun cdv A outer s H vs Q E hr h=>?_)
 ·obtain ⟨l,rfl,_⟩:=h
  rfl
 obtain ⟨l,rfl,hl,q⟩:=h
 have hu:=Nat.lt_of_succ_lt (hu_of hr)
 refine ⟨_,(pss_cons (ps_set (i:=1) sc_l_is_name.nd rfl (Or.inr rfl) pe_str)
   (pss_cons (ps_if (PW.pt (pw_or (pt_cmpR op_eq (pv 0) pe_str (nomark _)) (pw_or (pt_cmpR op_gt (pe_callB call_len_str rfl z_len PySem.boot_len (pa_cons (pv 0) pa_nil)) pe_int (nomark _)) (pw_or1 (pt_cmpR op_notin_str (pe_ix ix_str (pv 0) pe_int (fun _ _=>rfl)) (pv 1) (by with_unfolding_all rfl)))))) (pss_one (ps_ret pe_bl)) pss_nil)
   (pss_one (ps_ret (pe_callB (call_all rfl) rfl z_all PyProof.Rows.boot_all (pa_cons (pe_lc rfl (lcok (caps:=["letters"]) (js:=[1]) (cap:=⟨⟨rfl,.inl rfl,rfl,.inl rfl⟩,trivial⟩)) (pi_str (pv 0)) (fun _ _ _ _=>pts_nil) (fun _ _ _ _=>(pe_or (pe_cmpR op_in_str (pv 0) (pv 1) (by with_unfolding_all rfl)) (pe_one (pe_cmpR op_in_str (pv 0) pe_str (by with_unfolding_all rfl)))))) pa_nil)))))),?_⟩
 refine ⟨_,rfl,rfl,_,rfl,?_⟩
 cases l with
 | nil =>
  rw [is_empty]
  refine iteT ?_
  refine iteT ?_
  exact q H (Same.refl _)
 | cons c r =>
  rw [ne_empty]
  refine iteF ?_
  refine ⟨_,rfl,_,rfl,small (by rw [tx_len]; exact hl),_,_,rfl,rfl,_,rfl,?_⟩
  rw [tx_len]
  refine orG (fun h=>?_) (fun h=>?_)
  ·have h2:¬ (c :: r).length≤12:=by have:=of_decide_eq_true h; omega
   have:=q H (Same.refl _)
   rw [name_long h2] at this
   exact this
  ·have h2:(c :: r).length≤12:=by
    refine Nat.le_of_not_lt fun z=>h (decide_eq_true ?_)
    omega
   rw [name_short h2] at q
   refine ⟨_,rfl,_,_,c,rfl,rfl,small (by rw [tx_len]; exact hl),at_zero c r,_,rfl,_,_,rfl,rfl,_,rfl,?_⟩
   rw [in_let]
   cases hc:isL c with
   | false =>
    rw [hc] at q
    refine iteT ?_
    exact q H (Same.refl _)
   | true =>
    rw [hc] at q
    refine iteF ?_
    dsimp only [tNext]
    refine ⟨_,rfl,_,rfl,lc_str (x:=tx (c :: r)) (fun i ys H2=>H2=H∧ys=(((c :: r).take i).map fun d=>isL d || isF d).map V.bl) ⟨rfl,rfl⟩ ?_ ?_ ?_⟩
    ·rintro i ys H2 hi ⟨rfl,rfl⟩
     rw [List.length_map,List.length_map,List.length_take]
     exact Nat.lt_of_le_of_lt (show _≤12 by omega) (small1000 (by omega))
    ·rintro i d ys H2 hd ⟨rfl,rfl⟩
     rw [tx_cps] at hd
     refine yes_go ?_
     refine ⟨_,rfl,_,rfl,_,_,rfl,rfl,_,rfl,?_⟩
     rw [in_let,List.take_add_one,hd]
     cases h3:isL d with
     | true =>
      refine iteT ?_
      refine ⟨rfl,?_⟩
      simp [h3]
     | false =>
      refine iteF ?_
      refine ⟨_,rfl,_,_,rfl,rfl,?_⟩
      rw [in_fig]
      refine ⟨rfl,?_⟩
      simp [h3]
    ·rintro ys H2 ⟨rfl,rfl⟩ p hp
     rw [tx_size,List.take_of_length_le (Nat.le_refl _)]
     refine ⟨_,_,rfl,SqL.of upd_same,?_⟩
     rw [all_id]
     have:=q _ (same_new hp (.lst ((((c :: r)).map fun d=>isL d || isF d).map V.bl)))
     rw [Bool.true_and] at this
     exact this
def sp_l_put_by (K:PySem.W.Frag) : Sp:=fun vs H Q _=>∃ (o:Addr) (D:PD) (d:Deed),vs=[.ref o,.str (tx d.n),.str (tx d.l)]∧d.k=0∧OwnA H o D∧DOk D∧DeedOk d∧∀ H' p o',Same H H'→H' p=some (.tup [.str (wd (dueD D d)),.ref o'])→OwnA H' o' (ownN D d)→Q (.ref p) H'
theorem sc_l_put_by:FnScope ["own","name","text","found"] ["own","name","text"] (defScope s_l_put_by):=⟨rfl,rfl,rfl,by decide +kernel,rfl,by decide +kernel,by decide +kernel⟩
theorem ok_l_put_by (T:Txt P w K mg a) : FnOk P w K mg base CX0 2 a.f_l_put_by a.fd_l_put_by ["own","name","text"] (sp_l_put_by K):=by
 have g_l_is_name:=ok_l_is_name (P:=P) (w:=w) (base:=base) T
 have d_l_is_name:=T.d_l_is_name
 have z_dict:=T.z_dict
 have z_len:=T.z_len
 refine T.d_l_put_by.fn.ok sc_l_put_by (fun vs H Q E h=>?_) (fun cdv A outer s H vs Q E hr h=>?_)
 ·obtain ⟨o,D,d,rfl,_⟩:=h
  rfl
 obtain ⟨o,D,d,rfl,hk,⟨A,eA,ow⟩,dok,ok,q⟩:=h
 have hu:=Nat.lt_of_succ_lt (hu_of hr)
 refine ⟨_,(pss_cons (ps_if (pt_not (pt_val (pe_callD d_l_is_name g_l_is_name (hr.mono (by decide)) rfl (pa_cons (pv 1) pa_nil)) (fun _=>rfl))) (pss_one (ps_ret (pe_tup (pa_cons pe_str (pa_cons (pv 0) pa_nil))))) pss_nil)
   (pss_cons (ps_if (pt_cmpR (op_in_dict (hu_of hr)) (pv 1) (pv 0) (by with_unfolding_all rfl)) (pss_one (ps_ret (pe_tup (pa_cons pe_str (pa_cons (pv 0) pa_nil))))) pss_nil)
   (pss_cons (ps_if (pt_cmpR op_ge (pe_callB call_lenD rfl z_len PySem.boot_len (pa_cons (pv 0) pa_nil)) pe_int (nomark _)) (pss_one (ps_ret (pe_tup (pa_cons pe_str (pa_cons (pv 0) pa_nil))))) pss_nil)
   (pss_cons (ps_set (i:=3) sc_l_put_by.nd rfl (Or.inl rfl) (pe_callTy call_dict_of rfl z_dict PyProof.Rows.boot_dict (pa_cons (pv 0) pa_nil)))
   (pss_cons (ps_dput (hu_of hr) (pv 3) (pv 1) (pe_bm PySem.F.plainAttrs_str PySem.F.slot_str_split PySem.F.type_str_split mt_split1 (pv 2) (pa_cons pe_str pa_nil)) rfl)
   (pss_one (ps_ret (pe_tup (pa_cons pe_str (pa_cons (pv 3) pa_nil)))))))))),?_⟩
 obtain ⟨k,nm,at_,l⟩:=d
 have hk:k=0:=hk
 subst hk
 have nmok:NmOk nm:=ok.nm
 have ln:l.length≤100000:=ok.ln
 have elk:lkG D nm=(lkG A nm).map Prod.fst:=by rw [← eA,lk_map]
 have eln:(kvF rfA A).length=D.length:=by rw [len_kvF,← eA]; simp [mapG]
 have hD20:=dok.ln
 refine ⟨_,rfl,nm,rfl,nmok.len,fun H1 s1=>⟨_,rfl,?_⟩⟩
 have ow1:=ow.same s1
 refine ite2 (fun c=>?_) (fun c=>?_)
 ·have e:isName nm=false:=by simpa using c
  have hdue:dueD D ⟨0,nm,at_,l⟩=some 0:=by simp [dueD,e]
  refine ⟨_,rfl,le2,fun pe hpe=>?_⟩
  exact q _ pe o (s1.trans (same_new hpe _)) (by rw [hdue]; exact upd_same) (by unfold ownN; rw [hdue,if_neg (by simp)]; exact ⟨A,eA,(ow.same s1).same (same_new hpe _)⟩)
 have e:isName nm=true:=by simpa using c
 dsimp only [tNext]
 refine ⟨_,rfl,_,rfl,_,_,rfl,DGet.k (k:=ky nm) ow1.at_,_,rfl,?_⟩
 rw [val_kvF]
 refine ite2 (fun c=>?_) (fun c=>?_)
 ·have e2:(lkG D nm).isSome=true:=by rw [elk]; simpa using c
  have hdue:dueD D ⟨0,nm,at_,l⟩=some 1:=by simp [dueD,e,e2]
  refine ⟨_,rfl,le2,fun pe hpe=>?_⟩
  exact q _ pe o (s1.trans (same_new hpe _)) (by rw [hdue]; exact upd_same) (by unfold ownN; rw [hdue,if_neg (by simp)]; exact ⟨A,eA,(ow.same s1).same (same_new hpe _)⟩)
 have e2:lkG A nm=none:=by simpa using c
 have e2':lkG D nm=none:=by rw [elk,e2]; rfl
 dsimp only [tNext]
 refine ⟨_,rfl,_,_,rfl,ow1.at_,_,_,rfl,rfl,_,rfl,?_⟩
 rw [eln]
 refine ite2 (fun c=>?_) (fun c=>?_)
 ·have c2:20≤D.length:=by have:=of_decide_eq_true c; omega
  have hdue:dueD D ⟨0,nm,at_,l⟩=some 2:=by simp [dueD,e,e2',c2]
  refine ⟨_,rfl,le2,fun pe hpe=>?_⟩
  exact q _ pe o (s1.trans (same_new hpe _)) (by rw [hdue]; exact upd_same) (by unfold ownN; rw [hdue,if_neg (by simp)]; exact ⟨A,eA,(ow.same s1).same (same_new hpe _)⟩)
 have c2:¬ 20≤D.length:=fun z=>c (decide_eq_true (by omega))
 have hdue:dueD D ⟨0,nm,at_,l⟩=none:=by simp [dueD,e,e2',c2]
 dsimp only [tNext]
 refine ⟨_,rfl,_,_,rfl,.inl ow1.at_,fun p4 hp4=>?_⟩
 have s4:=same_new hp4 (.dK (kvF rfA A))
 have k4:upd H1 p4 (.dK (kvF rfA A)) p4=some (.dK (kvF rfA A)):=upd_same
 generalize upd H1 p4 (.dK (kvF rfA A))=H4 at s4 k4 ⊢
 refine ⟨_,rfl,rfl,_,10,rfl,congrArg (fun z=>[V.str z]) c10,(by rw [tx_len]; exact small2 (by omega)),fun p5 hp5=>?_⟩
 rw [split_tx]
 have s5:=same_new hp5 (.lst (((splitL 10 l).map tx).map V.str))
 have k5:upd H4 p5 (.lst (((splitL 10 l).map tx).map V.str)) p5=some (.lst (((splitL 10 l).map tx).map V.str)):=upd_same
 have k45:=s5 _ _ k4
 generalize upd H4 p5 (.lst (((splitL 10 l).map tx).map V.str))=H5 at s5 k5 k45 ⊢
 have ow5:=ow1.same (s4.trans s5)
 refine ⟨_,rfl,_,rfl,_,_,rfl,DPut.k (k:=ky nm) k45 (small1000 (by omega)),?_⟩
 rw [putK_new _ (by rw [val_kvF,e2]; rfl),show (kvF rfA A++[(ky nm,V.ref p5)])=kvF rfA (A++[(nm,(splitL 10 l,p5))]) from app_kvF (f:=rfA) (r:=(splitL 10 l,p5))]
 have s6:Same H (upd H5 p4 (.dK (kvF rfA (A++[(nm,(splitL 10 l,p5))])))):=fun b u h=>by rw [upd_ne (ne_of_none h (s1.free hp4))]; exact s5 _ _ (s4 _ _ (s1 _ _ h))
 have ow6:OwA (upd H5 p4 (.dK (kvF rfA (A++[(nm,(splitL 10 l,p5))])))) p4 (A++[(nm,(splitL 10 l,p5))]):=by
  refine ⟨upd_same,fun p hp=>?_⟩
  have key:∀ b xs,H5 b=some (.lst xs)→upd H5 p4 (.dK (kvF rfA (A++[(nm,(splitL 10 l,p5))]))) b=some (.lst xs):=fun b xs h=>by rw [upd_ne (fun z=>by rw [z,k45] at h; cases h)]; exact h
  rcases List.mem_append.mp hp with hp | hp
  ·exact key _ _ (ow5.ls p hp)
  ·rw [List.mem_singleton.mp hp]; exact key _ _ k5
 generalize upd H5 p4 (.dK (kvF rfA (A++[(nm,(splitL 10 l,p5))])))=H6 at s6 ow6 ⊢
 refine ⟨_,rfl,le2,fun pe hpe=>?_⟩
 refine q _ pe p4 (s6.trans (same_new hpe _)) (by rw [hdue]; exact upd_same) ?_
 unfold ownN
 rw [hdue,if_pos rfl]
 refine ⟨A++[(nm,(splitL 10 l,p5))],?_,ow6.same (same_new hpe _)⟩
 show mapG Prod.fst (A++[(nm,(splitL 10 l,p5))])=D++[(nm,splitL 10 l)]
 unfold mapG at eA ⊢
 rw [List.map_append,eA]
 rfl
theorem putG_pos {α:Type} {D:List (List Nat × α)} {n:List Nat} {r:α} (h:(lkG D n).isSome=true) : putG D n r=D.map (fun p=>if p.1=n then (p.1,r) else p):=by unfold putG; rw [lk_any,if_pos h]
theorem put_put {α:Type} {D:List (List Nat × α)} {n:List Nat} {r r':α} (h:(lkG D n).isSome=true) : putG (putG D n r) n r' = putG D n r':=by
 have h2:(lkG (putG D n r) n).isSome=true:=by
  rw [← lk_any]
  obtain ⟨x,hx⟩:=Option.isSome_iff_exists.mp h
  obtain ⟨p,hp,hpn⟩:=List.mem_map.mp (show n ∈ (putG D n r).map (·.1) by rw [put_names h]; exact List.mem_map.mpr ⟨_,lk_mem hx,rfl⟩)
  exact List.any_eq_true.mpr ⟨p,hp,decide_eq_true hpn⟩
 rw [putG_pos h2,putG_pos h,putG_pos h,List.map_map]
 refine List.map_congr_left fun p _=>?_
 by_cases e:p.1=n <;> simp [e]
def sp_l_done_by (K:PySem.W.Frag) : Sp:=fun vs H Q _=>∃ (o da:Addr) (D:PD) (d:Deed),vs=[.ref o,.ref da]∧H da=some (.tup (dV d))∧OwnA H o D∧DOk D∧DeedOk d∧∀ H' p o',Same H H'→H' p=some (.tup [.str (wd (dueD D d)),.ref o'])→OwnA H' o' (ownN D d)→Q (.ref p) H'
theorem sc_l_done_by:FnScope ["own","deed","kind","name","at","text","found","rows"] ["own","deed"] (defScope s_l_done_by):=⟨rfl,rfl,rfl,by decide +kernel,rfl,by decide +kernel,by decide +kernel⟩
theorem ok_l_done_by (T:Txt P w K mg a) : FnOk P w K mg base CX0 3 a.f_l_done_by a.fd_l_done_by ["own","deed"] (sp_l_done_by K):=by
 have g_l_put_by:=ok_l_put_by (P:=P) (w:=w) (base:=base) T
 have d_l_put_by:=T.d_l_put_by
 have z_dict:=T.z_dict
 have z_len:=T.z_len
 refine T.d_l_done_by.fn.ok sc_l_done_by (fun vs H Q E h=>?_) (fun cdv A outer s H vs Q E hr h=>?_)
 ·obtain ⟨o,da,D,d,rfl,_⟩:=h
  rfl
 obtain ⟨o,da,D,d,rfl,hda,⟨A,eA,ow⟩,dok,ok,q⟩:=h
 have hu:=Nat.lt_of_succ_lt (hu_of hr)
 refine ⟨_,(pss_cons (ps_asg (pv 1) (pg_tup rfl (pgs_cons (pg_name (i:=2) sc_l_done_by.nd rfl (Or.inl rfl)) (pgs_cons (pg_name (i:=3) sc_l_done_by.nd rfl (Or.inl rfl)) (pgs_cons (pg_name (i:=4) sc_l_done_by.nd rfl (Or.inl rfl)) (pgs_cons (pg_name (i:=5) sc_l_done_by.nd rfl (Or.inl rfl)) pgs_nil))))))
   (pss_cons (ps_if (pt_cmpR op_eq (pv 2) pe_str (nomark _)) (pss_one (ps_ret (pe_callD d_l_put_by g_l_put_by (hr.mono (by decide)) rfl (pa_cons (pv 0) (pa_cons (pv 3) (pa_cons (pv 5) pa_nil)))))) pss_nil)
   (pss_cons (ps_if (pt_cmpR (op_notin_dict (hu_of hr)) (pv 3) (pv 0) (by with_unfolding_all rfl)) (pss_one (ps_ret (pe_tup (pa_cons pe_str (pa_cons (pv 0) pa_nil))))) pss_nil)
   (pss_cons (ps_set (i:=6) sc_l_done_by.nd rfl (Or.inl rfl) (pe_callTy call_dict_of rfl z_dict PyProof.Rows.boot_dict (pa_cons (pv 0) pa_nil)))
   (pss_cons (ps_set (i:=7) sc_l_done_by.nd rfl (Or.inl rfl) (pe_dget (hu_of hr) (pv 0) (pv 3) (fun _ _=>rfl)))
   (pss_cons (ps_if (pt_cmpR op_eq (pv 2) pe_str (nomark _)) (pss_one (ps_expr (pe_dpop1 (pv 6) (pv 3) ⟨rfl,rfl,rfl,rfl⟩))) (pss_one (ps_if (pt_cmpR op_eq (pv 2) pe_str (nomark _)) (pss_cons (ps_if (PW.pt (pw_or (pt_cmpR op_lt (pv 4) pe_int (nomark _)) (pw_or1 (pt_cmpR op_gt (pv 4) (pe_callB call_len_seq rfl z_len PySem.boot_len (pa_cons (pv 7) pa_nil)) (nomark _))))) (pss_one (ps_ret (pe_tup (pa_cons pe_str (pa_cons (pv 0) pa_nil))))) pss_nil)
   (pss_cons (ps_if (pt_cmpR op_ge (pe_callB call_len_seq rfl z_len PySem.boot_len (pa_cons (pv 7) pa_nil)) pe_int (nomark _)) (pss_one (ps_ret (pe_tup (pa_cons pe_str (pa_cons (pv 0) pa_nil))))) pss_nil)
   (pss_one (ps_dput (hu_of hr) (pv 6) (pv 3) (pe_op op_cat (pe_op op_cat (pe_slice sl_list (pv 7) po_none (po_some (pv 4))) (pe_lst (pa_cons (pv 5) pa_nil))) (pe_slice sl_list (pv 7) (po_some (pv 4)) po_none)) rfl)))) (pss_cons (ps_if (PW.pt (pw_or (pt_cmpR op_lt (pv 4) pe_int (nomark _)) (pw_or1 (pt_cmpR op_ge (pv 4) (pe_callB call_len_seq rfl z_len PySem.boot_len (pa_cons (pv 7) pa_nil)) (nomark _))))) (pss_one (ps_ret (pe_tup (pa_cons pe_str (pa_cons (pv 0) pa_nil))))) pss_nil)
   (pss_cons (ps_dput (hu_of hr) (pv 6) (pv 3) (pe_op op_cat (pe_slice sl_list (pv 7) po_none (po_some (pv 4))) (pe_slice sl_list (pv 7) (po_some (pe_op op_add (pv 4) pe_int)) po_none)) rfl)
   (pss_one (ps_if (pt_cmpR op_eq (pe_callB call_len_seq rfl z_len PySem.boot_len (pa_cons (pv 7) pa_nil)) pe_int (nomark _)) (pss_one (ps_dput (hu_of hr) (pv 6) (pv 3) (pe_lst (pa_cons pe_str pa_nil)) rfl)) pss_nil)))))))
   (pss_one (ps_ret (pe_tup (pa_cons pe_str (pa_cons (pv 6) pa_nil))))))))))),?_⟩
 refine ⟨_,rfl,da,_,rfl,SqT.of hda,rfl,_,_,rfl,_,_,rfl,_,_,rfl,_,_,rfl,rfl,?_⟩
 obtain ⟨k,nm,at_,l⟩:=d
 have nmok:NmOk nm:=ok.nm
 have ln:l.length≤100000:=ok.ln
 have elk:lkG D nm=(lkG A nm).map Prod.fst:=by rw [← eA,lk_map]
 have eln:(kvF rfA A).length=D.length:=by rw [len_kvF,← eA]; simp [mapG]
 have hD20:=dok.ln
 dsimp only [gName]
 match k,ok.k4 with
 | 0,_ =>
  refine ⟨_,rfl,rfl,_,rfl,?_⟩
  refine iteY (decide_eq_true rfl) ?_
  exact ⟨_,rfl,_,rfl,_,rfl,o,D,⟨0,nm,at_,l⟩,rfl,rfl,⟨A,eA,ow⟩,dok,ok,q⟩
 | 1,_ =>
  refine ⟨_,rfl,rfl,_,rfl,?_⟩
  refine iteN (knE 1 0 (by decide +kernel)) ?_
  dsimp only [tNext]
  refine ⟨_,rfl,_,rfl,_,_,rfl,DGet.k (k:=ky nm) ow.at_,_,rfl,?_⟩
  rw [val_kvF]
  cases ea:lkG A nm with
  | none =>
   refine iteT ?_
   have hdue:dueD D ⟨1,nm,at_,l⟩=some 3:=by simp [dueD,elk,ea]
   refine ⟨_,rfl,le2,fun pe hpe=>?_⟩
   exact q _ pe o (same_new hpe _) (by rw [hdue]; exact upd_same) (by unfold ownN; rw [hdue,if_neg (by simp)]; exact ⟨A,eA,ow.same (same_new hpe _)⟩)
  | some ra =>
  obtain ⟨rs,ad⟩:=ra
  have er:lkG D nm=some rs:=by rw [elk,ea]; rfl
  have hrs:=dok.lk er
  have hrl:=hrs.ln
  have hls:H ad=some (.lst ((rs.map tx).map V.str)):=ow.ls _ (lk_mem ea)
  refine iteF ?_
  dsimp only [tNext]
  refine ⟨_,rfl,_,_,rfl,.inl ow.at_,fun p2 hp2=>?_⟩
  have s2:=same_new hp2 (.dK (kvF rfA A))
  have k2:upd H p2 (.dK (kvF rfA A)) p2=some (.dK (kvF rfA A)):=upd_same
  generalize upd H p2 (.dK (kvF rfA A))=H2 at s2 k2 ⊢
  have ow2:=ow.same s2
  have hls2:=s2 _ _ hls
  have hln:((rs.map tx).map V.str).length=rs.length:=by rw [List.length_map,List.length_map]
  have hgv:valV (kvF rfA A) (ky nm)=some (.ref ad):=by rw [val_kvF,ea]; rfl
  have hg:DGet H2 o (kV (ky nm)) (some (.ref ad)):=by rw [← hgv]; exact DGet.k ow2.at_
  refine ⟨_,rfl,_,rfl,_,_,rfl,hg,?_⟩
  dsimp only [gName]
  refine ⟨_,rfl,rfl,_,rfl,?_⟩
  refine iteY (decide_eq_true rfl) ?_
  have hdue:dueD D ⟨1,nm,at_,l⟩=none:=by simp [dueD,er]
  refine ⟨_,rfl,_,rfl,.inl ⟨_,.inl k2⟩,_,rfl,_,ky nm,_,k2,rfl,hgv,?_⟩
  rw [drop_kvF]
  have s9:Same H (upd H2 p2 (.dK (kvF rfA (dropG A nm)))):=fun b u h=>by rw [upd_ne (ne_of_none h hp2)]; exact s2 _ _ h
  have ow9:OwA (upd H2 p2 (.dK (kvF rfA (dropG A nm)))) p2 (dropG A nm):=by
   refine ⟨upd_same,fun p hp=>?_⟩
   have key:∀ b xs,H2 b=some (.lst xs)→upd H2 p2 (.dK (kvF rfA (dropG A nm))) b=some (.lst xs):=fun b xs h=>by rw [upd_ne (fun z=>by rw [z,k2] at h; cases h)]; exact h
   exact key _ _ (ow2.ls p (List.mem_filter.mp hp).1)
  generalize upd H2 p2 (.dK (kvF rfA (dropG A nm)))=H9 at s9 ow9 ⊢
  refine ⟨_,rfl,le2,fun pe hpe=>?_⟩
  refine q _ pe p2 (s9.trans (same_new hpe _)) (by rw [hdue]; exact upd_same) ?_
  unfold ownN
  rw [hdue,if_pos rfl]
  refine ⟨_,?_,ow9.same (same_new hpe _)⟩
  show mapG Prod.fst (dropG A nm)=dropG D nm
  rw [drop_map,eA]
 | 2,_ =>
  refine ⟨_,rfl,rfl,_,rfl,?_⟩
  refine iteN (knE 2 0 (by decide +kernel)) ?_
  dsimp only [tNext]
  refine ⟨_,rfl,_,rfl,_,_,rfl,DGet.k (k:=ky nm) ow.at_,_,rfl,?_⟩
  rw [val_kvF]
  cases ea:lkG A nm with
  | none =>
   refine iteT ?_
   have hdue:dueD D ⟨2,nm,at_,l⟩=some 3:=by simp [dueD,elk,ea]
   refine ⟨_,rfl,le2,fun pe hpe=>?_⟩
   exact q _ pe o (same_new hpe _) (by rw [hdue]; exact upd_same) (by unfold ownN; rw [hdue,if_neg (by simp)]; exact ⟨A,eA,ow.same (same_new hpe _)⟩)
  | some ra =>
  obtain ⟨rs,ad⟩:=ra
  have er:lkG D nm=some rs:=by rw [elk,ea]; rfl
  have hrs:=dok.lk er
  have hrl:=hrs.ln
  have hls:H ad=some (.lst ((rs.map tx).map V.str)):=ow.ls _ (lk_mem ea)
  refine iteF ?_
  dsimp only [tNext]
  refine ⟨_,rfl,_,_,rfl,.inl ow.at_,fun p2 hp2=>?_⟩
  have s2:=same_new hp2 (.dK (kvF rfA A))
  have k2:upd H p2 (.dK (kvF rfA A)) p2=some (.dK (kvF rfA A)):=upd_same
  generalize upd H p2 (.dK (kvF rfA A))=H2 at s2 k2 ⊢
  have ow2:=ow.same s2
  have hls2:=s2 _ _ hls
  have hln:((rs.map tx).map V.str).length=rs.length:=by rw [List.length_map,List.length_map]
  have hgv:valV (kvF rfA A) (ky nm)=some (.ref ad):=by rw [val_kvF,ea]; rfl
  have hg:DGet H2 o (kV (ky nm)) (some (.ref ad)):=by rw [← hgv]; exact DGet.k ow2.at_
  refine ⟨_,rfl,_,rfl,_,_,rfl,hg,?_⟩
  dsimp only [gName]
  refine ⟨_,rfl,rfl,_,rfl,?_⟩
  refine iteN (knE 2 1 (by decide +kernel)) ?_
  refine ⟨_,rfl,rfl,_,rfl,?_⟩
  refine iteY (decide_eq_true rfl) ?_
  refine ⟨_,rfl,_,_,rfl,rfl,_,rfl,?_⟩
  refine orG (fun c=>?_) (fun c=>?_)
  ·have c:=of_decide_eq_true c
   have hdue:dueD D ⟨2,nm,at_,l⟩=some 4:=by simp [dueD,er,c]
   refine ⟨_,rfl,le2,fun pe hpe=>?_⟩
   exact q _ pe o (s2.trans (same_new hpe _)) (by rw [hdue]; exact upd_same) (by unfold ownN; rw [hdue,if_neg (by simp)]; exact ⟨A,eA,(ow.same s2).same (same_new hpe _)⟩)
  have c1:¬ at_ < 0:=fun z=>c (decide_eq_true z)
  refine ⟨_,rfl,_,rfl,_,_,rfl,.inl (SqL.of hls2),_,_,rfl,rfl,_,rfl,?_⟩
  rw [hln]
  refine ite2 (fun c=>?_) (fun c=>?_)
  ·have c:=of_decide_eq_true c
   have hdue:dueD D ⟨2,nm,at_,l⟩=some 4:=by simp only [dueD,er]; rw [if_pos (Or.inr (by omega))]
   refine ⟨_,rfl,le2,fun pe hpe=>?_⟩
   exact q _ pe o (s2.trans (same_new hpe _)) (by rw [hdue]; exact upd_same) (by unfold ownN; rw [hdue,if_neg (by simp)]; exact ⟨A,eA,(ow.same s2).same (same_new hpe _)⟩)
  have c2:¬ ((rs.length:Int) < at_):=fun z=>c (decide_eq_true (by omega))
  dsimp only [tNext]
  refine ⟨_,rfl,_,_,rfl,.inl (SqL.of hls2),_,_,rfl,rfl,_,rfl,?_⟩
  rw [hln]
  refine ite2 (fun c=>?_) (fun c=>?_)
  ·have c:=of_decide_eq_true c
   have hdue:dueD D ⟨2,nm,at_,l⟩=some 2:=by simp only [dueD,er]; rw [if_neg (by omega),if_pos (by omega)]
   refine ⟨_,rfl,le2,fun pe hpe=>?_⟩
   exact q _ pe o (s2.trans (same_new hpe _)) (by rw [hdue]; exact upd_same) (by unfold ownN; rw [hdue,if_neg (by simp)]; exact ⟨A,eA,(ow.same s2).same (same_new hpe _)⟩)
  have c3:¬ 200≤rs.length:=fun z=>c (decide_eq_true (by omega))
  have hdue:dueD D ⟨2,nm,at_,l⟩=none:=by simp only [dueD,er]; rw [if_neg (by omega),if_neg c3]
  dsimp only [tNext]
  obtain ⟨n,rfl⟩ : ∃ n:Nat,at_=(n:Int):=⟨at_.toNat,by omega⟩
  refine ⟨_,rfl,_,rfl,_,rfl,_,_,rfl,SqL.of hls2,fun p6 hp6=>?_⟩
  rw [List.map_map,cutV_map,cut_to,← List.map_map]
  have sp6:=same_new hp6 (.lst (((rs.take n).map tx).map V.str))
  have kp6:upd H2 p6 (.lst (((rs.take n).map tx).map V.str)) p6=some (.lst (((rs.take n).map tx).map V.str)):=upd_same
  generalize upd H2 p6 (.lst (((rs.take n).map tx).map V.str))=H3 at sp6 kp6 ⊢
  refine ⟨_,rfl,le1,fun p7 hp7=>?_⟩
  have sp7:=same_new hp7 (.lst ([V.str (tx l)]))
  have kp7:upd H3 p7 (.lst ([V.str (tx l)])) p7=some (.lst ([V.str (tx l)])):=upd_same
  generalize upd H3 p7 (.lst ([V.str (tx l)]))=H4 at sp7 kp7 ⊢
  refine ⟨_,_,_,_,rfl,rfl,sp7 _ _ kp6,kp7,small (by simp only [List.length_map,List.length_take,List.length_cons,List.length_nil]; omega),fun p8 hp8=>?_⟩
  rw [show (((rs.take n).map tx).map V.str++[V.str (tx l)])=((rs.take n++[l]).map tx).map V.str by simp]
  have sp8:=same_new hp8 (.lst (((rs.take n++[l]).map tx).map V.str))
  have kp8:upd H4 p8 (.lst (((rs.take n++[l]).map tx).map V.str)) p8=some (.lst (((rs.take n++[l]).map tx).map V.str)):=upd_same
  generalize upd H4 p8 (.lst (((rs.take n++[l]).map tx).map V.str))=H5 at sp8 kp8 ⊢
  have s5:=sp6.trans (sp7.trans sp8)
  refine ⟨_,rfl,_,rfl,_,rfl,_,_,rfl,SqL.of (s5 _ _ hls2),fun p9 hp9=>?_⟩
  rw [List.map_map,cutV_map,cut_from,← List.map_map]
  have sp9:=same_new hp9 (.lst (((rs.drop n).map tx).map V.str))
  have kp9:upd H5 p9 (.lst (((rs.drop n).map tx).map V.str)) p9=some (.lst (((rs.drop n).map tx).map V.str)):=upd_same
  generalize upd H5 p9 (.lst (((rs.drop n).map tx).map V.str))=H6 at sp9 kp9 ⊢
  refine ⟨_,_,_,_,rfl,rfl,sp9 _ _ kp8,kp9,small (by simp only [List.length_map,List.length_append,List.length_take,List.length_drop,List.length_cons,List.length_nil]; omega),fun p10 hp10=>?_⟩
  rw [show (((rs.take n++[l]).map tx).map V.str++((rs.drop n).map tx).map V.str)=((rs.take n++[l]++rs.drop n).map tx).map V.str by simp]
  have sp10:=same_new hp10 (.lst (((rs.take n++[l]++rs.drop n).map tx).map V.str))
  have kp10:upd H6 p10 (.lst (((rs.take n++[l]++rs.drop n).map tx).map V.str)) p10=some (.lst (((rs.take n++[l]++rs.drop n).map tx).map V.str)):=upd_same
  generalize upd H6 p10 (.lst (((rs.take n++[l]++rs.drop n).map tx).map V.str))=H7 at sp10 kp10 ⊢
  have s7:=s5.trans (sp9.trans sp10)
  have k27:=s7 _ _ k2
  refine ⟨_,rfl,_,rfl,_,_,rfl,DPut.k (k:=ky nm) k27 (small1000 (by omega)),?_⟩
  rw [show putK (kvF rfA A) (ky nm) (V.ref p10)=kvF rfA (putG A nm (rs.take n++[l]++rs.drop n,p10)) from put_kvF (f:=rfA) (r:=(rs.take n++[l]++rs.drop n,p10))]
  have s27:=s2.trans s7
  have s9:Same H (upd H7 p2 (.dK (kvF rfA (putG A nm (rs.take n++[l]++rs.drop n,p10))))):=fun b u h=>by rw [upd_ne (ne_of_none h hp2)]; exact s27 _ _ h
  have ow9:OwA (upd H7 p2 (.dK (kvF rfA (putG A nm (rs.take n++[l]++rs.drop n,p10))))) p2 (putG A nm (rs.take n++[l]++rs.drop n,p10)):=by
   refine ⟨upd_same,fun p hp=>?_⟩
   have key:∀ b xs,H7 b=some (.lst xs)→upd H7 p2 (.dK (kvF rfA (putG A nm (rs.take n++[l]++rs.drop n,p10)))) b=some (.lst xs):=fun b xs h=>by rw [upd_ne (fun z=>by rw [z,k27] at h; cases h)]; exact h
   rcases put_mem (D:=A) (by rw [ea]; rfl) hp with hp | hp
   ·exact key _ _ (s7 _ _ (ow2.ls p hp))
   ·rw [hp]; exact key _ _ kp10
  generalize upd H7 p2 (.dK (kvF rfA (putG A nm (rs.take n++[l]++rs.drop n,p10))))=H9 at s9 ow9 ⊢
  refine ⟨_,rfl,le2,fun pe hpe=>?_⟩
  refine q _ pe p2 (s9.trans (same_new hpe _)) (by rw [hdue]; exact upd_same) ?_
  unfold ownN
  rw [hdue,if_pos rfl]
  refine ⟨_,?_,ow9.same (same_new hpe _)⟩
  show mapG Prod.fst (putG A nm (rs.take n++[l]++rs.drop n,p10))=_
  rw [put_map,eA]
  simp only [nxtD,er,Option.getD_some,Int.toNat_natCast]
 | 3,_ =>
  refine ⟨_,rfl,rfl,_,rfl,?_⟩
  refine iteN (knE 3 0 (by decide +kernel)) ?_
  dsimp only [tNext]
  refine ⟨_,rfl,_,rfl,_,_,rfl,DGet.k (k:=ky nm) ow.at_,_,rfl,?_⟩
  rw [val_kvF]
  cases ea:lkG A nm with
  | none =>
   refine iteT ?_
   have hdue:dueD D ⟨3,nm,at_,l⟩=some 3:=by simp [dueD,elk,ea]
   refine ⟨_,rfl,le2,fun pe hpe=>?_⟩
   exact q _ pe o (same_new hpe _) (by rw [hdue]; exact upd_same) (by unfold ownN; rw [hdue,if_neg (by simp)]; exact ⟨A,eA,ow.same (same_new hpe _)⟩)
  | some ra =>
  obtain ⟨rs,ad⟩:=ra
  have er:lkG D nm=some rs:=by rw [elk,ea]; rfl
  have hrs:=dok.lk er
  have hrl:=hrs.ln
  have hls:H ad=some (.lst ((rs.map tx).map V.str)):=ow.ls _ (lk_mem ea)
  refine iteF ?_
  dsimp only [tNext]
  refine ⟨_,rfl,_,_,rfl,.inl ow.at_,fun p2 hp2=>?_⟩
  have s2:=same_new hp2 (.dK (kvF rfA A))
  have k2:upd H p2 (.dK (kvF rfA A)) p2=some (.dK (kvF rfA A)):=upd_same
  generalize upd H p2 (.dK (kvF rfA A))=H2 at s2 k2 ⊢
  have ow2:=ow.same s2
  have hls2:=s2 _ _ hls
  have hln:((rs.map tx).map V.str).length=rs.length:=by rw [List.length_map,List.length_map]
  have hgv:valV (kvF rfA A) (ky nm)=some (.ref ad):=by rw [val_kvF,ea]; rfl
  have hg:DGet H2 o (kV (ky nm)) (some (.ref ad)):=by rw [← hgv]; exact DGet.k ow2.at_
  refine ⟨_,rfl,_,rfl,_,_,rfl,hg,?_⟩
  dsimp only [gName]
  refine ⟨_,rfl,rfl,_,rfl,?_⟩
  refine iteN (knE 3 1 (by decide +kernel)) ?_
  refine ⟨_,rfl,rfl,_,rfl,?_⟩
  refine iteN (knE 3 2 (by decide +kernel)) ?_
  refine ⟨_,rfl,_,_,rfl,rfl,_,rfl,?_⟩
  refine orG (fun c=>?_) (fun c=>?_)
  ·have c:=of_decide_eq_true c
   have hdue:dueD D ⟨3,nm,at_,l⟩=some 4:=by simp [dueD,er,c]
   refine ⟨_,rfl,le2,fun pe hpe=>?_⟩
   exact q _ pe o (s2.trans (same_new hpe _)) (by rw [hdue]; exact upd_same) (by unfold ownN; rw [hdue,if_neg (by simp)]; exact ⟨A,eA,(ow.same s2).same (same_new hpe _)⟩)
  have c1:¬ at_ < 0:=fun z=>c (decide_eq_true z)
  refine ⟨_,rfl,_,rfl,_,_,rfl,.inl (SqL.of hls2),_,_,rfl,rfl,_,rfl,?_⟩
  rw [hln]
  refine ite2 (fun c=>?_) (fun c=>?_)
  ·have c:=of_decide_eq_true c
   have hdue:dueD D ⟨3,nm,at_,l⟩=some 4:=by simp only [dueD,er]; rw [if_pos (Or.inr (by omega))]
   refine ⟨_,rfl,le2,fun pe hpe=>?_⟩
   exact q _ pe o (s2.trans (same_new hpe _)) (by rw [hdue]; exact upd_same) (by unfold ownN; rw [hdue,if_neg (by simp)]; exact ⟨A,eA,(ow.same s2).same (same_new hpe _)⟩)
  have c2:¬ ((rs.length:Int)≤at_):=fun z=>c (decide_eq_true (by omega))
  have hdue:dueD D ⟨3,nm,at_,l⟩=none:=by simp only [dueD,er]; rw [if_neg (by omega)]
  dsimp only [tNext]
  obtain ⟨n,rfl⟩ : ∃ n:Nat,at_=(n:Int):=⟨at_.toNat,by omega⟩
  refine ⟨_,rfl,_,rfl,_,rfl,_,_,rfl,SqL.of hls2,fun p6 hp6=>?_⟩
  rw [List.map_map,cutV_map,cut_to,← List.map_map]
  have sp6:=same_new hp6 (.lst (((rs.take n).map tx).map V.str))
  have kp6:upd H2 p6 (.lst (((rs.take n).map tx).map V.str)) p6=some (.lst (((rs.take n).map tx).map V.str)):=upd_same
  generalize upd H2 p6 (.lst (((rs.take n).map tx).map V.str))=H3 at sp6 kp6 ⊢
  refine ⟨_,rfl,_,rfl,_,_,rfl,rfl,_,rfl,_,_,rfl,SqL.of (sp6 _ _ hls2),fun p7 hp7=>?_⟩
  rw [List.map_map,cutV_map,show ((n:Int)+1)=((n+1:Nat) : Int) by omega,cut_from,← List.map_map]
  have sp7:=same_new hp7 (.lst (((rs.drop (n+1)).map tx).map V.str))
  have kp7:upd H3 p7 (.lst (((rs.drop (n+1)).map tx).map V.str)) p7=some (.lst (((rs.drop (n+1)).map tx).map V.str)):=upd_same
  generalize upd H3 p7 (.lst (((rs.drop (n+1)).map tx).map V.str))=H4 at sp7 kp7 ⊢
  refine ⟨_,_,_,_,rfl,rfl,sp7 _ _ kp6,kp7,small (by simp only [List.length_map,List.length_take,List.length_drop]; omega),fun p8 hp8=>?_⟩
  rw [show (((rs.take n).map tx).map V.str++((rs.drop (n+1)).map tx).map V.str)=((rs.take n++rs.drop (n+1)).map tx).map V.str by simp]
  have sp8:=same_new hp8 (.lst (((rs.take n++rs.drop (n+1)).map tx).map V.str))
  have kp8:upd H4 p8 (.lst (((rs.take n++rs.drop (n+1)).map tx).map V.str)) p8=some (.lst (((rs.take n++rs.drop (n+1)).map tx).map V.str)):=upd_same
  generalize upd H4 p8 (.lst (((rs.take n++rs.drop (n+1)).map tx).map V.str))=H5 at sp8 kp8 ⊢
  have s7:=sp6.trans (sp7.trans sp8)
  have k27:=s7 _ _ k2
  refine ⟨_,rfl,_,rfl,_,_,rfl,DPut.k (k:=ky nm) k27 (small1000 (by omega)),?_⟩
  rw [show putK (kvF rfA A) (ky nm) (V.ref p8)=kvF rfA (putG A nm (rs.take n++rs.drop (n+1),p8)) from put_kvF (f:=rfA) (r:=(rs.take n++rs.drop (n+1),p8))]
  have s27:=s2.trans s7
  have l27:=s7 _ _ hls2
  have s9:Same H (upd H5 p2 (.dK (kvF rfA (putG A nm (rs.take n++rs.drop (n+1),p8))))):=fun b u h=>by rw [upd_ne (ne_of_none h hp2)]; exact s27 _ _ h
  have ow9:OwA (upd H5 p2 (.dK (kvF rfA (putG A nm (rs.take n++rs.drop (n+1),p8))))) p2 (putG A nm (rs.take n++rs.drop (n+1),p8)):=by
   refine ⟨upd_same,fun p hp=>?_⟩
   have key:∀ b xs,H5 b=some (.lst xs)→upd H5 p2 (.dK (kvF rfA (putG A nm (rs.take n++rs.drop (n+1),p8)))) b=some (.lst xs):=fun b xs h=>by rw [upd_ne (fun z=>by rw [z,k27] at h; cases h)]; exact h
   rcases put_mem (D:=A) (by rw [ea]; rfl) hp with hp | hp
   ·exact key _ _ (s7 _ _ (ow2.ls p hp))
   ·rw [hp]; exact key _ _ kp8
  have l9:upd H5 p2 (.dK (kvF rfA (putG A nm (rs.take n++rs.drop (n+1),p8)))) ad=some (.lst ((rs.map tx).map V.str)):=by rw [upd_ne (fun z=>by rw [z,k27] at l27; cases l27)]; exact l27
  generalize upd H5 p2 (.dK (kvF rfA (putG A nm (rs.take n++rs.drop (n+1),p8))))=H9 at s9 ow9 l9 ⊢
  refine ⟨_,rfl,_,_,rfl,.inl (SqL.of l9),rfl,_,rfl,?_⟩
  rw [hln]
  refine ite2 (fun c=>?_) (fun c=>?_)
  ·have c1':rs.length=1:=by have:=V.int.inj (of_decide_eq_true c); omega
   refine ⟨le1,fun pz1 hpz1=>?_⟩
   have sz:=same_new hpz1 (.lst [V.str (PySem.Str.ofString "")])
   have kz:upd H9 pz1 (.lst [V.str (PySem.Str.ofString "")]) pz1=some (.lst ((([[]] : List (List Nat)).map tx).map V.str)):=by rw [upd_same]; exact congrArg (fun z=>some (HO.lst [V.str z])) cE
   have owz:=ow9.same sz
   have s9z:=s9.trans sz
   generalize upd H9 pz1 (.lst [V.str (PySem.Str.ofString "")])=Hz1 at sz kz owz s9z ⊢
   refine ⟨_,rfl,_,rfl,_,_,rfl,DPut.k (k:=ky nm) owz.at_ (by rw [len_kvF]; exact small1000 (by have:=congrArg List.length (put_names (D:=A) (n:=nm) (r:=(rs.take n++rs.drop (n+1),p8)) (by rw [ea]; rfl)); rw [List.length_map,List.length_map] at this; have:=len_kvF (f:=rfA) (D:=A); omega)),?_⟩
   rw [show putK (kvF rfA (putG A nm (rs.take n++rs.drop (n+1),p8))) (ky nm) (V.ref pz1)=kvF rfA (putG (putG A nm (rs.take n++rs.drop (n+1),p8)) nm ([[]],pz1)) from put_kvF (f:=rfA) (r:=([[]],pz1))]
   have es2:(lkG (putG A nm (rs.take n++rs.drop (n+1),p8)) nm).isSome=true:=by rw [← lk_any]; exact List.any_eq_true.mpr (by obtain ⟨p,hp,hpn⟩:=List.mem_map.mp (show nm ∈ (putG A nm (rs.take n++rs.drop (n+1),p8)).map (·.1) by rw [put_names (by rw [ea]; rfl)]; exact List.mem_map.mpr ⟨_,lk_mem ea,rfl⟩); exact ⟨p,hp,decide_eq_true hpn⟩)
   have sF:Same H (upd Hz1 p2 (.dK (kvF rfA (putG (putG A nm (rs.take n++rs.drop (n+1),p8)) nm ([[]],pz1))))):=fun b u h=>by rw [upd_ne (ne_of_none h hp2)]; exact s9z _ _ h
   have owF:OwA (upd Hz1 p2 (.dK (kvF rfA (putG (putG A nm (rs.take n++rs.drop (n+1),p8)) nm ([[]],pz1))))) p2 (putG (putG A nm (rs.take n++rs.drop (n+1),p8)) nm ([[]],pz1)):=by
    refine ⟨upd_same,fun p hp=>?_⟩
    have key:∀ b xs,Hz1 b=some (.lst xs)→upd Hz1 p2 (.dK (kvF rfA (putG (putG A nm (rs.take n++rs.drop (n+1),p8)) nm ([[]],pz1)))) b=some (.lst xs):=fun b xs h=>by rw [upd_ne (fun z=>by rw [z,owz.at_] at h; cases h)]; exact h
    rcases put_mem es2 hp with hp | hp
    ·exact key _ _ (owz.ls p hp)
    ·rw [hp]; exact key _ _ kz
   generalize upd Hz1 p2 (.dK (kvF rfA (putG (putG A nm (rs.take n++rs.drop (n+1),p8)) nm ([[]],pz1))))=HF at sF owF ⊢
   refine ⟨_,rfl,le2,fun pe hpe=>?_⟩
   refine q _ pe p2 (sF.trans (same_new hpe _)) (by rw [hdue]; exact upd_same) ?_
   unfold ownN
   rw [hdue,if_pos rfl]
   refine ⟨_,?_,owF.same (same_new hpe _)⟩
   rw [put_map,put_map,eA]
   simp only [nxtD,er,Option.getD_some,Int.toNat_natCast]
   rw [if_pos c1']
   exact put_put (by rw [er]; rfl)
  have c1':¬ rs.length=1:=fun z=>c (decide_eq_true (by rw [z]; rfl))
  dsimp only [tNext]
  refine ⟨_,rfl,le2,fun pe hpe=>?_⟩
  refine q _ pe p2 (s9.trans (same_new hpe _)) (by rw [hdue]; exact upd_same) ?_
  unfold ownN
  rw [hdue,if_pos rfl]
  refine ⟨_,?_,ow9.same (same_new hpe _)⟩
  rw [put_map,eA]
  simp only [nxtD,er,Option.getD_some,Int.toNat_natCast]
  rw [if_neg c1']
theorem wd_ne:∀ i,decide (V.str (wd (some i))=V.str (PySem.Str.ofString ""))=false
 | 0=>decide_eq_false fun z=>absurd (V.str.inj z) (show ¬ (("name" : Str)=PySem.Str.ofString "") by decide +kernel)
 | 1=>decide_eq_false fun z=>absurd (V.str.inj z) (show ¬ (("twice" : Str)=PySem.Str.ofString "") by decide +kernel)
 | 2=>decide_eq_false fun z=>absurd (V.str.inj z) (show ¬ (("long" : Str)=PySem.Str.ofString "") by decide +kernel)
 | 3=>decide_eq_false fun z=>absurd (V.str.inj z) (show ¬ (("part" : Str)=PySem.Str.ofString "") by decide +kernel)
 | 4=>decide_eq_false fun z=>absurd (V.str.inj z) (show ¬ (("row" : Str)=PySem.Str.ofString "") by decide +kernel)
 | _+5=>decide_eq_false fun z=>absurd (V.str.inj z) (show ¬ (("nothing" : Str)=PySem.Str.ofString "") by decide +kernel)
theorem FrA.more {H G G':Hp} {x ea le:Addr} (f:FrA H G [x,ea,le]) (g:FrA G G' [x,ea]) : FrA H G' [x,ea,le]:=fun b o n h=>g b o (fun z=>n (by rcases List.mem_cons.mp z with z | z; rw [z]; simp; rw [List.mem_singleton.mp z]; simp)) (f b o n h)
theorem FrA.atl {H G:Hp} {x ea le:Addr} {u:HO} (f:FrA H G [x,ea,le]) : FrA H (upd G le u) [x,ea,le]:=fun b o n h=>by
 rw [upd_ne (fun z=>n (by rw [z]; simp))]
 exact f b o n h
def undoD:Deed:=⟨4,[],0,[]⟩
theorem undo_nx {L:OL} {D D0:PD} {o0:Addr} : nxt (kvF jn D) (hsOf (L++[(D0,o0)])) undoD=kvF jn D0∧nhs (kvF jn D) (hsOf (L++[(D0,o0)])) undoD=hsOf L:=by
 have e:hsOf (L++[(D0,o0)])=hsOf L++[kvF jn D0]:=by unfold hsOf; rw [List.map_append]; rfl
 rw [e]
 constructor
 ·show (hsOf L++[kvF jn D0]).getLast?.getD []=kvF jn D0
  rw [List.getLast?_append]; rfl
 ·show (hsOf L++[kvF jn D0]).dropLast=hsOf L
  rw [List.dropLast_concat]
theorem undo_no {D:PD} : due (kvF jn D) (hsOf []).length undoD=some 5:=rfl
theorem undo_ok {L:OL} {D:PD} {p:PD × Addr} : due (kvF jn D) (hsOf (L++[p])).length undoD=none:=by
 show (if (hsOf (L++[p])).length=0 then some 5 else none)=none
 rw [if_neg (by simp [hsOf])]
theorem undoT:[V.str (PySem.Str.ofString "undo"),V.str (PySem.Str.ofString ""),V.int 0,V.str (PySem.Str.ofString "")]=dV undoD:=dv_eq (k:=4) cE cE
theorem hs_len (L:OL) : (hsOf L).length=L.length:=List.length_map _
def sp_l_walk (K:PySem.W.Frag) (C:Addr) : Sp:=fun vs H Q _=>∃ (x sa le ea pa o:Addr) (L:OL) (D:PD) (ns:List Int),vs=[.ref x,.ref sa,.ref le]∧WkA C H x ea le pa L D o∧L.length≤20∧SqL K H sa (ns.map V.int)∧ns.length≤63∧∀ G pa' L' D' o',FrA H G [x,ea,le]→WkA C G x ea le pa' L' D' o'→L'.length≤90→Q (.bl true) G
theorem sc_l_walk:FnScope ["desk","script","elder","cell","own","due","done","deed"] ["desk","script","elder"] (defScope s_l_walk):=⟨rfl,rfl,rfl,by decide +kernel,rfl,by decide +kernel,by decide +kernel⟩
theorem ok_l_walk (T:Txt P w K mg a) : FnOk P w K mg base CX0 5 a.f_l_walk a.fd_l_walk ["desk","script","elder"] (sp_l_walk K a.c_Desk):=by
 have g_l_deed:=ok_l_deed (P:=P) (w:=w) (base:=base) T
 have d_l_deed:=T.d_l_deed
 have g_l_did:=ok_l_did (P:=P) (w:=w) (base:=base) T
 have d_l_did:=T.d_l_did
 have g_l_done_by:=ok_l_done_by (P:=P) (w:=w) (base:=base) T
 have d_l_done_by:=T.d_l_done_by
 have g_l_mixed:=ok_l_mixed (P:=P) (w:=w) (base:=base) T
 have d_l_mixed:=T.d_l_mixed
 have g_l_shelf_is:=ok_l_shelf_is (P:=P) (w:=w) (base:=base) T
 have d_l_shelf_is:=T.d_l_shelf_is
 have z_len:=T.z_len
 refine T.d_l_walk.fn.ok sc_l_walk (fun vs H Q E h=>?_) (fun cdv A outer s H vs Q E hr h=>?_)
 ·obtain ⟨x,sa,le,ea,pa,o,L,D,ns,rfl,_⟩:=h
  rfl
 obtain ⟨x,sa,le,ea,pa,o,L,D,ns,rfl,wk,hL,hS,h63,q⟩:=h
 have hu:=Nat.lt_of_succ_lt (hu_of hr)
 refine ⟨_,(pss_cons (ps_for PassesOwn.never rfl (pi_list (pe_slice sl_list (pv 1) (po_some pe_int) (po_some pe_int))) (pg_name (i:=3) sc_l_walk.nd rfl (Or.inl rfl)) (pss_cons (ps_set (i:=4) sc_l_walk.nd rfl (Or.inl rfl) (pe_ix ix_list (pv 2) (pe_un un_neg pe_int) (fun _ _=>rfl)))
   (pss_cons (ps_if (pt_cmpR op_eq (pe_op op_mod (pe_op op_fdiv (pe_callD d_l_mixed g_l_mixed (hr.mono (by decide)) rfl (pa_cons (pv 3) pa_nil)) pe_int) pe_int) pe_int (nomark _)) (pss_cons (ps_set (i:=5) sc_l_walk.nd rfl (Or.inl rfl) pe_str)
   (pss_cons (ps_if (pt_cmpR op_gt (pe_callB call_len_seq rfl z_len PySem.boot_len (pa_cons (pv 2) pa_nil)) pe_int (nomark _)) (pss_cons (ps_set (i:=5) sc_l_walk.nd rfl (Or.inl rfl) pe_str)
   (pss_one (ps_expr (pe_bm0 PySem.F.plainAttrs_list PySem.F.slot_list_pop PySem.F.type_list_pop mt_pop (pv 2))))) pss_nil)
   (pss_one (ps_set (i:=6) sc_l_walk.nd rfl (Or.inl rfl) (pe_callD d_l_did g_l_did (hr.mono (by decide)) rfl (pa_cons (pv 0) (pa_cons (pe_tup (pa_cons pe_str (pa_cons pe_str (pa_cons pe_int (pa_cons pe_str pa_nil))))) pa_nil))))))) (pss_cons (ps_set (i:=7) sc_l_walk.nd rfl (Or.inl rfl) (pe_callD d_l_deed g_l_deed (hr.mono (by decide)) rfl (pa_cons (pv 3) (pa_cons (pv 4) pa_nil))))
   (pss_cons (ps_asg (pe_callD d_l_done_by g_l_done_by (hr.mono (by decide)) rfl (pa_cons (pv 4) (pa_cons (pv 7) pa_nil))) (pg_tup rfl (pgs_cons (pg_name (i:=5) sc_l_walk.nd rfl (Or.inl rfl)) (pgs_cons (pg_name (i:=4) sc_l_walk.nd rfl (Or.inl rfl)) pgs_nil))))
   (pss_cons (ps_if (pt_cmpR op_eq (pv 5) pe_str (nomark _)) (pss_one (ps_expr (pe_bm PySem.F.plainAttrs_list PySem.F.slot_list_append PySem.F.type_list_append mt_append (pv 2) (pa_cons (pv 4) pa_nil)))) pss_nil)
   (pss_one (ps_set (i:=6) sc_l_walk.nd rfl (Or.inl rfl) (pe_callD d_l_did g_l_did (hr.mono (by decide)) rfl (pa_cons (pv 0) (pa_cons (pv 7) pa_nil)))))))))
   (pss_one (ps_if (PW.pt (pw_or (pt_cmpR (op_neT hu) (pv 6) (pe_tup (pa_cons (pv 5) (pa_cons pe_non pa_nil))) (nomark _)) (pw_or1 (pt_not (pt_val (pe_callD d_l_shelf_is g_l_shelf_is (hr.mono (by decide)) rfl (pa_cons (pv 0) (pa_cons (pe_ix ix_list (pv 2) (pe_un un_neg pe_int) (fun _ _=>rfl)) pa_nil))) (fun _=>rfl)))))) (pss_one (ps_ret pe_bl)) pss_nil)))))
   (pss_one (ps_ret pe_bl))),?_⟩
 refine ⟨_,rfl,_,rfl,_,rfl,_,_,rfl,hS,fun ps hps=>?_⟩
 rw [cutV_map]
 obtain ⟨cs,hcs⟩ : ∃ cs,cutL ns (some 1) (some 61)=cs:=⟨_,rfl⟩
 have hcl:cs.length≤63:=by rw [← hcs]; exact Nat.le_trans (cut_len _ _ _) h63
 rw [hcs]
 have sps:=same_new hps (.lst (cs.map V.int))
 have kps:upd H ps (.lst (cs.map V.int)) ps=some (.lst (cs.map V.int)):=upd_same
 generalize upd H ps (.lst (cs.map V.int))=H1 at sps kps ⊢
 refine ⟨_,rfl,⟨_,SqL.of kps⟩,for_list (K:=K) (a:=ps) (xs:=cs.map V.int) (fun i σ G=>FrA H G [x,ea,le]∧G ps=some (.lst (cs.map V.int))∧∃ (pa:Addr) (L:OL) (D:PD) (o:Addr) (v3 v4 v5 v6 v7:Option V),σ=[some (.ref x),some (.ref sa),some (.ref le),v3,v4,v5,v6,v7]∧WkA a.c_Desk G x ea le pa L D o∧L.length≤20+i) ⟨FrA.of sps _,kps,pa,L,D,o,_,_,_,_,_,rfl,wk.same sps,by omega⟩ (fun i σ G _ z=>SqL.of z.2.1) ?_ ?_⟩
 ·rintro i y σ G hy ⟨fG,kps,pa,L,D,o,v3,v4,v5,v6,v7,rfl,wk,hL⟩
  obtain ⟨c,rfl⟩:=get_int hy
  have hi:i < cs.length:=by have:=(List.getElem?_eq_some_iff.mp hy).1; rw [List.length_map] at this; exact this
  have hm:=mixed_in c
  have psno:∀ {G:Hp} {pa:Addr} {L:OL} {D:PD} {o:Addr},WkA a.c_Desk G x ea le pa L D o→G ps=some (.lst (cs.map V.int))→ps ∉ [x,ea]∧ps≠le:=fun {G pa L D o} wk k=>by
   cases hc:cs with
   | nil=>rw [hc] at hi; cases hi
   | cons z zs =>
    rw [hc] at k
    refine ⟨wk.dk.ne_el k (fun c e=>by cases e),fun e=>?_⟩
    rw [e,wk.at_] at k
    cases L with
    | nil=>cases k
    | cons q L=>cases k
  refine ⟨_,rfl,_,rfl,_,_,_,_,rfl,rfl,SqL.of wk.at_,atI_last _ _,?_⟩
  dsimp only [gName]
  refine cut_seq (fun σ' G=>FrA H G [x,ea,le]∧G ps=some (.lst (cs.map V.int))∧∃ (pa:Addr) (L:OL) (D:PD) (o pd:Addr) (w:Str) (v3 v4 v7:Option V),σ' = [some (.ref x),some (.ref sa),some (.ref le),v3,v4,some (.str w),some (.ref pd),v7]∧G pd=some (.tup [.str w,.non])∧WkA a.c_Desk G x ea le pa L D o∧L.length≤21+i) ?_ (fun key=>?_)
  ·rintro σ' G ⟨fG,kps,pa,L,D,o,pd,w,v3,v4,v7,rfl,kpd,wk,hL⟩
   refine ⟨_,rfl,_,rfl,le2,fun pu hpu=>?_⟩
   have su:=same_new hpu (.tup [V.str w,V.non])
   have ku:upd G pu (.tup [V.str w,V.non]) pu=some (.tup [V.str w,V.non]):=upd_same
   generalize upd G pu (.tup [V.str w,V.non])=G1 at su ku ⊢
   have wk1:=wk.same su
   refine ⟨_,_,_,_,rfl,rfl,SqT.of (su _ _ kpd),SqT.of ku,rfl,rfl,_,rfl,?_⟩
   refine iteN (by rw [if_pos rfl,eqVs_refl rfl]; rfl) ?_
   refine ⟨_,rfl,_,rfl,_,rfl,_,_,_,_,rfl,rfl,SqL.of wk1.at_,atI_last _ _,x,pa,ea,o,D,hsOf L,rfl,wk1.dk,wk1.own,wk1.dok,fun G2 s2=>⟨_,rfl,?_⟩⟩
   refine iteN rfl ?_
   have s02:=su.trans s2
   exact ⟨fG.trans (FrA.of s02 _),s02 _ _ kps,pa,L,D,o,_,_,_,_,_,rfl,wk.same s02,by omega⟩
  ·refine ⟨_,rfl,c,rfl,_,_,rfl,rfl,⟨by decide,by decide⟩,_,_,rfl,rfl,(by (first | decide | (show (0:Int) < _; first | decide | omega))),rfl,_,rfl,?_⟩
   refine ite2 (fun ct=>?_) (fun ct=>?_)
   ·have hlen:((L.map fun q=>V.ref q.2)++[V.ref o]).length=L.length+1:=by simp
    refine ⟨_,rfl,_,_,rfl,.inl (SqL.of wk.at_),_,_,rfl,rfl,_,rfl,?_⟩
    rw [hlen]
    rcases List.eq_nil_or_concat L with hl | ⟨L0,⟨D0,o0⟩,hl⟩
    ·subst hl
     refine iteN (decide_eq_false (by simp)) ?_
     dsimp only [tNext]
     refine ⟨_,rfl,small (by simp),fun pt hpt=>?_⟩
     rw [undoT]
     have st:=same_new hpt (.tup (dV undoD))
     have kt:upd G pt (.tup (dV undoD)) pt=some (.tup (dV undoD)):=upd_same
     generalize upd G pt (.tup (dV undoD))=G1 at st kt ⊢
     have wk1:=wk.same st
     refine ⟨x,pa,ea,_,_,undoD,pt,rfl,kt,by decide,⟨wk1.dk,nm_e,wk1.dok.tx,by decide,by rw [len_kvF]; have:=wk1.dok.ln; omega,by simp [hsOf]⟩,fun j e G2 pd s2 kd=>?_,fun e=>(by rw [undo_no] at e; cases e)⟩
     rw [undo_no] at e
     cases e
     have s02:=st.trans s2
     exact key _ _ ⟨fG.trans (FrA.of s02 _),s02 _ _ kps,pa,[],D,o,pd,_,_,_,_,rfl,kd,wk.same s02,by simp⟩
    ·rw [List.concat_eq_append] at hl
     subst hl
     refine iteY (decide_eq_true (by simp; omega)) ?_
     have hat:=wk.at_
     refine ⟨_,rfl,.inl ⟨rfl,_,SqL.of hat⟩,_,_,V.ref o,rfl,rfl,hat,by rw [List.length_append]; simp,?_⟩
     rw [List.dropLast_concat]
     have hols:∀ q ∈ L0++[(D0,o0)],OwnA (upd G le (.lst ((L0++[(D0,o0)]).map fun q=>V.ref q.2))) q.2 q.1:=fun q hq=>(wk.ol.ow q (List.mem_append_left _ hq)).at_le (wk.ok q (List.mem_append_left _ hq)) wk.ol.at_
     have dk1:=wk.dk.at_le (ys:=(L0++[(D0,o0)]).map fun q=>V.ref q.2) hat wk.ne
     have ol1:OlA (upd G le (.lst ((L0++[(D0,o0)]).map fun q=>V.ref q.2))) le (L0++[(D0,o0)]):=⟨upd_same,hols⟩
     have f1:=fG.atl (u:=.lst ((L0++[(D0,o0)]).map fun q=>V.ref q.2))
     have kps1:upd G le (.lst ((L0++[(D0,o0)]).map fun q=>V.ref q.2)) ps=some (.lst (cs.map V.int)):=by rw [upd_ne (psno wk kps).2]; exact kps
     generalize upd G le (.lst ((L0++[(D0,o0)]).map fun q=>V.ref q.2))=G1 at dk1 ol1 f1 kps1 ⊢
     refine ⟨_,rfl,small (by simp),fun pt hpt=>?_⟩
     rw [undoT]
     have st:=same_new hpt (.tup (dV undoD))
     have kt:upd G1 pt (.tup (dV undoD)) pt=some (.tup (dV undoD)):=upd_same
     generalize upd G1 pt (.tup (dV undoD))=G2 at st kt ⊢
     have dk2:=dk1.same st
     have ol2:=ol1.same st
     have hLl:(L0++[(D0,o0)]).length≤20+i:=hL
     refine ⟨x,pa,ea,_,_,undoD,pt,rfl,kt,by decide,⟨dk2,nm_e,wk.dok.tx,by decide,by rw [len_kvF]; have:=wk.dok.ln; omega,by rw [hs_len]; omega⟩,fun j e=>(by rw [undo_ok] at e; cases e),fun e G3 pd pa3 dk3 fr3 kd=>?_⟩
     rw [undo_nx.1,undo_nx.2] at dk3
     have okq:∀ q ∈ L0++[(D0,o0)],DOk q.1:=fun q hq=>wk.ok q (List.mem_append_left _ hq)
     have leno:le ∉ [x,ea]:=fun z=>by
      obtain ⟨dx,fa,ia,k1⟩:=dk2.ob
      rcases List.mem_cons.mp z with z | z
      ·have:=ol2.at_; rw [z,k1] at this; cases this
      ·exact wk.ne (List.mem_singleton.mp z)
     have wk3:WkA a.c_Desk G3 x ea le pa3 L0 D0 o0:=⟨dk3,⟨fr3 _ _ leno ol2.at_,fun q hq=>(ol2.ow q hq).frd (okq q hq) dk2 fr3⟩,okq,wk.ne⟩
     have psn:ps ∉ [x,ea]:=by
      cases hc:cs with
      | nil=>rw [hc] at hi; cases hi
      | cons z zs =>
       have k2:=st _ _ kps1
       rw [hc] at k2
       exact dk2.ne_el k2 (fun c e=>by cases e)
     exact key _ _ ⟨(f1.trans (FrA.of st _)).more fr3,fr3 _ _ psn (st _ _ kps1),pa3,L0,D0,o0,pd,_,_,_,_,rfl,kd,wk3,by rw [List.length_append] at hLl; omega⟩
   ·have dok:=wk.dok
    refine ⟨_,rfl,_,rfl,c,o,D,rfl,wk.own,dok,fun G1 pd d s1 kd dOk=>?_⟩
    dsimp only [gName]
    refine ⟨_,rfl,_,rfl,o,pd,D,d,rfl,kd,(wk.own).same s1,dok,dOk,fun G2 pt o' s2 kt own2=>?_⟩
    refine ⟨pt,_,rfl,SqT.of kt,rfl,_,_,rfl,_,_,rfl,rfl,?_⟩
    dsimp only [gName]
    have s12:=s1.trans s2
    have wk2:=wk.same s12
    have kps2:=s12 _ _ kps
    have f2:=fG.trans (FrA.of s12 _)
    have kd2:=s2 _ _ kd
    have hdk:=due_kv dok dOk.k4 (hsOf L).length
    have hD20:=dok.ln
    refine ⟨_,rfl,rfl,_,rfl,?_⟩
    cases hdue:dueD D d with
    | some j =>
     rw [hdue] at kt
     refine iteN (wd_ne j) ?_
     dsimp only [tNext]
     refine ⟨_,rfl,_,rfl,x,pa,ea,_,_,d,pd,rfl,kd2,by have:=dOk.k4; omega,⟨wk2.dk,dOk.nm,dok.tx,dOk.ln,by rw [len_kvF]; omega,by rw [hs_len]; omega⟩,fun j' e G3 pr s3 kr=>?_,fun e=>(by rw [hdk,hdue] at e; cases e)⟩
     rw [hdk,hdue] at e
     cases e
     exact key _ _ ⟨f2.trans (FrA.of s3 _),s3 _ _ kps2,pa,L,D,o,pr,_,_,_,_,rfl,kr,wk2.same s3,by omega⟩
    | none =>
     rw [hdue] at kt
     refine iteY (decide_eq_true rfl) ?_
     have eD:ownN D d=nxtD D d:=by unfold ownN; rw [if_pos hdue]
     rw [eD] at own2
     have dok2:=dok.nxt dOk hdue
     have hat:=wk2.at_
     refine ⟨_,rfl,.inl ⟨rfl,_,SqL.of hat⟩,_,rfl,_,_,_,rfl,rfl,hat,small1000 (by simp; omega),?_⟩
     rw [show ((L.map fun q=>V.ref q.2)++[V.ref o]++[V.ref o'])=((L++[(D,o)])++[(nxtD D d,o')]).map fun q=>V.ref q.2 by simp]
     have okq:∀ q ∈ (L++[(D,o)])++[(nxtD D d,o')],DOk q.1:=fun q hq=>by
      rcases List.mem_append.mp hq with hq | hq
      ·exact wk.ok q hq
      ·rw [List.mem_singleton.mp hq]; exact dok2
     have dk3:=wk2.dk.at_le (ys:=((L++[(D,o)])++[(nxtD D d,o')]).map fun q=>V.ref q.2) hat wk.ne
     have ol3:OlA (upd G2 le (.lst (((L++[(D,o)])++[(nxtD D d,o')]).map fun q=>V.ref q.2))) le ((L++[(D,o)])++[(nxtD D d,o')]):=by
      refine ⟨upd_same,fun q hq=>?_⟩
      rcases List.mem_append.mp hq with hq' | hq'
      ·exact (wk2.ol.ow q hq').at_le (wk.ok q hq') wk2.ol.at_
      ·rw [List.mem_singleton.mp hq']; exact own2.at_le dok2 wk2.ol.at_
     have f3:=f2.atl (u:=.lst (((L++[(D,o)])++[(nxtD D d,o')]).map fun q=>V.ref q.2))
     have kps3:upd G2 le (.lst (((L++[(D,o)])++[(nxtD D d,o')]).map fun q=>V.ref q.2)) ps=some (.lst (cs.map V.int)):=by rw [upd_ne (psno wk2 kps2).2]; exact kps2
     have kd3:upd G2 le (.lst (((L++[(D,o)])++[(nxtD D d,o')]).map fun q=>V.ref q.2)) pd=some (.tup (dV d)):=by rw [upd_ne (fun z=>by rw [z,hat] at kd2; cases kd2)]; exact kd2
     generalize upd G2 le (.lst (((L++[(D,o)])++[(nxtD D d,o')]).map fun q=>V.ref q.2))=G3 at dk3 ol3 f3 kps3 kd3 ⊢
     refine ⟨_,rfl,_,rfl,x,pa,ea,_,_,d,pd,rfl,kd3,by have:=dOk.k4; omega,⟨dk3,dOk.nm,dok.tx,dOk.ln,by rw [len_kvF]; omega,by rw [hs_len]; omega⟩,fun j' e=>(by rw [hdk,hdue] at e; cases e),fun e G4 pr pa4 dk4 fr4 kr=>?_⟩
     have enh:nhs (kvF jn D) (hsOf L) d=hsOf (L++[(D,o)]):=(if_pos dOk.k4).trans (by unfold hsOf; rw [List.map_append]; rfl)
     rw [nxt_kv dok dOk.k4 hdue,enh] at dk4
     have leno:le ∉ [x,ea]:=fun z=>by
      obtain ⟨dx,fa,ia,k1⟩:=dk3.ob
      rcases List.mem_cons.mp z with z | z
      ·have:=ol3.at_; rw [z,k1] at this; cases this
      ·exact wk.ne (List.mem_singleton.mp z)
     have wk4:WkA a.c_Desk G4 x ea le pa4 (L++[(D,o)]) (nxtD D d) o':=⟨dk4,⟨fr4 _ _ leno ol3.at_,fun q hq=>(ol3.ow q hq).frd (okq q hq) dk3 fr4⟩,okq,wk.ne⟩
     have psn:ps ∉ [x,ea]:=by
      cases hc:cs with
      | nil=>rw [hc] at hi; cases hi
      | cons z zs =>
       have k2:=kps3
       rw [hc] at k2
       exact dk3.ne_el k2 (fun c e=>by cases e)
     exact key _ _ ⟨f3.more fr4,fr4 _ _ psn kps3,pa4,L++[(D,o)],nxtD D d,o',pr,_,_,_,_,rfl,kr,wk4,by rw [List.length_append]; simp; omega⟩
 ·rintro σ G ⟨fG,kps,pa,L,D,o,v3,v4,v5,v6,v7,rfl,wk,hL⟩
  rw [List.length_map] at hL
  exact q G pa L D o fG wk (by omega)
theorem sc_law:FnScope ["script","number","desk","elder","k","own","held","kept"] ["script"] (defScope s_law):=⟨rfl,rfl,rfl,by decide +kernel,rfl,by decide +kernel,by decide +kernel⟩
theorem ok_law (T:Txt P w K mg a) : FnOk P w K mg base CX0 6 a.f_law a.fd_law ["script"] (sp_law K):=by
 have g_Desk_init:=ok_Desk_init (P:=P) (w:=w) (base:=base) T
 have d_Desk_init:=T.d_Desk_init
 have g_Desk_put_part:=ok_Desk_put_part (P:=P) (w:=w) (base:=base) T
 have d_Desk_put_part:=T.d_Desk_put_part
 have g_Desk_shelf:=ok_Desk_shelf (P:=P) (w:=w) (base:=base) T
 have d_Desk_shelf:=T.d_Desk_shelf
 have g_l_cell_at:=ok_l_cell_at (P:=P) (w:=w) (base:=base) T
 have d_l_cell_at:=T.d_l_cell_at
 have g_l_did:=ok_l_did (P:=P) (w:=w) (base:=base) T
 have d_l_did:=T.d_l_did
 have g_l_mixed:=ok_l_mixed (P:=P) (w:=w) (base:=base) T
 have d_l_mixed:=T.d_l_mixed
 have g_l_shelf_is:=ok_l_shelf_is (P:=P) (w:=w) (base:=base) T
 have d_l_shelf_is:=T.d_l_shelf_is
 have g_l_walk:=ok_l_walk (P:=P) (w:=w) (base:=base) T
 have d_l_walk:=T.d_l_walk
 have z_dict:=T.z_dict
 have z_len:=T.z_len
 have z_range:=T.z_range
 have z_str:=T.z_str
 have k_Desk:=T.k_Desk
 refine T.d_law.fn.ok sc_law (fun vs H Q E h=>?_) (fun cdv A outer s H vs Q E hr h=>?_)
 ·obtain ⟨a,ns,rfl,_⟩:=h
  rfl
 obtain ⟨sa,ns,rfl,hS,h63,q⟩:=h
 have hu:=Nat.lt_of_succ_lt (hu_of hr)
 refine ⟨_,(pss_cons (ps_set (i:=1) sc_law.nd rfl (Or.inl rfl) (pe_callD d_l_mixed g_l_mixed (hr.mono (by decide)) rfl (pa_cons (pe_callD d_l_cell_at g_l_cell_at (hr.mono (by decide)) rfl (pa_cons (pv 0) (pa_cons pe_int pa_nil))) pa_nil)))
   (pss_cons (ps_set (i:=2) sc_law.nd rfl (Or.inl rfl) (pe_new pass_never k_Desk d_Desk_init g_Desk_init (hr.mono (by decide)) rfl (pa_cons (pe_tup (pa_cons (pe_op op_add pe_int (pe_op op_mod (pv 1) pe_int)) (pa_cons (pe_op op_add pe_int (pe_op op_mod (pe_op op_fdiv (pv 1) pe_int) pe_int)) (pa_cons (pe_op op_fdiv (pv 1) pe_int) (pa_cons (pe_op op_add pe_int (pe_op op_mod (pe_op op_fdiv (pv 1) pe_int) pe_int)) pa_nil))))) pa_nil)))
   (pss_cons (ps_set (i:=3) sc_law.nd rfl (Or.inl rfl) (pe_lst (pa_cons pe_dnewK pa_nil)))
   (pss_cons (ps_if (pt_cmpR op_eq (pe_op op_mod (pv 1) pe_int) pe_int (nomark _)) (pss_one (ps_for PassesOwn.never rfl (pi_range1 rfl z_range (pa_cons (pe_op op_add pe_int (pe_op op_mod (pe_op op_fdiv (pv 1) pe_int) pe_int)) pa_nil)) (pg_name (i:=4) sc_law.nd rfl (Or.inl rfl)) (pss_cons (ps_set (i:=5) sc_law.nd rfl (Or.inl rfl) (pe_callTy call_dict_of rfl z_dict PyProof.Rows.boot_dict (pa_cons (pe_ix ix_list (pv 3) (pe_un un_neg pe_int) (fun _ _=>rfl)) pa_nil)))
   (pss_cons (ps_dput (hu_of hr) (pv 5) (pe_op op_add_str pe_str (pe_callTy call_str_int rfl z_str PyProof.Rows.boot_str (pa_cons (pv 4) pa_nil))) (pe_lst (pa_cons pe_str pa_nil)) rfl)
   (pss_cons (ps_expr (pe_bm PySem.F.plainAttrs_list PySem.F.slot_list_append PySem.F.type_list_append mt_append (pv 3) (pa_cons (pv 5) pa_nil)))
   (pss_one (ps_if (pt_cmpR op_notN (pe_mc pass_never k_Desk d_Desk_put_part g_Desk_put_part (hr.mono (by decide)) (pv 2) (pa_cons (pe_op op_add_str pe_str (pe_callTy call_str_int rfl z_str PyProof.Rows.boot_str (pa_cons (pv 4) pa_nil))) (pa_cons pe_str pa_nil))) pe_non (nomark _)) (pss_one (ps_ret pe_bl)) pss_nil))))))) pss_nil)
   (pss_cons (ps_if (pt_not (pt_val (pe_callD d_l_walk g_l_walk (hr.mono (by decide)) rfl (pa_cons (pv 2) (pa_cons (pv 0) (pa_cons (pv 3) pa_nil)))) (fun _=>rfl))) (pss_one (ps_ret pe_bl)) pss_nil)
   (pss_cons (ps_set (i:=6) sc_law.nd rfl (Or.inl rfl) (pe_mc0 pass0 k_Desk d_Desk_shelf g_Desk_shelf (hr.mono (by decide)) (pv 2) ))
   (pss_cons (ps_set (i:=7) sc_law.nd rfl (Or.inl rfl) (pe_callTy call_dict_of rfl z_dict PyProof.Rows.boot_dict (pa_cons (pv 6) pa_nil)))
   (pss_cons (ps_while PassesOwn.never (pt_cmpR op_gt (pe_callB call_len_seq rfl z_len PySem.boot_len (pa_cons (pv 3) pa_nil)) pe_int (nomark _)) (pss_cons (ps_expr (pe_bm0 PySem.F.plainAttrs_list PySem.F.slot_list_pop PySem.F.type_list_pop mt_pop (pv 3)))
   (pss_one (ps_if (PW.pt (pw_or (pt_cmpR (op_neT hu) (pe_callD d_l_did g_l_did (hr.mono (by decide)) rfl (pa_cons (pv 2) (pa_cons (pe_tup (pa_cons pe_str (pa_cons pe_str (pa_cons pe_int (pa_cons pe_str pa_nil))))) pa_nil))) (pe_tup (pa_cons pe_str (pa_cons pe_non pa_nil))) (nomark _)) (pw_or1 (pt_not (pt_val (pe_callD d_l_shelf_is g_l_shelf_is (hr.mono (by decide)) rfl (pa_cons (pv 2) (pa_cons (pe_ix ix_list (pv 3) (pe_un un_neg pe_int) (fun _ _=>rfl)) pa_nil))) (fun _=>rfl)))))) (pss_one (ps_ret pe_bl)) pss_nil))))
   (pss_one (ps_ret (pe_and (pe_cmpR (op_eqT hu) (pe_callD d_l_did g_l_did (hr.mono (by decide)) rfl (pa_cons (pv 2) (pa_cons (pe_tup (pa_cons pe_str (pa_cons pe_str (pa_cons pe_int (pa_cons pe_str pa_nil))))) pa_nil))) (pe_tup (pa_cons pe_str (pa_cons pe_non pa_nil))) (nomark _)) (pe_one (pe_cmpR (op_eqD hu) (pv 6) (pv 7) (nomark _)))))))))))))),?_⟩
 refine ⟨_,rfl,sa,ns,0,rfl,hS,_,rfl,?_⟩
 have hm:=mixed_in (ns.getD 0 0)
 obtain ⟨m,hm'⟩ : ∃ m:Nat,mixed (ns.getD 0 0)=(m:Int):=⟨(mixed (ns.getD 0 0)).toNat,by omega⟩
 rw [hm'] at hm ⊢
 refine ⟨_,rfl,_,_,rfl,rfl,(by (first | decide | (show (0:Int) < _; first | decide | omega))),_,_,rfl,rfl,_,rfl,_,_,rfl,rfl,⟨by decide,by decide⟩,_,_,rfl,rfl,(by (first | decide | (show (0:Int) < _; first | decide | omega))),_,_,rfl,rfl,_,rfl,_,_,rfl,rfl,⟨by decide,by decide⟩,_,rfl,_,_,rfl,rfl,⟨by decide,by decide⟩,_,_,rfl,rfl,(by (first | decide | (show (0:Int) < _; first | decide | omega))),_,_,rfl,rfl,small (by simp),fun pf hpf=>?_⟩
 dsimp only
 have sf:=same_new hpf (.tup [V.int (1+(m:Int) % 200),V.int (1+(m:Int) / 200 % 60),V.int ((m:Int) / 12000),V.int (1+(m:Int) / 12000 % 60)])
 have kf:upd H pf (.tup [V.int (1+(m:Int) % 200),V.int (1+(m:Int) / 200 % 60),V.int ((m:Int) / 12000),V.int (1+(m:Int) / 12000 % 60)]) pf=some (.tup (frV ⟨1+(m:Int) % 200,1+(m:Int) / 200 % 60,(m:Int) / 12000,1+(m:Int) / 12000 % 60⟩)):=upd_same
 generalize upd H pf (.tup [V.int (1+(m:Int) % 200),V.int (1+(m:Int) / 200 % 60),V.int ((m:Int) / 12000),V.int (1+(m:Int) / 12000 % 60)])=Hf at sf kf ⊢
 intro x dx hx hdx ndx
 have hx':upd Hf dx (.own x) x=none:=by rw [upd_ne (Ne.symm ndx)]; exact hx
 have sm:=(same_new hdx (.own x)).trans (same_new hx' (.ins a.c_Desk dx []))
 have kx:upd (upd Hf dx (.own x)) x (.ins a.c_Desk dx []) x=some (.ins a.c_Desk dx []):=upd_same
 generalize upd (upd Hf dx (.own x)) x (.ins a.c_Desk dx [])=H0 at sm kx ⊢
 have okF:FrOk ⟨1+(m:Int) % 200,1+(m:Int) / 200 % 60,(m:Int) / 12000,1+(m:Int) / 12000 % 60⟩:=by
  have t60:(2305843009213693951:Int)≤10 ^ 60:=by decide +kernel
  refine ⟨⟨by dsimp only; omega,by dsimp only; omega⟩,⟨by dsimp only; omega,by dsimp only; omega⟩,⟨by dsimp only; omega,?_⟩,⟨by dsimp only; omega,by dsimp only; omega⟩⟩
  show (m:Int) / 12000≤10 ^ 60
  generalize (10:Int) ^ 60=t at t60 ⊢
  omega
 refine ⟨x,dx,pf,⟨1+(m:Int) % 200,1+(m:Int) / 200 % 60,(m:Int) / 12000,1+(m:Int) / 12000 % 60⟩,rfl,sm _ _ kf,kx,fun e=>absurd okF e,fun _ H1 pa ea hea dk fr=>⟨rfl,?_⟩⟩
 have hHx:H x=none:=sf.free hx
 have hHe:H ea=none:=sf.free (sm.free hea)
 have s1:Same H H1:=fr.same (sf.trans sm) (by simp [hHx])
 have hos:∀ b ∈ [x,ea],H b=none:=by simp [hHx,hHe]
 clear fr sm kx hea H0 kf
 dsimp only [gName]
 intro po hpo
 have spo:=same_new hpo (.dK [])
 have kpo:upd H1 po (.dK []) po=some (.dK (kvF rfA [])):=upd_same
 generalize upd H1 po (.dK [])=H2 at spo kpo ⊢
 refine ⟨le1,fun le hle=>?_⟩
 have sle:=same_new hle (.lst [V.ref po])
 have kle:upd H2 le (.lst [V.ref po]) le=some (.lst [V.ref po]):=upd_same
 have hHl:H le=none:=s1.free (spo.free hle)
 have nle:le≠ea:=fun z=>by
  obtain ⟨es,h3,_⟩:=dk.el
  rw [z,spo _ _ h3] at hle
  cases hle
 have kpo2:=sle _ _ kpo
 have s2:=s1.trans (spo.trans sle)
 have dk2:=dk.same (spo.trans sle)
 generalize upd H2 le (.lst [V.ref po])=H3 at sle kle kpo2 s2 dk2 ⊢
 have ok0:DOk []:=⟨List.nodup_nil,by simp,fun p hp=>nomatch hp⟩
 have wk0:WkA a.c_Desk H3 x ea le pa [] [] po:=⟨dk2,⟨kle,fun q hq=>by rw [List.mem_singleton.mp hq]; exact ⟨[],rfl,kpo2,fun p hp=>nomatch hp⟩⟩,fun q hq=>by rw [List.mem_singleton.mp hq]; exact ok0,nle⟩
 have hos3:∀ b ∈ [x,ea,le],H b=none:=by simp [hHx,hHe,hHl]
 dsimp only [gName]
 refine cut_seq (fun σ' G=>Same H G∧∃ (pa:Addr) (L:OL) (D:PD) (o:Addr) (v4 v5:Option V),σ' = [some (.ref sa),some (.int (m:Int)),some (.ref x),some (.ref le),v4,v5,none,none]∧WkA a.c_Desk G x ea le pa L D o∧L.length≤20) ?_ (fun key=>?_)
 ·rintro σ' G ⟨sG,pa,L,D,o,v4,v5,rfl,wk,hL⟩
  refine ⟨_,rfl,_,rfl,_,rfl,x,sa,le,ea,pa,o,L,D,ns,rfl,wk,hL,sG.seq hS,h63,fun G1 pa1 L1 D1 o1 f1 wk1 hL1=>⟨_,rfl,?_⟩⟩
  refine iteN rfl ?_
  dsimp only [tNext]
  have wk10:=wk1
  obtain ⟨dx1,fa1,ia1,h1⟩:=wk10.dk.ob
  refine ⟨_,rfl,_,_,_,rfl,h1,lkn_shelf,x,pa1,ea,_,_,rfl,wk1.dk,fun ph hph=>?_⟩
  have sh:=same_new hph (.dK (kvF jn D1))
  have kh:upd G1 ph (.dK (kvF jn D1)) ph=some (.dK (kvF jn D1)):=upd_same
  generalize upd G1 ph (.dK (kvF jn D1))=G2 at sh kh ⊢
  dsimp only [gName]
  refine ⟨_,rfl,_,_,rfl,.inl kh,fun pk hpk=>?_⟩
  have sk:=same_new hpk (.dK (kvF jn D1))
  have kk1:upd G2 pk (.dK (kvF jn D1)) pk=some (.dK (kvF jn D1)):=upd_same
  have kh2:=sk _ _ kh
  generalize upd G2 pk (.dK (kvF jn D1))=G3 at sk kk1 kh2 ⊢
  have wk3:=wk1.same (sh.trans sk)
  have flat:=kv_flat wk1.dok.tx
  dsimp only [gName]
  refine ⟨fun n σ G=>∃ (pa:Addr) (L:OL) (D:PD) (o:Addr),n=L.length∧σ=[some (.ref sa),some (.int (m:Int)),some (.ref x),some (.ref le),v4,v5,some (.ref ph),some (.ref pk)]∧WkA a.c_Desk G x ea le pa L D o∧G ph=some (.dK (kvF jn D1))∧G pk=some (.dK (kvF jn D1))∧L.length≤90,⟨L1.length,pa1,L1,D1,o1,rfl,rfl,wk3,kh2,kk1,hL1⟩,?_⟩
  rintro n σ G ⟨pa,L,D,o,rfl,rfl,wk,kh,kk1,hL⟩
  have hlen:((L.map fun q=>V.ref q.2)++[V.ref o]).length=L.length+1:=by simp
  refine ⟨_,rfl,_,_,rfl,.inl (SqL.of wk.at_),_,_,rfl,rfl,_,rfl,?_⟩
  rw [hlen]
  rcases List.eq_nil_or_concat L with hl | ⟨L0,⟨D0,o0⟩,hl⟩
  ·subst hl
   refine iteN (decide_eq_false (by simp)) ?_
   refine ⟨_,rfl,small (by simp),fun pt hpt=>?_⟩
   rw [undoT]
   have st:=same_new hpt (.tup (dV undoD))
   have kt:upd G pt (.tup (dV undoD)) pt=some (.tup (dV undoD)):=upd_same
   generalize upd G pt (.tup (dV undoD))=G4 at st kt ⊢
   have wk4:=wk.same st
   refine ⟨x,pa,ea,_,_,undoD,pt,rfl,kt,by decide,⟨wk4.dk,nm_e,wk4.dok.tx,by decide,by rw [len_kvF]; have:=wk4.dok.ln; omega,by simp [hsOf]⟩,fun j e G5 pd s5 kd=>?_,fun e=>(by rw [undo_no] at e; cases e)⟩
   rw [undo_no] at e
   cases e
   refine ⟨le2,fun pu hpu=>?_⟩
   have su:=same_new hpu (.tup [V.str (PySem.Str.ofString "nothing"),V.non])
   have ku:upd G5 pu (.tup [V.str (PySem.Str.ofString "nothing"),V.non]) pu=some (.tup [V.str (PySem.Str.ofString "nothing"),V.non]):=upd_same
   have kdu:=su _ _ kd
   have kh6:=su _ _ (s5 _ _ (st _ _ kh))
   have kk6:=su _ _ (s5 _ _ (st _ _ kk1))
   generalize upd G5 pu (.tup [V.str (PySem.Str.ofString "nothing"),V.non])=G6 at su ku kdu kh6 kk6 ⊢
   refine ⟨_,_,_,_,rfl,rfl,SqT.of kdu,SqT.of ku,rfl,rfl,_,rfl,?_⟩
   refine iteY (by rw [if_neg (by decide)]; exact eqVs_refl (xs:=[V.str (PySem.Str.ofString "nothing"),V.non]) rfl) ?_
   exact ⟨_,rfl,_,rfl,_,_,_,rfl,rfl,kh6,kk6,flat,q _⟩
  ·rw [List.concat_eq_append] at hl
   subst hl
   refine iteY (decide_eq_true (by simp; omega)) ?_
   refine ⟨fun σ' G'=>∃ m',m' < (L0++[(D0,o0)]).length∧∃ (pa:Addr) (L:OL) (D:PD) (o:Addr),m' = L.length∧σ' = [some (.ref sa),some (.int (m:Int)),some (.ref x),some (.ref le),v4,v5,some (.ref ph),some (.ref pk)]∧WkA a.c_Desk G' x ea le pa L D o∧G' ph=some (.dK (kvF jn D1))∧G' pk=some (.dK (kvF jn D1))∧L.length≤90,fun _ _ h=>h,?_⟩
   have hat:=wk.at_
   refine ⟨_,rfl,.inl ⟨rfl,_,SqL.of hat⟩,_,_,V.ref o,rfl,rfl,hat,by rw [List.length_append]; simp,?_⟩
   rw [List.dropLast_concat]
   have hols:∀ q ∈ L0++[(D0,o0)],OwnA (upd G le (.lst ((L0++[(D0,o0)]).map fun q=>V.ref q.2))) q.2 q.1:=fun q hq=>(wk.ol.ow q (List.mem_append_left _ hq)).at_le (wk.ok q (List.mem_append_left _ hq)) wk.ol.at_
   have dk4:=wk.dk.at_le (ys:=(L0++[(D0,o0)]).map fun q=>V.ref q.2) hat wk.ne
   have ol4:OlA (upd G le (.lst ((L0++[(D0,o0)]).map fun q=>V.ref q.2))) le (L0++[(D0,o0)]):=⟨upd_same,hols⟩
   have kd4:∀ b w,G b=some (.dK w)→upd G le (.lst ((L0++[(D0,o0)]).map fun q=>V.ref q.2)) b=some (.dK w):=fun b w z=>by rw [upd_ne (fun e=>by rw [e,hat] at z; cases z)]; exact z
   generalize upd G le (.lst ((L0++[(D0,o0)]).map fun q=>V.ref q.2))=G4 at dk4 ol4 kd4 ⊢
   refine ⟨_,rfl,small (by simp),fun pt hpt=>?_⟩
   rw [undoT]
   have st:=same_new hpt (.tup (dV undoD))
   have kt:upd G4 pt (.tup (dV undoD)) pt=some (.tup (dV undoD)):=upd_same
   generalize upd G4 pt (.tup (dV undoD))=G5 at st kt ⊢
   have dk5:=dk4.same st
   have ol5:=ol4.same st
   have hLl:(L0++[(D0,o0)]).length≤90:=hL
   refine ⟨x,pa,ea,_,_,undoD,pt,rfl,kt,by decide,⟨dk5,nm_e,wk.dok.tx,by decide,by rw [len_kvF]; have:=wk.dok.ln; omega,by rw [hs_len]; omega⟩,fun j e=>(by rw [undo_ok] at e; cases e),fun e G6 pd pa6 dk6 fr6 kd=>?_⟩
   rw [undo_nx.1,undo_nx.2] at dk6
   have okq:∀ q ∈ L0++[(D0,o0)],DOk q.1:=fun q hq=>wk.ok q (List.mem_append_left _ hq)
   have leno:le ∉ [x,ea]:=fun z=>by
    obtain ⟨dx,fa,ia,k1⟩:=dk5.ob
    rcases List.mem_cons.mp z with z | z
    ·have:=ol5.at_; rw [z,k1] at this; cases this
    ·exact wk.ne (List.mem_singleton.mp z)
   have wk6:WkA a.c_Desk G6 x ea le pa6 L0 D0 o0:=⟨dk6,⟨fr6 _ _ leno ol5.at_,fun q hq=>(ol5.ow q hq).frd (okq q hq) dk5 fr6⟩,okq,wk.ne⟩
   have keep:∀ b w,G b=some (.dK w)→G6 b=some (.dK w):=fun b w z=>by
    have z5:=st _ _ (kd4 _ _ z)
    exact fr6 _ _ (dk5.ne_dk z5) z5
   refine ⟨le2,fun pu hpu=>?_⟩
   have su:=same_new hpu (.tup [V.str (PySem.Str.ofString ""),V.non])
   have ku:upd G6 pu (.tup [V.str (PySem.Str.ofString ""),V.non]) pu=some (.tup [V.str (PySem.Str.ofString ""),V.non]):=upd_same
   have kdu:=su _ _ kd
   generalize upd G6 pu (.tup [V.str (PySem.Str.ofString ""),V.non])=G7 at su ku kdu ⊢
   have wk7:=wk6.same su
   refine ⟨_,_,_,_,rfl,rfl,SqT.of kdu,SqT.of ku,rfl,rfl,_,rfl,?_⟩
   refine iteN (by rw [if_pos rfl]; show (!eqVs [V.str (PySem.Str.ofString ""),V.non] [V.str (PySem.Str.ofString ""),V.non])=false; rw [eqVs_refl rfl]; rfl) ?_
   refine ⟨_,rfl,_,rfl,_,rfl,_,_,_,_,rfl,rfl,SqL.of wk7.at_,atI_last _ _,x,pa6,ea,o0,D0,hsOf L0,rfl,wk7.dk,wk7.own,wk7.dok,fun G8 s8=>⟨_,rfl,?_⟩⟩
   refine iteN rfl ?_
   have s78:=su.trans s8
   exact ⟨L0.length,by simp,pa6,L0,D0,o0,rfl,rfl,wk6.same s78,s78 _ _ (keep _ _ kh),s78 _ _ (keep _ _ kk1),by rw [List.length_append] at hLl; omega⟩
 ·refine ⟨_,rfl,_,_,rfl,rfl,(by (first | decide | (show (0:Int) < _; first | decide | omega))),rfl,_,rfl,?_⟩
  refine ite2 (fun c=>?_) (fun c=>?_)
  ·refine ⟨_,rfl,_,_,rfl,rfl,⟨by decide,by decide⟩,_,_,rfl,rfl,(by (first | decide | (show (0:Int) < _; first | decide | omega))),_,_,rfl,rfl,_,rfl,(by omega),(by omega),for_range (fun i σ G=>Same H G∧∃ (pa:Addr) (L:OL) (o:Addr) (v4 v5:Option V),σ=[some (.ref sa),some (.int (m:Int)),some (.ref x),some (.ref le),v4,v5,none,none]∧WkA a.c_Desk G x ea le pa L (DN i) o∧L.length=i) ⟨s2,pa,[],po,none,none,rfl,wk0,rfl⟩ ?_ ?_⟩
   ·rintro i σ G hi ⟨sG,pa,L,o,v4,v5,rfl,wk,hl⟩
    have hi:i < 20:=by omega
    have e0:(0+(i:Int))=((i:Nat) : Int):=by omega
    have lkn':(kvN i).length=i:=by simp [kvN]
    have hlog:(0+(i:Int)).natAbs.log2 < 1920:=by rw [e0]; exact (show ∀ j:Nat,j < 20→((j:Int)).natAbs.log2 < 1920 by decide +kernel) _ hi
    have hlen:(PySem.Str.ofString "p").length+(toString (0+(i:Int)) : Str).length≤sizeLine:=by rw [e0]; exact small ((show ∀ j:Nat,j < 20→(PySem.Str.ofString "p").length+(toString ((j:Nat) : Int) : Str).length≤1000 by decide +kernel) _ hi)
    have hstr:(PySem.Str.ofString "p")++(toString (0+(i:Int)) : Str)=tx (pn i):=by rw [e0]; exact cP i hi
    obtain ⟨A,eA,ow⟩:=wk.own
    have hAl:A.length=i:=by have:=congrArg List.length eA; simpa [mapG,DN] using this
    have elA:lkG A (pn i)=none:=by
     have:=DN_lk hi
     rw [← eA,lk_map] at this
     simpa using this
    refine ⟨_,rfl,_,rfl,_,_,_,_,rfl,rfl,SqL.of wk.at_,atI_last _ _,o,_,rfl,.inl ow.at_,fun pw hpw=>?_⟩
    have sw:=same_new hpw (.dK (kvF rfA A))
    have kw:upd G pw (.dK (kvF rfA A)) pw=some (.dK (kvF rfA A)):=upd_same
    generalize upd G pw (.dK (kvF rfA A))=G1 at sw kw ⊢
    dsimp only [gName]
    refine ⟨le1,fun pl hpl=>?_⟩
    have sl:=same_new hpl (.lst [V.str (PySem.Str.ofString "a")])
    have kl:upd G1 pl (.lst [V.str (PySem.Str.ofString "a")]) pl=some (.lst ((([[97]] : List (List Nat)).map tx).map V.str)):=by rw [upd_same]; exact congrArg (fun z=>some (HO.lst [V.str z])) cA
    generalize upd G1 pl (.lst [V.str (PySem.Str.ofString "a")])=G2 at sl kl ⊢
    have kw2:=sl _ _ kw
    have ow2:=ow.same (sw.trans sl)
    have hput:DPut G2 pw (V.str ((PySem.Str.ofString "p")++(toString (0+(i:Int)) : Str))) (.ref pl) (upd G2 pw (.dK (kvF rfA (A++[(pn i,([[97]],pl))])))):=by
     rw [hstr,← app_kvF (f:=rfA),show rfA ([[97]],pl)=V.ref pl from rfl,← putK_new (V.ref pl) (show valV (kvF rfA A) (ky (pn i))=none by rw [val_kvF,elA]; rfl)]
     exact DPut.k (k:=ky (pn i)) kw2 (by rw [len_kvF]; exact small1000 (by omega))
    refine ⟨_,rfl,_,rfl,_,rfl,hlog,_,_,rfl,rfl,hlen,_,_,rfl,hput,?_⟩
    have s3:Same G (upd G2 pw (.dK (kvF rfA (A++[(pn i,([[97]],pl))])))):=fun b u h=>by rw [upd_ne (ne_of_none h hpw)]; exact sl _ _ (sw _ _ h)
    have own3:OwnA (upd G2 pw (.dK (kvF rfA (A++[(pn i,([[97]],pl))])))) pw (DN (i+1)):=by
     have kk2:∀ b xs,G2 b=some (.lst xs)→upd G2 pw (.dK (kvF rfA (A++[(pn i,([[97]],pl))]))) b=some (.lst xs):=fun b xs h=>by rw [upd_ne (fun z=>by rw [z,kw2] at h; cases h)]; exact h
     refine ⟨A++[(pn i,([[97]],pl))],?_,upd_same,fun p hp=>?_⟩
     ·rw [DN_succ,← eA]
      unfold mapG
      rw [List.map_append]
      rfl
     ·rcases List.mem_append.mp hp with hp | hp
      ·exact kk2 _ _ (ow2.ls p hp)
      ·rw [List.mem_singleton.mp hp]; exact kk2 _ _ kl
    generalize upd G2 pw (.dK (kvF rfA (A++[(pn i,([[97]],pl))])))=G3 at s3 own3 ⊢
    have wk3:=wk.same s3
    have hat:=wk3.at_
    refine ⟨_,rfl,.inl ⟨rfl,_,SqL.of hat⟩,_,rfl,_,_,_,rfl,rfl,hat,small1000 (by simp; omega),?_⟩
    rw [show ((L.map fun q=>V.ref q.2)++[V.ref o]++[V.ref pw])=((L++[(DN i,o)])++[(DN (i+1),pw)]).map fun q=>V.ref q.2 by simp]
    have dok2:DOk (DN (i+1)):=DN_ok (by omega)
    have okq:∀ q ∈ (L++[(DN i,o)])++[(DN (i+1),pw)],DOk q.1:=fun q hq=>by
     rcases List.mem_append.mp hq with hq | hq
     ·exact wk.ok q hq
     ·rw [List.mem_singleton.mp hq]; exact dok2
    have dk4:=wk3.dk.at_le (ys:=((L++[(DN i,o)])++[(DN (i+1),pw)]).map fun q=>V.ref q.2) hat wk.ne
    have ol4:OlA (upd G3 le (.lst (((L++[(DN i,o)])++[(DN (i+1),pw)]).map fun q=>V.ref q.2))) le ((L++[(DN i,o)])++[(DN (i+1),pw)]):=by
     refine ⟨upd_same,fun q hq=>?_⟩
     rcases List.mem_append.mp hq with hq' | hq'
     ·exact (wk3.ol.ow q hq').at_le (wk.ok q hq') wk3.ol.at_
     ·rw [List.mem_singleton.mp hq']; exact own3.at_le dok2 wk3.ol.at_
    have s4:Same H (upd G3 le (.lst (((L++[(DN i,o)])++[(DN (i+1),pw)]).map fun q=>V.ref q.2))):=fun b u h=>by rw [upd_ne (ne_of_none h hHl)]; exact s3 _ _ (sG _ _ h)
    generalize upd G3 le (.lst (((L++[(DN i,o)])++[(DN (i+1),pw)]).map fun q=>V.ref q.2))=G4 at dk4 ol4 s4 ⊢
    rw [kvN_DN] at dk4
    have dk40:=dk4
    obtain ⟨⟨dx2,fa2,ia2,h1⟩,_⟩:=dk40
    refine ⟨_,rfl,_,_,_,rfl,h1,lkn_put_part,_,rfl,_,rfl,hlog,_,_,rfl,rfl,hlen,x,pa,ea,kvN i,hsOf L,0,pn i,[97],?_,⟨dk4,nm_pn hi,kvN_tx i,by simp,by omega,by rw [hs_len]; omega⟩,⟨fun j e=>(by rw [put_pn i hi] at e; cases e),fun _ H5 p' dk5 fr5=>?_⟩⟩
    ·rw [cA]
     exact congrArg (fun z=>[V.ref x,V.str z,V.str (tx [97])]) hstr
    ·refine ⟨rfl,_,rfl,?_⟩
     refine iteF ?_
     have dk5:Dk a.c_Desk H5 x p' ea (kvN i++[(ky (pn i),.str (tx [97]))]) (hsOf L++[kvN i]):=dk5
     rw [← kvN_succ,← kvN_DN,← kvN_DN,show hsOf L++[kvF jn (DN i)]=hsOf (L++[(DN i,o)]) by unfold hsOf; rw [List.map_append]; rfl] at dk5
     have leno:le ∉ [x,ea]:=fun z=>by
      rcases List.mem_cons.mp z with z | z
      ·have:=ol4.at_; rw [z,h1] at this; cases this
      ·exact wk.ne (List.mem_singleton.mp z)
     exact ⟨fr5.same s4 hos,p',L++[(DN i,o)],pw,_,_,rfl,⟨dk5,⟨fr5 _ _ leno ol4.at_,fun q hq=>(ol4.ow q hq).frd (okq q hq) dk4 fr5⟩,okq,wk.ne⟩,by simp [hl]⟩
   ·rintro σ G ⟨sG,pa,L,o,v4,v5,rfl,wk,hl⟩
    exact key _ _ ⟨sG,pa,L,_,o,v4,v5,rfl,wk,by omega⟩
  ·exact key _ _ ⟨s2,pa,[],[],po,none,none,rfl,wk0,by simp⟩
end
noncomputable abbrev fdA (n:Str) (s:Stmt) (d kV dc pm:Value) (an:Option Addr) (cd ct:Value) : FuncData:=PySem.W.fnOf n n (defArgs s) (defBody s) (defScope s) d kV dc pm an cd ct
abbrev Na (K:PySem.W.Frag) (n:Str) (f:Addr) : Prop:=PySem.W.nsIn K mainGlobals n=some (some (.ref f))
abbrev Lk (K:PySem.W.Frag) (f:Addr) (n:Str) (s:Stmt) (d oc:Value) (od:Option Addr) (sl:Array (Option Value)) (kV dc pm:Value) (an:Option Addr) (cd ct:Value) : Prop:=K.lookup f=some ⟨oc,od,.func (fdA n s d kV dc pm an cd ct),sl⟩
abbrev Cd (K:PySem.W.Frag) (c:Value) (n:Str) : Prop:=PySem.W.codeIn K c n=true
abbrev Kp (K:PySem.W.Frag) (f:Addr) : Prop:=PySem.W.keepIn K (.ref f)=true
abbrev Zn (K:PySem.W.Frag) (n:Str) : Prop:=PySem.W.nsIn K mainGlobals n=some none
noncomputable abbrev fdM (n q:Str) (s:Stmt) (kV dc pm:Value) (an:Option Addr) (cd ct:Value) : FuncData:=PySem.W.fnOf n q (defArgs s) (defBody s) (defScope s) .none kV dc pm an cd ct
abbrev LkM (K:PySem.W.Frag) (f:Addr) (n q:Str) (s:Stmt) (oc:Value) (od:Option Addr) (sl:Array (Option Value)) (kV dc pm:Value) (an:Option Addr) (cd ct:Value) : Prop:=K.lookup f=some ⟨oc,od,.func (fdM n q s kV dc pm an cd ct),sl⟩
def ntL (K:PySem.W.Frag) (l:List (Addr × Addr)) : Bool:=l.all fun p=>PySem.W.exmOne K (.ref p.1) (.ref p.2) == some false
theorem nt_at {K:PySem.W.Frag} {l:List (Addr × Addr)} (h:ntL K l=true) (i:Nat) {x y:Addr} (e:l[i]? = some (x,y)) : NotTakes K x y:=eq_of_beq (List.all_eq_true.mp h _ (List.mem_of_getElem? e))
theorem us1 {us:List Value} (h:us.length=1) : ∃ a0,us=[a0]:=by
 match us,h with
 | [a0],_=>exact ⟨a0,rfl⟩
theorem us2 {us:List Value} (h:us.length=2) : ∃ a0 a1,us=[a0,a1]:=by
 match us,h with
 | [a0,a1],_=>exact ⟨a0,a1,rfl⟩
theorem us3 {us:List Value} (h:us.length=3) : ∃ a0 a1 a2,us=[a0,a1,a2]:=by
 match us,h with
 | [a0,a1,a2],_=>exact ⟨a0,a1,a2,rfl⟩
theorem us4 {us:List Value} (h:us.length=4) : ∃ a0 a1 a2 a3,us=[a0,a1,a2,a3]:=by
 match us,h with
 | [a0,a1,a2,a3],_=>exact ⟨a0,a1,a2,a3,rfl⟩
theorem txt_mk {P:Program} {w:World} {K:PySem.W.Frag} {h:Heap} {mg:Str→Option Value} (X:K.In h) (G:h.Ns mainGlobals mg)
  {od0 an0 od1 an1 od2 an2 od3 an3 od4 an4 od5 an5 od6 an6 od7 an7 od8 an8 od9 an9 od10 an10 od11 an11 od12 an12 od13 an13 od14 an14 od15 an15 od16 an16 od17 an17 od18 an18 od19 an19 od20 an20 od21 an21 od22 an22 od23 an23 od24 an24 od25 an25 od26 an26 od27 an27:Option Addr} {sl0 sl1 sl2 sl3 sl4 sl5 sl6 sl7 sl8 sl9 sl10 sl11 sl12 sl13 sl14 sl15 sl16 sl17 sl18 sl19 sl20 sl21 sl22 sl23 sl24 sl25 sl26 sl27:Array (Option Value)} {oc0 kV0 dc0 pm0 cd0 ct0 oc1 kV1 dc1 pm1 cd1 ct1 oc2 kV2 dc2 pm2 cd2 ct2 oc3 kV3 dc3 pm3 cd3 ct3 oc4 kV4 dc4 pm4 cd4 ct4 oc5 kV5 dc5 pm5 cd5 ct5 oc6 kV6 dc6 pm6 cd6 ct6 oc7 kV7 dc7 pm7 cd7 ct7 oc8 kV8 dc8 pm8 cd8 ct8 oc9 kV9 dc9 pm9 cd9 ct9 oc10 kV10 dc10 pm10 cd10 ct10 oc11 kV11 dc11 pm11 cd11 ct11 oc12 kV12 dc12 pm12 cd12 ct12 oc13 kV13 dc13 pm13 cd13 ct13 oc14 kV14 dc14 pm14 cd14 ct14 oc15 kV15 dc15 pm15 cd15 ct15 oc16 kV16 dc16 pm16 cd16 ct16 oc17 kV17 dc17 pm17 cd17 ct17 oc18 kV18 dc18 pm18 cd18 ct18 oc19 kV19 dc19 pm19 cd19 ct19 oc20 kV20 dc20 pm20 cd20 ct20 oc21 kV21 dc21 pm21 cd21 ct21 oc22 kV22 dc22 pm22 cd22 ct22 oc23 kV23 dc23 pm23 cd23 ct23 oc24 kV24 dc24 pm24 cd24 ct24 oc25 kV25 dc25 pm25 cd25 ct25 oc26 kV26 dc26 pm26 cd26 ct26 oc27 kV27 dc27 pm27 cd27 ct27:Value} {f0 f1 f2 f3 f4 f5 f6 f7 f8 f9 f10 f11 f12 f13 f14 f15 f16 f17 f18 f19 f20 f21 f22 f23 f24 f25 f26 f27:Addr}
  {c_Desk:Addr} (m_Desk:Na K "Desk" c_Desk) (p1_Desk:PySem.W.plainGet K c_Desk Str.empty=true) (p2_Desk:PySem.W.hasDictIn K c_Desk=true) (p3_Desk:PySem.W.plainOver K c_Desk=true) (p4_Desk:PySem.W.findIn K (.ref c_Desk) "__setattr__" = some (some (.builtin "object.__setattr__"))) (p5_Desk:PySem.W.makesIn K c_Desk=true) (p6_Desk:Kp K c_Desk)
  (na_Desk_form:PySem.W.findIn K (.ref c_Desk) "form" = some none)
  (na_Desk_parts:PySem.W.findIn K (.ref c_Desk) "parts" = some none)
  (na_Desk_elder:PySem.W.findIn K (.ref c_Desk) "elder" = some none)
  (na_Desk_issued:PySem.W.findIn K (.ref c_Desk) "issued" = some none)
  (a0:Na K "check_number" f0) (l0:Lk K f0 "check_number" s_check_number .none oc0 od0 sl0 kV0 dc0 pm0 an0 cd0 ct0) (c0:Cd K cd0 "check_number") (k0:Kp K f0)
  (a1:Na K "check_form" f1) (l1:Lk K f1 "check_form" s_check_form .none oc1 od1 sl1 kV1 dc1 pm1 an1 cd1 ct1) (c1:Cd K cd1 "check_form") (k1:Kp K f1)
  (a2:PySem.W.findIn K (.ref c_Desk) "__init__" = some (some (.ref f2))) (n2:PySem.W.isFn K (.ref f2)=true) (l2:LkM K f2 "__init__" "Desk.__init__" s_Desk_init oc2 od2 sl2 kV2 dc2 pm2 an2 cd2 ct2) (c2:Cd K cd2 "Desk.__init__") (k2:Kp K f2)
  (a3:PySem.W.findIn K (.ref c_Desk) "do_deed" = some (some (.ref f3))) (n3:PySem.W.isFn K (.ref f3)=true) (l3:LkM K f3 "do_deed" "Desk.do_deed" s_Desk_do_deed oc3 od3 sl3 kV3 dc3 pm3 an3 cd3 ct3) (c3:Cd K cd3 "Desk.do_deed") (k3:Kp K f3)
  (a4:Na K "is_name" f4) (l4:Lk K f4 "is_name" s_is_name .none oc4 od4 sl4 kV4 dc4 pm4 an4 cd4 ct4) (c4:Cd K cd4 "is_name") (k4:Kp K f4)
  (a5:PySem.W.findIn K (.ref c_Desk) "put_part" = some (some (.ref f5))) (n5:PySem.W.isFn K (.ref f5)=true) (l5:LkM K f5 "put_part" "Desk.put_part" s_Desk_put_part oc5 od5 sl5 kV5 dc5 pm5 an5 cd5 ct5) (c5:Cd K cd5 "Desk.put_part") (k5:Kp K f5)
  (a6:PySem.W.findIn K (.ref c_Desk) "shelf" = some (some (.ref f6))) (n6:PySem.W.isFn K (.ref f6)=true) (l6:LkM K f6 "shelf" "Desk.shelf" s_Desk_shelf oc6 od6 sl6 kV6 dc6 pm6 an6 cd6 ct6) (c6:Cd K cd6 "Desk.shelf") (k6:Kp K f6)
  (a7:Na K "_law_cell_at" f7) (l7:Lk K f7 "_law_cell_at" s_l_cell_at .none oc7 od7 sl7 kV7 dc7 pm7 an7 cd7 ct7) (c7:Cd K cd7 "_law_cell_at") (k7:Kp K f7)
  (a8:Na K "rows_in" f8) (l8:Lk K f8 "rows_in" s_rows_in .none oc8 od8 sl8 kV8 dc8 pm8 an8 cd8 ct8) (c8:Cd K cd8 "rows_in") (k8:Kp K f8)
  (a9:PySem.W.findIn K (.ref c_Desk) "rows_of" = some (some (.ref f9))) (n9:PySem.W.isFn K (.ref f9)=true) (l9:LkM K f9 "rows_of" "Desk.rows_of" s_Desk_rows_of oc9 od9 sl9 kV9 dc9 pm9 an9 cd9 ct9) (c9:Cd K cd9 "Desk.rows_of") (k9:Kp K f9)
  (a10:PySem.W.findIn K (.ref c_Desk) "cut_row" = some (some (.ref f10))) (n10:PySem.W.isFn K (.ref f10)=true) (l10:LkM K f10 "cut_row" "Desk.cut_row" s_Desk_cut_row oc10 od10 sl10 kV10 dc10 pm10 an10 cd10 ct10) (c10:Cd K cd10 "Desk.cut_row") (k10:Kp K f10)
  (a11:PySem.W.findIn K (.ref c_Desk) "drop_part" = some (some (.ref f11))) (n11:PySem.W.isFn K (.ref f11)=true) (l11:LkM K f11 "drop_part" "Desk.drop_part" s_Desk_drop_part oc11 od11 sl11 kV11 dc11 pm11 an11 cd11 ct11) (c11:Cd K cd11 "Desk.drop_part") (k11:Kp K f11)
  (a12:PySem.W.findIn K (.ref c_Desk) "put_row" = some (some (.ref f12))) (n12:PySem.W.isFn K (.ref f12)=true) (l12:LkM K f12 "put_row" "Desk.put_row" s_Desk_put_row oc12 od12 sl12 kV12 dc12 pm12 an12 cd12 ct12) (c12:Cd K cd12 "Desk.put_row") (k12:Kp K f12)
  (a13:PySem.W.findIn K (.ref c_Desk) "undo" = some (some (.ref f13))) (n13:PySem.W.isFn K (.ref f13)=true) (l13:LkM K f13 "undo" "Desk.undo" s_Desk_undo oc13 od13 sl13 kV13 dc13 pm13 an13 cd13 ct13) (c13:Cd K cd13 "Desk.undo") (k13:Kp K f13)
  (a14:Na K "_law_did" f14) (l14:Lk K f14 "_law_did" s_l_did .none oc14 od14 sl14 kV14 dc14 pm14 an14 cd14 ct14) (c14:Cd K cd14 "_law_did") (k14:Kp K f14)
  (a15:Na K "_law_mixed" f15) (l15:Lk K f15 "_law_mixed" s_l_mixed .none oc15 od15 sl15 kV15 dc15 pm15 an15 cd15 ct15) (c15:Cd K cd15 "_law_mixed") (k15:Kp K f15)
  (a16:Na K "_law_shelf_is" f16) (l16:Lk K f16 "_law_shelf_is" s_l_shelf_is .none oc16 od16 sl16 kV16 dc16 pm16 an16 cd16 ct16) (c16:Cd K cd16 "_law_shelf_is") (k16:Kp K f16)
  (a17:Na K "_law_at" f17) (l17:Lk K f17 "_law_at" s_l_at .none oc17 od17 sl17 kV17 dc17 pm17 an17 cd17 ct17) (c17:Cd K cd17 "_law_at") (k17:Kp K f17)
  (a18:Na K "_law_name" f18) (l18:Lk K f18 "_law_name" s_l_name .none oc18 od18 sl18 kV18 dc18 pm18 an18 cd18 ct18) (c18:Cd K cd18 "_law_name") (k18:Kp K f18)
  (a19:Na K "_law_signs" f19) (l19:Lk K f19 "_law_signs" s_l_signs .none oc19 od19 sl19 kV19 dc19 pm19 an19 cd19 ct19) (c19:Cd K cd19 "_law_signs") (k19:Kp K f19)
  (a20:Na K "_law_row" f20) (l20:Lk K f20 "_law_row" s_l_row .none oc20 od20 sl20 kV20 dc20 pm20 an20 cd20 ct20) (c20:Cd K cd20 "_law_row") (k20:Kp K f20)
  (a21:Na K "_law_text" f21) (l21:Lk K f21 "_law_text" s_l_text .none oc21 od21 sl21 kV21 dc21 pm21 an21 cd21 ct21) (c21:Cd K cd21 "_law_text") (k21:Kp K f21)
  (a22:Na K "_law_deed" f22) (l22:Lk K f22 "_law_deed" s_l_deed .none oc22 od22 sl22 kV22 dc22 pm22 an22 cd22 ct22) (c22:Cd K cd22 "_law_deed") (k22:Kp K f22)
  (a23:Na K "_law_is_name" f23) (l23:Lk K f23 "_law_is_name" s_l_is_name .none oc23 od23 sl23 kV23 dc23 pm23 an23 cd23 ct23) (c23:Cd K cd23 "_law_is_name") (k23:Kp K f23)
  (a24:Na K "_law_put_by" f24) (l24:Lk K f24 "_law_put_by" s_l_put_by .none oc24 od24 sl24 kV24 dc24 pm24 an24 cd24 ct24) (c24:Cd K cd24 "_law_put_by") (k24:Kp K f24)
  (a25:Na K "_law_done_by" f25) (l25:Lk K f25 "_law_done_by" s_l_done_by .none oc25 od25 sl25 kV25 dc25 pm25 an25 cd25 ct25) (c25:Cd K cd25 "_law_done_by") (k25:Kp K f25)
  (a26:Na K "_law_walk" f26) (l26:Lk K f26 "_law_walk" s_l_walk .none oc26 od26 sl26 kV26 dc26 pm26 an26 cd26 ct26) (c26:Cd K cd26 "_law_walk") (k26:Kp K f26)
  (a27:Na K "law" f27) (l27:Lk K f27 "law" s_law .none oc27 od27 sl27 kV27 dc27 pm27 an27 cd27 ct27) (c27:Cd K cd27 "law") (k27:Kp K f27)
  (z_all:Zn K "all")
  (z_dict:Zn K "dict")
  (z_isinstance:Zn K "isinstance")
  (z_len:Zn K "len")
  (z_list:Zn K "list")
  (z_min:Zn K "min")
  (z_range:Zn K "range")
  (z_sorted:Zn K "sorted")
  (z_str:Zn K "str")
  {c_BadForm:Addr} (m_BadForm:PySem.W.nsIn K mainGlobals "BadForm" = some (some (.ref c_BadForm))) (e_BadForm:PySem.W.excIn K c_BadForm veTail "ValueError.__new__" = true)
  {c_BadName:Addr} (m_BadName:PySem.W.nsIn K mainGlobals "BadName" = some (some (.ref c_BadName))) (e_BadName:PySem.W.excIn K c_BadName veTail "ValueError.__new__" = true)
  {c_NoPart:Addr} (m_NoPart:PySem.W.nsIn K mainGlobals "NoPart" = some (some (.ref c_NoPart))) (e_NoPart:PySem.W.excIn K c_NoPart veTail "ValueError.__new__" = true)
  {c_NoRow:Addr} (m_NoRow:PySem.W.nsIn K mainGlobals "NoRow" = some (some (.ref c_NoRow))) (e_NoRow:PySem.W.excIn K c_NoRow veTail "ValueError.__new__" = true)
  {c_NothingDone:Addr} (m_NothingDone:PySem.W.nsIn K mainGlobals "NothingDone" = some (some (.ref c_NothingDone))) (e_NothingDone:PySem.W.excIn K c_NothingDone veTail "ValueError.__new__" = true)
  {c_TooLong:Addr} (m_TooLong:PySem.W.nsIn K mainGlobals "TooLong" = some (some (.ref c_TooLong))) (e_TooLong:PySem.W.excIn K c_TooLong veTail "ValueError.__new__" = true)
  {c_Twice:Addr} (m_Twice:PySem.W.nsIn K mainGlobals "Twice" = some (some (.ref c_Twice))) (e_Twice:PySem.W.excIn K c_Twice veTail "ValueError.__new__" = true)
  (t_BadName_BadName:Takes K c_BadName c_BadName)
  (t_Twice_Twice:Takes K c_Twice c_Twice)
  (t_TooLong_TooLong:Takes K c_TooLong c_TooLong)
  (t_NoPart_NoPart:Takes K c_NoPart c_NoPart)
  (t_NoRow_NoRow:Takes K c_NoRow c_NoRow)
  (t_NothingDone_NothingDone:Takes K c_NothingDone c_NothingDone)
  (nts:ntL K [(c_BadName,c_NoPart),(c_BadName,c_NoRow),(c_BadName,c_Twice),(c_BadName,c_TooLong),(c_BadName,c_NothingDone),(c_Twice,c_BadName),(c_Twice,c_NoPart),(c_Twice,c_NoRow),(c_Twice,c_TooLong),(c_Twice,c_NothingDone),(c_TooLong,c_BadName),(c_TooLong,c_NoPart),(c_TooLong,c_NoRow),(c_TooLong,c_Twice),(c_TooLong,c_NothingDone),(c_NoPart,c_BadName),(c_NoPart,c_NoRow),(c_NoPart,c_Twice),(c_NoPart,c_TooLong),(c_NoPart,c_NothingDone),(c_NoRow,c_BadName),(c_NoRow,c_NoPart),(c_NoRow,c_Twice),(c_NoRow,c_TooLong),(c_NoRow,c_NothingDone),(c_NothingDone,c_BadName),(c_NothingDone,c_NoPart),(c_NothingDone,c_NoRow),(c_NothingDone,c_Twice),(c_NothingDone,c_TooLong)]=true)
  {t_FIGURES:Tok} (m_FIGURES:PySem.W.nsIn K mainGlobals "FIGURES" = some (some (.str (PySem.Str.ofString "0123456789") t_FIGURES)))
  {t_LETTERS:Tok} (m_LETTERS:PySem.W.nsIn K mainGlobals "LETTERS" = some (some (.str (PySem.Str.ofString "abcdefghijklmnopqrstuvwxyz") t_LETTERS)))
  {t_LONGEST_NAME:Tok} (m_LONGEST_NAME:PySem.W.nsIn K mainGlobals "LONGEST_NAME" = some (some (.int 12 t_LONGEST_NAME)))
  {t_MOST_PARTS:Tok} (m_MOST_PARTS:PySem.W.nsIn K mainGlobals "MOST_PARTS" = some (some (.int 20 t_MOST_PARTS)))
  {t_MOST_ROWS_desk:Tok} (m_MOST_ROWS_desk:PySem.W.nsIn K mainGlobals "MOST_ROWS_desk" = some (some (.int 200 t_MOST_ROWS_desk))) :
  ∃ a:Adr,Txt P w K mg a:=by
 refine ⟨{ f_check_number:=f0,fd_check_number:=fdA "check_number" s_check_number .none kV0 dc0 pm0 an0 cd0 ct0,f_check_form:=f1,fd_check_form:=fdA "check_form" s_check_form .none kV1 dc1 pm1 an1 cd1 ct1,f_Desk_init:=f2,fd_Desk_init:=fdM "__init__" "Desk.__init__" s_Desk_init kV2 dc2 pm2 an2 cd2 ct2,f_Desk_do_deed:=f3,fd_Desk_do_deed:=fdM "do_deed" "Desk.do_deed" s_Desk_do_deed kV3 dc3 pm3 an3 cd3 ct3,f_is_name:=f4,fd_is_name:=fdA "is_name" s_is_name .none kV4 dc4 pm4 an4 cd4 ct4,f_Desk_put_part:=f5,fd_Desk_put_part:=fdM "put_part" "Desk.put_part" s_Desk_put_part kV5 dc5 pm5 an5 cd5 ct5,f_Desk_shelf:=f6,fd_Desk_shelf:=fdM "shelf" "Desk.shelf" s_Desk_shelf kV6 dc6 pm6 an6 cd6 ct6,f_l_cell_at:=f7,fd_l_cell_at:=fdA "_law_cell_at" s_l_cell_at .none kV7 dc7 pm7 an7 cd7 ct7,f_rows_in:=f8,fd_rows_in:=fdA "rows_in" s_rows_in .none kV8 dc8 pm8 an8 cd8 ct8,f_Desk_rows_of:=f9,fd_Desk_rows_of:=fdM "rows_of" "Desk.rows_of" s_Desk_rows_of kV9 dc9 pm9 an9 cd9 ct9,f_Desk_cut_row:=f10,fd_Desk_cut_row:=fdM "cut_row" "Desk.cut_row" s_Desk_cut_row kV10 dc10 pm10 an10 cd10 ct10,f_Desk_drop_part:=f11,fd_Desk_drop_part:=fdM "drop_part" "Desk.drop_part" s_Desk_drop_part kV11 dc11 pm11 an11 cd11 ct11,f_Desk_put_row:=f12,fd_Desk_put_row:=fdM "put_row" "Desk.put_row" s_Desk_put_row kV12 dc12 pm12 an12 cd12 ct12,f_Desk_undo:=f13,fd_Desk_undo:=fdM "undo" "Desk.undo" s_Desk_undo kV13 dc13 pm13 an13 cd13 ct13,f_l_did:=f14,fd_l_did:=fdA "_law_did" s_l_did .none kV14 dc14 pm14 an14 cd14 ct14,f_l_mixed:=f15,fd_l_mixed:=fdA "_law_mixed" s_l_mixed .none kV15 dc15 pm15 an15 cd15 ct15,f_l_shelf_is:=f16,fd_l_shelf_is:=fdA "_law_shelf_is" s_l_shelf_is .none kV16 dc16 pm16 an16 cd16 ct16,f_l_at:=f17,fd_l_at:=fdA "_law_at" s_l_at .none kV17 dc17 pm17 an17 cd17 ct17,f_l_name:=f18,fd_l_name:=fdA "_law_name" s_l_name .none kV18 dc18 pm18 an18 cd18 ct18,f_l_signs:=f19,fd_l_signs:=fdA "_law_signs" s_l_signs .none kV19 dc19 pm19 an19 cd19 ct19,f_l_row:=f20,fd_l_row:=fdA "_law_row" s_l_row .none kV20 dc20 pm20 an20 cd20 ct20,f_l_text:=f21,fd_l_text:=fdA "_law_text" s_l_text .none kV21 dc21 pm21 an21 cd21 ct21,f_l_deed:=f22,fd_l_deed:=fdA "_law_deed" s_l_deed .none kV22 dc22 pm22 an22 cd22 ct22,f_l_is_name:=f23,fd_l_is_name:=fdA "_law_is_name" s_l_is_name .none kV23 dc23 pm23 an23 cd23 ct23,f_l_put_by:=f24,fd_l_put_by:=fdA "_law_put_by" s_l_put_by .none kV24 dc24 pm24 an24 cd24 ct24,f_l_done_by:=f25,fd_l_done_by:=fdA "_law_done_by" s_l_done_by .none kV25 dc25 pm25 an25 cd25 ct25,f_l_walk:=f26,fd_l_walk:=fdA "_law_walk" s_l_walk .none kV26 dc26 pm26 an26 cd26 ct26,f_law:=f27,fd_law:=fdA "law" s_law .none kV27 dc27 pm27 an27 cd27 ct27,c_BadForm:=c_BadForm,c_BadName:=c_BadName,c_NoPart:=c_NoPart,c_NoRow:=c_NoRow,c_NothingDone:=c_NothingDone,c_TooLong:=c_TooLong,c_Twice:=c_Twice,c_Desk:=c_Desk },{
  k_Desk:=⟨PySem.W.mg_of X G m_Desk,⟨p1_Desk,p2_Desk,p3_Desk,p4_Desk⟩,p5_Desk,p6_Desk⟩,
  na_Desk_form:=na_Desk_form,
  na_Desk_parts:=na_Desk_parts,
  na_Desk_elder:=na_Desk_elder,
  na_Desk_issued:=na_Desk_issued,
  d_check_number:=defok_mk X G a0 l0 c0 k0 fun _ _ _ _ _ _ us hl=>by obtain ⟨_,⟨_,⟨_,rfl⟩⟩⟩:=us3 hl; rfl,
  d_check_form:=defok_mk X G a1 l1 c1 k1 fun _ _ _ _ _ _ us hl=>by obtain ⟨_,rfl⟩:=us1 hl; rfl,
  d_Desk_init:=metok_mk a2 n2 l2 c2 k2 fun _ _ _ _ _ _ us hl=>by obtain ⟨_,⟨_,rfl⟩⟩:=us2 hl; rfl,
  d_Desk_do_deed:=metok_mk a3 n3 l3 c3 k3 fun _ _ _ _ _ _ us hl=>by obtain ⟨_,rfl⟩:=us1 hl; rfl,
  d_is_name:=defok_mk X G a4 l4 c4 k4 fun _ _ _ _ _ _ us hl=>by obtain ⟨_,rfl⟩:=us1 hl; rfl,
  d_Desk_put_part:=metok_mk a5 n5 l5 c5 k5 fun _ _ _ _ _ _ us hl=>by obtain ⟨_,⟨_,⟨_,rfl⟩⟩⟩:=us3 hl; rfl,
  d_Desk_shelf:=metok_mk a6 n6 l6 c6 k6 fun _ _ _ _ _ _ us hl=>by obtain ⟨_,rfl⟩:=us1 hl; rfl,
  d_l_cell_at:=defok_mk X G a7 l7 c7 k7 fun _ _ _ _ _ _ us hl=>by obtain ⟨_,⟨_,rfl⟩⟩:=us2 hl; rfl,
  d_rows_in:=defok_mk X G a8 l8 c8 k8 fun _ _ _ _ _ _ us hl=>by obtain ⟨_,rfl⟩:=us1 hl; rfl,
  d_Desk_rows_of:=metok_mk a9 n9 l9 c9 k9 fun _ _ _ _ _ _ us hl=>by obtain ⟨_,⟨_,rfl⟩⟩:=us2 hl; rfl,
  d_Desk_cut_row:=metok_mk a10 n10 l10 c10 k10 fun _ _ _ _ _ _ us hl=>by obtain ⟨_,⟨_,⟨_,rfl⟩⟩⟩:=us3 hl; rfl,
  d_Desk_drop_part:=metok_mk a11 n11 l11 c11 k11 fun _ _ _ _ _ _ us hl=>by obtain ⟨_,⟨_,rfl⟩⟩:=us2 hl; rfl,
  d_Desk_put_row:=metok_mk a12 n12 l12 c12 k12 fun _ _ _ _ _ _ us hl=>by obtain ⟨_,⟨_,⟨_,⟨_,rfl⟩⟩⟩⟩:=us4 hl; rfl,
  d_Desk_undo:=metok_mk a13 n13 l13 c13 k13 fun _ _ _ _ _ _ us hl=>by obtain ⟨_,rfl⟩:=us1 hl; rfl,
  d_l_did:=defok_mk X G a14 l14 c14 k14 fun _ _ _ _ _ _ us hl=>by obtain ⟨_,⟨_,rfl⟩⟩:=us2 hl; rfl,
  d_l_mixed:=defok_mk X G a15 l15 c15 k15 fun _ _ _ _ _ _ us hl=>by obtain ⟨_,rfl⟩:=us1 hl; rfl,
  d_l_shelf_is:=defok_mk X G a16 l16 c16 k16 fun _ _ _ _ _ _ us hl=>by obtain ⟨_,⟨_,rfl⟩⟩:=us2 hl; rfl,
  d_l_at:=defok_mk X G a17 l17 c17 k17 fun _ _ _ _ _ _ us hl=>by obtain ⟨_,⟨_,rfl⟩⟩:=us2 hl; rfl,
  d_l_name:=defok_mk X G a18 l18 c18 k18 fun _ _ _ _ _ _ us hl=>by obtain ⟨_,⟨_,rfl⟩⟩:=us2 hl; rfl,
  d_l_signs:=defok_mk X G a19 l19 c19 k19 fun _ _ _ _ _ _ us hl=>by obtain ⟨_,⟨_,rfl⟩⟩:=us2 hl; rfl,
  d_l_row:=defok_mk X G a20 l20 c20 k20 fun _ _ _ _ _ _ us hl=>by obtain ⟨_,rfl⟩:=us1 hl; rfl,
  d_l_text:=defok_mk X G a21 l21 c21 k21 fun _ _ _ _ _ _ us hl=>by obtain ⟨_,rfl⟩:=us1 hl; rfl,
  d_l_deed:=defok_mk X G a22 l22 c22 k22 fun _ _ _ _ _ _ us hl=>by obtain ⟨_,⟨_,rfl⟩⟩:=us2 hl; rfl,
  d_l_is_name:=defok_mk X G a23 l23 c23 k23 fun _ _ _ _ _ _ us hl=>by obtain ⟨_,rfl⟩:=us1 hl; rfl,
  d_l_put_by:=defok_mk X G a24 l24 c24 k24 fun _ _ _ _ _ _ us hl=>by obtain ⟨_,⟨_,⟨_,rfl⟩⟩⟩:=us3 hl; rfl,
  d_l_done_by:=defok_mk X G a25 l25 c25 k25 fun _ _ _ _ _ _ us hl=>by obtain ⟨_,⟨_,rfl⟩⟩:=us2 hl; rfl,
  d_l_walk:=defok_mk X G a26 l26 c26 k26 fun _ _ _ _ _ _ us hl=>by obtain ⟨_,⟨_,⟨_,rfl⟩⟩⟩:=us3 hl; rfl,
  d_law:=defok_mk X G a27 l27 c27 k27 fun _ _ _ _ _ _ us hl=>by obtain ⟨_,rfl⟩:=us1 hl; rfl,
  z_all:=PySem.W.mg_none_of X G z_all,
  z_dict:=PySem.W.mg_none_of X G z_dict,
  z_isinstance:=PySem.W.mg_none_of X G z_isinstance,
  z_len:=PySem.W.mg_none_of X G z_len,
  z_list:=PySem.W.mg_none_of X G z_list,
  z_min:=PySem.W.mg_none_of X G z_min,
  z_range:=PySem.W.mg_none_of X G z_range,
  z_sorted:=PySem.W.mg_none_of X G z_sorted,
  z_str:=PySem.W.mg_none_of X G z_str,
  x_BadForm:=⟨PySem.W.mg_of X G m_BadForm,e_BadForm⟩,
  x_BadName:=⟨PySem.W.mg_of X G m_BadName,e_BadName⟩,
  x_NoPart:=⟨PySem.W.mg_of X G m_NoPart,e_NoPart⟩,
  x_NoRow:=⟨PySem.W.mg_of X G m_NoRow,e_NoRow⟩,
  x_NothingDone:=⟨PySem.W.mg_of X G m_NothingDone,e_NothingDone⟩,
  x_TooLong:=⟨PySem.W.mg_of X G m_TooLong,e_TooLong⟩,
  x_Twice:=⟨PySem.W.mg_of X G m_Twice,e_Twice⟩,
  t_BadName_BadName:=t_BadName_BadName,
  t_Twice_Twice:=t_Twice_Twice,
  t_TooLong_TooLong:=t_TooLong_TooLong,
  t_NoPart_NoPart:=t_NoPart_NoPart,
  t_NoRow_NoRow:=t_NoRow_NoRow,
  t_NothingDone_NothingDone:=t_NothingDone_NothingDone,
  nt_BadName_NoPart:=nt_at nts 0 rfl,
  nt_BadName_NoRow:=nt_at nts 1 rfl,
  nt_BadName_Twice:=nt_at nts 2 rfl,
  nt_BadName_TooLong:=nt_at nts 3 rfl,
  nt_BadName_NothingDone:=nt_at nts 4 rfl,
  nt_Twice_BadName:=nt_at nts 5 rfl,
  nt_Twice_NoPart:=nt_at nts 6 rfl,
  nt_Twice_NoRow:=nt_at nts 7 rfl,
  nt_Twice_TooLong:=nt_at nts 8 rfl,
  nt_Twice_NothingDone:=nt_at nts 9 rfl,
  nt_TooLong_BadName:=nt_at nts 10 rfl,
  nt_TooLong_NoPart:=nt_at nts 11 rfl,
  nt_TooLong_NoRow:=nt_at nts 12 rfl,
  nt_TooLong_Twice:=nt_at nts 13 rfl,
  nt_TooLong_NothingDone:=nt_at nts 14 rfl,
  nt_NoPart_BadName:=nt_at nts 15 rfl,
  nt_NoPart_NoRow:=nt_at nts 16 rfl,
  nt_NoPart_Twice:=nt_at nts 17 rfl,
  nt_NoPart_TooLong:=nt_at nts 18 rfl,
  nt_NoPart_NothingDone:=nt_at nts 19 rfl,
  nt_NoRow_BadName:=nt_at nts 20 rfl,
  nt_NoRow_NoPart:=nt_at nts 21 rfl,
  nt_NoRow_Twice:=nt_at nts 22 rfl,
  nt_NoRow_TooLong:=nt_at nts 23 rfl,
  nt_NoRow_NothingDone:=nt_at nts 24 rfl,
  nt_NothingDone_BadName:=nt_at nts 25 rfl,
  nt_NothingDone_NoPart:=nt_at nts 26 rfl,
  nt_NothingDone_NoRow:=nt_at nts 27 rfl,
  nt_NothingDone_Twice:=nt_at nts 28 rfl,
  nt_NothingDone_TooLong:=nt_at nts 29 rfl,
  m_FIGURES:=⟨t_FIGURES,PySem.W.mg_of X G m_FIGURES⟩,
  m_LETTERS:=⟨t_LETTERS,PySem.W.mg_of X G m_LETTERS⟩,
  m_LONGEST_NAME:=⟨t_LONGEST_NAME,PySem.W.mg_of X G m_LONGEST_NAME⟩,
  m_MOST_PARTS:=⟨t_MOST_PARTS,PySem.W.mg_of X G m_MOST_PARTS⟩,
  m_MOST_ROWS_desk:=⟨t_MOST_ROWS_desk,PySem.W.mg_of X G m_MOST_ROWS_desk⟩ }⟩
theorem walk {l:PySem.W.OpenLaw} {q:Program} {loose:List Str} {XP:(Str→Option Value)→Heap→Prop} {YP:World→Heap→Prop} {d:DefRec} {K:Params→PySem.W.Frag} (hn:l.most=some 63) (hdf:d.params.defaults=[]) (hnm:d.name = "law")
  (hY:∀ (w:World) (h:Heap),YP w h→(K w.params).In h)
  (F:∀ (w:World) (mg:Str→Option Value) (h:Heap),(K w.params).In h→h.Ns mainGlobals mg→∃ a:Adr,Txt l.prog w (K w.params) mg a) :
  PySem.W.WalkO q loose XP YP l.row.toRowW d [] (fun f vs=>PySem.call f vs):=
 L2.walk_of (n:=63) (k:=6) (x := "script") (CX:=fun _=>CX0) (sp:=fun w=>sp_law (K w.params)) hn (by decide) hdf ⟨rfl,by decide,by decide⟩ hY (fun w mg fa h KX G hmg=>by
  obtain ⟨a,T⟩:=F w mg h KX G
  have e0:=hmg.symm.trans (hnm ▸ T.d_law.mg)
  cases e0
  refine ⟨a.fd_law,fun s u=>.of_eq (T.d_law.ba [u] rfl),fun base _ _=>ok_law T⟩) (fun _ _ a ns hl _ hS=>⟨a,ns,rfl,hS,hl,fun _=>rfl⟩) fun _ _ _ _ _ z=>z
end K74
open PySem PySem.W PyProof.Rows
set_option maxRecDepth 100000 in
set_option maxHeartbeats 0 in
theorem PySem.Challenge.cw_trueleaf_k74_whole_deeds_taken_back_holds : PySem.Challenge.rw_trueleaf_k74_whole_deeds_taken_back.Holds := by
 w_on; o_law
 refine holds_open (q:=K74.vw) (loose:=K74.ls) (Xt:=K74.xt) (XP:=XL K74.vw []) (Yf:=Hook.obs K74.hk) (Ya:=Hook.val K74.hk) (YP:=InK K74.kk) K74.left
  (Hook.of K74.hk) (Hook.keeps K74.hk) (fun s e=>xl_of s (Bool.and_eq_true_iff.mp e).1) XL.keeps (by rfl) (by rfl) (by rfl)
  (fun s e=>recFacts_of (Bool.and_eq_true_iff.mp e).2) (by rfl) (by assumption) (by decide +kernel) ⟨rfl,rfl,rfl,rfl,rfl,by decide +kernel⟩ ?hw ?hc
 (case hw=>w_witness2)
 k_fill
 refine K74.walk (l:=PySem.Challenge.rw_trueleaf_k74_whole_deeds_taken_back) rfl rfl rfl (fun w h Y=>Y) ?F
 case F =>
  intro w mg h KX G
  refine' K74.txt_mk (f2:=829) (f3:=899) (f5:=836) (f6:=871) (f9:=892) (f10:=857) (f11:=843) (f12:=850) (f13:=864)  KX G ?m_Desk ?p1_Desk ?p2_Desk ?p3_Desk ?p4_Desk ?p5_Desk ?p6_Desk ?na_Desk_form ?na_Desk_parts ?na_Desk_elder ?na_Desk_issued ?a0 ?l0 ?c0 ?k0 ?a1 ?l1 ?c1 ?k1 ?a2 ?n2 ?l2 ?c2 ?k2 ?a3 ?n3 ?l3 ?c3 ?k3 ?a4 ?l4 ?c4 ?k4 ?a5 ?n5 ?l5 ?c5 ?k5 ?a6 ?n6 ?l6 ?c6 ?k6 ?a7 ?l7 ?c7 ?k7 ?a8 ?l8 ?c8 ?k8 ?a9 ?n9 ?l9 ?c9 ?k9 ?a10 ?n10 ?l10 ?c10 ?k10 ?a11 ?n11 ?l11 ?c11 ?k11 ?a12 ?n12 ?l12 ?c12 ?k12 ?a13 ?n13 ?l13 ?c13 ?k13 ?a14 ?l14 ?c14 ?k14 ?a15 ?l15 ?c15 ?k15 ?a16 ?l16 ?c16 ?k16 ?a17 ?l17 ?c17 ?k17 ?a18 ?l18 ?c18 ?k18 ?a19 ?l19 ?c19 ?k19 ?a20 ?l20 ?c20 ?k20 ?a21 ?l21 ?c21 ?k21 ?a22 ?l22 ?c22 ?k22 ?a23 ?l23 ?c23 ?k23 ?a24 ?l24 ?c24 ?k24 ?a25 ?l25 ?c25 ?k25 ?a26 ?l26 ?c26 ?k26 ?a27 ?l27 ?c27 ?k27 ?z_all ?z_dict ?z_isinstance ?z_len ?z_list ?z_min ?z_range ?z_sorted ?z_str ?m_BadForm ?e_BadForm ?m_BadName ?e_BadName ?m_NoPart ?e_NoPart ?m_NoRow ?e_NoRow ?m_NothingDone ?e_NothingDone ?m_TooLong ?e_TooLong ?m_Twice ?e_Twice ?t_BadName_BadName ?t_Twice_Twice ?t_TooLong_TooLong ?t_NoPart_NoPart ?t_NoRow_NoRow ?t_NothingDone_NothingDone ?nts ?m_FIGURES ?m_LETTERS ?m_LONGEST_NAME ?m_MOST_PARTS ?m_MOST_ROWS_desk
  (case m_Desk=>(first | k_is | (delta K74.Na; k_is) | (delta K74.Lk K74.fdA; k_is) | (delta K74.Cd; k_is) | (delta K74.Kp; k_is) | (delta K74.Zn; k_is)))
  (case p1_Desk=>kernel_rfl)
  (case p2_Desk=>kernel_rfl)
  (case p3_Desk=>kernel_rfl)
  (case p4_Desk=>kernel_rfl)
  (case p5_Desk=>kernel_rfl)
  (case p6_Desk=>(first | k_is | (delta K74.Na; k_is) | (delta K74.Lk K74.fdA; k_is) | (delta K74.Cd; k_is) | (delta K74.Kp; k_is) | (delta K74.Zn; k_is)))
  (case na_Desk_form=>kernel_rfl)
  (case na_Desk_parts=>kernel_rfl)
  (case na_Desk_elder=>kernel_rfl)
  (case na_Desk_issued=>kernel_rfl)
  (case a0 | l0 | c0 | k0 | a1 | l1 | c1 | k1=>(first | k_is | (delta K74.Na; k_is) | (delta K74.Lk K74.fdA; k_is) | (delta K74.Cd; k_is) | (delta K74.Kp; k_is) | (delta K74.Zn; k_is)))
  (case a2=>kernel_rfl)
  (case n2=>kernel_rfl)
  (case l2=>(delta K74.LkM K74.fdM; k_is))
  (case c2 | k2=>(first | k_is | (delta K74.Na; k_is) | (delta K74.Lk K74.fdA; k_is) | (delta K74.Cd; k_is) | (delta K74.Kp; k_is) | (delta K74.Zn; k_is)))
  (case a3=>kernel_rfl)
  (case n3=>kernel_rfl)
  (case l3=>(delta K74.LkM K74.fdM; k_is))
  (case c3 | k3 | a4 | l4 | c4 | k4=>(first | k_is | (delta K74.Na; k_is) | (delta K74.Lk K74.fdA; k_is) | (delta K74.Cd; k_is) | (delta K74.Kp; k_is) | (delta K74.Zn; k_is)))
  (case a5=>kernel_rfl)
  (case n5=>kernel_rfl)
  (case l5=>(delta K74.LkM K74.fdM; k_is))
  (case c5 | k5=>(first | k_is | (delta K74.Na; k_is) | (delta K74.Lk K74.fdA; k_is) | (delta K74.Cd; k_is) | (delta K74.Kp; k_is) | (delta K74.Zn; k_is)))
  (case a6=>kernel_rfl)
  (case n6=>kernel_rfl)
  (case l6=>(delta K74.LkM K74.fdM; k_is))
  (case c6 | k6 | a7 | l7 | c7 | k7 | a8 | l8 | c8 | k8=>(first | k_is | (delta K74.Na; k_is) | (delta K74.Lk K74.fdA; k_is) | (delta K74.Cd; k_is) | (delta K74.Kp; k_is) | (delta K74.Zn; k_is)))
  (case a9=>kernel_rfl)
  (case n9=>kernel_rfl)
  (case l9=>(delta K74.LkM K74.fdM; k_is))
  (case c9 | k9=>(first | k_is | (delta K74.Na; k_is) | (delta K74.Lk K74.fdA; k_is) | (delta K74.Cd; k_is) | (delta K74.Kp; k_is) | (delta K74.Zn; k_is)))
  (case a10=>kernel_rfl)
  (case n10=>kernel_rfl)
  (case l10=>(delta K74.LkM K74.fdM; k_is))
  (case c10 | k10=>(first | k_is | (delta K74.Na; k_is) | (delta K74.Lk K74.fdA; k_is) | (delta K74.Cd; k_is) | (delta K74.Kp; k_is) | (delta K74.Zn; k_is)))
  (case a11=>kernel_rfl)
  (case n11=>kernel_rfl)
  (case l11=>(delta K74.LkM K74.fdM; k_is))
  (case c11 | k11=>(first | k_is | (delta K74.Na; k_is) | (delta K74.Lk K74.fdA; k_is) | (delta K74.Cd; k_is) | (delta K74.Kp; k_is) | (delta K74.Zn; k_is)))
  (case a12=>kernel_rfl)
  (case n12=>kernel_rfl)
  (case l12=>(delta K74.LkM K74.fdM; k_is))
  (case c12 | k12=>(first | k_is | (delta K74.Na; k_is) | (delta K74.Lk K74.fdA; k_is) | (delta K74.Cd; k_is) | (delta K74.Kp; k_is) | (delta K74.Zn; k_is)))
  (case a13=>kernel_rfl)
  (case n13=>kernel_rfl)
  (case l13=>(delta K74.LkM K74.fdM; k_is))
  (case c13 | k13 | a14 | l14 | c14 | k14 | a15 | l15 | c15 | k15 | a16 | l16 | c16 | k16 | a17 | l17 | c17 | k17 | a18 | l18 | c18 | k18 | a19 | l19 | c19 | k19 | a20 | l20 | c20 | k20 | a21 | l21 | c21 | k21 | a22 | l22 | c22 | k22 | a23 | l23 | c23 | k23 | a24 | l24 | c24 | k24 | a25 | l25 | c25 | k25 | a26 | l26 | c26 | k26 | a27 | l27 | c27 | k27 | z_all | z_dict | z_isinstance | z_len | z_list | z_min | z_range | z_sorted | z_str | m_BadForm=>(first | k_is | (delta K74.Na; k_is) | (delta K74.Lk K74.fdA; k_is) | (delta K74.Cd; k_is) | (delta K74.Kp; k_is) | (delta K74.Zn; k_is)))
  (case e_BadForm=>k_exc)
  (case m_BadName=>(first | k_is | (delta K74.Na; k_is) | (delta K74.Lk K74.fdA; k_is) | (delta K74.Cd; k_is) | (delta K74.Kp; k_is) | (delta K74.Zn; k_is)))
  (case e_BadName=>k_exc)
  (case m_NoPart=>(first | k_is | (delta K74.Na; k_is) | (delta K74.Lk K74.fdA; k_is) | (delta K74.Cd; k_is) | (delta K74.Kp; k_is) | (delta K74.Zn; k_is)))
  (case e_NoPart=>k_exc)
  (case m_NoRow=>(first | k_is | (delta K74.Na; k_is) | (delta K74.Lk K74.fdA; k_is) | (delta K74.Cd; k_is) | (delta K74.Kp; k_is) | (delta K74.Zn; k_is)))
  (case e_NoRow=>k_exc)
  (case m_NothingDone=>(first | k_is | (delta K74.Na; k_is) | (delta K74.Lk K74.fdA; k_is) | (delta K74.Cd; k_is) | (delta K74.Kp; k_is) | (delta K74.Zn; k_is)))
  (case e_NothingDone=>k_exc)
  (case m_TooLong=>(first | k_is | (delta K74.Na; k_is) | (delta K74.Lk K74.fdA; k_is) | (delta K74.Cd; k_is) | (delta K74.Kp; k_is) | (delta K74.Zn; k_is)))
  (case e_TooLong=>k_exc)
  (case m_Twice=>(first | k_is | (delta K74.Na; k_is) | (delta K74.Lk K74.fdA; k_is) | (delta K74.Cd; k_is) | (delta K74.Kp; k_is) | (delta K74.Zn; k_is)))
  (case e_Twice=>k_exc)
  (case t_BadName_BadName=>((show PySem.W.exmOne _ _ _=some true); kts_exm))
  (case t_Twice_Twice=>((show PySem.W.exmOne _ _ _=some true); kts_exm))
  (case t_TooLong_TooLong=>((show PySem.W.exmOne _ _ _=some true); kts_exm))
  (case t_NoPart_NoPart=>((show PySem.W.exmOne _ _ _=some true); kts_exm))
  (case t_NoRow_NoRow=>((show PySem.W.exmOne _ _ _=some true); kts_exm))
  (case t_NothingDone_NothingDone=>((show PySem.W.exmOne _ _ _=some true); kts_exm))
  (case nts=>kernel_rfl)
  (case m_FIGURES | m_LETTERS | m_LONGEST_NAME | m_MOST_PARTS | m_MOST_ROWS_desk=>(first | k_is | (delta K74.Na; k_is) | (delta K74.Lk K74.fdA; k_is) | (delta K74.Cd; k_is) | (delta K74.Kp; k_is) | (delta K74.Zn; k_is)))
