import PyProof.Rows.All
import Wide.All
import OpenK.AllK
import Wide.FinOn
import Lean
import PyProof.EqAt
import PyProof.EqKinds
import PyProof.TupleCall
import PyProof.NeKinds
import KE.LcSums
import PyProof.ExcBaseAll.ValueError
import KE.KTryMore
import KE.RegKTryMore
import PyProof.StrLawsRepr
import PyProof.ReprStr
import PyProof.EnumMake
import PyProof.EnumFor
import KE.KEqDict
import PyProof.Rows.Range3
import PyProof.SumWalkG
import PyProof.ZipIter
import KE.KIsAll
import PyProof.ExcArgsOwn
import PyProof.ExcAttrAll.ValueError
import PyProof.RulesAs
import PyProof.NsDelKeeps
import KE.KDictOf
import PyProof.IsiH_list
import PyProof.RaisesAny
import PyProof.SumWalkG
import PyProof.Draws
import PySem.Challenge.RW_trueleaf_k15_one_step
set_option Elab.async false
set_option linter.all false
set_option maxRecDepth 100000
set_option maxHeartbeats 4000000
namespace L2
open PySem
def defArgs (s:Stmt) : Arguments:=match s with
 | .FunctionDef _ a _ _ _ _ _ _ _ _=>a
 | _=>{ posonlyargs:=[],args:=[],vararg:=none,kwonlyargs:=[],kw_defaults:=[],kwarg:=none,defaults:=[] }
def defBody (s:Stmt) : List Stmt:=match s with
 | .FunctionDef _ _ b _ _ _ _ _ _ _=>b
 | _=>[]
def defScope (s:Stmt) : Scope:=match s with
 | .FunctionDef _ _ _ _ _ _ sc _ _ _=>sc
 | _=>{ kind:=.function,names:=[],isGenerator:=false,isCoroutine:=false }

end L2
namespace K15
open PySem PySem.W L2 PyProof.Rows
noncomputable def top (i:Nat) : Stmt:=PySem.Challenge.pw_trueleaf_k15_one_step.main.body.getD i (.Pass ⟨0,0,0,0⟩)
noncomputable abbrev os (s:String) : Str:=Str.ofString s
noncomputable abbrev kh (P:Params) (s:Str) : Int:=PyData.keyHash P s
noncomputable abbrev cO (n:String) (a b c:Nat) (l1 l2 l5:Int) (r0:Addr) (m:Int) (r1 r2 r3 r4:Addr) (x y:Int) (d:Nat) : Obj:=⟨.type "code",none,.fields #[.str (os n) a,.str (os n) b,.str (os "/claim/cut.py") c,.int l1 0,.int l2 0,.int 0 0,.int 0 0,.int l5 0,.ref r0,.bool true,.int m 0,.ref r1,.none,.ref r2,.ref r3,.ref r4,.int x 0,.int y 0,.str (os "/claim/cut.py") d],#[]⟩
noncomputable abbrev fO (n:String) (i:Nat) (d:Value) (m:String) (k:Nat) (r:Addr) : Obj:=⟨.type "function",none,.func (fnOf (os n) (os n) (defArgs (top i)) (defBody (top i)) (defScope (top i)) d .none .none (.str (os m) k) none (.ref r) .none),#[]⟩
noncomputable def kk:Params→Frag:=fun P=>(nat_lit 2,⟨(.none),none,.dict ([]).toArray 0,#[]⟩) ::
 (nat_lit 3,⟨(.type "dict"),none,.dict (List.toArray (⟨kh P (os "__name__"),(.str (os "__name__") 165),(.str (os "law_trueleaf_k15_one_step") 246)⟩ :: ⟨kh P (os "__doc__"),(.str (os "__doc__") 166),(.none)⟩ :: ⟨kh P (os "__package__"),(.str (os "__package__") 167),(.none)⟩ :: ⟨kh P (os "__loader__"),(.str (os "__loader__") 168),(.builtin "__main__.__loader__#opaque")⟩ :: ⟨kh P (os "__spec__"),(.str (os "__spec__") 169),(.none)⟩ :: ⟨kh P (os "__annotations__"),(.str (os "__annotations__") 170),(.ref 6)⟩ :: ⟨kh P (os "__builtins__"),(.str (os "__builtins__") 171),(.ref 4)⟩ :: ⟨kh P (os "__file__"),(.str (os "__file__") 173),(.str (os "/claim/cut.py") 172)⟩ :: ⟨kh P (os "__cached__"),(.str (os "__cached__") 174),(.none)⟩ :: ⟨kh P (os "copied"),(.str (os "copied") 194),(.ref 19)⟩ :: ⟨kh P (os "calls_in"),(.str (os "calls_in") 200),(.ref 24)⟩ :: ⟨kh P (os "one_step"),(.str (os "one_step") 211),(.ref 31)⟩ :: ⟨kh P (os "by_name"),(.str (os "by_name") 217),(.ref 36)⟩ :: ⟨kh P (os "stepped"),(.str (os "stepped") 228),(.ref 43)⟩ :: ⟨kh P (os "arguments_stepped"),(.str (os "arguments_stepped") 239),(.ref 50)⟩ :: ⟨kh P (os "filled"),(.str (os "filled") 245),(.ref 55)⟩ :: ⟨kh P (os "_law_cell_at"),(.str (os "_law_cell_at") 255),(.ref 62)⟩ :: ⟨kh P (os "_law_draw"),(.str (os "_law_draw") 265),(.ref 69)⟩ :: ⟨kh P (os "_law_copy"),(.str (os "_law_copy") 271),(.ref 74)⟩ :: ⟨kh P (os "_law_names"),(.str (os "_law_names") 277),(.ref 79)⟩ :: ⟨kh P (os "_law_word_by"),(.str (os "_law_word_by") 283),(.ref 84)⟩ :: ⟨kh P (os "_law_end_argument"),(.str (os "_law_end_argument") 294),(.ref 91)⟩ :: ⟨kh P (os "_law_nodes"),(.str (os "_law_nodes") 307),(.ref 98)⟩ :: ⟨kh P (os "_law_size"),(.str (os "_law_size") 313),(.ref 103)⟩ :: ⟨kh P (os "_law_short"),(.str (os "_law_short") 319),(.ref 108)⟩ :: ⟨kh P (os "_law_shorts"),(.str (os "_law_shorts") 334),(.ref 115)⟩ :: ⟨kh P (os "_law_written"),(.str (os "_law_written") 344),(.ref 122)⟩ :: ⟨kh P (os "_law_sound"),(.str (os "_law_sound") 350),(.ref 127)⟩ :: ⟨kh P (os "_law_lists"),(.str (os "_law_lists") 360),(.ref 134)⟩ :: ⟨kh P (os "_law_apart"),(.str (os "_law_apart") 366),(.ref 139)⟩ :: ⟨kh P (os "_law_ends"),(.str (os "_law_ends") 378),(.ref 146)⟩ :: ⟨kh P (os "_law_exchanged"),(.str (os "_law_exchanged") 384),(.ref 151)⟩ :: ⟨kh P (os "law"),(.str (os "law") 390),(.ref 156)⟩ :: [])) 33,#[]⟩) ::
 (nat_lit 18,⟨(.type "code"),none,(.fields #[.str (os "copied") 189,.str (os "copied") 190,.str (os "/claim/cut.py") 191,.int 2 0,.int 1 0,.int 0 0,.int 0 0,.int 3 0,.ref 15,.bool true,.int 181 0,.ref 16,.none,.none,.none,.ref 17,.int 192 0,.int 2 0,.str (os "/claim/cut.py") 193]),#[]⟩) ::
 (nat_lit 19,fO "copied" 1 (.none) "trueleaf.trees" 187 18) ::
 (nat_lit 23,⟨(.type "code"),none,(.fields #[.str (os "calls_in") 195,.str (os "calls_in") 196,.str (os "/claim/cut.py") 197,.int 10 0,.int 1 0,.int 0 0,.int 0 0,.int 3 0,.ref 20,.bool true,.int 181 0,.ref 21,.none,.none,.none,.ref 22,.int 198 0,.int 10 0,.str (os "/claim/cut.py") 199]),#[]⟩) ::
 (nat_lit 24,fO "calls_in" 2 (.none) "trueleaf.trees" 187 23) ::
 (nat_lit 30,cO "one_step" 203 204 205 17 3 3 25 181 26 27 28 29 209 17 210) ::
 (nat_lit 31,fO "one_step" 4 (.none) "trueleaf.shorts" 201 30) ::
 (nat_lit 35,⟨(.type "code"),none,(.fields #[.str (os "by_name") 212,.str (os "by_name") 213,.str (os "/claim/cut.py") 214,.int 19 0,.int 1 0,.int 0 0,.int 0 0,.int 3 0,.ref 32,.bool true,.int 181 0,.ref 33,.none,.none,.none,.ref 34,.int 215 0,.int 19 0,.str (os "/claim/cut.py") 216]),#[]⟩) ::
 (nat_lit 36,fO "by_name" 5 (.none) "trueleaf.shorts" 201 35) ::
 (nat_lit 42,cO "stepped" 218 219 220 21 3 3 37 181 38 39 40 41 226 21 227) ::
 (nat_lit 43,fO "stepped" 6 (.none) "trueleaf.shorts" 201 42) ::
 (nat_lit 49,cO "arguments_stepped" 229 230 231 32 3 3 44 181 45 46 47 48 237 32 238) ::
 (nat_lit 50,fO "arguments_stepped" 7 (.none) "trueleaf.shorts" 201 49) ::
 (nat_lit 54,⟨(.type "code"),none,(.fields #[.str (os "filled") 240,.str (os "filled") 241,.str (os "/claim/cut.py") 242,.int 38 0,.int 2 0,.int 0 0,.int 0 0,.int 3 0,.ref 51,.bool true,.int 181 0,.ref 52,.none,.none,.none,.ref 53,.int 243 0,.int 38 0,.str (os "/claim/cut.py") 244]),#[]⟩) ::
 (nat_lit 55,fO "filled" 8 (.none) "trueleaf.shorts" 201 54) ::
 (nat_lit 61,cO "_law_cell_at" 248 249 250 49 2 3 56 181 57 58 59 60 253 49 254) ::
 (nat_lit 62,fO "_law_cell_at" 10 (.none) "law_trueleaf_k15_one_step" 246 61) ::
 (nat_lit 68,cO "_law_draw" 256 257 258 53 3 3 63 181 64 65 66 67 263 53 264) ::
 (nat_lit 69,fO "_law_draw" 11 (.none) "law_trueleaf_k15_one_step" 246 68) ::
 (nat_lit 73,⟨(.type "code"),none,(.fields #[.str (os "_law_copy") 266,.str (os "_law_copy") 267,.str (os "/claim/cut.py") 268,.int 56 0,.int 1 0,.int 0 0,.int 0 0,.int 3 0,.ref 70,.bool true,.int 181 0,.ref 71,.none,.none,.none,.ref 72,.int 269 0,.int 56 0,.str (os "/claim/cut.py") 270]),#[]⟩) ::
 (nat_lit 74,fO "_law_copy" 12 (.none) "law_trueleaf_k15_one_step" 246 73) ::
 (nat_lit 78,⟨(.type "code"),none,(.fields #[.str (os "_law_names") 272,.str (os "_law_names") 273,.str (os "/claim/cut.py") 274,.int 62 0,.int 2 0,.int 0 0,.int 0 0,.int 3 0,.ref 75,.bool true,.int 181 0,.ref 76,.none,.none,.none,.ref 77,.int 275 0,.int 62 0,.str (os "/claim/cut.py") 276]),#[]⟩) ::
 (nat_lit 79,fO "_law_names" 13 (.none) "law_trueleaf_k15_one_step" 246 78) ::
 (nat_lit 83,⟨(.type "code"),none,(.fields #[.str (os "_law_word_by") 278,.str (os "_law_word_by") 279,.str (os "/claim/cut.py") 280,.int 78 0,.int 1 0,.int 0 0,.int 0 0,.int 3 0,.ref 80,.bool true,.int 181 0,.ref 81,.none,.none,.none,.ref 82,.int 281 0,.int 78 0,.str (os "/claim/cut.py") 282]),#[]⟩) ::
 (nat_lit 84,fO "_law_word_by" 14 (.none) "law_trueleaf_k15_one_step" 246 83) ::
 (nat_lit 90,cO "_law_end_argument" 284 285 286 81 1 3 85 181 86 87 88 89 292 81 293) ::
 (nat_lit 91,fO "_law_end_argument" 15 (.none) "law_trueleaf_k15_one_step" 246 90) ::
 (nat_lit 97,cO "_law_nodes" 295 296 297 90 3 3 92 181 93 94 95 96 305 90 306) ::
 (nat_lit 98,fO "_law_nodes" 16 (.none) "law_trueleaf_k15_one_step" 246 97) ::
 (nat_lit 102,⟨(.type "code"),none,(.fields #[.str (os "_law_size") 308,.str (os "_law_size") 309,.str (os "/claim/cut.py") 310,.int 109 0,.int 3 0,.int 0 0,.int 0 0,.int 3 0,.ref 99,.bool true,.int 181 0,.ref 100,.none,.none,.none,.ref 101,.int 311 0,.int 109 0,.str (os "/claim/cut.py") 312]),#[]⟩) ::
 (nat_lit 103,fO "_law_size" 17 (.none) "law_trueleaf_k15_one_step" 246 102) ::
 (nat_lit 107,⟨(.type "code"),none,(.fields #[.str (os "_law_short") 314,.str (os "_law_short") 315,.str (os "/claim/cut.py") 316,.int 127 0,.int 4 0,.int 0 0,.int 0 0,.int 3 0,.ref 104,.bool true,.int 181 0,.ref 105,.none,.none,.none,.ref 106,.int 317 0,.int 127 0,.str (os "/claim/cut.py") 318]),#[]⟩) ::
 (nat_lit 108,fO "_law_short" 18 (.none) "law_trueleaf_k15_one_step" 246 107) ::
 (nat_lit 114,cO "_law_shorts" 320 321 322 135 3 3 109 181 110 111 112 113 332 135 333) ::
 (nat_lit 115,fO "_law_shorts" 19 (.none) "law_trueleaf_k15_one_step" 246 114) ::
 (nat_lit 121,cO "_law_written" 335 336 337 146 1 3 116 181 117 118 119 120 342 146 343) ::
 (nat_lit 122,fO "_law_written" 20 (.none) "law_trueleaf_k15_one_step" 246 121) ::
 (nat_lit 126,⟨(.type "code"),none,(.fields #[.str (os "_law_sound") 345,.str (os "_law_sound") 346,.str (os "/claim/cut.py") 347,.int 161 0,.int 3 0,.int 0 0,.int 0 0,.int 3 0,.ref 123,.bool true,.int 181 0,.ref 124,.none,.none,.none,.ref 125,.int 348 0,.int 161 0,.str (os "/claim/cut.py") 349]),#[]⟩) ::
 (nat_lit 127,fO "_law_sound" 21 (.none) "law_trueleaf_k15_one_step" 246 126) ::
 (nat_lit 133,cO "_law_lists" 351 352 353 182 1 3 128 181 129 130 131 132 358 182 359) ::
 (nat_lit 134,fO "_law_lists" 22 (.none) "law_trueleaf_k15_one_step" 246 133) ::
 (nat_lit 138,⟨(.type "code"),none,(.fields #[.str (os "_law_apart") 361,.str (os "_law_apart") 362,.str (os "/claim/cut.py") 363,.int 190 0,.int 1 0,.int 0 0,.int 0 0,.int 3 0,.ref 135,.bool true,.int 181 0,.ref 136,.none,.none,.none,.ref 137,.int 364 0,.int 190 0,.str (os "/claim/cut.py") 365]),#[]⟩) ::
 (nat_lit 139,fO "_law_apart" 23 (.none) "law_trueleaf_k15_one_step" 246 138) ::
 (nat_lit 145,cO "_law_ends" 367 368 369 196 2 3 140 181 141 142 143 144 376 196 377) ::
 (nat_lit 146,fO "_law_ends" 24 (.none) "law_trueleaf_k15_one_step" 246 145) ::
 (nat_lit 150,⟨(.type "code"),none,(.fields #[.str (os "_law_exchanged") 379,.str (os "_law_exchanged") 380,.str (os "/claim/cut.py") 381,.int 216 0,.int 3 0,.int 0 0,.int 0 0,.int 3 0,.ref 147,.bool true,.int 181 0,.ref 148,.none,.none,.none,.ref 149,.int 382 0,.int 216 0,.str (os "/claim/cut.py") 383]),#[]⟩) ::
 (nat_lit 151,fO "_law_exchanged" 25 (.none) "law_trueleaf_k15_one_step" 246 150) ::
 (nat_lit 155,⟨(.type "code"),none,(.fields #[.str (os "law") 385,.str (os "law") 386,.str (os "/claim/cut.py") 387,.int 226 0,.int 1 0,.int 0 0,.int 0 0,.int 3 0,.ref 152,.bool true,.int 181 0,.ref 153,.none,.none,.none,.ref 154,.int 388 0,.int 226 0,.str (os "/claim/cut.py") 389]),#[]⟩) ::
 (nat_lit 156,fO "law" 26 (.none) "law_trueleaf_k15_one_step" 246 155) :: []
noncomputable def vw:Program:={ PySem.Challenge.pw_trueleaf_k15_one_step with main:={ PySem.Challenge.pw_trueleaf_k15_one_step.main with body:=top 1 :: top 2 :: top 4 :: top 5 :: top 6 :: top 7 :: top 8 :: top 10 :: top 11 :: top 12 :: top 13 :: top 14 :: top 15 :: top 16 :: top 17 :: top 18 :: top 19 :: top 20 :: top 21 :: top 22 :: top 23 :: top 24 :: top 25 :: top 26 :: [] } }
noncomputable abbrev ls:List Str:=[]
noncomputable abbrev hk:Hook:=kHook kk (nat_lit 2 :: nat_lit 3 :: nat_lit 18 :: nat_lit 19 :: nat_lit 23 :: nat_lit 24 :: nat_lit 30 :: nat_lit 31 :: nat_lit 35 :: nat_lit 36 :: nat_lit 42 :: nat_lit 43 :: nat_lit 49 :: nat_lit 50 :: nat_lit 54 :: nat_lit 55 :: nat_lit 61 :: nat_lit 62 :: nat_lit 68 :: nat_lit 69 :: nat_lit 73 :: nat_lit 74 :: nat_lit 78 :: nat_lit 79 :: nat_lit 83 :: nat_lit 84 :: nat_lit 90 :: nat_lit 91 :: nat_lit 97 :: nat_lit 98 :: nat_lit 102 :: nat_lit 103 :: nat_lit 107 :: nat_lit 108 :: nat_lit 114 :: nat_lit 115 :: nat_lit 121 :: nat_lit 122 :: nat_lit 126 :: nat_lit 127 :: nat_lit 133 :: nat_lit 134 :: nat_lit 138 :: nat_lit 139 :: nat_lit 145 :: nat_lit 146 :: nat_lit 150 :: nat_lit 151 :: nat_lit 155 :: nat_lit 156 :: []) (fun _=>by kernel_rfl)
noncomputable abbrev rr:RowW:=OpenRow.toRowW (OpenLaw.row PySem.Challenge.rw_trueleaf_k15_one_step)
noncomputable abbrev xt:Shared→Bool:=fun s=>xlAt vw [] s && recOk (RowW.records rr) s
set_option maxHeartbeats 0 in
theorem left:LeftO PySem.Challenge.pw_trueleaf_k15_one_step vw ls xt (Hook.obs hk) (Hook.val hk) 1580:=by
 intro w
 kernel_rfl
end K15
set_option maxHeartbeats 4000000
namespace L2
open PySem PySem.Spec PyProof.Rows

abbrev Key:=Sum Int Str
def keyIs:Key→Value→Bool
 | .inl k,v=>Value.isInt k v
 | .inr x,v=>Value.isStrOf x v
def keyH (w:World) : Key→Int
 | .inl k=>hashInt k
 | .inr x=>hashStr w x
theorem keyIs_shape:∀ {k:Key} {v:Value},keyIs k v=true→(∃ i t,k=Sum.inl i∧v=Value.int i t)∨(∃ x t,k=Sum.inr x∧v=Value.str x t)
 | .inl i,v,h=>by
  obtain ⟨t,e⟩:=Value.isInt_shape (k:=i) (v:=v) h
  exact .inl ⟨i,t,rfl,e⟩
 | .inr x,v,h=>by
  obtain ⟨t,e⟩:=Value.isStrOf_shape (x:=x) (v:=v) h
  exact .inr ⟨x,t,rfl,e⟩
theorem keyIs_int (i:Int) (t:Tok) : keyIs (.inl i) (.int i t)=true:=by simp [keyIs,Value.isInt]
theorem keyIs_str (x:Str) (t:Tok) : keyIs (.inr x) (.str x t)=true:=by simp [keyIs,Value.isStrOf]
theorem key_ll (a b:Int) : decide ((Sum.inl a:Key)=Sum.inl b)=(a == b):=by
 by_cases e:a=b
 ·subst e; simp
 ·have h:¬ (Sum.inl a:Key)=Sum.inl b:=fun q=>e (Sum.inl.inj q)
  rw [decide_eq_false h]
  exact (beq_eq_false_iff_ne.mpr e).symm
theorem key_rr (a b:Str) : decide ((Sum.inr a:Key)=Sum.inr b)=decide (a=b):=by
 by_cases e:a=b
 ·subst e; simp
 ·have h:¬ (Sum.inr a:Key)=Sum.inr b:=fun q=>e (Sum.inr.inj q)
  rw [decide_eq_false h,decide_eq_false e]
theorem key_lr (a:Int) (b:Str) : decide ((Sum.inl a:Key)=Sum.inr b)=false:=decide_eq_false (fun q=>nomatch q)
theorem key_rl (a:Str) (b:Int) : decide ((Sum.inr a:Key)=Sum.inl b)=false:=decide_eq_false (fun q=>nomatch q)

def mixKind (prog:Program) (w:World) : PySem.KeyKind prog w Key where
 is:=keyIs
 hash:=keyH w
 inj:=fun v a b ha hb=>by
  rcases keyIs_shape ha with ⟨i,t,rfl,rfl⟩ | ⟨x,t,rfl,rfl⟩
  ·rcases keyIs_shape hb with ⟨j,u,rfl,e⟩ | ⟨y,u,rfl,e⟩
   ·injection e with e1 _; rw [e1]
   ·exact nomatch e
  ·rcases keyIs_shape hb with ⟨j,u,rfl,e⟩ | ⟨y,u,rfl,e⟩
   ·exact nomatch e
   ·injection e with e1 _; rw [e1]
 byValue:=fun k v h=>by
  rcases keyIs_shape h with ⟨i,t,rfl,rfl⟩ | ⟨x,t,rfl,rfl⟩ <;> rfl
 pyHash:=fun hv h=>by
  rcases keyIs_shape hv with ⟨i,t,rfl,rfl⟩ | ⟨x,t,rfl,rfl⟩
  ·exact wpAny_pyHash_int h
  ·exact wpAny_pyHash_str h
 eqBool:=fun hu hv h=>by
  rcases keyIs_shape hu with ⟨i,t,rfl,rfl⟩ | ⟨x,t,rfl,rfl⟩
  ·rcases keyIs_shape hv with ⟨j,u,rfl,rfl⟩ | ⟨y,u,rfl,rfl⟩
   ·rw [key_ll] at h; exact wpAny_eqBool_int h
   ·rw [key_lr] at h; exact SeqAt.EqAt.int_str i t y u _ _ _ _ h
  ·rcases keyIs_shape hv with ⟨j,u,rfl,rfl⟩ | ⟨y,u,rfl,rfl⟩
   ·rw [key_rl] at h; exact SeqAt.EqAt.str_int x t j u _ _ _ _ h
   ·rw [key_rr] at h; exact wpAny_eqBool_str h
 «strs»:=fun k x t v h=>by
  rcases keyIs_shape h with ⟨i,u,rfl,e⟩ | ⟨y,u,rfl,e⟩
  ·exact nomatch e
  ·injection e with e1 _
   subst e1
   cases v <;> rfl

theorem mixKind_int (prog:Program) (w:World) (i:Int) (t:Tok) : (mixKind prog w).is (.inl i) (.int i t)=true:=keyIs_int i t
theorem mixKind_str (prog:Program) (w:World) (x:Str) (t:Tok) : (mixKind prog w).is (.inr x) (.str x t)=true:=keyIs_str x t

inductive V where
 | non | bl (b:Bool) | int (i:Int) | str (x:Str) | byt (b:Array UInt8) | flt (b:UInt64) | ref (a:Addr) | ty (n:String)
 deriving DecidableEq

def RelV:V→Value→Prop
 | .non,u=>u=Value.none
 | .bl b,u=>u=Value.bool b
 | .int i,u=>∃ t,u=Value.int i t
 | .str x,u=>∃ t,u=Value.str x t
 | .byt b,u=>∃ t,u=Value.bytes b t
 | .flt b,u=>∃ t,u=Value.float b t
 | .ref a,u=>u=Value.ref a
 | .ty n,u=>u=Value.type n

abbrev Vals:List V→List Value→Prop:=Paired RelV
theorem Vals.length {xs:List V} {us:List Value} (r:Vals xs us) : xs.length=us.length:=Paired.length r
theorem Vals.get:∀ {xs:List V} {us:List Value} {i:Nat} {x:V},Vals xs us→xs[i]? = some x→∃ u,us[i]? = some u∧RelV x u
 | _,_,_,_,.nil,e=>by simp at e
 | _,_,0,_,.cons r _,e=>by simp at e; subst e; exact ⟨_,rfl,r⟩
 | _,_,i+1,x,.cons _ t,e=>by
  obtain ⟨u,h1,h2⟩:=Vals.get (i:=i) (x:=x) t (by simpa using e)
  exact ⟨u,by simpa using h1,h2⟩
theorem Vals.set {x:V} {u:Value} (r:RelV x u) : ∀ {xs:List V} {us:List Value} (i:Nat),Vals xs us→Vals (xs.set i x) (us.set i u)
 | _,_,_,.nil=>.nil
 | _,_,0,.cons _ t=>.cons r t
 | _,_,i+1,.cons q t=>.cons q (Vals.set r i t)
theorem Vals.append:∀ {xs ys:List V} {us ws:List Value},Vals xs us→Vals ys ws→Vals (xs++ys) (us++ws)
 | _,_,_,_,.nil,s=>s
 | _,_,_,_,.cons r t,s=>.cons r (Vals.append t s)
theorem Vals.take:∀ {xs:List V} {us:List Value} (n:Nat),Vals xs us→Vals (xs.take n) (us.take n)
 | _,_,0,_=>.nil
 | _,_,_+1,.nil=>.nil
 | _,_,n+1,.cons r t=>.cons r (Vals.take n t)
theorem Vals.drop:∀ {xs:List V} {us:List Value} (n:Nat),Vals xs us→Vals (xs.drop n) (us.drop n)
 | _,_,0,r=>r
 | _,_,_+1,.nil=>.nil
 | _,_,n+1,.cons _ t=>Vals.drop n t
def RelO:Option V→Option Value→Prop
 | some v,some u=>RelV v u
 | none,none=>True
 | _,_=>False
def KV {κ:Type} : List (κ × V)→List (κ × Value)→Prop:=Paired fun (p:κ × V) (q:κ × Value)=>p.1=q.1∧RelV p.2 q.2

def kV:Key→V
 | .inl i=>.int i
 | .inr x=>.str x

inductive HO where
  | lst (xs:List V)
  | tup (xs:List V)
  | dK (kvs:List (Key × V)) | dT (kvs:List (List Key × V))
  | set (S:Int→Bool) (n:Nat)
  | ins (C dx:Addr) (fs:List (Str × V))
  | own (x:Addr)
  | xd (fs:List (Str × V))
  | met (f x:Addr)
  | rng (lo hi:Int)
  | frz (o:Obj) (u:HO)
  | tbl (ps:Array Value)
  | ext (φ:Heap→Prop)

abbrev Hp:=Addr→Option HO
def upd (H:Hp) (a:Addr) (o:HO) : Hp:=fun b=>if b=a then some o else H b
theorem upd_same {H:Hp} {a:Addr} {o:HO} : upd H a o a=some o:=by unfold upd; rw [if_pos rfl]
theorem upd_ne {H:Hp} {a b:Addr} {o:HO} (h:b≠a) : upd H a o b=H b:=by unfold upd; rw [if_neg h]
theorem upd_upd {H:Hp} {a:Addr} {o u:HO} : upd (upd H a o) a u=upd H a u:=by
 funext b; unfold upd; split <;> rfl
theorem ne_of {H:Hp} {a b:Addr} {o u:HO} (h:H a=some o) (h':H b=some u) (d:o≠u) : a≠b:=by
 intro e; subst e; rw [h] at h'; exact d (Option.some.inj h')
theorem ne_of_none {H:Hp} {a b:Addr} {o:HO} (h:H a=some o) (h':H b=none) : a≠b:=by
 intro e; subst e; rw [h] at h'; cases h'

section
variable (P:Program) (w:World)
def ObjOk (H:Hp) (h:Heap) (a:Addr) : HO→Prop
 | .lst xs=>xs.length≤sizeLine∧∃ (its:List Value) (n:Nat),Vals xs its∧h.get? a=some { cls:=.type "list",data:=.seq its.toArray n }
 | .tup xs=>xs.length≤sizeLine∧∃ its:List Value,Vals xs its∧IsTup h a its.toArray
 | .dK kvs=>kvs.length≤sizeLine∧(a == sysModules)=false∧∃ vs,KV kvs vs∧h.DictOf (mixKind P w) a vs
 | .dT kvs=>kvs.length≤sizeLine∧(a == sysModules)=false∧∃ xs:List (List Key × Addr × Value),
   Paired (fun (p:List Key × V) (q:List Key × Addr × Value)=>p.1=q.1∧H q.2.1=some (.tup (p.1.map kV))∧RelV p.2 q.2.2) kvs xs ∧
   ∃ o es ep,h.get? a=some o∧o.ExactDict∧o.data = .dict es ep∧es.toList=xs.map (entryOfKey (tupleKind (mixKind P w)))∧(xs.map (·.1)).Nodup
 | .set S n=>h.SetOf (intKind P w) a S n
 | .ins C dx fs=>H dx=some (.own a)∧fs.length≤1000∧dx≠a∧h.get? a=some (PySem.W.instObj C dx) ∧
   ∃ mA,h.Ns1 dx mA∧(∀ f,RelO (fs.lookup f) (mA f))∧PySem.Within mA (fs.map (·.1))
 | .own _=>∃ o,h.get? a=some o
 | .xd fs=>∃ mA,h.Ns1 a mA∧∀ f,RelO (fs.lookup f) (mA f)
 | .rng lo hi=>∃ t u v,h.get? a=some { cls:=.type "range",data:=.fields #[.int lo t,.int hi u,.int 1 v] }
 | .frz o u=>h.get? a=some o∧ObjOk H h a u
 | .tbl ps=>h.get? a=some { cls:=.none,data:=.fields ps }
 | .met f x=>h.get? a=some (PySem.W.methodObj (.ref f) (.ref x))
 | .ext φ=>φ h∧(∃ o,h.get? a=some o)∧∀ h1 h2:Heap,φ h1→(∀ o,h1.get? a=some o→h2.get? a=some o)→φ h2
def HOk (H:Hp) (h:Heap) : Prop:=∀ a o,H a=some o→ObjOk P w H h a o
end

section
variable {P:Program} {w:World} {H H':Hp} {h h':Heap} {a:Addr} {o:HO}
theorem ObjOk.lt (x:ObjOk P w H h a o) : a < h.objs.size:=by
 cases o with
 | lst xs=>obtain ⟨_,_,_,_,e⟩:=x; exact Heap.lt_size e
 | tup xs=>obtain ⟨_,_,_,p⟩:=x; exact p.lt
 | dK kvs=>obtain ⟨_,_,_,_,o,_,_,e,_⟩:=x; exact Heap.lt_size e
 | dT kvs=>obtain ⟨_,_,_,_,o,_,_,e,_⟩:=x; exact Heap.lt_size e
 | set S n=>obtain ⟨o,_,_,_,e,_⟩:=x; exact Heap.lt_size e
 | ins C dx fs=>obtain ⟨_,_,_,e,_⟩:=x; exact Heap.lt_size e
 | own y=>obtain ⟨_,e⟩:=x; exact Heap.lt_size e
 | xd fs=>obtain ⟨_,⟨_,_,_,e,_⟩,_⟩:=x; exact Heap.lt_size e
 | rng lo hi=>obtain ⟨_,_,_,e⟩:=x; exact Heap.lt_size e
 | frz ob u=>obtain ⟨e,_⟩:=x; exact Heap.lt_size e
 | tbl ps=>exact Heap.lt_size (show h.get? a=some _ from x)
 | met f y=>exact Heap.lt_size (show h.get? a=some _ from x)
 | ext φ=>obtain ⟨_,⟨_,e⟩,_⟩:=x; exact Heap.lt_size e
theorem Paired.mapP {α β:Type} {F G:α→β→Prop} : ∀ {l₁:List α} {l₂:List β},Paired F l₁ l₂→(∀ a b,F a b→G a b)→Paired G l₁ l₂
 | _,_,.nil,_=>.nil
 | _,_,.cons r t,f=>.cons (f _ _ r) (Paired.mapP t f)
theorem ObjOk.stay (x:ObjOk P w H h a o) (k:∀ b u,(b=a∨H b=some (.own a))→h.get? b=some u→h'.get? b=some u)
  (ho:∀ b,H b=some (.own a)→H' b=some (.own a)) (ht:∀ b xs,H b=some (.tup xs)→H' b=some (.tup xs)) : ObjOk P w H' h' a o:=by
 induction o with
 | lst xs=>obtain ⟨z,its,n,r,e⟩:=x; exact ⟨z,its,n,r,k _ _ (.inl rfl) e⟩
 | tup xs=>obtain ⟨z,its,r,ob,e,c⟩:=x; exact ⟨z,its,r,ob,k _ _ (.inl rfl) e,c⟩
 | dK kvs=>obtain ⟨z,y,vs,r,ob,es,ep,e,c⟩:=x; exact ⟨z,y,vs,r,ob,es,ep,k _ _ (.inl rfl) e,c⟩
 | dT kvs =>
  obtain ⟨z,y,xs,r,ob,es,ep,e,c⟩:=x
  exact ⟨z,y,xs,Paired.mapP r fun p q z=>⟨z.1,ht _ _ z.2.1,z.2.2⟩,ob,es,ep,k _ _ (.inl rfl) e,c⟩
 | set S n=>obtain ⟨ob,es,ep,t,e,c⟩:=x; exact ⟨ob,es,ep,t,k _ _ (.inl rfl) e,c⟩
 | ins C dx fs =>
  obtain ⟨d,z,ne,e,mA,⟨od,es,ep,e2,c⟩,r⟩:=x
  exact ⟨ho _ d,z,ne,k _ _ (.inl rfl) e,mA,⟨od,es,ep,k _ _ (.inr d) e2,c⟩,r⟩
 | own y=>obtain ⟨ob,e⟩:=x; exact ⟨ob,k _ _ (.inl rfl) e⟩
 | xd fs=>obtain ⟨mA,⟨od,es,ep,e,c⟩,r⟩:=x; exact ⟨mA,⟨od,es,ep,k _ _ (.inl rfl) e,c⟩,r⟩
 | rng lo hi=>obtain ⟨t,u,v,e⟩:=x; exact ⟨t,u,v,k _ _ (.inl rfl) e⟩
 | frz ob u ih=>obtain ⟨e,q⟩:=x; exact ⟨k _ _ (.inl rfl) e,ih q⟩
 | tbl ps =>
  have e:h.get? a=some { cls:=.none,data:=.fields ps }:=x
  show h'.get? a=some { cls:=.none,data:=.fields ps }
  exact k a _ (.inl rfl) e
 | met f y =>
  have e:h.get? a=some (PySem.W.methodObj (.ref f) (.ref y)):=x
  show h'.get? a=some (PySem.W.methodObj (.ref f) (.ref y))
  exact k a _ (.inl rfl) e
 | ext φ=>obtain ⟨p,⟨o,e⟩,st⟩:=x; exact ⟨st _ _ p fun o q=>k _ _ (.inl rfl) q,⟨o,k _ _ (.inl rfl) e⟩,st⟩
theorem HOk.lt (x:HOk P w H h) (e:H a=some o) : a < h.objs.size:=(x a o e).lt
theorem HOk.fresh (x:HOk P w H h) (e:h.objs.size≤a) : H a=none:=by
 cases q:H a with
 | none=>rfl
 | some u=>exact absurd (Nat.lt_of_lt_of_le (x.lt q) e) (Nat.lt_irrefl _)
theorem HOk.kept (x:HOk P w H h) (k:∀ b u,h.get? b=some u→h'.get? b=some u) : HOk P w H h':=fun a o e =>
 (x a o e).stay (fun b u _ q=>k b u q) (fun _ q=>q) fun _ _ q=>q
theorem HOk.laid (x:HOk P w H h) (k:∀ b u,h.get? b=some u→h'.get? b=some u) (hp:h.objs.size≤a) (new:ObjOk P w (upd H a o) h' a o) : HOk P w (upd H a o) h':=fun b u e=>by
 have hn:=x.fresh hp
 by_cases hb:b=a
 ·subst hb; rw [upd_same] at e; cases e; exact new
 ·rw [upd_ne hb] at e
  exact (x b u e).stay (fun c v _ q=>k c v q) (fun c q=>by rw [upd_ne (ne_of_none q hn)]; exact q) fun c xs q=>by rw [upd_ne (ne_of_none q hn)]; exact q
end

def Rd (H:Hp) (a:Addr) (u:HO) : Prop:=H a=some u∨∃ o,H a=some (.frz o u)
theorem Rd.ok {P:Program} {w:World} {H:Hp} {h:Heap} {a:Addr} {u:HO} (r:Rd H a u) (x:HOk P w H h) : ObjOk P w H h a u:=by
 rcases r with r | ⟨o,r⟩
 ·exact x a u r
 ·obtain ⟨_,q⟩:=x a _ r
  exact q
def Mut:Option HO→Prop
 | some (.lst _)=>True
 | some (.dK _)=>True
 | some (.dT _)=>True
 | some (.set _ _)=>True
 | some (.ins _ _ _)=>True
 | some (.ext _)=>True
 | _=>False
section
variable {P:Program} {w:World} {H:Hp} {h h':Heap} {x e:Addr} {o':HO}
theorem HOk.write (ok:HOk P w H h) (mu:Mut (H x)) (he:e=x∨H e=some (.own x)) (k:∀ b u,b≠e→h.get? b=some u→h'.get? b=some u) (heo:∃ u,h'.get? e=some u)
  (new:ObjOk P w (upd H x o') h' x o') : HOk P w (upd H x o') h':=fun b u q=>by
 have nown:∀ c y,H c=some (.own y)→c≠x:=fun c y r z=>by subst z; rw [r] at mu; exact mu
 have ntup:∀ c xs,H c=some (.tup xs)→c≠x:=fun c xs r z=>by subst z; rw [r] at mu; exact mu
 by_cases hb:b=x
 ·subst hb; rw [upd_same] at q; cases q; exact new
 ·rw [upd_ne hb] at q
  by_cases hbe:b=e
  ·have q':H b=some (.own x):=by
    rcases he with z | z
    ·exact absurd (hbe.trans z) hb
    ·rw [hbe]; exact z
   rw [q] at q'; cases q'
   obtain ⟨v,hv⟩:=heo
   exact ⟨v,by rw [hbe]; exact hv⟩
  ·refine (ok b u q).stay (fun c v hc r=>k c v ?_ r) (fun c r=>by rw [upd_ne (nown c b r)]; exact r) fun c xs r=>by rw [upd_ne (ntup c xs r)]; exact r
   rcases hc with rfl | hc
   ·exact hbe
   ·rintro rfl
    rcases he with z | z
    ·exact nown c b hc z
    ·rw [hc] at z; cases z; exact hb rfl
end

structure Un (fs ex:List Addr) (H H':Hp) (h h':Heap) : Prop where
 keep:∀ b o,h.get? b=some o→H b=none→b ∉ fs→b ∉ ex→h'.get? b=some o
 slot:∀ b o,h.get? b=some o→H b=none→b ∈ fs→b ∉ ex→∃ sl,h'.get? b=some { o with slots:=sl }
 free:∀ b o,h.get? b=some o→H b=none→b ∉ ex→H' b=none
 there:∀ b o,h.get? b=some o→b ∉ ex→∃ o',h'.get? b=some o'
 tups:∀ b xs,H b=some (.tup xs)→H' b=some (.tup xs)
 frzs:∀ b o u,H b=some (.frz o u)→H' b=some (.frz o u)
 tbls:∀ b ps,H b=some (.tbl ps)→∃ more,H' b=some (.tbl (ps++more))
section
variable {fs fs' ex ex':List Addr} {H H1 H2:Hp} {h h1 h2 h':Heap} {a x e:Addr} {o:HO}
theorem Un.any (u:Un fs ex H H1 h h1) {b:Addr} {ob:Obj} (q:h.get? b=some ob) (n:H b=none) (hx:b ∉ ex) : ∃ sl,h1.get? b=some { ob with slots:=sl }:=by
 by_cases hb:b ∈ fs
 ·exact u.slot b ob q n hb hx
 ·exact ⟨ob.slots,u.keep b ob q n hb hx⟩
theorem Un.trans (a:Un fs ex H H1 h h1) (b:Un fs ex H1 H2 h1 h2) : Un fs ex H H2 h h2 where
 keep:=fun c ob q n hc hx=>b.keep c ob (a.keep c ob q n hc hx) (a.free c ob q n hx) hc hx
 slot:=fun c ob q n hc hx=>by
  obtain ⟨sl,e1⟩:=a.slot c ob q n hc hx
  obtain ⟨sl',e2⟩:=b.slot c _ e1 (a.free c ob q n hx) hc hx
  exact ⟨sl',e2⟩
 free:=fun c ob q n hx=>by
  obtain ⟨o',e1⟩:=a.there c ob q hx
  exact b.free c o' e1 (a.free c ob q n hx) hx
 there:=fun c ob q hx=>by
  obtain ⟨o',e1⟩:=a.there c ob q hx
  exact b.there c o' e1 hx
 tups:=fun c xs q=>b.tups c xs (a.tups c xs q)
 frzs:=fun c ob xs q=>b.frzs c ob xs (a.frzs c ob xs q)
 tbls:=fun c ps q=>by
  obtain ⟨m1,e1⟩:=a.tbls c ps q
  obtain ⟨m2,e2⟩:=b.tbls c _ e1
  exact ⟨m1++m2,by rw [e2,Array.append_assoc]⟩
theorem Un.kept (k:∀ b u,h.get? b=some u→h'.get? b=some u) : Un fs ex H H h h':=
 ⟨fun b ob q _ _ _=>k b ob q,fun b ob q _ _ _=>⟨ob.slots,k b ob q⟩,fun _ _ _ n _=>n,fun b ob q _=>⟨ob,k b ob q⟩,fun _ _ q=>q,fun _ _ _ q=>q,fun _ ps q=>⟨#[],by rw [q]; simp⟩⟩
theorem Un.refl:Un fs ex H H h h:=Un.kept fun _ _ q=>q
theorem Un.laid (k:∀ b u,h.get? b=some u→h'.get? b=some u) (hp:h.objs.size≤a) (hn:H a=none) : Un fs ex H (upd H a o) h h' where
 keep:=fun b u q _ _ _=>k b u q
 slot:=fun b u q _ _ _=>⟨u.slots,k b u q⟩
 free:=fun b u q n _=>by rw [upd_ne (Nat.ne_of_lt (Nat.lt_of_lt_of_le (Heap.lt_size q) hp))]; exact n
 there:=fun b u q _=>⟨u,k b u q⟩
 tups:=fun b xs q=>by rw [upd_ne (ne_of_none q hn)]; exact q
 frzs:=fun b u xs q=>by rw [upd_ne (ne_of_none q hn)]; exact q
 tbls:=fun b ps q=>⟨#[],by rw [upd_ne (ne_of_none q hn),q]; simp⟩
theorem Un.write (mu:Mut (H x)) (he:e=x∨H e=some (.own x)) (k:∀ b u,b≠e→h.get? b=some u→h'.get? b=some u) (heo:∃ u,h'.get? e=some u) : Un fs ex H (upd H x o) h h':=by
 have hx:∀ b,H b=none→b≠x:=fun b n z=>by subst z; rw [n] at mu; exact mu
 have hb:∀ b,H b=none→b≠e:=fun b n z=>by
  subst z
  rcases he with r | r
  ·exact hx b n r
  ·rw [n] at r; cases r
 have hm:∀ b u,H b=some u→¬ Mut (some u)→b≠x:=fun b u q nm z=>by subst z; rw [q] at mu; exact nm mu
 refine ⟨fun b u q n _ _=>k b u (hb b n) q,fun b u q n _ _=>⟨u.slots,k b u (hb b n) q⟩,fun b u q n _=>by rw [upd_ne (hx b n)]; exact n,fun b u q _=>?_,
  fun b xs q=>by rw [upd_ne (hm b _ q fun z=>z)]; exact q,fun b u xs q=>by rw [upd_ne (hm b _ q fun z=>z)]; exact q,fun b ps q=>⟨#[],by rw [upd_ne (hm b _ q fun z=>z),q]; simp⟩⟩
 by_cases hbe:b=e
 ·subst hbe; exact heo
 ·exact ⟨u,k b u hbe q⟩
end

def trk (h:Heap) (H:Hp) : List Addr:=(List.range h.objs.size).filter fun a=>(H a).isSome
def hidT (h:Heap) (H:Hp) : Heap:=PySem.W.hideAll h (trk h H)
theorem hidT_size (h:Heap) (H:Hp) : (hidT h H).objs.size=h.objs.size:=PySem.W.hideAll_size _ _
theorem hidT_get {h:Heap} {H:Hp} {b:Addr} {o:Obj} (e:h.get? b=some o) (n:H b=none) : (hidT h H).get? b=some o:=
 PySem.W.hideAll_get _ e fun hm=>by
  have q:(H b).isSome=true:=(List.mem_filter.mp hm).2
  rw [n] at q; simp at q
theorem of_hidT {h:Heap} {H:Hp} {b:Addr} {o:Obj} (e:(hidT h H).get? b=some o) : h.get? b=some o∧H b=none:=by
 have e':h.get? b=some o:=PySem.W.of_hideAll (trk h H) e
 refine ⟨e',?_⟩
 cases q:H b with
 | none=>rfl
 | some x =>
  have hm:b ∈ trk h H:=List.mem_filter.mpr ⟨List.mem_range.mpr (Heap.lt_size e'),by simp [q]⟩
  have z:(hidT h H).get? b=none:=PySem.W.hideAll_none (trk h H) hm
  rw [z] at e; cases e

def allNews (g h:Heap) (L:Addr) : List (Addr × Obj):=(List.range h.objs.size).filterMap fun a=>if a=L∨(g.get? a).isSome=true then none else (h.get? a).map fun o=>(a,o)
def rest (g h:Heap) (L d:Addr) : List (Addr × Obj):=(allNews g h L).filter fun p=>decide (p.1≠d)

structure Mod (K:PySem.W.Frag) (mg:Str→Option Value) (base:Heap) : Prop where
 kin:K.In base
 glob:base.Ns mainGlobals mg
 blt:∃ mb,base.Ns builtinsNs mb∧∀ x:Str,x≠"__name__"→mb x=bootBuiltins x
 nolimit:base.NoLimit

structure Cx where
 prog:Program
 w:World
 K:PySem.W.Frag
 mg:Str→Option Value
 base:Heap
 A:Around
 N:List Str
 s₀:Shared
 H₀:Hp
 env:Env
 outer:List Env
 stack:List Env
 ex:List Addr
 fn:Str→Bool
 calm:Bool
 pn:List (Addr × Obj)
 xe:Value→Shared→Prop
def frs (l:List Env) : List Addr:=l.filterMap (·.frame)
abbrev Cx.fs (X:Cx) : List Addr:=frs X.outer

def Vis (sc:Scope) (x:Str) : Prop:=sc.names.lookup x=some .local∨sc.names.lookup x=some .cell∨sc.names.lookup x=some .free
def Loc (sc:Scope) (x:Str) : Prop:=sc.names.lookup x=some .local∨sc.names.lookup x=some .cell
def Look (env:Env) (h:Heap) (m:Str→Option Value) (x:Str) (u:Value) : Prop:=
 (env.kindOf x=some .local∧m x=some u)∨((env.kindOf x=some .cell∨env.kindOf x=some .free)∧∃ c,env.cells.lookup x=some c∧h.IsCell c (some u))

structure Cx.Ok (X:Cx) : Prop where
 mod:Mod X.K X.mg X.base
 kind:X.env.scope.kind = .function
 glob:X.env.globals=mainGlobals
 blt:X.env.builtins=builtinsNs
 above:X.s₀.heap.objs.size≤X.env.locals
 inj:∀ x y c,X.env.cells.lookup x=some c→X.env.cells.lookup y=some c→x=y
 has:∀ x,(X.env.kindOf x=some .cell∨X.env.kindOf x=some .free)→∃ c,X.env.cells.lookup x=some c
 cab:∀ x c,X.fn x=true→X.env.cells.lookup x=some c→X.s₀.heap.objs.size≤c
 hd:X.calm=true→X.A.handled=none
 frames:X.A.frames=some X.stack
 stk:X.stack=X.outer∨(X.stack=X.env :: X.outer∧X.env.frame=some X.env.locals)
 exf:∀ b ∈ X.ex,b≠X.env.locals∧∀ x c,X.env.cells.lookup x=some c→c≠b
 bs:∀ b o,X.base.get? b=some o→X.s₀.heap.get? b=some o∧X.H₀ b=none
 bsz:X.base.objs.size≤X.s₀.heap.objs.size
 noex:∀ b o,X.base.get? b=some o→b ∉ X.ex
 exfs:∀ b ∈ X.ex,b ∉ X.fs
 funs:X.s₀.heap.FunFrames X.base X.outer
 frf:∀ b ∈ X.fs,X.H₀ b=none

structure Inv (X:Cx) (pins:List (Addr × Obj)) (σ:List (Option V)) (H:Hp) (s:Shared) : Prop where
 ok:X.Ok
 os:s.os=X.s₀.os
 bare:AllBare s.gens
 base:Un X.fs X.ex X.H₀ H X.s₀.heap s.heap
 loc:∃ m,s.heap.Ns X.env.locals m∧∀ (i:Nat) (x:Str) (v:V),X.N[i]? = some x→σ[i]? = some (some v)→Vis X.env.scope x→∃ u,RelV v u∧Look X.env s.heap m x u
 cell:∀ x c,X.env.cells.lookup x=some c→∃ v,s.heap.IsCell c v
 free:H X.env.locals=none
 freeC:∀ x c,X.env.cells.lookup x=some c→H c=none
 pin:∀ p ∈ X.pn++pins,s.heap.get? p.1=some p.2∧H p.1=none∧p.1≠X.env.locals∧p.1 ∉ X.fs∧∀ v,p.2.data≠.cell v
 hok:HOk X.prog X.w H s.heap
 len:σ.length=X.N.length

section
variable {X:Cx} {pins:List (Addr × Obj)} {σ:List (Option V)} {H H':Hp} {s:Shared} {h':Heap}

theorem Cx.Ok.nofr (ok:X.Ok) {b:Addr} {o:Obj} (e:X.base.get? b=some o) : b ∉ X.fs:=fun hb=>by
 have:=(ok.funs.mem hb).1
 rw [e] at this; cases this
theorem Inv.bs (I:Inv X pins σ H s) : ∀ b o,X.base.get? b=some o→s.heap.get? b=some o∧H b=none:=fun b o e =>
 ⟨I.base.keep b o (I.ok.bs b o e).1 (I.ok.bs b o e).2 (I.ok.nofr e) (I.ok.noex b o e),I.base.free b o (I.ok.bs b o e).1 (I.ok.bs b o e).2 (I.ok.noex b o e)⟩
theorem Inv.bk (I:Inv X pins σ H s) : ∀ b o,X.base.get? b=some o→s.heap.get? b=some o:=fun b o e=>(I.bs b o e).1
theorem Inv.mod (I:Inv X pins σ H s) : Mod X.K X.mg X.base:=I.ok.mod
theorem Inv.kIn (I:Inv X pins σ H s) : X.K.In s.heap:=I.ok.mod.kin.keeps I.bk
theorem Inv.lt (I:Inv X pins σ H s) : X.env.locals < s.heap.objs.size:=let ⟨_,hn,_⟩:=I.loc; hn.lt
theorem Inv.sz (I:Inv X pins σ H s) : X.s₀.heap.objs.size≤s.heap.objs.size:=Nat.le_trans I.ok.above (Nat.le_of_lt I.lt)
theorem Inv.nofs (I:Inv X pins σ H s) {a:Addr} (h:s.heap.objs.size≤a) : a ∉ X.fs:=fun hb=>by
 obtain ⟨_,o,ho,_⟩:=I.ok.funs.mem hb
 exact absurd (Nat.lt_of_lt_of_le (Heap.lt_size ho) (Nat.le_trans I.sz h)) (Nat.lt_irrefl _)
theorem Inv.cne (I:Inv X pins σ H s) : ∀ x c,X.env.cells.lookup x=some c→c≠X.env.locals:=fun x c e z=>by
 obtain ⟨v,o,ho,hd⟩:=I.cell x c e
 obtain ⟨m,⟨o',es,ep,ho',hd',_⟩,_⟩:=I.loc
 rw [z,ho'] at ho; cases ho; rw [hd'] at hd; cases hd
theorem Inv.funs (I:Inv X pins σ H s) : s.heap.FunFrames X.base X.outer:=by
 have all:∀ (l:List Env),(∀ b ∈ frs l,b ∈ X.fs)→X.s₀.heap.FunFrames X.base l→s.heap.FunFrames X.base l:=by
  intro l
  induction l with
  | nil=>intro _ _; trivial
  | cons env r ih =>
   intro hs hl
   obtain ⟨hk,⟨L,o,hf,hn,ho,hd⟩,hr⟩:=hl
   have hL:L ∈ X.fs:=hs L (by unfold frs; rw [List.filterMap_cons,hf]; exact List.mem_cons_self)
   obtain ⟨sl,e⟩:=I.base.slot L o ho (I.ok.frf L hL) hL fun z=>I.ok.exfs L z hL
   exact ⟨hk,⟨L,_,hf,hn,e,hd⟩,ih (fun b hb=>hs b (by unfold frs; rw [List.filterMap_cons,hf]; exact List.mem_cons_of_mem _ hb)) hr⟩
 exact all X.outer (fun _ hb=>hb) I.ok.funs

theorem Inv.stack (I:Inv X pins σ H s) : s.heap.FunFrames X.base X.stack:=by
 rcases I.ok.stk with e | ⟨e,hf⟩
 ·rw [e]; exact I.funs
 ·rw [e]
  obtain ⟨m,hn,_⟩:=I.loc
  refine .cons (by rw [I.ok.kind]; decide) hf hn ?_ I.funs
  exact Heap.get?_none_of_le (Nat.le_trans I.ok.bsz I.ok.above)
theorem Inv.stkSub (I:Inv X pins σ H s) : ∀ b ∈ frs X.stack,b ∈ X.env.locals :: X.fs:=fun b hb=>by
 rcases I.ok.stk with e | ⟨e,hf⟩
 ·rw [e] at hb; exact List.mem_cons_of_mem _ hb
 ·rw [e] at hb
  unfold frs at hb
  rw [List.filterMap_cons,hf] at hb
  exact hb
theorem Inv.stkFree (I:Inv X pins σ H s) : ∀ b ∈ frs X.stack,H b=none:=fun b hb=>by
 rcases List.mem_cons.mp (I.stkSub b hb) with e | hb
 ·rw [e]; exact I.free
 ·obtain ⟨_,o,ho,_⟩:=I.ok.funs.mem hb
  exact I.base.free b o ho (I.ok.frf b hb) fun z=>I.ok.exfs b z hb

theorem Inv.step {g':Array GenState} {t':Nat} {d':Drawn} {ch:List Addr} (I:Inv X pins σ H s)
  (hch:∀ b ∈ ch,(b ∈ X.ex∨X.s₀.heap.objs.size≤b)∧b≠X.env.locals∧(∀ x c,X.env.cells.lookup x=some c→c≠b)∧∀ p ∈ X.pn++pins,p.1≠b)
  (keep:∀ b o,b≠X.env.locals→b ∉ X.fs→b ∉ ch→s.heap.get? b=some o→H b=none→h'.get? b=some o)
  (slot:∀ b o,b≠X.env.locals→b ∈ X.fs→b ∉ ch→s.heap.get? b=some o→H b=none→∃ sl,h'.get? b=some { o with slots:=sl }) (free:∀ b o,b ∉ ch→s.heap.get? b=some o→H b=none→H' b=none)
  (there:∀ b o,b ∉ ch→s.heap.get? b=some o→∃ o',h'.get? b=some o')
  (tups:∀ b xs,H b=some (.tup xs)→H' b=some (.tup xs)) (frzs:∀ b o u,H b=some (.frz o u)→H' b=some (.frz o u)) (tbls:∀ b ps,H b=some (.tbl ps)→∃ more,H' b=some (.tbl (ps++more)))
  (ns:∀ m,s.heap.Ns X.env.locals m→h'.Ns X.env.locals m) (hok:HOk X.prog X.w H' h') (hg:AllBare g') :
  Inv X pins σ H' { s with heap:=h',gens:=g',drawn:=d',toks:=t' }:=by
 have neL:∀ b o,X.s₀.heap.get? b=some o→b≠X.env.locals:=fun b o e=>Nat.ne_of_lt (Nat.lt_of_lt_of_le (Heap.lt_size e) I.ok.above)
 have neC:∀ b o,X.s₀.heap.get? b=some o→b ∉ X.ex→b ∉ ch:=fun b o e hx hb=>by
  rcases (hch b hb).1 with z | z
  ·exact hx z
  ·exact absurd (Nat.lt_of_lt_of_le (Heap.lt_size e) z) (Nat.lt_irrefl _)
 have cellK:∀ x c,X.env.cells.lookup x=some c→∀ v,s.heap.IsCell c v→h'.IsCell c v:=fun x c e v ⟨o,ho,hd⟩=>by
  have nch:c ∉ ch:=fun z=>(hch c z).2.2.1 x c e rfl
  by_cases hc:c ∈ X.fs
  ·obtain ⟨sl,q⟩:=slot c o (I.cne x c e) hc nch ho (I.freeC x c e)
   exact ⟨_,q,hd⟩
  ·exact ⟨o,keep c o (I.cne x c e) hc nch ho (I.freeC x c e),hd⟩
 refine ⟨I.ok,I.os,hg,⟨fun b o e n hb hx=>?_,fun b o e n hb hx=>?_,fun b o e n hx=>?_,fun b o e hx=>?_,fun b xs e=>tups b xs (I.base.tups b xs e),fun b o xs e=>frzs b o xs (I.base.frzs b o xs e),fun b ps e=>?_⟩,?_,fun x c e=>?_,?_,fun x c e=>?_,fun p hp=>?_,hok,I.len⟩
 ·exact keep b o (neL b o e) hb (neC b o e hx) (I.base.keep b o e n hb hx) (I.base.free b o e n hx)
 ·obtain ⟨sl,e1⟩:=I.base.slot b o e n hb hx
  obtain ⟨sl',e2⟩:=slot b _ (neL b o e) hb (neC b o e hx) e1 (I.base.free b o e n hx)
  exact ⟨sl',e2⟩
 ·obtain ⟨o',e1⟩:=I.base.there b o e hx
  exact free b o' (neC b o e hx) e1 (I.base.free b o e n hx)
 ·obtain ⟨o',e1⟩:=I.base.there b o e hx
  exact there b o' (neC b o e hx) e1
 ·obtain ⟨m1,e1⟩:=I.base.tbls b ps e
  obtain ⟨m2,e2⟩:=tbls b _ e1
  exact ⟨m1++m2,by rw [e2,Array.append_assoc]⟩
 ·obtain ⟨m,hn,hl⟩:=I.loc
  refine ⟨m,ns m hn,fun i x v e1 e2 e3=>?_⟩
  obtain ⟨u,r,l⟩:=hl i x v e1 e2 e3
  refine ⟨u,r,?_⟩
  rcases l with l | ⟨k,c,e,z⟩
  ·exact .inl l
  ·exact .inr ⟨k,c,e,cellK x c e _ z⟩
 ·obtain ⟨v,z⟩:=I.cell x c e
  exact ⟨v,cellK x c e v z⟩
 ·obtain ⟨m,⟨o,_,_,ho,_⟩,_⟩:=I.loc
  exact free _ o (fun z=>(hch _ z).2.1 rfl) ho I.free
 ·obtain ⟨v,o,ho,hd⟩:=I.cell x c e
  exact free c o (fun z=>(hch c z).2.2.1 x c e rfl) ho (I.freeC x c e)
 ·obtain ⟨e,n,ne,nf,d⟩:=I.pin p hp
  have nch:p.1 ∉ ch:=fun z=>(hch p.1 z).2.2.2 p hp rfl
  exact ⟨keep p.1 p.2 ne nf nch e n,free p.1 p.2 nch e n,ne,nf,d⟩
theorem Inv.un {t':Nat} (I:Inv X pins σ H s) (u:Un X.fs [] H H' s.heap h') (hok:HOk X.prog X.w H' h') : Inv X pins σ H' { s with heap:=h',toks:=t' }:=by
 obtain ⟨m,⟨o,es,ep,ho,r⟩,_⟩:=id I.loc
 obtain ⟨sl,hL⟩:=u.any ho I.free (by simp)
 exact I.step (g':=s.gens) (d':=s.drawn) (ch:=[]) (fun _ z=>nomatch z) (fun b o _ hb _ e n=>u.keep b o e n hb (by simp)) (fun b o _ hb _ e n=>u.slot b o e n hb (by simp)) (fun b o _ e n=>u.free b o e n (by simp)) (fun b o _ e=>u.there b o e (by simp)) u.tups u.frzs u.tbls (fun m' hm=>by
  obtain ⟨o',es',ep',ho',r'⟩:=hm
  rw [ho] at ho'; cases ho'
  exact ⟨_,es',ep',hL,r'⟩) hok I.bare
theorem Inv.call {g':Array GenState} {t':Nat} {d':Drawn} {ch:List Addr} (I:Inv X pins σ H s) (u:Un (frs X.stack) ch H H' s.heap h') (hok:HOk X.prog X.w H' h') (hg:AllBare g')
  (hch:∀ b ∈ ch,(b ∈ X.ex∨X.s₀.heap.objs.size≤b)∧b≠X.env.locals∧(∀ x c,X.env.cells.lookup x=some c→c≠b)∧∀ p ∈ X.pn++pins,p.1≠b) :
  Inv X pins σ H' { s with heap:=h',gens:=g',drawn:=d',toks:=t' }:=by
 obtain ⟨m,⟨o,es,ep,ho,r⟩,_⟩:=id I.loc
 obtain ⟨sl,hL⟩:=u.any ho I.free fun z=>(hch _ z).2.1 rfl
 exact I.step (ch:=ch) hch (fun b o hL hb hc e n=>u.keep b o e n (fun z=>(List.mem_cons.mp (I.stkSub b z)).elim hL hb) hc) (fun b o _ _ hc e n=>u.any e n hc) (fun b o hc e n=>u.free b o e n hc) (fun b o hc e=>u.there b o e hc) u.tups u.frzs u.tbls (fun m' hm=>by
  obtain ⟨o',es',ep',ho',r'⟩:=hm
  rw [ho] at ho'; cases ho'
  exact ⟨_,es',ep',hL,r'⟩) hok hg
theorem Inv.turned {t':Nat} {it:Addr} (I:Inv X pins σ H s) (k:∀ b o,b≠it→s.heap.get? b=some o→h'.get? b=some o) (hn:H it=none) (hL:it≠X.env.locals)
  (h1:it ∈ X.ex∨X.s₀.heap.objs.size≤it) (h2:∀ x c,X.env.cells.lookup x=some c→c≠it) (h3:∀ p ∈ X.pn++pins,p.1≠it) : Inv X pins σ H { s with heap:=h',toks:=t' }:=by
 have nit:∀ b u,H b=some u→b≠it:=fun b u e z=>by rw [z,hn] at e; cases e
 refine I.step (g':=s.gens) (d':=s.drawn) (ch:=[it]) (fun b hb=>?_) (fun b o _ _ hc e _=>k b o (fun z=>hc (by simp [z])) e) (fun b o _ _ hc e _=>⟨o.slots,k b o (fun z=>hc (by simp [z])) e⟩) (fun _ _ _ _ n=>n)
  (fun b o hc e=>⟨o,k b o (fun z=>hc (by simp [z])) e⟩) (fun _ _ e=>e) (fun _ _ _ e=>e) (fun b ps e=>⟨#[],by rw [e]; simp⟩) (fun m hm=>?_) (fun b u e=>?_) I.bare
 ·have e:b=it:=by simpa using hb
  subst e
  exact ⟨h1,hL,h2,h3⟩
 ·obtain ⟨o,es,ep,ho,r⟩:=hm
  exact ⟨o,es,ep,k _ o (Ne.symm hL) ho,r⟩
 ·refine (I.hok b u e).stay (fun c v hc q=>k c v ?_ q) (fun _ q=>q) fun _ _ q=>q
  rcases hc with z | z
  ·rw [z]; exact nit b u e
  ·exact nit c _ z
theorem Inv.tok (I:Inv X pins σ H s) (t:Nat) : Inv X pins σ H { s with toks:=t }:=I.un (h':=s.heap) (t':=t) Un.refl I.hok
theorem Inv.kept {t':Nat} (I:Inv X pins σ H s) (k:∀ b u,s.heap.get? b=some u→h'.get? b=some u) : Inv X pins σ H { s with heap:=h',toks:=t' }:=I.un (Un.kept k) (I.hok.kept k)
theorem Inv.laid {a:Addr} {o:HO} {t':Nat} (I:Inv X pins σ H s) (k:∀ b u,s.heap.get? b=some u→h'.get? b=some u) (hp:s.heap.objs.size≤a) (new:ObjOk X.prog X.w (upd H a o) h' a o) :
  Inv X pins σ (upd H a o) { s with heap:=h',toks:=t' }:=I.un (Un.laid k hp (I.hok.fresh hp)) (I.hok.laid k hp new)
theorem Inv.write {x e:Addr} {o:HO} {t':Nat} (I:Inv X pins σ H s) (mu:Mut (H x)) (he:e=x∨H e=some (.own x)) (k:∀ b u,b≠e→s.heap.get? b=some u→h'.get? b=some u) (heo:∃ u,h'.get? e=some u)
  (new:ObjOk X.prog X.w (upd H x o) h' x o) : Inv X pins σ (upd H x o) { s with heap:=h',toks:=t' }:=I.un (Un.write mu he k heo) (I.hok.write mu he k heo new)
theorem Inv.pins_of {pins':List (Addr × Obj)} (I:Inv X pins σ H s) (h:∀ p ∈ pins',s.heap.get? p.1=some p.2∧H p.1=none∧p.1≠X.env.locals∧p.1 ∉ X.fs∧∀ v,p.2.data≠.cell v) : Inv X pins' σ H s:=
 ⟨I.ok,I.os,I.bare,I.base,I.loc,I.cell,I.free,I.freeC,fun p hp=>(List.mem_append.mp hp).elim (fun z=>I.pin p (List.mem_append_left _ z)) (h p),I.hok,I.len⟩

theorem nodup_ix {N:List Str} (hN:N.Nodup) {i j:Nat} {x:Str} (a:N[i]? = some x) (b:N[j]? = some x) : i=j:=by
 obtain ⟨h1,e1⟩:=List.getElem?_eq_some_iff.mp a
 obtain ⟨h2,e2⟩:=List.getElem?_eq_some_iff.mp b
 exact (List.getElem_inj hN).mp (e1.trans e2.symm)

theorem store_ok2 {M:Model} {A:Around} {E:Value→Shared→Prop} {i:Nat} {x:Str} {v:V} {u:Value} {Q:Unit→Shared→Prop} (I:Inv X pins σ H s) (hN:X.N.Nodup) (hi:X.N[i]? = some x) (hx:Loc X.env.scope x) (r:RelV v u)
  (h:∀ s',Inv X pins (σ.set i (some v)) H s'→(∃ a,Heap.SameBut a s.heap s'.heap∧(a=X.env.locals∨X.env.cells.lookup x=some a))→Q () s') (hf:X.fn x=true∨X.env.scope.names.lookup x=some .local:=by first | exact .inl rfl | exact .inr rfl | assumption) : wpAny M A (storeName X.env x u) Q E s:=by
 obtain ⟨m,hn,hl⟩:=id I.loc
 have hcls:(X.env.scope.kind == .class || (X.env.scope.kind == .module && X.env.locals != X.env.globals))=false:=by rw [I.ok.kind]; rfl
 have hiσ:i < σ.length:=by rw [I.len]; exact (List.getElem?_eq_some_iff.mp hi).1
 have cne:=I.cne
 have tracked:∀ {a:Addr} {h':Heap},(∃ o,s.heap.get? a=some o∧H a=none)→Heap.SameBut a s.heap h'→HOk X.prog X.w H h':=fun {a h'} ha hs b ob e=>by
  obtain ⟨_,_,hfree⟩:=ha
  refine (I.hok b ob e).stay (fun c w' hc q=>(hs.2 c ?_).trans q) (fun _ q=>q) fun _ _ q=>q
  rintro rfl
  rcases hc with rfl | hc
  ·rw [hfree] at e; cases e
  ·rw [hfree] at hc; cases hc
 rcases hx with hk | hk
 ·refine wpAny_storeName_local hk hn (fun h' hn' hs=>?_) hcls
  obtain ⟨oL,_,_,hoL,_⟩:=id hn
  refine h _ ⟨I.ok,I.os,I.bare,⟨fun b o e n hb hx=>?_,fun b o e n hb hx=>?_,I.base.free,fun b o e hx=>?_,I.base.tups,I.base.frzs,I.base.tbls⟩,⟨_,hn',fun j y v' e1 e2 e3=>?_⟩,fun y c e=>?_,I.free,I.freeC,fun p hp=>?_,tracked ⟨oL,hoL,I.free⟩ hs,by simpa using I.len⟩ ⟨_,hs,.inl rfl⟩
  ·exact (hs.2 b (Nat.ne_of_lt (Nat.lt_of_lt_of_le (Heap.lt_size e) I.ok.above))).trans (I.base.keep b o e n hb hx)
  ·obtain ⟨sl,e1⟩:=I.base.slot b o e n hb hx
   exact ⟨sl,(hs.2 b (Nat.ne_of_lt (Nat.lt_of_lt_of_le (Heap.lt_size e) I.ok.above))).trans e1⟩
  ·obtain ⟨o',e1⟩:=I.base.there b o e hx
   exact ⟨o',(hs.2 b (Nat.ne_of_lt (Nat.lt_of_lt_of_le (Heap.lt_size e) I.ok.above))).trans e1⟩
  ·by_cases hj:j=i
   ·subst hj
    rw [hi] at e1; cases e1
    rw [List.getElem?_set_self hiσ] at e2
    cases e2
    exact ⟨u,r,.inl ⟨hk,by simp⟩⟩
   ·rw [List.getElem?_set_ne (Ne.symm hj)] at e2
    obtain ⟨u',r',q⟩:=hl j y v' e1 e2 e3
    refine ⟨u',r',?_⟩
    rcases q with ⟨k,e⟩ | ⟨k,c,e,z⟩
    ·refine .inl ⟨k,?_⟩
     have:y≠x:=fun e=>hj (nodup_ix hN e1 (e ▸ hi))
     simp [this,e]
    ·exact .inr ⟨k,c,e,z.sameBut hs (cne y c e)⟩
  ·obtain ⟨w',z⟩:=I.cell y c e
   exact ⟨w',z.sameBut hs (cne y c e)⟩
  ·obtain ⟨e,n,ne,nf,d⟩:=I.pin p hp
   exact ⟨(hs.2 p.1 ne).trans e,n,ne,nf,d⟩
 ·have hfn:X.fn x=true:=by
   rcases hf with z | z
   ·exact z
   ·rw [z] at hk; cases hk
  obtain ⟨c,hc⟩:=I.ok.has x (.inl hk)
  obtain ⟨w',z⟩:=I.cell x c hc
  refine wpAny_storeName_cell I.ok.kind hk hc z (fun h' hc' hs=>?_)
  obtain ⟨oc,hoc,hocd⟩:=id z
  refine h { s with heap:=h' } ⟨I.ok,I.os,I.bare,⟨fun b o e n hb hx=>?_,fun b o e n hb hx=>?_,I.base.free,fun b o e hx=>?_,I.base.tups,I.base.frzs,I.base.tbls⟩,⟨m,hn.sameBut hs (Ne.symm (cne x c hc)),fun j y v' e1 e2 e3=>?_⟩,fun y c' e=>?_,I.free,I.freeC,fun p hp=>?_,tracked ⟨oc,hoc,I.freeC x c hc⟩ hs,by simpa using I.len⟩ ⟨c,hs,.inr hc⟩
  ·exact (hs.2 b (Nat.ne_of_lt (Nat.lt_of_lt_of_le (Heap.lt_size e) (I.ok.cab x c hfn hc)))).trans (I.base.keep b o e n hb hx)
  ·obtain ⟨sl,e1⟩:=I.base.slot b o e n hb hx
   exact ⟨sl,(hs.2 b (Nat.ne_of_lt (Nat.lt_of_lt_of_le (Heap.lt_size e) (I.ok.cab x c hfn hc)))).trans e1⟩
  ·obtain ⟨o',e1⟩:=I.base.there b o e hx
   exact ⟨o',(hs.2 b (Nat.ne_of_lt (Nat.lt_of_lt_of_le (Heap.lt_size e) (I.ok.cab x c hfn hc)))).trans e1⟩
  ·by_cases hj:j=i
   ·subst hj
    rw [hi] at e1; cases e1
    rw [List.getElem?_set_self hiσ] at e2
    cases e2
    exact ⟨u,r,.inr ⟨.inl hk,c,hc,hc'⟩⟩
   ·rw [List.getElem?_set_ne (Ne.symm hj)] at e2
    obtain ⟨u',r',q⟩:=hl j y v' e1 e2 e3
    refine ⟨u',r',?_⟩
    rcases q with q | ⟨k,c',e,z'⟩
    ·exact .inl q
    ·refine .inr ⟨k,c',e,z'.sameBut hs ?_⟩
     rintro rfl
     exact hj (nodup_ix hN e1 (I.ok.inj _ _ _ e hc ▸ hi))
  ·by_cases hcc:c' = c
   ·subst hcc; exact ⟨_,hc'⟩
   ·obtain ⟨w2,z2⟩:=I.cell y c' e
    exact ⟨w2,z2.sameBut hs hcc⟩
  ·obtain ⟨e,n,ne,nf,d⟩:=I.pin p hp
   refine ⟨(hs.2 p.1 ?_).trans e,n,ne,nf,d⟩
   intro q
   rw [q,hoc] at e
   have q':oc=p.2:=Option.some.inj e
   exact d w' (by rw [← q']; exact hocd)
theorem store_ok {M:Model} {A:Around} {E:Value→Shared→Prop} {i:Nat} {x:Str} {v:V} {u:Value} {Q:Unit→Shared→Prop} (I:Inv X pins σ H s) (hN:X.N.Nodup) (hi:X.N[i]? = some x) (hx:Loc X.env.scope x) (r:RelV v u)
  (h:∀ s',Inv X pins (σ.set i (some v)) H s'→Q () s') (hf:X.fn x=true∨X.env.scope.names.lookup x=some .local:=by first | exact .inl rfl | exact .inr rfl | assumption) : wpAny M A (storeName X.env x u) Q E s:=
 store_ok2 I hN hi hx r (fun s' I' _=>h s' I') hf
theorem Inv.call' {s':Shared} {ch:List Addr} (I:Inv X pins σ H s) (ho:s'.os=s.os) (u:Un (frs X.stack) ch H H' s.heap s'.heap) (hok:HOk X.prog X.w H' s'.heap) (hg:AllBare s'.gens)
  (hch:∀ b ∈ ch,(b ∈ X.ex∨X.s₀.heap.objs.size≤b)∧b≠X.env.locals∧(∀ x c,X.env.cells.lookup x=some c→c≠b)∧∀ p ∈ X.pn++pins,p.1≠b) : Inv X pins σ H' s':=by
 obtain ⟨h',g',d',t',o'⟩:=s'
 have e:o' = s.os:=ho
 subst e
 exact I.call (g':=g') (t':=t') (d':=d') u hok hg hch
end

abbrev XK:=Value→Option Addr→Hp→Prop
abbrev St:=List (Option V)
abbrev VK:=V→Hp→Prop
abbrev TE:=St→Hp→VK→Prop
abbrev TT:=St→Hp→(Bool→Hp→Prop)→Prop
abbrev TA:=St→Hp→(List V→Hp→Prop)→Prop
structure Ends where
 nx:St→Hp→Prop
 rt:VK
 bk:St→Hp→Prop:=fun _ _=>False
 ct:St→Hp→Prop:=fun _ _=>False
abbrev TS:=Ends→St→Hp→Prop

def EP (X:Cx) (pins:List (Addr × Obj)) (σ:St) (Q:VK) (u:Value) (s':Shared) : Prop:=∃ v H',Inv X pins σ H' s'∧RelV v u∧Q v H'
def TP (X:Cx) (pins:List (Addr × Obj)) (σ:St) (Q:Bool→Hp→Prop) (b:Bool) (s':Shared) : Prop:=∃ H',Inv X pins σ H' s'∧Q b H'
def AP (X:Cx) (pins:List (Addr × Obj)) (σ:St) (Q:List V→Hp→Prop) (us:List Value) (s':Shared) : Prop:=∃ vs H',Inv X pins σ H' s'∧Vals vs us∧Q vs H'
def SP (X:Cx) (pins:List (Addr × Obj)) (D:Ends) (f:Flow) (s':Shared) : Prop:=
 match f with
 | .next=>∃ σ' H',Inv X pins σ' H' s'∧D.nx σ' H'
 | .brk=>∃ σ' H',Inv X pins σ' H' s'∧D.bk σ' H'
 | .cont=>∃ σ' H',Inv X pins σ' H' s'∧D.ct σ' H'
 | .ret u=>∃ v σ' H',Inv X pins σ' H' s'∧RelV v u∧D.rt v H'

def PE (X:Cx) (e:Expr) (t:TE) : Prop:=
 ∀ (pins:List (Addr × Obj)) (s:Shared) (σ:St) (H:Hp) (Q:VK),Inv X pins σ H s→t σ H Q→wpAny (model X.prog X.w) X.A (eval e X.env) (EP X pins σ Q) X.xe s
def PT (X:Cx) (e:Expr) (t:TT) : Prop:=
 ∀ (pins:List (Addr × Obj)) (s:Shared) (σ:St) (H:Hp) (Q:Bool→Hp→Prop),Inv X pins σ H s→t σ H Q→wpAny (model X.prog X.w) X.A (isTrue e X.env (eval e X.env)) (TP X pins σ Q) X.xe s
def PW (X:Cx) (e:Expr) (t:TT) : Prop:=
 ∀ (whole:Sem Value) (pins:List (Addr × Obj)) (s:Shared) (σ:St) (H:Hp) (Q:Bool→Hp→Prop),Inv X pins σ H s→t σ H Q→wpAny (model X.prog X.w) X.A (isTrue e X.env whole) (TP X pins σ Q) X.xe s
theorem PW.pt {X:Cx} {e:Expr} {t:TT} (h:PW X e t) : PT X e t:=h _
def PA (X:Cx) (es:List Expr) (t:TA) : Prop:=
 ∀ (pos:Pos) (pins:List (Addr × Obj)) (s:Shared) (σ:St) (H:Hp) (Q:List V→Hp→Prop),Inv X pins σ H s→t σ H Q→wpAny (model X.prog X.w) X.A (spliced (backTo pos (starEach es X.env))) (AP X pins σ Q) X.xe s
def PS (X:Cx) (st:Stmt) (t:TS) : Prop:=
 ∀ (pins:List (Addr × Obj)) (s:Shared) (σ:St) (H:Hp) (D:Ends),Inv X pins σ H s→t D σ H→wpAny (model X.prog X.w) X.A (exec st X.env) (SP X pins D) X.xe s
def PSs (X:Cx) (st:List Stmt) (t:TS) : Prop:=
 ∀ (pins:List (Addr × Obj)) (s:Shared) (σ:St) (H:Hp) (D:Ends),Inv X pins σ H s→t D σ H→wpAny (model X.prog X.w) X.A (execs st X.env) (SP X pins D) X.xe s
theorem thn {α:Type} {t:Sem α} {Q Q':α→Shared→Prop} {M:Model} {A:Around} {E:Value→Shared→Prop} {s:Shared} (h:wpAny M A t Q E s) (hQ:∀ a s,Q a s→Q' a s) : wpAny M A t Q' E s:=wpAny_mono h hQ fun _ _ x=>x
section
variable {X:Cx}

def tVar (i:Nat) : TE:=fun σ H Q=>∃ v,σ[i]? = some (some v)∧Q v H
def tC (v:V) : TE:=fun _ H Q=>Q v H
theorem pe_var {i:Nat} {x:Str} {pos:Pos} (hN:X.N[i]? = some x) (hv:Vis X.env.scope x) (hd:(x == ("__debug__" : Str))=false:=by decide) (hcd:(x == ("__classdict__" : Str))=false:=by decide) : PE X (.Name x pos) (tVar i):=by
 intro pins s σ H Q I h
 obtain ⟨v,e,h⟩:=h
 obtain ⟨m,hn,hl⟩:=I.loc
 obtain ⟨u,r,l⟩:=hl i x v hN e hv
 have fin:EP X pins σ Q u s:=⟨v,H,I,r,h⟩
 rcases l with ⟨hk,hm⟩ | ⟨hk,c,hc,hcell⟩
 ·exact wpAny_Name (wpAny_loadName_local I.ok.kind hk hn hm fin) hd
 ·rcases hk with hk | hk
  ·exact wpAny_Name (wpAny_loadName_cell I.ok.kind hk hc hcell fin) hd
  ·exact wpAny_Name (wpAny_loadName_free I.ok.kind hk hc hcell fin hcd) hd
theorem pe_int {i j pos} : PE X (.Constant (.int i) j pos) (tC (.int i)):=fun _ _ _ H _ I h=>wpAny_Constant_int ⟨.int i,H,I.tok _,⟨_,rfl⟩,h⟩
theorem pe_bl {b j pos} : PE X (.Constant (.bool b) j pos) (tC (.bl b)):=fun _ _ _ H _ I h=>Constant_bool ⟨.bl b,H,I,rfl,h⟩
theorem pe_str {x j pos} : PE X (.Constant (.str x) j pos) (tC (.str x)):=fun _ _ _ H _ I h=>Calls.Constant_str ⟨.str x,H,I.tok _,⟨_,rfl⟩,h⟩

def Gl (X:Cx) (x:Str) : Prop:=X.env.kindOf x=some .globalImplicit
theorem ld_glob {E:Value→Shared→Prop} {pins:List (Addr × Obj)} {s:Shared} {σ:St} {H:Hp} {x:Str} {u:Value} {pos:Pos} {Q:Value→Shared→Prop} (I:Inv X pins σ H s) (hg:Gl X x) (hm:X.mg x=some u) (h:Q u s)
  (hd:(x == ("__debug__" : Str))=false:=by decide) : wpAny (model X.prog X.w) X.A (eval (.Name x pos) X.env) Q E s:=
 Calls.Name_function_global I.ok.kind hg (Calls.loadGlobal_global (by rw [I.ok.glob]; exact I.mod.glob.keeps I.bk) hm h) hd
theorem ld_blt {E:Value→Shared→Prop} {pins:List (Addr × Obj)} {s:Shared} {σ:St} {H:Hp} {x:Str} {u:Value} {pos:Pos} {Q:Value→Shared→Prop} (I:Inv X pins σ H s) (hg:Gl X x) (hm:X.mg x=none) (hv:bootBuiltins x=some u) (h:Q u s)
  (hn:x≠"__name__":=by decide) (hd:(x == ("__debug__" : Str))=false:=by decide) : wpAny (model X.prog X.w) X.A (eval (.Name x pos) X.env) Q E s:=by
 obtain ⟨mb,h1,h2⟩:=I.mod.blt
 exact Calls.Name_function_global I.ok.kind hg (Calls.loadGlobal_builtin (by rw [I.ok.glob]; exact I.mod.glob.keeps I.bk) hm (by rw [I.ok.blt]; exact h1.keeps I.bk) ((h2 x hn).trans hv) h) hd
theorem pe_bltn {x:Str} {v:V} {u:Value} {pos:Pos} (hg:Gl X x) (hm:X.mg x=none) (hv:bootBuiltins x=some u) (r:RelV v u) (hn:x≠"__name__":=by decide) (hd:(x == ("__debug__" : Str))=false:=by decide) : PE X (.Name x pos) (tC v):=
 fun _ _ _ H _ I h=>ld_blt I hg hm hv ⟨v,H,I,r,h⟩ hn hd

variable {a b:Expr} {ta tb:TE} {pos:Pos}
def tB (t:TE) : TT:=fun σ H Q=>t σ H fun x H1=>∃ c,x = .bl c∧Q c H1
theorem pt_val {e:Expr} {t:TE} (h:PE X e t) (he:∀ whole,isTrue e X.env whole=(do let v ← whole; standAt e.pos; holding [v] (truthy v)):=by intro _; rfl) : PT X e (tB t):=by
 intro pins s σ H Q I hw
 refine isTrue_plain (thn (h pins s σ H _ I hw) fun v s1 ⟨x,H1,I1,r1,q1⟩=>?_) (he _)
 obtain ⟨d,rfl,q⟩:=q1
 cases r1
 exact wpAny_truthy_bool ⟨H1,I1,q⟩

variable {tA tB':TT} {rest:List Expr}
def tAnd (t u:TT) : TT:=fun σ H Q=>t σ H fun c H1=>if c=true then u σ H1 Q else Q false H1
def tOr (t u:TT) : TT:=fun σ H Q=>t σ H fun c H1=>if c=true then Q true H1 else u σ H1 Q
def tNot (t:TT) : TT:=fun σ H Q=>t σ H fun c H1=>Q (!c) H1
theorem pw_and1 (ha:PT X a tA) : PW X (.BoolOp .And [a] pos) tA:=by
 intro wh pins s σ H Q I h
 refine isTrue_and (thn (ha pins s σ H Q I h) fun c s1 e=>?_)
 cases c with
 | true=>exact isTrue_and_nil e
 | false=>exact e
theorem pw_or1 (ha:PT X a tA) : PW X (.BoolOp .Or [a] pos) tA:=by
 intro wh pins s σ H Q I h
 refine isTrue_or (thn (ha pins s σ H Q I h) fun c s1 e=>?_)
 cases c with
 | false=>exact isTrue_or_nil e
 | true=>exact e
theorem pw_and (ha:PT X a tA) (hb:PW X (.BoolOp .And (b :: rest) pos) tB') : PW X (.BoolOp .And (a :: b :: rest) pos) (tAnd tA tB'):=by
 intro wh pins s σ H Q I h
 refine isTrue_and (thn (ha pins s σ H _ I h) fun c s1 ⟨H1,I1,q1⟩=>?_)
 cases c with
 | true=>exact hb wh pins s1 σ H1 Q I1 q1
 | false=>exact ⟨H1,I1,q1⟩
theorem pw_or (ha:PT X a tA) (hb:PW X (.BoolOp .Or (b :: rest) pos) tB') : PW X (.BoolOp .Or (a :: b :: rest) pos) (tOr tA tB'):=by
 intro wh pins s σ H Q I h
 refine isTrue_or (thn (ha pins s σ H _ I h) fun c s1 ⟨H1,I1,q1⟩=>?_)
 cases c with
 | true=>exact ⟨H1,I1,q1⟩
 | false=>exact hb wh pins s1 σ H1 Q I1 q1
theorem pt_not (ha:PT X a tA) : PT X (.UnaryOp .Not a pos) (tNot tA):=by
 intro pins s σ H Q I h
 exact isTrue_not (ha pins s σ H (fun c H1=>Q (!c) H1) I h)
end

def SqL (K:PySem.W.Frag) (H:Hp) (a:Addr) (xs:List V) : Prop:=
 Rd H a (.lst xs) ∨
  ∃ (o:Obj) (its:Array Value) (n:Nat),K.lookup a=some o∧o.cls = .type "list"∧o.dict=none∧o.data = .seq its n∧its.size≤sizeLine∧Vals xs its.toList
def SqT (K:PySem.W.Frag) (H:Hp) (a:Addr) (xs:List V) : Prop:=
 Rd H a (.tup xs) ∨
  ∃ (o:Obj) (its:Array Value) (n:Nat),K.lookup a=some o∧o.cls = .type "tuple"∧o.data = .seq its n∧its.size≤sizeLine∧Vals xs its.toList
def absV:Value→Option V
 | .none=>some .non
 | .bool b=>some (.bl b)
 | .int i _=>some (.int i)
 | .str x _=>some (.str x)
 | .bytes b _=>some (.byt b)
 | .float b _=>some (.flt b)
 | .ref a=>some (.ref a)
 | .type n=>some (.ty n)
 | _=>none
theorem RelV.abs {x:V} {u:Value} (r:RelV x u) : absV u=some x:=by
 cases x with
 | non=>cases r; rfl
 | bl _=>cases r; rfl
 | int _=>obtain ⟨t,rfl⟩:=r; rfl
 | str _=>obtain ⟨t,rfl⟩:=r; rfl
 | byt _=>obtain ⟨t,rfl⟩:=r; rfl
 | flt _=>obtain ⟨t,rfl⟩:=r; rfl
 | ref _=>cases r; rfl
 | ty _=>cases r; rfl
theorem RelV.inj {x y:V} {u:Value} (r:RelV x u) (q:RelV y u) : x=y:=Option.some.inj (r.abs.symm.trans q.abs)
theorem Vals.inj:∀ {xs ys:List V} {us:List Value},Vals xs us→Vals ys us→xs=ys
 | _,_,_,.nil,.nil=>rfl
 | _,_,_,.cons r t,.cons r' t'=>by rw [r.inj r',Vals.inj t t']
section
variable {X:Cx} {pins:List (Addr × Obj)} {σ:St} {H:Hp} {s:Shared} {a:Addr} {xs ys:List V}
theorem SqL.of {K:PySem.W.Frag} (h:H a=some (.lst xs)) : SqL K H a xs:=.inl (.inl h)
theorem SqT.of {K:PySem.W.Frag} (h:H a=some (.tup xs)) : SqT K H a xs:=.inl (.inl h)
theorem Inv.list (I:Inv X pins σ H s) (h:SqL X.K H a xs) : ∃ its:List Value,Vals xs its∧PlainL s.heap a its.toArray∧xs.length≤sizeLine:=by
 rcases h with h | ⟨o,its,n,hk,hc,hd,hs,hz,r⟩
 ·obtain ⟨z,its,n,r,e⟩:=h.ok I.hok
  exact ⟨its,r,⟨_,n,e,rfl,rfl,rfl⟩,z⟩
 ·refine ⟨its.toList,r,⟨o,n,I.kIn a o hk,hc,hd,by simpa using hs⟩,?_⟩
  have e:=r.length
  simp only [Array.length_toList] at e
  omega
theorem Inv.tuple (I:Inv X pins σ H s) (h:SqT X.K H a xs) : ∃ its:List Value,Vals xs its∧IsTup s.heap a its.toArray∧xs.length≤sizeLine:=by
 rcases h with h | ⟨o,its,n,hk,hc,hs,hz,r⟩
 ·obtain ⟨z,its,r,p⟩:=h.ok I.hok
  exact ⟨its,r,p,z⟩
 ·refine ⟨its.toList,r,⟨o,I.kIn a o hk,hc,n,by simpa using hs⟩,?_⟩
  have e:=r.length
  simp only [Array.length_toList] at e
  omega
theorem Inv.list_inj (I:Inv X pins σ H s) (h:SqL X.K H a xs) (h':SqL X.K H a ys) : xs=ys:=by
 obtain ⟨its,r,⟨o,n,e,_,_,d⟩,_⟩:=I.list h
 obtain ⟨its',r',⟨o',n',e',_,_,d'⟩,_⟩:=I.list h'
 rw [e] at e'; cases e'
 rw [d] at d'
 injection d' with d1 _
 have:its=its':=by simpa using congrArg Array.toList d1
 subst this
 exact r.inj r'
theorem Inv.tuple_inj (I:Inv X pins σ H s) (h:SqT X.K H a xs) (h':SqT X.K H a ys) : xs=ys:=by
 obtain ⟨its,r,⟨o,e,_,n,d⟩,_⟩:=I.tuple h
 obtain ⟨its',r',⟨o',e',_,n',d'⟩,_⟩:=I.tuple h'
 rw [e] at e'; cases e'
 rw [d] at d'
 injection d' with d1 _
 have:its=its':=by simpa using congrArg Array.toList d1
 subst this
 exact r.inj r'
end

abbrev Cx.wish (X:Cx) (E:Value→Shared→Prop) : Cx:={ X with xe:=E }
abbrev Cx.nox (X:Cx) : Cx:=X.wish fun _ _=>False
theorem Cx.Ok.wish {X:Cx} (ok:X.Ok) (E:Value→Shared→Prop) : (X.wish E).Ok:=
 ⟨ok.mod,ok.kind,ok.glob,ok.blt,ok.above,ok.inj,ok.has,ok.cab,ok.hd,ok.frames,ok.stk,ok.exf,ok.bs,ok.bsz,ok.noex,ok.exfs,ok.funs,ok.frf⟩
theorem Cx.Ok.unwish {X:Cx} {E:Value→Shared→Prop} (ok:(X.wish E).Ok) : X.Ok:=
 ⟨ok.mod,ok.kind,ok.glob,ok.blt,ok.above,ok.inj,ok.has,ok.cab,ok.hd,ok.frames,ok.stk,ok.exf,ok.bs,ok.bsz,ok.noex,ok.exfs,ok.funs,ok.frf⟩
section
variable {X:Cx} {pins:List (Addr × Obj)} {σ:St} {H:Hp} {s:Shared} {E:Value→Shared→Prop}
theorem Inv.wish (I:Inv X pins σ H s) (E:Value→Shared→Prop) : Inv (X.wish E) pins σ H s:=⟨I.ok.wish E,I.os,I.bare,I.base,I.loc,I.cell,I.free,I.freeC,I.pin,I.hok,I.len⟩
theorem Inv.unwish (I:Inv (X.wish E) pins σ H s) : Inv X pins σ H s:=⟨I.ok.unwish,I.os,I.bare,I.base,I.loc,I.cell,I.free,I.freeC,I.pin,I.hok,I.len⟩
theorem SP.unwish {D:Ends} {f:Flow} {s':Shared} (h:SP (X.wish E) pins D f s') : SP X pins D f s':=by
 cases f with
 | next=>obtain ⟨σ',H',I,q⟩:=h; exact ⟨σ',H',I.unwish,q⟩
 | brk=>obtain ⟨σ',H',I,q⟩:=h; exact ⟨σ',H',I.unwish,q⟩
 | cont=>obtain ⟨σ',H',I,q⟩:=h; exact ⟨σ',H',I.unwish,q⟩
 | ret u=>obtain ⟨v,σ',H',I,r,q⟩:=h; exact ⟨v,σ',H',I.unwish,r,q⟩
theorem PSs.nox {st:List Stmt} {t:TS} (h:PSs X.nox st t) : PSs X st t:=fun pins s σ H D I hw =>
 wpAny_mono (h pins s σ H D (I.wish _) hw) (fun _ _ q=>q.unwish) fun _ _ z=>False.elim z
end

section
variable {X:Cx} {st:Stmt} {rest:List Stmt} {t u:TS} {e:Expr} {te:TE} {pos:Pos}
def tNext:TS:=fun D σ H=>D.nx σ H
def tSeq (t u:TS) : TS:=fun D σ H=>t { D with nx:=u D } σ H
theorem pss_nil:PSs X [] tNext:=fun _ _ σ H _ I h=>wpAny_execs_nil ⟨σ,H,I,h⟩
theorem pss_cons (h1:PS X st t) (h2:PSs X rest u) : PSs X (st :: rest) (tSeq t u):=by
 intro pins s σ H D I h
 refine wpAny_execs_cons (thn (h1 pins s σ H { D with nx:=u D } I h) fun f s1 q=>?_)
 cases f with
 | next =>
  obtain ⟨σ',H',I',q⟩:=q
  exact h2 pins s1 σ' H' D I' q
 | ret v=>exact q
 | brk=>exact q
 | cont=>exact q
theorem pss_one (h1:PS X st t) : PSs X [st] t:=by
 intro pins s σ H D I h
 refine wpAny_execs_cons (thn (h1 pins s σ H D I h) fun f s1 q=>?_)
 cases f with
 | next=>exact wpAny_execs_nil q
 | ret v=>exact q
 | brk=>exact q
 | cont=>exact q
theorem Inv.quiet {pins:List (Addr × Obj)} {σ:St} {H:Hp} {s:Shared} (I:Inv X pins σ H s) : interactive X.env=false:=by simp [interactive,I.ok.kind]
def tDrop (te:TE) : TS:=fun D σ H=>te σ H fun _ H1=>D.nx σ H1
theorem ps_expr (he:PE X e te) (hs:swapsWith e none pos.line X.env=pure false:=by rfl) : PS X (.Expr e pos) (tDrop te):=by
 intro pins s σ H D I h
 exact wpAny_Expr_any (thn (he pins s σ H _ I h) fun v s1 ⟨x,H1,I1,r1,q1⟩=>⟨σ,H1,I1,q1⟩) I.quiet hs
def tRet (te:TE) : TS:=fun D σ H=>te σ H D.rt
theorem ps_ret (he:PE X e te) : PS X (.Return (some e) pos) (tRet te):=by
 intro pins s σ H D I h
 exact wpAny_Return_some (thn (he pins s σ H _ I h) fun v s1 ⟨x,H1,I1,r1,q1⟩=>⟨x,σ,H1,I1,r1,q1⟩)
def tIfS (c:TT) (t u:TS) : TS:=fun D σ H=>c σ H fun b H1=>if b=true then t D σ H1 else u D σ H1
theorem ps_if {c:Expr} {a b:List Stmt} {tc:TT} (hc:PT X c tc) (ha:PSs X a t) (hb:PSs X b u) : PS X (.If c a b pos) (tIfS tc t u):=by
 intro pins s σ H D I h
 refine wpAny_If (thn (hc pins s σ H _ I h) fun d s1 ⟨H1,I1,q1⟩=>?_)
 cases d with
 | true=>exact ha pins s1 σ H1 D I1 q1
 | false=>exact hb pins s1 σ H1 D I1 q1
end

abbrev TG:=V→St→Hp→(St→Hp→Prop)→Prop
abbrev TGs:=List V→St→Hp→(St→Hp→Prop)→Prop
def PG (X:Cx) (target:Expr) (t:TG) : Prop:=
 ∀ (pins:List (Addr × Obj)) (s:Shared) (σ:St) (H:Hp) (v:V) (u:Value) (Q:St→Hp→Prop),Inv X pins σ H s→RelV v u→t v σ H Q →
  wpAny (model X.prog X.w) X.A (assign target X.env u) (fun _ s'=>∃ σ' H',Inv X pins σ' H' s'∧Q σ' H') X.xe s
def PGs (X:Cx) (ts:List Expr) (t:TGs) : Prop:=
 ∀ (pins:List (Addr × Obj)) (s:Shared) (σ:St) (H:Hp) (vs:List V) (us:List Value) (Q:St→Hp→Prop),Inv X pins σ H s→Vals vs us→t vs σ H Q →
  wpAny (model X.prog X.w) X.A (assignInOrder ((assignEach ts X.env).map (·.2)) us) (fun _ s'=>∃ σ' H',Inv X pins σ' H' s'∧Q σ' H') X.xe s
abbrev TSet:=V→V→V→Hp→(Hp→Prop)→Prop
def PSet (X:Cx) (t:TSet) : Prop:=
 ∀ (pins:List (Addr × Obj)) (s:Shared) (σ:St) (H:Hp) (o i v:V) (ov iv u:Value) (Q:Hp→Prop),Inv X pins σ H s→RelV o ov→RelV i iv→RelV v u→t o i v H Q →
  wpAny (model X.prog X.w) X.A (setItem ov iv u) (fun _ s'=>∃ H',Inv X pins σ H' s'∧Q H') X.xe s
section
variable {X:Cx} {pos:Pos}
def gName (i:Nat) : TG:=fun v σ H Q=>Q (σ.set i (some v)) H
theorem pg_name {i:Nat} {x:Str} (hN:X.N.Nodup) (hi:X.N[i]? = some x) (hx:Loc X.env.scope x) (hf:X.fn x=true∨X.env.scope.names.lookup x=some .local:=by first | exact .inl rfl | exact .inr rfl | assumption) : PG X (.Name x pos) (gName i):=by
 intro pins s σ H v u Q I r h
 exact wpAny_assign_Name (store_ok I hN hi hx r (fun s' I'=>⟨_,H,I',h⟩) hf)
def gNil:TGs:=fun vs σ H Q=>vs=[]∧Q σ H
def gCons (t:TG) (u:TGs) : TGs:=fun vs σ H Q=>∃ v r,vs=v :: r∧t v σ H fun σ' H'=>u r σ' H' Q
theorem pgs_nil:PGs X [] gNil:=by
 intro pins s σ H vs us Q I r h
 obtain ⟨e,h⟩:=h
 subst e
 cases r
 exact assignInOrder_nil ⟨σ,H,I,h⟩
theorem pgs_cons {e:Expr} {es:List Expr} {t:TG} {u:TGs} (h1:PG X e t) (h2:PGs X es u)
  (hs:(assignEach (e :: es) X.env).map (·.2)=assign e X.env :: (assignEach es X.env).map (·.2):=by rfl) : PGs X (e :: es) (gCons t u):=by
 intro pins s σ H vs us Q I r h
 obtain ⟨v,vr,e1,h⟩:=h
 subst e1
 cases r with
 | cons r rr =>
  rw [hs]
  refine assignInOrder_cons (thn (h1 pins s σ H _ _ _ I r h) fun _ s1 ⟨σ1,H1,I1,q1⟩=>?_)
  exact h2 pins s1 σ1 H1 _ _ Q I1 rr q1
def gTup (K:PySem.W.Frag) (n:Nat) (t:TGs) : TG:=fun v σ H Q=>∃ a xs,v = .ref a∧SqT K H a xs∧xs.length=n∧t xs σ H Q
theorem pg_tup {es:List Expr} {k:Nat} {t:TGs} {n:Nat} (hc:X.calm=true) (h:PGs X es t)
  (hn:(assignEach es X.env).length=n:=by rfl) (hst:(assignEach es X.env).findIdx? (·.1)=none:=by rfl) : PG X (.Tuple es k pos) (gTup X.K n t):=by
 intro pins s σ H v u Q I r hw
 obtain ⟨a,xs,e1,hq,hl,hw⟩:=hw
 subst e1
 cases r
 obtain ⟨its,rv,ht,hz⟩:=I.tuple hq
 refine assign_Tuple_tuple (I.ok.hd hc) ht (by simp [hn,← hl,rv.length]) hst fun h' hx=>?_
 have I1:Inv X pins σ H { s with heap:=h' }:=I.kept (t':=s.toks) fun b o e=>hx b o (Nat.ne_of_lt (Heap.lt_size e)) e
 exact h pins _ σ H xs _ Q I1 (by simpa using rv) hw
def gSub (to ti:TE) (t:TSet) : TG:=fun v σ H Q=>to σ H fun o H1=>ti σ H1 fun i H2=>t o i v H2 fun H3=>Q σ H3
theorem pg_sub {o i:Expr} {to ti:TE} {t:TSet} (ho:PE X o to) (hi:PE X i ti) (hs:PSet X t)
  (ha:∀ v,assign (.Subscript o i pos) X.env v=(do
   let ov ← holding [v] (eval o X.env)
   let iv ← holding [v,ov] (eval i X.env)
   standAt pos
   holding [v,ov,iv] (setItem ov iv v)
   release [v,ov,iv] []):=by intro _; rfl) : PG X (.Subscript o i pos) (gSub to ti t):=by
 intro pins s σ H v u Q I r h
 rw [ha]
 refine wpAny_bind (wpAny_holding (thn (ho pins s σ H _ I h) fun ov s1 ⟨x,H1,I1,r1,q1⟩=>?_))
 refine wpAny_bind (wpAny_holding (thn (hi pins s1 σ H1 _ I1 q1) fun iv s2 ⟨y,H2,I2,r2,q2⟩=>?_))
 refine wpAny_bind (wpAny_standAt (wpAny_bind (wpAny_holding (thn (hs pins s2 σ H2 x y v ov iv u _ I2 r1 r2 r q2) fun _ s3 ⟨H3,I3,q3⟩=>?_))))
 exact wpAny_release ⟨σ,H3,I3,q3⟩
def tAsg (te:TE) (g:TG) : TS:=fun D σ H=>te σ H fun x H1=>g x σ H1 D.nx
theorem ps_asg {tg e:Expr} {te:TE} {g:TG} (he:PE X e te) (hg:PG X tg g) (hs:swapsWithSole [tg] e pos.line X.env=pure false:=by rfl) (hw:swappedStores [tg] e X.env=pure none:=by rfl)
  (h1:(assignEach [tg] X.env).map (·.2)=[assign tg X.env]:=by rfl) : PS X (.Assign [tg] e pos) (tAsg te g):=by
 intro pins s σ H D I h
 refine wpAny_Assign_stores (thn (he pins s σ H _ I h) fun v s1 ⟨x,H1,I1,r1,q1⟩=>?_) hs hw
 rw [h1]
 exact thn (hg pins s1 σ H1 x v _ I1 r1 q1) fun _ s2 q=>q
theorem ps_set {i:Nat} {x:Str} {e:Expr} {te:TE} {pos':Pos} (hN:X.N.Nodup) (hi:X.N[i]? = some x) (hx:Loc X.env.scope x) (he:PE X e te) (hs:swapsWith e (some (.Name x pos')) pos.line X.env=pure false:=by rfl) (hf:X.fn x=true∨X.env.scope.names.lookup x=some .local:=by first | exact .inl rfl | exact .inr rfl | assumption) :
  PS X (.Assign [.Name x pos'] e pos) (tAsg te (gName i)):=by
 intro pins s σ H D I h
 refine wpAny_Assign_Name (thn (he pins s σ H _ I h) fun v s1 ⟨y,H1,I1,r1,q1⟩=>?_) hs
 exact store_ok I1 hN hi hx r1 (fun s2 I2=>⟨_,H1,I2,q1⟩) hf
end

section
variable {X:Cx} {pos:Pos}
def tWhile (c:TT) (tb:TS) : TS:=fun D σ H=>∃ W:Nat→St→Hp→Prop,(∃ m,W m σ H)∧∀ m σ H,W m σ H →
 c σ H fun b H1=>if b=true then ∃ N:St→Hp→Prop,(∀ σ' H',N σ' H'→∃ m',m' < m∧W m' σ' H')∧tb { D with nx:=N,ct:=N,bk:=D.nx } σ H1 else D.nx σ H1
theorem ps_while {c:Expr} {body:List Stmt} {tc:TT} {tb:TS} (hp:PassesOwn (model X.prog X.w) X.A X.env X.xe) (hc:PT X c tc) (hb:PSs X body tb) : PS X (.While c body [] pos) (tWhile tc tb):=by
 intro pins s σ H D I h
 obtain ⟨W,⟨m0,w0⟩,turn⟩:=h
 refine wpAny_While (codeAny_whileLoop (fun n s'=>∃ σ' H',Inv X pins σ' H' s'∧W n σ' H') ?_ m0 ⟨σ,H,I,w0⟩)
 rintro n s1 ⟨σ1,H1,I1,w1⟩
 refine wpAny_passesOwn hp (thn (hc pins s1 σ1 H1 _ I1 (turn n σ1 H1 w1)) fun b s2 ⟨H2,I2,q2⟩=>?_)
 cases b with
 | true =>
  obtain ⟨N,hN,q2⟩:=q2
  rw [if_pos rfl]
  refine wpAny_passesOwn hp (thn (hb pins s2 σ1 H2 _ I2 q2) fun f s3 q3=>?_)
  cases f with
  | next =>
   obtain ⟨σ3,H3,I3,n3⟩:=q3
   obtain ⟨m',hm,w3⟩:=hN σ3 H3 n3
   exact ⟨m',hm,σ3,H3,I3,w3⟩
  | cont =>
   obtain ⟨σ3,H3,I3,n3⟩:=q3
   obtain ⟨m',hm,w3⟩:=hN σ3 H3 n3
   exact ⟨m',hm,σ3,H3,I3,w3⟩
  | brk=>exact q3
  | ret v=>exact q3
 | false =>
  rw [if_neg Bool.false_ne_true]
  exact wpAny_execs_nil ⟨σ1,H2,I2,q2⟩
end

structure It where
 go:Nat→Hp→Prop
 yld:Nat→Hp→V→Hp→Prop
 stop:Nat→Hp→Prop
def FpOk (X:Cx) (pins:List (Addr × Obj)) (H:Hp) (b:Addr) : Prop:=
 H b=none∧b≠X.env.locals∧b ∉ X.fs∧(b ∈ X.ex∨X.s₀.heap.objs.size≤b)∧(∀ x c,X.env.cells.lookup x=some c→c≠b)∧∀ p ∈ X.pn++pins,p.1≠b
theorem Inv.fpOk {X:Cx} {pins:List (Addr × Obj)} {σ:St} {H H':Hp} {s:Shared} {b:Addr} (I:Inv X pins σ H s) (hb:s.heap.objs.size≤b) (hn:H' b=none) : FpOk X pins H' b:=by
 refine ⟨hn,Nat.ne_of_gt (Nat.lt_of_lt_of_le I.lt hb),I.nofs hb,.inr (Nat.le_trans I.sz hb),fun x c e z=>?_,fun p hp z=>?_⟩
 ·obtain ⟨v,q⟩:=I.cell x c e
  exact absurd (Nat.lt_of_lt_of_le q.lt (by rw [z]; exact hb)) (Nat.lt_irrefl _)
 ·exact absurd (Nat.lt_of_lt_of_le (Heap.lt_size (I.pin p hp).1) (by rw [z]; exact hb)) (Nat.lt_irrefl _)
structure Turn (P:Program) (w:World) (K:PySem.W.Frag) (tg:Expr) (J:It) (fp:List Addr) (it:Addr) (tn:Nat→Heap→Prop) : Prop where
 mem:it ∈ fp
 obj:∀ i h,tn i h→∀ b ∈ fp,∃ o,h.get? b=some o∧∀ v,o.data≠.cell v
 keep:∀ i h h',tn i h→(∀ b ∈ fp,∀ o,h.get? b=some o→h'.get? b=some o)→tn i h'
 item:∀ (X:Cx),X.prog=P→X.w=w→X.K=K→X.calm=true→∀ (i:Nat) (pins:List (Addr × Obj)) (s:Shared) (σ:St) (H:Hp) (E:Value→Shared→Prop),Inv X pins σ H s→(∀ b ∈ fp,FpOk X pins H b)→tn i s.heap→J.go i H →
  wpAny (model P w) X.A (pyNext (.ref it)) (fun r s1=>∃ u,r=some u ∧
   wpAny (model P w) X.A (letOwnedTupleGo tg (.ref it) u) (fun _ s2=>∃ x H',Inv X pins σ H' s2∧RelV x u∧J.yld i H x H'∧tn (i+1) s2.heap∧∀ b ∈ fp,H' b=none) E s1) E s
 done:∀ (X:Cx),X.prog=P→X.w=w→X.K=K→X.calm=true→∀ (i:Nat) (pins:List (Addr × Obj)) (s:Shared) (σ:St) (H:Hp) (E:Value→Shared→Prop),Inv X pins σ H s→(∀ b ∈ fp,FpOk X pins H b)→tn i s.heap→J.stop i H →
  wpAny (model P w) X.A (pyNext (.ref it)) (fun r s1=>r=none∧Inv X pins σ H s1) E s
 self:∀ (A:Around) (i:Nat) (s:Shared) (Q:Value→Shared→Prop) (E:Value→Shared→Prop),tn i s.heap→Q (.ref it) s→wpAny (model P w) A (pyIter (.ref it)) Q E s
abbrev TI:=St→Hp→(It→Hp→Prop)→Prop
def PIE (X:Cx) (pins:List (Addr × Obj)) (σ:St) (tg:Expr) (R:It→Hp→Prop) (itv:Value) (s2:Shared) : Prop:=
 ∃ (it:Addr) (fp:List Addr) (tn:Nat→Heap→Prop) (J:It) (H':Hp),itv = .ref it∧Inv X pins σ H' s2∧Turn X.prog X.w X.K tg J fp it tn∧tn 0 s2.heap∧(∀ b ∈ fp,FpOk X pins H' b)∧R J H'
def PI (X:Cx) (tg iter:Expr) (wi:TI) : Prop:=
 ∀ (pins:List (Addr × Obj)) (s:Shared) (σ:St) (H:Hp) (R:It→Hp→Prop),Inv X pins σ H s→wi σ H R →
  wpAny (model X.prog X.w) X.A (eval iter X.env) (fun v s1=>wpAny (model X.prog X.w) X.A (pyIter v) (PIE X pins σ tg R) X.xe s1) X.xe s

theorem go_of {M:Model} {A:Around} {E:Value→Shared→Prop} {s:Shared} {tg:Expr} {it:Addr} {u:Value} {o:Obj} {n:String} {vs:Array Value} {Q:Unit→Shared→Prop} (ho:s.heap.get? it=some o) (hc:o.cls = .type n) (hd:o.data = .fields vs)
  (hn:["enumerate","zip","dict_itemiterator","dict_reverseitemiterator","odict_iterator","itertools.zip_longest","itertools.pairwise"].contains n=false) (hQ:Q () s) : wpAny M A (letOwnedTupleGo tg (.ref it) u) Q E s:=by
 unfold letOwnedTupleGo
 cases tg <;> first
  | exact wpAny_pure hQ
  | (cases u <;> first
    | exact wpAny_pure hQ
    | (refine wpAny_bind (wpAny_load ho ?_)
       rw [hc,hd]
       show wpAny M A (if (["enumerate","zip","dict_itemiterator","dict_reverseitemiterator","odict_iterator","itertools.zip_longest","itertools.pairwise"].contains n && vs[0]? == some (rawInt _))=true then _ else _) Q E s
       rw [if_neg (by intro h; rw [hn,Bool.false_and] at h; cases h)]
       exact wpAny_pure hQ))

def Itl (K:PySem.W.Frag) (a:Addr) : It:=
 ⟨fun i H=>∃ xs x,SqL K H a xs∧xs[i]? = some x,fun i H x H'=>H' = H∧∀ xs,SqL K H a xs→xs[i]? = some x,fun i H=>∃ xs,SqL K H a xs∧xs.length≤i⟩
def Itt (K:PySem.W.Frag) (a:Addr) : It:=
 ⟨fun i H=>∃ xs x,SqT K H a xs∧xs[i]? = some x,fun i H x H'=>H' = H∧∀ xs,SqT K H a xs→xs[i]? = some x,fun i H=>∃ xs,SqT K H a xs∧xs.length≤i⟩
def Itr (lo:Int) (n:Nat) : It:=⟨fun i _=>i < n,fun i H x H'=>H' = H∧x = .int (lo+i),fun i _=>n≤i⟩
theorem turn_list {P:Program} {w:World} {K:PySem.W.Frag} {tg:Expr} (a it:Addr) : Turn P w K tg (Itl K a) [it] it (fun i h=>h.IsListIter it a i) where
 mem:=by simp
 obj:=fun i h st b hb=>by
  have e:b=it:=by simpa using hb
  subst e
  obtain ⟨o,e,c,d⟩:=st
  exact ⟨o,e,fun v z=>by rw [d] at z; cases z⟩
 keep:=fun i h h' st k=>st.at fun o e=>k it (by simp) o e
 item:=by
  intro X hP hw hK hc i pins s σ H E I hf st hg
  subst hP hw hK
  obtain ⟨xs,x,hq,hx⟩:=hg
  obtain ⟨its,rv,p,hz⟩:=I.list hq
  obtain ⟨u,hu,ru⟩:=rv.get hx
  obtain ⟨f0,f1,f2,f3,f4,f5⟩:=hf it (by simp)
  refine wpAny_pyNext_list_item st p.isList (x:=u) (by simpa using hu) fun h' st' sb=>?_
  have I1:Inv X pins σ H { s with heap:=h' }:=I.turned (t':=s.toks) (fun b o hb e=>(sb.2 b hb).trans e) f0 f1 f3 f4 f5
  obtain ⟨o,e,c,d⟩:=id st'
  exact ⟨u,rfl,go_of (s:={ s with heap:=h' }) e c d (by decide) ⟨x,H,I1,ru,⟨rfl,fun ys hy=>by rw [I.list_inj hy hq]; exact hx⟩,st',fun b hb=>(hf b hb).1⟩⟩
 done:=by
  intro X hP hw hK hc i pins s σ H E I hf st hg
  subst hP hw hK
  obtain ⟨xs,hq,hx⟩:=hg
  obtain ⟨its,rv,p,hz⟩:=I.list hq
  obtain ⟨f0,f1,f2,f3,f4,f5⟩:=hf it (by simp)
  have hl:=rv.length
  exact wpAny_pyNext_list_end (I.ok.hd hc) st p.isList (by simp; omega) fun h' eb=>⟨rfl,I.turned (t':=s.toks) (fun b o hb e=>eb b o hb e) f0 f1 f3 f4 f5⟩
 self:=fun _ _ _ _ _ st h=>wpAny_pyIter_listiter st h
theorem turn_tuple {P:Program} {w:World} {K:PySem.W.Frag} {tg:Expr} (a it:Addr) : Turn P w K tg (Itt K a) [it] it (fun i h=>h.IsTupleIter it a i) where
 mem:=by simp
 obj:=fun i h st b hb=>by
  have e:b=it:=by simpa using hb
  subst e
  obtain ⟨o,e,c,d⟩:=st
  exact ⟨o,e,fun v z=>by rw [d] at z; cases z⟩
 keep:=fun i h h' st k=>st.at fun o e=>k it (by simp) o e
 item:=by
  intro X hP hw hK hc i pins s σ H E I hf st hg
  subst hP hw hK
  obtain ⟨xs,x,hq,hx⟩:=hg
  obtain ⟨its,rv,p,hz⟩:=I.tuple hq
  obtain ⟨u,hu,ru⟩:=rv.get hx
  obtain ⟨f0,f1,f2,f3,f4,f5⟩:=hf it (by simp)
  refine wpAny_pyNext_tuple_item st (show s.heap.IsTuple a its.toArray from p) (x:=u) (by simpa using hu) fun h' st' sb=>?_
  have I1:Inv X pins σ H { s with heap:=h' }:=I.turned (t':=s.toks) (fun b o hb e=>(sb.2 b hb).trans e) f0 f1 f3 f4 f5
  obtain ⟨o,e,c,d⟩:=id st'
  exact ⟨u,rfl,go_of (s:={ s with heap:=h' }) e c d (by decide) ⟨x,H,I1,ru,⟨rfl,fun ys hy=>by rw [I.tuple_inj hy hq]; exact hx⟩,st',fun b hb=>(hf b hb).1⟩⟩
 done:=by
  intro X hP hw hK hc i pins s σ H E I hf st hg
  subst hP hw hK
  obtain ⟨xs,hq,hx⟩:=hg
  obtain ⟨its,rv,p,hz⟩:=I.tuple hq
  obtain ⟨f0,f1,f2,f3,f4,f5⟩:=hf it (by simp)
  have hl:=rv.length
  exact wpAny_pyNext_tuple_end (I.ok.hd hc) st (show s.heap.IsTuple a its.toArray from p) (by simp; omega) fun h' eb=>⟨rfl,I.turned (t':=s.toks) (fun b o hb e=>eb b o hb e) f0 f1 f3 f4 f5⟩
 self:=fun _ _ _ _ _ st h=>wpAny_pyIter_tupleiter st h
theorem turn_range {P:Program} {w:World} {K:PySem.W.Frag} {tg:Expr} (it:Addr) (lo:Int) (n:Nat) : Turn P w K tg (Itr lo n) [it] it (fun i h=>IsRangeIter h it (lo+(i:Nat) * 1) ((n:Int) - (i:Nat)) 1) where
 mem:=by simp
 obj:=fun i h st b hb=>by
  have e:b=it:=by simpa using hb
  subst e
  exact ⟨_,st,fun v z=>by
   have z':Data.fields _=Data.cell v:=z
   cases z'⟩
 keep:=fun i h h' st k=>k it (by simp) _ st
 item:=by
  intro X hP hw hK hc i pins s σ H E I hf st hg
  subst hP hw hK
  obtain ⟨f0,f1,f2,f3,f4,f5⟩:=hf it (by simp)
  have W:=Walks.range (prog:=X.prog) (w:=X.w) (I.ok.hd hc) it lo 1 n
  refine W.item i s _ _ hg st fun v h' tk hv st' kk=>?_
  obtain ⟨t,rfl⟩:=hv
  have I1:Inv X pins σ H { s with heap:=h',toks:=tk }:=I.turned (fun b o hb e=>kk b o (by simpa using hb) e) f0 f1 f3 f4 f5
  refine ⟨_,rfl,go_of (s:={ s with heap:=h',toks:=tk }) (n := "range_iterator") st' rfl rfl (by decide) ⟨.int (lo+i),H,I1,⟨t,?_⟩,⟨rfl,rfl⟩,st',fun b hb=>(hf b hb).1⟩⟩
  rw [Int.mul_one]
 done:=by
  intro X hP hw hK hc i pins s σ H E I hf st hg
  subst hP hw hK
  obtain ⟨f0,f1,f2,f3,f4,f5⟩:=hf it (by simp)
  exact wpAny_pyNext_range_end (I.ok.hd hc) st (by have:n≤i:=hg; omega) fun h' eb=>⟨rfl,I.turned (t':=s.toks) (fun b o hb e=>eb b o hb e) f0 f1 f3 f4 f5⟩
 self:=fun _ _ _ _ _ st h=>wpAny_pyIter_rangeiter st h
section
variable {X:Cx} {tg:Expr}
def iList (K:PySem.W.Frag) (tl:TE) : TI:=fun σ H R=>tl σ H fun x H1=>∃ a,x = .ref a∧(∃ xs,SqL K H1 a xs)∧R (Itl K a) H1
def iTup (K:PySem.W.Frag) (tl:TE) : TI:=fun σ H R=>tl σ H fun x H1=>∃ a,x = .ref a∧(∃ xs,SqT K H1 a xs)∧R (Itt K a) H1
theorem pi_list {l:Expr} {tl:TE} (hl:PE X l tl) : PI X tg l (iList X.K tl):=by
 intro pins s σ H R I h
 refine thn (hl pins s σ H _ I h) fun v s1 ⟨x,H1,I1,r1,q1⟩=>?_
 obtain ⟨a,e,⟨xs,hq⟩,q⟩:=q1
 subst e
 cases r1
 obtain ⟨its,rv,p,hz⟩:=I1.list hq
 refine wpAny_pyIter_list p.isList ?_
 refine ⟨s1.heap.objs.size,[s1.heap.objs.size],_,_,H1,rfl,I1.kept (t':=s1.toks) fun b o e=>Heap.get?_push_of_some _ e,turn_list a _,⟨_,Heap.get?_push_size _ rfl,rfl,rfl⟩,fun b hb=>?_,q⟩
 have e:b=s1.heap.objs.size:=by simpa using hb
 subst e
 exact I1.fpOk (Nat.le_refl _) (I1.hok.fresh (Nat.le_refl _))
theorem pi_tup {l:Expr} {tl:TE} (hl:PE X l tl) : PI X tg l (iTup X.K tl):=by
 intro pins s σ H R I h
 refine thn (hl pins s σ H _ I h) fun v s1 ⟨x,H1,I1,r1,q1⟩=>?_
 obtain ⟨a,e,⟨xs,hq⟩,q⟩:=q1
 subst e
 cases r1
 obtain ⟨its,rv,p,hz⟩:=I1.tuple hq
 refine wpAny_pyIter_tuple (show s1.heap.IsTuple a its.toArray from p) ?_
 refine ⟨s1.heap.objs.size,[s1.heap.objs.size],_,_,H1,rfl,I1.kept (t':=s1.toks) fun b o e=>Heap.get?_push_of_some _ e,turn_tuple a _,⟨_,Heap.get?_push_size _ rfl,rfl,rfl⟩,fun b hb=>?_,q⟩
 have e:b=s1.heap.objs.size:=by simpa using hb
 subst e
 exact I1.fpOk (Nat.le_refl _) (I1.hok.fresh (Nat.le_refl _))
theorem range_it {pins:List (Addr × Obj)} {σ:St} {H:Hp} {s:Shared} {R:It→Hp→Prop} {E:Value→Shared→Prop} {lo hi:Int} {t u v:Tok} {tk:Nat} (I:Inv X pins σ H s) (h1:-(2 ^ 62)≤lo) (h2:lo < 2 ^ 62) (h3:-(2 ^ 62)≤hi) (h4:hi < 2 ^ 62)
  (q:R (Itr lo (hi - lo).toNat) H) : wpAny (model X.prog X.w) X.A (pyIter (.ref s.heap.objs.size)) (PIE X pins σ tg R) E { s with heap:=s.heap.push { cls:=.type "range",data:=.fields #[.int lo t,.int hi u,.int 1 v] },toks:=tk }:=by
 refine wpAny_pyIter_range (IsRange.new ..) (small_one h1 h2 h3 h4) ?_
 have I1:Inv X pins σ H { s with heap:=s.heap.push { cls:=.type "range",data:=.fields #[.int lo t,.int hi u,.int 1 v] },toks:=tk }:=I.kept fun b o e=>Heap.get?_push_of_some _ e
 refine ⟨(s.heap.push { cls:=.type "range",data:=.fields #[.int lo t,.int hi u,.int 1 v] }).objs.size,[(s.heap.push { cls:=.type "range",data:=.fields #[.int lo t,.int hi u,.int 1 v] }).objs.size],_,_,H,rfl,
  I1.kept (t':=tk) fun b o e=>Heap.get?_push_of_some _ e,turn_range _ lo (hi - lo).toNat,?_,fun b hb=>?_,q⟩
 ·have e1:lo+((0:Nat) : Int) * 1=lo:=by simp
  have e2:(((hi - lo).toNat:Nat) : Int) - ((0:Nat) : Int)=Builtin.Range.rangeSize lo hi 1:=by rw [rangeSize_one]; split <;> omega
  show IsRangeIter _ _ (lo+((0:Nat) : Int) * 1) ((((hi - lo).toNat:Nat) : Int) - ((0:Nat) : Int)) 1
  rw [e1,e2]
  exact Heap.get?_push_size _ rfl
 ·have e:b=(s.heap.push { cls:=.type "range",data:=.fields #[.int lo t,.int hi u,.int 1 v] }).objs.size:=by simpa using hb
  subst e
  exact I1.fpOk (Nat.le_refl _) (I1.hok.fresh (Nat.le_refl _))
def iRng1 (ta:TA) : TI:=fun σ H R=>ta σ H fun vs H1=>∃ j:Int,vs=[.int j]∧-(2 ^ 62)≤j∧j < 2 ^ 62∧R (Itr 0 j.toNat) H1
def iRng2 (ta:TA) : TI:=fun σ H R=>ta σ H fun vs H1=>∃ i j:Int,vs=[.int i,.int j]∧(-(2 ^ 62)≤i∧i < 2 ^ 62∧-(2 ^ 62)≤j∧j < 2 ^ 62)∧R (Itr i (j - i).toNat) H1
theorem pi_range1 {a:Expr} {ta:TA} {p pos:Pos} (hg:Gl X "range") (hm:X.mg "range" = none) (ha:PA X [a] ta) (hs:starEach [a] X.env=[(false,eval a X.env)]:=by rfl) : PI X tg (.Call (.Name "range" p) [a] [] pos) (iRng1 ta):=by
 intro pins s σ H R I h
 refine Call_ (ld_blt I hg hm boot_range (PyProof.Rows.callWith_type1 (thn (ha pos pins s σ H _ I h) fun us s1 ⟨vs,H1,I1,r1,q1⟩=>?_) hs rfl))
 obtain ⟨j,e,q1,q2,q⟩:=q1
 subst e
 cases r1 with
 | cons r rr =>
  cases rr
  obtain ⟨t,rfl⟩:=r
  exact call_range_1 (range_it I1 (by omega) (by omega) q1 q2 (by simpa using q))
theorem pi_range2 {a b:Expr} {ta:TA} {p pos:Pos} (hg:Gl X "range") (hm:X.mg "range" = none) (ha:PA X [a,b] ta) (hs:starEach [a,b] X.env=[(false,eval a X.env),(false,eval b X.env)]:=by rfl) (hs2:starEach [b] X.env=[(false,eval b X.env)]:=by rfl) :
  PI X tg (.Call (.Name "range" p) [a,b] [] pos) (iRng2 ta):=by
 intro pins s σ H R I h
 refine Call_ (ld_blt I hg hm boot_range (PyProof.Rows.callWith_type1 (thn (ha pos pins s σ H _ I h) fun us s1 ⟨vs,H1,I1,r1,q1⟩=>?_) (by rw [hs,hs2]) (by rw [hs2]; rfl)))
 obtain ⟨i,j,e,⟨q1,q2,q3,q4⟩,q⟩:=q1
 subst e
 cases r1 with
 | cons r rr =>
  cases rr with
  | cons r' rr =>
   cases rr
   obtain ⟨t,rfl⟩:=r
   obtain ⟨t',rfl⟩:=r'
   exact call_range_2 (range_it I1 q1 q2 q3 q4 q)

def tFor (wi:TI) (g:TG) (tb:TS) : TS:=fun D σ H=>wi σ H fun J H1=>∃ W:Nat→Nat→St→Hp→Prop,(∃ m,W 0 m σ H1)∧∀ i m σ H,W i m σ H →
 (J.stop i H∧D.nx σ H)∨(J.go i H∧∃ N:St→Hp→Prop,(∀ σ' H',N σ' H'→∃ m',m' < m∧W (i+1) m' σ' H')∧∀ x H',J.yld i H x H'→g x σ H' fun σ2 H2=>tb { D with nx:=N,ct:=N,bk:=D.nx } σ2 H2)
def pinsAt (fp:List Addr) (h:Heap) : List (Addr × Obj):=fp.filterMap fun b=>(h.get? b).map fun o=>(b,o)
theorem mem_pinsAt {fp:List Addr} {h:Heap} {b:Addr} {o:Obj} (hb:b ∈ fp) (e:h.get? b=some o) : (b,o) ∈ pinsAt fp h:=List.mem_filterMap.mpr ⟨b,hb,by rw [e]; rfl⟩
theorem of_pinsAt {fp:List Addr} {h:Heap} {p:Addr × Obj} (hp:p ∈ pinsAt fp h) : p.1 ∈ fp∧h.get? p.1=some p.2:=by
 obtain ⟨b,hb,e⟩:=List.mem_filterMap.mp hp
 cases q:h.get? b with
 | none=>rw [q] at e; cases e
 | some o =>
  rw [q] at e
  have e':(b,o)=p:=Option.some.inj e
  subst e'
  exact ⟨hb,q⟩
theorem Inv.pinned {pins:List (Addr × Obj)} {σ:St} {H:Hp} {s:Shared} {fp:List Addr} (I:Inv X pins σ H s) (hf:∀ b ∈ fp,FpOk X pins H b) (ho:∀ b ∈ fp,∃ o,s.heap.get? b=some o∧∀ v,o.data≠.cell v) : Inv X (pins++pinsAt fp s.heap) σ H s:=
 I.pins_of fun p hp=>(List.mem_append.mp hp).elim (fun z=>I.pin p (List.mem_append_right _ z)) fun z=>by
  obtain ⟨hb,e⟩:=of_pinsAt z
  obtain ⟨f0,f1,f2,_⟩:=hf p.1 hb
  obtain ⟨o,e',d⟩:=ho p.1 hb
  rw [e] at e'; cases e'
  exact ⟨e,f0,f1,f2,d⟩
theorem Inv.unpinned {pins pl:List (Addr × Obj)} {σ:St} {H:Hp} {s:Shared} (I:Inv X (pins++pl) σ H s) : Inv X pins σ H s:=I.pins_of fun p hp=>I.pin p (List.mem_append_right _ (List.mem_append_left _ hp))
theorem ps_for {iter:Expr} {body:List Stmt} {wi:TI} {g:TG} {tb:TS} {pos:Pos} (hp:PassesOwn (model X.prog X.w) X.A X.env X.xe) (hc:X.calm=true) (hi:PI X tg iter wi) (hg:PG X tg g) (hb:PSs X body tb)
  (hs:∀ x,foldedSetIterable iter X.env x=pure x:=by intro _; rfl) : PS X (.For tg iter body [] pos) (tFor wi g tb):=by
 intro pins s σ H D I h
 refine wpAny_For (thn (hi pins s σ H _ I h) fun v s1 h1=>thn h1 fun itv s2 h2=>?_) hs
 obtain ⟨it,fp,tn,J,H2,e,I2,T,st2,f2,W,⟨m0,w0⟩,turn⟩:=h2
 subst e
 -- what stays true of the iterator's objects through the loop
 have stat:∀ {H':Hp},(∀ b ∈ fp,H' b=none)→∀ b ∈ fp,FpOk X pins H' b:=fun hn b hb=>⟨hn b hb,(f2 b hb).2⟩
 refine codeAny_forLoop_any (fun n s'=>∃ i σ' H',Inv X pins σ' H' s'∧tn i s'.heap∧(∀ b ∈ fp,H' b=none)∧W i n σ' H') ?_ m0 ⟨0,σ,H2,I2,st2,fun b hb=>(f2 b hb).1,w0⟩
 rintro n s3 ⟨i,σ3,H3,I3,st3,fr3,w3⟩
 rcases turn i n σ3 H3 w3 with ⟨stop,qn⟩ | ⟨go,N,hN,step⟩
 ·refine wpAny_passesOwn hp (thn (T.done X rfl rfl rfl hc i pins s3 σ3 H3 X.xe I3 (stat fr3) st3 stop) fun r s4 ⟨hr,I4⟩=>?_)
  subst hr
  exact wpAny_execs_nil ⟨σ3,H3,I4,qn⟩
 ·refine wpAny_passesOwn hp (thn (T.item X rfl rfl rfl hc i pins s3 σ3 H3 X.xe I3 (stat fr3) st3 go) fun r s4 ⟨u,hr,h4⟩=>?_)
  subst hr
  refine wpAny_passesOwn hp (thn h4 fun _ s5 ⟨x,H5,I5,r5,y5,st5,fr5⟩=>?_)
  have I5':=I5.pinned (stat fr5) (T.obj _ _ st5)
  refine wpAny_passesOwn hp (thn (hg _ s5 σ3 H5 x u _ I5' r5 (step x H5 y5)) fun _ s6 ⟨σ6,H6,I6,q6⟩=>?_)
  refine wpAny_passesOwn hp (thn (hb _ s6 σ6 H6 _ I6 q6) fun f s7 q7=>?_)
  have again:∀ {σ7:St} {H7:Hp},Inv X (pins++pinsAt fp s5.heap) σ7 H7 s7→N σ7 H7→∃ m,m < n∧∃ i σ' H',Inv X pins σ' H' s7∧tn i s7.heap∧(∀ b ∈ fp,H' b=none)∧W i m σ' H':=fun {σ7 H7} I7 n7=>by
   obtain ⟨m',hm,w7⟩:=hN σ7 H7 n7
   refine ⟨m',hm,i+1,σ7,H7,I7.unpinned,T.keep _ _ _ st5 fun b hb o e=>(I7.pin (b,o) (List.mem_append_right _ (List.mem_append_right _ (mem_pinsAt hb e)))).1,fun b hb=>?_,w7⟩
   obtain ⟨o,e,d⟩:=T.obj _ _ st5 b hb
   exact (I7.pin (b,o) (List.mem_append_right _ (List.mem_append_right _ (mem_pinsAt hb e)))).2.1
  cases f with
  | next=>obtain ⟨σ7,H7,I7,n7⟩:=q7; exact again I7 n7
  | cont=>obtain ⟨σ7,H7,I7,n7⟩:=q7; exact again I7 n7
  | brk=>obtain ⟨σ7,H7,I7,q7⟩:=q7; exact ⟨σ7,H7,I7.unpinned,q7⟩
  | ret v=>obtain ⟨x7,σ7,H7,I7,r7,q7⟩:=q7; exact ⟨x7,σ7,H7,I7.unpinned,r7,q7⟩
end

theorem for_list {K:PySem.W.Frag} {a:Addr} {xs:List V} {g:TG} {tb:TS} {D:Ends} {σ:St} {H:Hp} (Pv:Nat→St→Hp→Prop) (h0:Pv 0 σ H) (hl:∀ i σ H,i≤xs.length→Pv i σ H→SqL K H a xs)
  (hs:∀ i x σ H,xs[i]? = some x→Pv i σ H→g x σ H fun σ2 H2=>tb { D with nx:=Pv (i+1),ct:=Pv (i+1),bk:=D.nx } σ2 H2) (hd:∀ σ H,Pv xs.length σ H→D.nx σ H) :
  ∃ W:Nat→Nat→St→Hp→Prop,(∃ m,W 0 m σ H)∧∀ i m σ H,W i m σ H →
   ((Itl K a).stop i H∧D.nx σ H)∨((Itl K a).go i H∧∃ N:St→Hp→Prop,(∀ σ' H',N σ' H'→∃ m',m' < m∧W (i+1) m' σ' H')∧∀ x H',(Itl K a).yld i H x H'→g x σ H' fun σ2 H2=>tb { D with nx:=N,ct:=N,bk:=D.nx } σ2 H2):=by
 refine ⟨fun i m σ H=>m=xs.length - i∧i≤xs.length∧Pv i σ H,⟨xs.length,by simp,Nat.zero_le _,h0⟩,?_⟩
 rintro i m σ H ⟨rfl,hi,p⟩
 have q:=hl i σ H hi p
 by_cases hlt:i < xs.length
 ·refine .inr ⟨⟨xs,xs[i],q,by simp [hlt]⟩,Pv (i+1),fun σ' H' p'=>⟨xs.length - (i+1),by omega,rfl,hlt,p'⟩,fun x H' y=>?_⟩
  obtain ⟨e,y⟩:=y
  subst e
  exact hs i x σ _ (y xs q) p
 ·have e:i=xs.length:=by omega
  subst e
  exact .inl ⟨⟨xs,q,Nat.le_refl _⟩,hd σ H p⟩
theorem for_range {lo:Int} {n:Nat} {g:TG} {tb:TS} {D:Ends} {σ:St} {H:Hp} (Pv:Nat→St→Hp→Prop) (h0:Pv 0 σ H)
  (hs:∀ i σ H,i < n→Pv i σ H→g (.int (lo+i)) σ H fun σ2 H2=>tb { D with nx:=Pv (i+1),ct:=Pv (i+1),bk:=D.nx } σ2 H2) (hd:∀ σ H,Pv n σ H→D.nx σ H) :
  ∃ W:Nat→Nat→St→Hp→Prop,(∃ m,W 0 m σ H)∧∀ i m σ H,W i m σ H →
   ((Itr lo n).stop i H∧D.nx σ H)∨((Itr lo n).go i H∧∃ N:St→Hp→Prop,(∀ σ' H',N σ' H'→∃ m',m' < m∧W (i+1) m' σ' H')∧∀ x H',(Itr lo n).yld i H x H'→g x σ H' fun σ2 H2=>tb { D with nx:=N,ct:=N,bk:=D.nx } σ2 H2):=by
 refine ⟨fun i m σ H=>m=n - i∧i≤n∧Pv i σ H,⟨n,by simp,Nat.zero_le _,h0⟩,?_⟩
 rintro i m σ H ⟨rfl,hi,p⟩
 by_cases hlt:i < n
 ·refine .inr ⟨hlt,Pv (i+1),fun σ' H' p'=>⟨n - (i+1),by omega,rfl,hlt,p'⟩,fun x H' y=>?_⟩
  obtain ⟨e,y⟩:=y
  subst e y
  exact hs i σ _ hlt p
 ·have e:i=n:=by omega
  subst e
  exact .inl ⟨Nat.le_refl _,hd σ H p⟩

abbrev R2:=V→V→Hp→VK→Prop
def OpR (X:Cx) (f:Value→Value→Sem Value) (r:R2) : Prop:=
 ∀ (pins:List (Addr × Obj)) (s:Shared) (σ:St) (H:Hp) (x y:V) (v u:Value) (Q:VK),Inv X pins σ H s→RelV x v→RelV y u→r x y H Q →
  wpAny (model X.prog X.w) X.A (f v u) (EP X pins σ Q) X.xe s
def UnR (X:Cx) (f:Value→Sem Value) (r:V→Hp→VK→Prop) : Prop:=
 ∀ (pins:List (Addr × Obj)) (s:Shared) (σ:St) (H:Hp) (x:V) (v:Value) (Q:VK),Inv X pins σ H s→RelV x v→r x H Q →
  wpAny (model X.prog X.w) X.A (f v) (EP X pins σ Q) X.xe s
def CallR (X:Cx) (f:Value) (r:List V→Hp→VK→Prop) : Prop:=
 ∀ (pins:List (Addr × Obj)) (s:Shared) (σ:St) (H:Hp) (xs:List V) (us:List Value) (Q:VK),Inv X pins σ H s→Vals xs us→r xs H Q →
  wpAny (model X.prog X.w) X.A (call f us) (EP X pins σ Q) X.xe s
def tOp (r:R2) (ta tb:TE) : TE:=fun σ H Q=>ta σ H fun x H1=>tb σ H1 fun y H2=>r x y H2 Q
def tUn (r:V→Hp→VK→Prop) (ta:TE) : TE:=fun σ H Q=>ta σ H fun x H1=>r x H1 Q
def rI (C:Int→Int→Prop) (g:Int→Int→V) : R2:=fun x y H Q=>∃ i j,x = .int i∧y = .int j∧C i j∧Q (g i j) H
def rI0 (g:Int→Int→V) : R2:=fun x y H Q=>∃ i j,x = .int i∧y = .int j∧Q (g i j) H
def rU (g:Int→V) : V→Hp→VK→Prop:=fun x H Q=>∃ i,x = .int i∧Q (g i) H

section
variable {X:Cx} {a b c:Expr} {ta tb tc:TE} {pos:Pos}

theorem binT (ha:PE X a ta) (hb:PE X b tb) {pins:List (Addr × Obj)} {s:Shared} {σ:St} {H:Hp} {R:V→V→Hp→Prop} (I:Inv X pins σ H s)
  (h:ta σ H fun x H1=>tb σ H1 fun y H2=>R x y H2) {Q:Value→Shared→Prop} {f:Value→Value→Sem Value}
  (hf:∀ v u s2 x y H2,Inv X pins σ H2 s2→RelV x v→RelV y u→R x y H2→wpAny (model X.prog X.w) X.A (f v u) Q X.xe s2) :
  wpAny (model X.prog X.w) X.A (eval a X.env) (fun v s₁=>wpAny (model X.prog X.w) X.A (eval b X.env) (fun u s₂=>wpAny (model X.prog X.w) X.A (f v u) Q X.xe s₂) X.xe s₁) X.xe s:=by
 refine thn (ha pins s σ H _ I h) fun v s1 ⟨x,H1,I1,r1,q1⟩=>?_
 refine thn (hb pins s1 σ H1 _ I1 q1) fun u s2 ⟨y,H2,I2,r2,q2⟩=>?_
 exact hf v u s2 x y H2 I2 r1 r2 q2

theorem pe_op {op:Operator} {r:R2} (ho:OpR X (binaryOp op) r) (ha:PE X a ta) (hb:PE X b tb) : PE X (.BinOp a op b pos) (tOp r ta tb):=by
 intro pins s σ H Q I h
 exact wpAny_BinOp (binT ha hb I h fun v u s2 x y H2 I2 rx ry q=>ho pins s2 σ H2 x y v u Q I2 rx ry q)
theorem pe_un {op:UnaryOp} {r:V→Hp→VK→Prop} (ho:UnR X (unaryOp op) r) (ha:PE X a ta) : PE X (.UnaryOp op a pos) (tUn r ta):=by
 intro pins s σ H Q I h
 exact UnaryOp_ (thn (ha pins s σ H _ I h) fun v s1 ⟨x,H1,I1,r1,q1⟩=>ho pins s1 σ H1 x v Q I1 r1 q1)
theorem opI {f:Value→Value→Sem Value} {C:Int→Int→Prop} {g:Int→Int→Int}
  (rule:∀ (i j:Int) (t u:Tok) (s:Shared) (Q:Value→Shared→Prop) (E:Value→Shared→Prop),C i j→Q (.int (g i j) s.toks) { s with toks:=s.toks+1 }→wpAny (model X.prog X.w) X.A (f (.int i t) (.int j u)) Q E s) :
  OpR X f (rI C fun i j=>.int (g i j)):=by
 intro pins s σ H x y v u Q I rx ry h
 obtain ⟨i,j,rfl,rfl,hc,q⟩:=h
 obtain ⟨t,rfl⟩:=rx
 obtain ⟨t',rfl⟩:=ry
 exact rule i j t t' s _ _ hc ⟨.int (g i j),H,I.tok _,⟨_,rfl⟩,q⟩
theorem opI0 {f:Value→Value→Sem Value} {g:Int→Int→Int}
  (rule:∀ (i j:Int) (t u:Tok) (s:Shared) (Q:Value→Shared→Prop) (E:Value→Shared→Prop),Q (.int (g i j) s.toks) { s with toks:=s.toks+1 }→wpAny (model X.prog X.w) X.A (f (.int i t) (.int j u)) Q E s) :
  OpR X f (rI0 fun i j=>.int (g i j)):=by
 intro pins s σ H x y v u Q I rx ry h
 obtain ⟨i,j,rfl,rfl,q⟩:=h
 obtain ⟨t,rfl⟩:=rx
 obtain ⟨t',rfl⟩:=ry
 exact rule i j t t' s _ _ ⟨.int (g i j),H,I.tok _,⟨_,rfl⟩,q⟩
theorem opB0 {f:Value→Value→Sem Value} {g:Int→Int→Bool}
  (rule:∀ (i j:Int) (t u:Tok) (s:Shared) (Q:Value→Shared→Prop) (E:Value→Shared→Prop),Q (.bool (g i j)) s→wpAny (model X.prog X.w) X.A (f (.int i t) (.int j u)) Q E s) :
  OpR X f (rI0 fun i j=>.bl (g i j)):=by
 intro pins s σ H x y v u Q I rx ry h
 obtain ⟨i,j,rfl,rfl,q⟩:=h
 obtain ⟨t,rfl⟩:=rx
 obtain ⟨t',rfl⟩:=ry
 exact rule i j t t' s _ _ ⟨.bl (g i j),H,I,rfl,q⟩

def CDiv (i j:Int) : Prop:=0 < j∧j < 1073741824
def CMul (i j:Int) : Prop:=(-(2 ^ 64) < i∧i < 2 ^ 64)∨(-(2 ^ 64) < j∧j < 2 ^ 64)
theorem CMul.ok {i j:Int} (h:CMul i j) : IntMulOk i j:=by
 rcases h with ⟨h1,h2⟩ | ⟨h1,h2⟩
 ·exact .of_left (intBits_le_64 h1 h2)
 ·exact .of_right (intBits_le_64 h1 h2)
theorem op_add:OpR X (binaryOp .Add) (rI0 fun i j=>.int (i+j)):=opI0 fun _ _ _ _ _ _ _ q=>add_int q
theorem op_sub:OpR X (binaryOp .Sub) (rI0 fun i j=>.int (i - j)):=opI0 fun _ _ _ _ _ _ _ q=>sub_int q
theorem op_mul:OpR X (binaryOp .Mult) (rI CMul fun i j=>.int (i * j)):=opI fun _ _ _ _ _ _ _ hc q=>mul_int q hc.ok
theorem op_fdiv:OpR X (binaryOp .FloorDiv) (rI CDiv fun i j=>.int (i / j)):=opI fun i j _ _ _ _ _ hc q=>by
 have h1:(0:Int) < j:=hc.1
 have h2:j < 1073741824:=hc.2
 exact floordiv_int (by omega) (by rw [Int.fdiv_eq_ediv_of_nonneg i (by omega)]; exact q) (.inl (PyProof.noPylong_small (by omega)))
theorem op_mod:OpR X (binaryOp .Mod) (rI (fun _ j=>0 < j) fun i j=>.int (i % j)):=opI fun i j _ _ _ _ _ hc q=>by
 have h1:(0:Int) < j:=hc
 exact mod_int' (by omega) (by rw [Int.fmod_eq_emod_of_nonneg i (by omega)]; exact q)
theorem unI {f:Value→Sem Value} {g:Int→Int}
  (rule:∀ (i:Int) (t:Tok) (s:Shared) (Q:Value→Shared→Prop) (E:Value→Shared→Prop),Q (.int (g i) s.toks) { s with toks:=s.toks+1 }→wpAny (model X.prog X.w) X.A (f (.int i t)) Q E s) :
  UnR X f (rU fun i=>.int (g i)):=by
 intro pins s σ H x v Q I rx h
 obtain ⟨i,rfl,q⟩:=h
 obtain ⟨t,rfl⟩:=rx
 exact rule i t s _ _ ⟨.int (g i),H,I.tok _,⟨_,rfl⟩,q⟩
theorem un_neg:UnR X (unaryOp .USub) (rU fun i=>.int (-i)):=unI fun _ _ _ _ _ q=>neg_int q
end

def scal:V→V→Bool
 | .non,.non=>true | .non,.int _=>true | .int _,.non=>true | .non,.bl _=>true | .bl _,.non=>true | .non,.str _=>true | .str _,.non=>true
 | .int _,.int _=>true | .bl _,.bl _=>true | .str _,.str _=>true | .byt _,.byt _=>true
 | .int _,.str _=>true | .str _,.int _=>true | .bl _,.str _=>true | .str _,.bl _=>true
 | _,_=>false
def rEq:R2:=fun x y H Q=>scal x y=true∧Q (.bl (decide (x=y))) H
def rNe:R2:=fun x y H Q=>scal x y=true∧Q (.bl (!decide (x=y))) H

theorem dec_int {i j:Int} : decide (V.int i=V.int j)=(i == j):=by
 rw [Bool.eq_iff_iff]
 simp
theorem dec_bl {i j:Bool} : decide (V.bl i=V.bl j)=(i == j):=by
 rw [Bool.eq_iff_iff]
 simp
theorem dec_str {i j:Str} : decide (V.str i=V.str j)=(i == j):=by
 rw [Bool.eq_iff_iff]
 simp
theorem dec_byt {i j:Array UInt8} : decide (V.byt i=V.byt j)=(i.toList == j.toList):=by
 rw [Bool.eq_iff_iff]
 cases i
 cases j
 simp

section
variable {X:Cx} {a b c:Expr} {ta tb tc:TE} {pos:Pos}
theorem fin_bl {pins:List (Addr × Obj)} {σ:St} {H:Hp} {s:Shared} {Q:VK} {k k':Bool} (I:Inv X pins σ H s) (q:Q (.bl k) H) (e:k=k') : EP X pins σ Q (.bool k') s:=by
 subst e
 exact ⟨.bl k,H,I,rfl,q⟩
theorem op_eq:OpR X (compareOp .Eq) rEq:=by
 intro pins s σ H x y v u Q I rx ry h
 obtain ⟨hs,q⟩:=h
 cases x with
 | non =>
  cases rx
  cases y with
  | non=>cases ry; exact PySem.EqNone.eq_none_none (fin_bl I q (by simp))
  | bl j=>cases ry; exact PySem.EqNone.eq_none_bool (fin_bl I q (by simp))
  | int j=>obtain ⟨t',rfl⟩:=ry; exact PySem.EqNone.eq_none_int (fin_bl I q (by simp))
  | str j=>obtain ⟨t',rfl⟩:=ry; exact PySem.EqNone.eq_none_str (fin_bl I q (by simp))
  | _=>exact absurd (show false=true from hs) Bool.false_ne_true
 | bl i =>
  cases rx
  cases y with
  | non=>cases ry; exact PySem.EqNone.eq_bool_none (fin_bl I q (by simp))
  | bl j=>cases ry; exact eq_bool (fin_bl I q dec_bl)
  | str j=>obtain ⟨t',rfl⟩:=ry; exact PySem.EqMixed.eq_bool_str (fin_bl I q (by simp))
  | _=>exact absurd (show false=true from hs) Bool.false_ne_true
 | int i =>
  obtain ⟨t,rfl⟩:=rx
  cases y with
  | non=>cases ry; exact PySem.EqNone.eq_int_none (fin_bl I q (by simp))
  | int j=>obtain ⟨t',rfl⟩:=ry; exact eq_int (fin_bl I q dec_int)
  | str j=>obtain ⟨t',rfl⟩:=ry; exact PySem.EqMixed.eq_int_str (fin_bl I q (by simp))
  | _=>exact absurd (show false=true from hs) Bool.false_ne_true
 | str i =>
  obtain ⟨t,rfl⟩:=rx
  cases y with
  | non=>cases ry; exact PySem.EqNone.eq_str_none (fin_bl I q (by simp))
  | bl j=>cases ry; exact PySem.EqMixed.eq_str_bool (fin_bl I q (by simp))
  | int j=>obtain ⟨t',rfl⟩:=ry; exact PySem.EqMixed.eq_str_int (fin_bl I q (by simp))
  | str j=>obtain ⟨t',rfl⟩:=ry; exact eq_str (fin_bl I q dec_str)
  | _=>exact absurd (show false=true from hs) Bool.false_ne_true
 | byt i =>
  obtain ⟨t,rfl⟩:=rx
  cases y with
  | byt j=>obtain ⟨t',rfl⟩:=ry; exact PySem.W.eq_bytes (fin_bl I q dec_byt)
  | _=>exact absurd (show false=true from hs) Bool.false_ne_true
 | _=>cases y <;> exact absurd (show false=true from hs) Bool.false_ne_true
theorem op_ne:OpR X (compareOp .NotEq) rNe:=by
 intro pins s σ H x y v u Q I rx ry h
 obtain ⟨hs,q⟩:=h
 cases x with
 | non =>
  cases rx
  cases y with
  | non=>cases ry; exact PySem.EqNone.ne_none_none (fin_bl I q (by simp))
  | bl j=>cases ry; exact PySem.EqNone.ne_none_bool (fin_bl I q (by simp))
  | int j=>obtain ⟨t',rfl⟩:=ry; exact PySem.EqNone.ne_none_int (fin_bl I q (by simp))
  | str j=>obtain ⟨t',rfl⟩:=ry; exact PySem.EqNone.ne_none_str (fin_bl I q (by simp))
  | _=>exact absurd (show false=true from hs) Bool.false_ne_true
 | bl i =>
  cases rx
  cases y with
  | non=>cases ry; exact PySem.EqNone.ne_bool_none (fin_bl I q (by simp))
  | bl j=>cases ry; exact ne_bool (fin_bl I q (congrArg not dec_bl))
  | str j=>obtain ⟨t',rfl⟩:=ry; exact PySem.EqMixed.ne_bool_str (fin_bl I q (by simp))
  | _=>exact absurd (show false=true from hs) Bool.false_ne_true
 | int i =>
  obtain ⟨t,rfl⟩:=rx
  cases y with
  | non=>cases ry; exact PySem.EqNone.ne_int_none (fin_bl I q (by simp))
  | int j=>obtain ⟨t',rfl⟩:=ry; exact ne_int (fin_bl I q (congrArg not dec_int))
  | str j=>obtain ⟨t',rfl⟩:=ry; exact PySem.EqMixed.ne_int_str (fin_bl I q (by simp))
  | _=>exact absurd (show false=true from hs) Bool.false_ne_true
 | str i =>
  obtain ⟨t,rfl⟩:=rx
  cases y with
  | non=>cases ry; exact PySem.EqNone.ne_str_none (fin_bl I q (by simp))
  | bl j=>cases ry; exact PySem.EqMixed.ne_str_bool (fin_bl I q (by simp))
  | int j=>obtain ⟨t',rfl⟩:=ry; exact PySem.EqMixed.ne_str_int (fin_bl I q (by simp))
  | str j=>obtain ⟨t',rfl⟩:=ry; exact ne_str (fin_bl I q (congrArg not dec_str))
  | _=>exact absurd (show false=true from hs) Bool.false_ne_true
 | byt i =>
  obtain ⟨t,rfl⟩:=rx
  cases y with
  | byt j=>obtain ⟨t',rfl⟩:=ry; exact PySem.W.ne_bytes (fin_bl I q (congrArg not dec_byt))
  | _=>exact absurd (show false=true from hs) Bool.false_ne_true
 | _=>cases y <;> exact absurd (show false=true from hs) Bool.false_ne_true

theorem op_lt:OpR X (compareOp .Lt) (rI0 fun i j=>.bl (decide (i < j))):=opB0 fun _ _ _ _ _ _ _ q=>lt_int q
theorem op_le:OpR X (compareOp .LtE) (rI0 fun i j=>.bl (decide (i≤j))):=opB0 fun _ _ _ _ _ _ _ q=>le_int q
theorem op_gt:OpR X (compareOp .Gt) (rI0 fun i j=>.bl (decide (j < i))):=opB0 fun _ _ _ _ _ _ _ q=>gt_int q
theorem nomark (b:Expr) {op:CmpOp} (h:op≠.In:=by decide) (h2:op≠.NotIn:=by decide) : behindInMarks op b=false:=by
 have e1:(op == CmpOp.In)=false:=by cases op <;> first | rfl | exact absurd rfl h
 have e2:(op == CmpOp.NotIn)=false:=by cases op <;> first | rfl | exact absurd rfl h2
 cases b <;> simp [behindInMarks,e1,e2]
theorem pe_cmpR {op:CmpOp} {r:R2} (ho:OpR X (compareOp op) r) (ha:PE X a ta) (hb:PE X b tb) (hm:behindInMarks op b=false) : PE X (.Compare a [op] [b] pos) (tOp r ta tb):=by
 intro pins s σ H Q I h
 exact wpAny_Compare1 (binT ha hb I h fun v u s2 x y H2 I2 rx ry q=>ho pins s2 σ H2 x y v u Q I2 rx ry q) hm
def tTest (t:TE) : TT:=fun σ H Q=>t σ H fun x H'=>∃ k,x = .bl k∧Q k H'
theorem pt_cmpR {op:CmpOp} {r:R2} (ho:OpR X (compareOp op) r) (ha:PE X a ta) (hb:PE X b tb) (hm:behindInMarks op b=false) : PT X (.Compare a [op] [b] pos) (tTest (tOp r ta tb)):=by
 intro pins s σ H Q I h
 refine wpAny_isTrue_Compare1 (thn (ha pins s σ H _ I h) fun v s1 ⟨x,H1,I1,r1,q1⟩=>thn (hb pins s1 σ H1 _ I1 q1) fun u s2 ⟨y,H2,I2,r2,q2⟩ =>
  thn (ho pins s2 σ H2 x y v u _ I2 r1 r2 q2) fun c s3 ⟨z,H3,I3,r3,k,e,q3⟩=>?_) hm
 subst e
 cases r3
 exact wpAny_truthy_bool ⟨H3,I3,q3⟩
def tChain (r r':R2) (ta tb tc:TE) : TE:=fun σ H Q=>ta σ H fun x H1=>tb σ H1 fun y H2=>r x y H2 fun z H3=>∃ k,z = .bl k ∧
 (if k=true then tc σ H3 fun w' H4=>r' y w' H4 Q else Q (.bl false) H3)
theorem pt_chain {op op':CmpOp} {r r':R2} (ho:OpR X (compareOp op) r) (ho':OpR X (compareOp op') r') (ha:PE X a ta) (hb:PE X b tb) (hc:PE X c tc)
  (hm:lastMarks [op,op'] [b,c]=false:=by with_unfolding_all rfl) : PT X (.Compare a [op,op'] [b,c] pos) (tTest (tChain r r' ta tb tc)):=by
 intro pins s σ H Q I h
 refine isTrue_chain (thn (ha pins s σ H _ I h) fun v s1 ⟨x,H1,I1,r1,q1⟩=>test_link (thn (hb pins s1 σ H1 _ I1 q1) fun u s2 ⟨y,H2,I2,r2,q2⟩ =>
  thn (ho pins s2 σ H2 x y v u _ I2 r1 r2 q2) fun d s3 ⟨z,H3,I3,r3,k,e,q3⟩=>?_)) hm
 subst e
 cases r3
 refine wpAny_truthy_bool ?_
 cases k with
 | false =>
  obtain ⟨k',e',q'⟩:=q3
  cases e'
  exact ite_ff ⟨H3,I3,q'⟩
 | true =>
  refine ite_tt (test_last (thn (hc pins s3 σ H3 _ I3 q3) fun w' s4 ⟨z',H4,I4,r4,q4⟩=>thn (ho' pins s4 σ H4 y z' u w' _ I4 r2 r4 q4) fun d' s5 ⟨z2,H5,I5,r5,k2,e2,q5⟩=>?_))
  subst e2
  cases r5
  exact wpAny_truthy_bool ⟨H5,I5,q5⟩

theorem line63:(sizeLine:Nat) < 2 ^ 63:=by rw [sizeLine_eq]; decide
theorem op_add_str:OpR X (binaryOp .Add) (fun x y H Q=>∃ i j,x = .str i∧y = .str j∧i.length+j.length≤sizeLine∧Q (.str (i++j)) H):=by
 intro pins s σ H x y v u Q I rx ry h
 obtain ⟨i,j,rfl,rfl,hz,q⟩:=h
 obtain ⟨t,rfl⟩:=rx
 obtain ⟨t',rfl⟩:=ry
 exact add_str (fun t' tk=>⟨.str (i++j),H,I.tok _,⟨_,rfl⟩,q⟩) hz
theorem vals1 {x:V} {us:List Value} (r:Vals [x] us) : ∃ u,us=[u]∧RelV x u:=by
 cases r with
 | cons r1 r2=>cases r2; exact ⟨_,rfl,r1⟩
theorem vals2 {x y:V} {us:List Value} (r:Vals [x,y] us) : ∃ u w',us=[u,w']∧RelV x u∧RelV y w':=by
 cases r with
 | cons r1 r2 =>
  cases r2 with
  | cons r3 r4=>cases r4; exact ⟨_,_,rfl,r1,r3⟩
theorem call_int1:CallR X (.type "int") (fun xs H Q=>(∃ i,xs=[.int i]∧Q (.int i) H)∨∃ k,xs=[.bl k]∧Q (.int (if k then 1 else 0)) H):=by
 intro pins s σ H xs us Q I r h
 rcases h with ⟨i,rfl,q⟩ | ⟨k,rfl,q⟩
 ·obtain ⟨u,rfl,t,rfl⟩:=vals1 r
  exact call_int_int ⟨.int i,H,I,⟨_,rfl⟩,q⟩
 ·obtain ⟨u,rfl,r1⟩:=vals1 r
  cases r1
  exact call_int_bool ⟨.int (if k then 1 else 0),H,I.tok _,⟨_,rfl⟩,q⟩
end

section
variable {prog:Program} {w:World} {A:Around} {E:Value→Shared→Prop} {s:Shared} {K:PySem.W.Frag} {x dx C f:Addr} {mA:Str→Option Value} {name:Str} {v:Value}

end

theorem RelO.some_of {v:V} {o:Option Value} (r:RelO (some v) o) : ∃ u,o=some u∧RelV v u:=by
 cases o with
 | none=>exact (show False from r).elim
 | some u=>exact ⟨u,rfl,r⟩
section
variable {P:Program} {w:World} {H H':Hp} {h h':Heap} {a C dx:Addr} {fs fs':List (Str × V)}
end

section
variable {X:Cx} {pins:List (Addr × Obj)} {σ:St} {H:Hp} {s:Shared} {a C dx:Addr} {fs:List (Str × V)} {f:Str} {v:V} {A:Around} {E:Value→Shared→Prop}

end

section
variable {X:Cx} {o e value:Expr} {f:Str} {pos pos' tpos:Pos} {ta tv:TE}
end

section
variable {X:Cx} {pins:List (Addr × Obj)} {σ:St} {H:Hp} {s:Shared} {A:Around} {E:Value→Shared→Prop} {Q:Value→Shared→Prop} {c:Value} {b:Bool}
end

structure Room (k:Nat) (A:Around) : Prop where
 hd:A.handled=none
 dp:A.depth+3 * k+5 < recursionLimit
 un:A.units+16 * k+200 < cLine
theorem Room.mono {j k:Nat} {A:Around} (r:Room k A) (h:j≤k) : Room j A:=⟨r.hd,by have:=r.dp; omega,by have:=r.un; omega⟩
theorem Room.deeper {k:Nat} {A:Around} (r:Room (k+1) A) (env:Env) : Room k (A.deeper env):=
 ⟨r.hd,by have:=r.dp; show A.depth+1+3 * k+5 < _; omega,by have:=r.un; show A.units+3+16 * k+200 < _; omega⟩
theorem Room.depth {k:Nat} {A:Around} (r:Room k A) : A.depth < recursionLimit:=by have:=r.dp; omega
theorem Room.units {k:Nat} {A:Around} (r:Room k A) : A.units+64 < cLine:=by have:=r.un; omega
def tNil:TA:=fun _ H Q=>Q [] H
def tCons (ta:TE) (tr:TA) : TA:=fun σ H Q=>ta σ H fun x H1=>tr σ H1 fun xs H2=>Q (x :: xs) H2
section
variable {X:Cx} {e:Expr} {es:List Expr} {te:TE} {t:TA} {pos:Pos}
theorem pa_nil:PA X [] tNil:=fun _ _ _ _ H Q I h=>Calls.spliced_nil ⟨[],H,I,.nil,h⟩
theorem pa_cons (ha:PE X e te) (hr:PA X es t) (hs:starEach (e :: es) X.env=(false,eval e X.env) :: starEach es X.env:=by rfl) : PA X (e :: es) (tCons te t):=by
 intro pos pins s σ H Q I h
 rw [hs]
 show wpAny _ _ (spliced ((false,eval e X.env) :: backTo pos (starEach es X.env))) _ _ s
 refine Calls.spliced_cons (thn (ha pins s σ H _ I h) fun u s1 ⟨x,H1,I1,r1,q1⟩=>?_)
 exact thn (hr pos pins s1 σ H1 _ I1 q1) fun us s2 ⟨xs,H2,I2,r2,q2⟩=>⟨x :: xs,H2,I2,.cons r1 r2,q2⟩

def tTup (t:TA) : TE:=fun σ H Q=>t σ H fun xs H1=>xs.length≤sizeLine∧∀ p,H1 p=none→Q (.ref p) (upd H1 p (.tup xs))
def tLst (t:TA) : TE:=fun σ H Q=>t σ H fun xs H1=>xs.length≤sizeLine∧∀ p,H1 p=none→Q (.ref p) (upd H1 p (.lst xs))
theorem pe_tup {x1} (h:PA X es t) : PE X (.Tuple es x1 pos) (tTup t):=by
 intro pins s σ H Q I hq
 refine wpAny_Tuple_spliced (thn (h pos pins s σ H _ I hq) fun us s1 ⟨xs,H1,I1,r,z,q⟩=>⟨by rw [← r.length]; exact z,?_⟩)
 have hf:H1 s1.heap.objs.size=none:=I1.hok.fresh (Nat.le_refl _)
 refine ⟨.ref s1.heap.objs.size,upd H1 s1.heap.objs.size (.tup xs),I1.laid (t':=s1.toks) (fun b u e=>Heap.get?_push_of_some _ e) (Nat.le_refl _) ?_,rfl,q _ hf⟩
 exact ⟨z,us,r,⟨_,Heap.get?_push_size _ rfl,rfl,_,rfl⟩⟩
theorem pe_lst (h:PA X es t) : PE X (.List es pos) (tLst t):=by
 intro pins s σ H Q I hq
 refine wpAny_List_spliced (thn (h pos pins s σ H _ I hq) fun us s1 ⟨xs,H1,I1,r,z,q⟩=>⟨by rw [← r.length]; exact z,?_⟩)
 have hf:H1 s1.heap.objs.size=none:=I1.hok.fresh (Nat.le_refl _)
 refine ⟨.ref s1.heap.objs.size,upd H1 s1.heap.objs.size (.lst xs),I1.laid (t':=s1.toks) (fun b u e=>Heap.get?_push_of_some _ e) (Nat.le_refl _) ?_,rfl,q _ hf⟩
 exact ⟨z,us,0,r,Heap.get?_push_size _ rfl⟩
end

abbrev Sp:=List V→Hp→VK→XK→Prop
abbrev CXT:=List Env→Hp→Shared→XK→Value→Shared→Prop

structure Env0 (P:Program) (w:World) (K:PySem.W.Frag) (mg:Str→Option Value) (base:Heap) (A:Around) (outer:List Env) (s:Shared) (H:Hp) : Prop where
 frames:A.frames=some outer
 mod:Mod K mg base
 bs:∀ b o,base.get? b=some o→s.heap.get? b=some o∧H b=none
 bsz:base.objs.size≤s.heap.objs.size
 funs:s.heap.FunFrames base outer
 frf:∀ b ∈ frs outer,H b=none
 hok:HOk P w H s.heap
 bare:AllBare s.gens
def CE (outer:List Env) (P:Program) (w:World) (H:Hp) (s:Shared) (Q:VK) (u:Value) (s':Shared) : Prop:=
 ∃ v H',s'.os=s.os∧AllBare s'.gens∧Un (frs outer) [] H H' s.heap s'.heap∧HOk P w H' s'.heap∧RelV v u∧Q v H'
def CR (CX:CXT) (outer:List Env) (P:Program) (w:World) (H:Hp) (s:Shared) (Q:VK) (E:XK) (r:Result) (s':Shared) : Prop:=
 match r with
 | .ok (.ret u)=>CE outer P w H s Q u s'
 | .ok _=>False
 | .error e=>CX outer H s E e s'
structure FnOk (P:Program) (w:World) (K:PySem.W.Frag) (mg:Str→Option Value) (base:Heap) (CX:CXT) (k:Nat) (f:Addr) (fd:FuncData) (ps:List Str) (sp:Sp) : Prop where
 len:∀ vs H Q E,sp vs H Q E→vs.length=ps.length
 run:∀ (A:Around) (outer:List Env) (s:Shared) (H:Hp) (args:Args) (us:List Value) (vs:List V) (Q:VK) (E:XK),Room k A→Env0 P w K mg base A outer s H→BindsTo s fd args (ps.zip us)→Vals vs us→sp vs H Q E →
  codeAny (model P w) A (.call (.ref f) args) (CR CX outer P w H s Q E) s
section
variable {X:Cx} {pins:List (Addr × Obj)} {σ:St} {H:Hp} {s s':Shared}
theorem Inv.env0 (I:Inv X pins σ H s) : Env0 X.prog X.w X.K X.mg X.base X.A X.stack s H:=
 ⟨I.ok.frames,I.ok.mod,I.bs,Nat.le_trans I.ok.bsz I.sz,I.stack,I.stkFree,I.hok,I.bare⟩
theorem Inv.after {Q:VK} {u:Value} (I:Inv X pins σ H s) (h:CE X.stack X.prog X.w H s Q u s') : EP X pins σ Q u s':=by
 obtain ⟨v,H',os,bare,un,hok,r,q⟩:=h
 obtain ⟨hh,g,d,t,os'⟩:=s'
 obtain rfl:os' = s.os:=os
 exact ⟨v,H',I.call (h':=hh) (g':=g) (d':=d) (t':=t) (ch:=[]) un hok bare (fun b z=>absurd z (by simp)),r,q⟩
end

def tCall (sp:Sp) (dvs:List V) (E:XK) (t:TA) : TE:=fun σ H Q=>t σ H fun vs H1=>sp (vs++dvs) H1 Q E
def Binds (K:PySem.W.Frag) (fd:FuncData) (ps:List Str) (ds:List Value) : Prop:=
 ∀ (s:Shared) (us:List Value),K.In s.heap→(us++ds).length=ps.length→BindsTo s fd ⟨us,[]⟩ (ps.zip (us++ds))
theorem Binds.all {K:PySem.W.Frag} {fd:FuncData} {ps:List Str} (h:∀ us:List Value,us.length=ps.length→bindArgs fd ⟨us,[]⟩=pure (ps.zip us)) : Binds K fd ps []:=fun s us _ hl=>by
 rw [List.append_nil] at hl ⊢
 exact .of_eq (h us hl)

def Passes (CX:CXT) (X:Cx) (E:XK) : Prop:=∀ (pins:List (Addr × Obj)) (σ:St) (H:Hp) (s:Shared) (e:Value) (s':Shared),Inv X pins σ H s→CX X.stack H s E e s'→X.xe e s'

section
variable {X:Cx} {CX:CXT} {k:Nat} {f C:Addr} {fd:FuncData} {ps:List Str} {sp:Sp} {dvs:List V} {ds:List Value} {E:XK} {x m:Str} {p pos apos:Pos} {e o:Expr} {es:List Expr} {ta:TE} {t:TA}

theorem run_fn {pins:List (Addr × Obj)} {σ:St} {H:Hp} {s:Shared} {Q:VK} {us:List Value} {vs:List V} (F:FnOk X.prog X.w X.K X.mg X.base CX k f fd ps sp) (hr:Room k X.A) (hb:Binds X.K fd ps ds) (hd:Vals dvs ds) (hx:Passes CX X E)
  (I:Inv X pins σ H s) (r:Vals vs us) (h:sp (vs++dvs) H Q E) : wpAny (model X.prog X.w) X.A (call (.ref f) us) (EP X pins σ Q) X.xe s:=by
 have r2:Vals (vs++dvs) (us++ds):=r.append hd
 have hl:(us++ds).length=ps.length:=by rw [← r2.length]; exact F.len _ _ _ _ h
 refine wpAny_call (codeAny_mono (F.run X.A X.stack s H ⟨us,[]⟩ (us++ds) (vs++dvs) Q E hr I.env0 (hb s us I.kIn hl) r2 h) fun r s' hq=>?_)
 cases r with
 | error e=>exact hx pins σ H s e s' I hq
 | ok fl =>
  cases fl with
  | ret u=>exact I.after hq
  | next=>exact False.elim hq
  | brk=>exact False.elim hq
  | cont=>exact False.elim hq

theorem pe_call (F:FnOk X.prog X.w X.K X.mg X.base CX k f fd ps sp) (hr:Room k X.A) (hg:Gl X x) (hm:X.mg x=some (.ref f)) (hk:PySem.W.keepIn X.K (.ref f)=true) (hb:Binds X.K fd ps ds) (hd:Vals dvs ds) (hx:Passes CX X E)
  (ha:PA X (e :: es) t) (hdb:(x == ("__debug__" : Str))=false:=by decide) (he:starEach (e :: es) X.env=(false,eval e X.env) :: starEach es X.env:=by rfl) (hpl:(backTo pos (starEach es X.env)).any (·.1)=false:=by rfl) :
  PE X (.Call (.Name x p) (e :: es) [] pos) (tCall sp dvs E t):=by
 intro pins s σ H Q I h
 refine wpAny_Call_Name_kw (ld_glob I hg hm ?_ hdb)
 refine PySem.W.callWith_K (h₀:=X.base) I.ok.mod.kin hk (thn (ha pos pins s σ H _ I h) fun us s1 ⟨vs,H1,I1,r,q⟩=>⟨I1.kIn,?_⟩) he hpl
 exact run_fn F hr hb hd hx I1 r q
end

section
variable {X:Cx} {CX:CXT} {k:Nat} {f C:Addr} {fd:FuncData} {ps ks:List Str} {sp:Sp} {E:XK} {x m:Str} {p pos apos kpos:Pos} {e o:Expr} {es:List Expr} {kws:List Keyword} {te ta:TE} {t tk:TA} {nm:Option Str}
variable {g:List Value→List Value→List Value} {gV:List V→List V→List V}
end

structure FnScope (N P:List Str) (sc:Scope) : Prop where
 kind:sc.kind = .function
 co:sc.isCoroutine=false
 gen:sc.isGenerator=false
 nd:N.Nodup
 pre:N.take P.length=P
 par:∀ x ∈ P,sc.names.lookup x=some .local∨sc.names.lookup x=some .cell
 nofree:∀ y ∈ sc.names,y.2≠.free

theorem bindL_out {kindOf:Str→Option NameKind} {x:Str} : ∀ {binds:List (Str × Value)} {m:Str→Option Value},(∀ v,(x,v) ∉ binds)→bindL kindOf binds m x=m x
 | [],_,_=>rfl
 | (n,v) :: r,m,h=>by
  unfold bindL
  rw [bindL_out fun w hw=>h w (List.mem_cons_of_mem _ hw)]
  split
  ·have:x≠n:=by rintro rfl; exact h v List.mem_cons_self
   simp [this]
  ·rfl
theorem bindC_out {kindOf:Str→Option NameKind} {x:Str} : ∀ {binds:List (Str × Value)} {m:Str→Option Value},(∀ v,(x,v) ∉ binds)→bindC kindOf binds m x=m x
 | [],_,_=>rfl
 | (n,v) :: r,m,h=>by
  unfold bindC
  rw [bindC_out fun w hw=>h w (List.mem_cons_of_mem _ hw)]
  split
  ·rfl
  ·have:x≠n:=by rintro rfl; exact h v List.mem_cons_self
   simp [this]
theorem bindL_get {kindOf:Str→Option NameKind} {x:Str} {v:Value} : ∀ {P:List Str} {vs:List Value} {i:Nat} {m:Str→Option Value},P.Nodup→P[i]? = some x→vs[i]? = some v→kindOf x=some .local →
  bindL kindOf (P.zip vs) m x=some v
 | [],_,_,_,_,h,_,_=>by simp at h
 | _ :: _,[],_,_,_,_,h,_=>by simp at h
 | p :: P,w :: vs,0,m,nd,h1,h2,hk=>by
  simp at h1 h2; subst h1; subst h2
  show bindL kindOf ((p,w) :: P.zip vs) m p=_
  unfold bindL
  rw [bindL_out fun v hv=>(List.nodup_cons.mp nd).1 (List.of_mem_zip hv).1,if_pos hk]
  simp
 | p :: P,w :: vs,i+1,m,nd,h1,h2,hk=>by
  show bindL kindOf ((p,w) :: P.zip vs) m x=_
  unfold bindL
  exact bindL_get (i:=i) (List.nodup_cons.mp nd).2 (by simpa using h1) (by simpa using h2) hk
theorem bindC_get {kindOf:Str→Option NameKind} {x:Str} {v:Value} : ∀ {P:List Str} {vs:List Value} {i:Nat} {m:Str→Option Value},P.Nodup→P[i]? = some x→vs[i]? = some v→kindOf x≠some .local →
  bindC kindOf (P.zip vs) m x=some v
 | [],_,_,_,_,h,_,_=>by simp at h
 | _ :: _,[],_,_,_,_,h,_=>by simp at h
 | p :: P,w :: vs,0,m,nd,h1,h2,hk=>by
  simp at h1 h2; subst h1; subst h2
  show bindC kindOf ((p,w) :: P.zip vs) m p=_
  unfold bindC
  rw [bindC_out fun v hv=>(List.nodup_cons.mp nd).1 (List.of_mem_zip hv).1,if_neg hk]
  simp
 | p :: P,w :: vs,i+1,m,nd,h1,h2,hk=>by
  show bindC kindOf ((p,w) :: P.zip vs) m x=_
  unfold bindC
  exact bindC_get (i:=i) (List.nodup_cons.mp nd).2 (by simpa using h1) (by simpa using h2) hk

def start (N:List Str) (vs:List V) : St:=vs.map some++List.replicate (N.length - vs.length) none

def cxOf (CX:CXT) (P:Program) (w:World) (K:PySem.W.Frag) (mg:Str→Option Value) (base:Heap) (N:List Str) (qual:Str) (scope:Scope) (f:Addr) (cd:Value) (A:Around) (outer:List Env) (s:Shared) (H:Hp) (E:XK) : Cx where
 prog:=P
 w:=w
 K:=K
 mg:=mg
 base:=base
 A:=A.deeper (envOfC qual scope s.heap.objs.size f cd)
 N:=N
 s₀:=s
 H₀:=H
 env:=envOfC qual scope s.heap.objs.size f cd
 outer:=outer
 stack:=envOfC qual scope s.heap.objs.size f cd :: outer
 ex:=[]
 calm:=true
 fn:=fun _=>true
 pn:=[]
 xe:=fun e s'=>wpAny (model P w) (A.deeper (envOfC qual scope s.heap.objs.size f cd)) (leaving (envOfC qual scope s.heap.objs.size f cd) e) (fun _ s''=>CX outer H s E e s'') (fun e' s''=>CX outer H s E e' s'') s'

theorem cell_has {sc:Scope} {n:Nat} {x:Str} (h:sc.names.lookup x=some .cell) : ∃ c,(cellsFrom n sc.names []).lookup x=some c:=by
 have q:=PySem.W.cellsFrom_some sc.names n [] (.inl h)
 exact Option.isSome_iff_exists.mp q

theorem inv_start {CX:CXT} {P:Program} {w:World} {K:PySem.W.Frag} {mg:Str→Option Value} {base:Heap} {N ps:List Str} {qual:Str} {scope:Scope} {f:Addr} {cd:Value} {A:Around} {outer:List Env} {s s1:Shared} {H:Hp} {E:XK} {us:List Value} {vs:List V}
  (S:FnScope N ps scope) (hd:A.handled=none) (e0:Env0 P w K mg base A outer s H) (hl:vs.length=ps.length) (r:Vals vs us)
  (x:InCallC s s.heap.objs.size (bindL (envOfC qual scope s.heap.objs.size f cd).kindOf (ps.zip us) fun _=>none) (cellsFrom (s.heap.objs.size+1) scope.names []) (bindC (envOfC qual scope s.heap.objs.size f cd).kindOf (ps.zip us) fun _=>none) s1) :
  Inv (cxOf CX P w K mg base N qual scope f cd A outer s H E) [] (start N vs) H s1:=by
 have hpl:ps.length≤N.length:=by have:=congrArg List.length S.pre; rw [List.length_take] at this; omega
 obtain ⟨h1,tk,rfl,hk⟩:=x.done
 have noA:∀ b:Addr,b ∉ (cxOf CX P w K mg base N qual scope f cd A outer s H E).ex:=fun b z=>absurd (show b ∈ ([] : List Addr) from z) (by simp)
 refine ⟨⟨e0.mod,S.kind,rfl,rfl,Nat.le_refl _,fun y z c h1 h2=>?_,fun y hy=>?_,fun y c _ h=>?_,fun _=>hd,Around.frames_deeper e0.frames,.inr ⟨rfl,rfl⟩,fun b z=>absurd z (noA b),e0.bs,e0.bsz,fun b _ _=>noA b,fun b z=>absurd z (noA b),e0.funs,e0.frf⟩,
  rfl,e0.bare,Un.kept hk,⟨_,x.toInCall.ns,fun i y v h1 h2 h3=>?_⟩,fun y c h=>⟨_,x.cell y c h⟩,e0.hok.fresh (Nat.le_refl _),fun y c h=>?_,fun p hp=>absurd (show p ∈ ([] : List (Addr × Obj)) from hp) (by simp),e0.hok.kept hk,?_⟩
 ·exact name_of_addr x.apart (PySem.mem_of_lookup h1) (PySem.mem_of_lookup h2)
 ·have hy:scope.names.lookup y=some .cell∨scope.names.lookup y=some .free:=hy
  rcases hy with hy | hy
  ·exact cell_has hy
  ·exact absurd rfl (S.nofree _ (PySem.mem_of_lookup hy))
 ·exact Nat.le_of_lt (x.above y c (PySem.mem_of_lookup h))
 ·have hi:i < vs.length:=by
   unfold start at h2
   by_cases hi:i < vs.length
   ·exact hi
   ·rw [List.getElem?_append_right (by simpa using hi)] at h2
    rw [List.getElem?_replicate] at h2
    split at h2 <;> cases h2
  have ha:vs[i]? = some v:=by
   unfold start at h2
   rw [List.getElem?_append_left (by simpa using hi),List.getElem?_map] at h2
   cases e:vs[i]? with
   | none=>rw [e] at h2; cases h2
   | some a=>rw [e] at h2; cases h2; rfl
  obtain ⟨u,hu,rv⟩:=r.get ha
  have hp:ps[i]? = some y:=by
   rw [← S.pre,List.getElem?_take_of_lt (by omega)]; exact h1
  have ndP:ps.Nodup:=by rw [← S.pre]; exact S.nd.sublist (List.take_sublist _ _)
  refine ⟨u,rv,?_⟩
  rcases S.par y (List.mem_of_getElem? hp) with k | k
  ·exact .inl ⟨k,bindL_get ndP hp hu k⟩
  ·obtain ⟨c,e⟩:=cell_has (n:=s.heap.objs.size+1) k
   refine .inr ⟨.inl k,c,e,?_⟩
   have q:=x.cell y c e
   rw [bindC_get ndP hp hu (by show scope.names.lookup y≠_; rw [k]; decide)] at q
   exact q
 ·exact e0.hok.fresh (Nat.le_of_lt (x.above y c (PySem.mem_of_lookup h)))
 ·unfold start
  show _=N.length
  rw [List.length_append,List.length_map,List.length_replicate]
  omega

theorem fn_of {CX:CXT} {P:Program} {w:World} {K:PySem.W.Frag} {mg:Str→Option Value} {base:Heap} {k:Nat} {f:Addr} {name qual:Str} {params:Arguments} {body:List Stmt} {scope:Scope} {dV kV doc pm cdv ct oc:Value} {an od:Option Addr}
  {osl:Array (Option Value)} {N ps:List Str} {sp:Sp} (lk:K.lookup f=some ⟨oc,od,.func (PySem.W.fnOf name qual params body scope dV kV doc pm an cdv ct),osl⟩) (hcd:PySem.W.codeIn K cdv qual=true) (S:FnScope N ps scope)
  (len:∀ vs H Q E,sp vs H Q E→vs.length=ps.length)
  (hbody:∀ (A:Around) (outer:List Env) (s:Shared) (H:Hp) (vs:List V) (Q:VK) (E:XK),Room k (A.deeper (envOfC qual scope s.heap.objs.size f cdv))→sp vs H Q E →
   ∃ t,PSs (cxOf CX P w K mg base N qual scope f cdv A outer s H E) body t∧t { nx:=fun _ H'=>Q .non H',rt:=Q } (start N vs) H) :
  FnOk P w K mg base CX (k+1) f (PySem.W.fnOf name qual params body scope dV kV doc pm an cdv ct) ps sp:=by
 refine ⟨len,fun A outer s H args us vs Q E hr e0 hb r hsp=>?_⟩
 have hl:=len _ _ _ _ hsp
 have KX:K.In s.heap:=e0.mod.kin.keeps fun b o e=>(e0.bs b o e).1
 have lim:s.heap.NoLimit:=e0.mod.nolimit.keeps fun b o e=>(e0.bs b o e).1
 have hkind:∀ y ∈ ps.zip us,scope.names.lookup y.1=some .local∨(scope.names.lookup y.1=some .cell∧((cellsFrom (s.heap.objs.size+1) scope.names []).lookup y.1).isSome=true):=fun ⟨n,v⟩ hy=>by
  rcases S.par n (List.of_mem_zip hy).1 with q | q
  ·exact .inl q
  ·exact .inr ⟨q,PySem.W.cellsFrom_some _ _ _ (.inl q)⟩
 refine codeAny_call_function hr.depth (KX _ _ lk) rfl S.co S.gen rfl (PySem.W.codeRec_of KX hcd) (hb _ _ _ _ ?_)
 refine wpAny_newFunctionEnv_cells S.kind hkind fun env he s1 x=>?_
 subst he
 refine ⟨lim.keeps x.toInCall.keep,codeAny_func ?_⟩
 obtain ⟨t,ht,hq⟩:=hbody A outer s H vs Q E (hr.deeper _) hsp
 have I:Inv (cxOf CX P w K mg base N qual scope f cdv A outer s H E) [] (start N vs) H s1:=inv_start S hr.hd e0 hl r x
 refine wpAny_mono (ht [] s1 (start N vs) H _ I hq) (fun fl s' hs=>?_) fun e s' hs=>hs
 have fin:∀ {σ':St} {H':Hp} {v:V} {u:Value},Inv (cxOf CX P w K mg base N qual scope f cdv A outer s H E) [] σ' H' s'→RelV v u→Q v H'→CE outer P w H s Q u s':=
  fun {σ' H' v u} J rv q=>⟨v,H',J.os,J.bare,J.base,J.hok,rv,q⟩
 cases fl with
 | ret u =>
  obtain ⟨v,σ',H',J,rv,q⟩:=hs
  exact fin J rv q
 | next =>
  obtain ⟨σ',H',J,q⟩:=hs
  exact fin (v:=V.non) (u:=Value.none) J rfl q
 | brk =>
  obtain ⟨_,_,_,q⟩:=hs
  exact False.elim q
 | cont =>
  obtain ⟨_,_,_,q⟩:=hs
  exact False.elim q
section
variable {X:Cx} {x:Str} {p pos:Pos} {e:Expr} {es:List Expr} {t:TA} {id T:String} {r:List V→Hp→VK→Prop}

def tCB (r:List V→Hp→VK→Prop) (t:TA) : TE:=fun σ H Q=>t σ H fun vs H1=>r vs H1 Q
theorem pe_callB (hc:CallR X (.builtin id) r) (hg:Gl X x) (hm:X.mg x=none) (hv:bootBuiltins x=some (.builtin id)) (ha:PA X (e :: es) t) (hn:x≠"__name__":=by decide) (hdb:(x == ("__debug__" : Str))=false:=by decide)
  (he:starEach (e :: es) X.env=(false,eval e X.env) :: starEach es X.env:=by rfl) (hpl:(backTo pos (starEach es X.env)).any (·.1)=false:=by rfl) : PE X (.Call (.Name x p) (e :: es) [] pos) (tCB r t):=by
 intro pins s σ H Q I h
 refine wpAny_Call_Name_kw (ld_blt I hg hm hv ?_ hn hdb)
 exact PyProof.Rows.callWith_builtin1 (thn (ha pos pins s σ H _ I h) fun us s1 ⟨vs,H1,I1,r1,q1⟩=>hc pins s1 σ H1 vs us Q I1 r1 q1) he hpl
theorem pe_callTy (hc:CallR X (.type T) r) (hg:Gl X x) (hm:X.mg x=none) (hv:bootBuiltins x=some (.type T)) (ha:PA X (e :: es) t) (hn:x≠"__name__":=by decide) (hdb:(x == ("__debug__" : Str))=false:=by decide)
  (he:starEach (e :: es) X.env=(false,eval e X.env) :: starEach es X.env:=by rfl) (hpl:(backTo pos (starEach es X.env)).any (·.1)=false:=by rfl) : PE X (.Call (.Name x p) (e :: es) [] pos) (tCB r t):=by
 intro pins s σ H Q I h
 refine wpAny_Call_Name_kw (ld_blt I hg hm hv ?_ hn hdb)
 exact PyProof.Rows.callWith_type1 (thn (ha pos pins s σ H _ I h) fun us s1 ⟨vs,H1,I1,r1,q1⟩=>hc pins s1 σ H1 vs us Q I1 r1 q1) he hpl
end
end L2

namespace HT
open PySem PyProof.Rows

section
open PySem.SeqAt
open PySem.AutoSeq1 (wpAny_loadPart')
open PySem.MeetsSeq PySem.MeetsSeq2 PySem.MeetsSeq3

end

section
variable {prog:Program} {w:World} {A:Around} {E:Value→Shared→Prop} {s:Shared}

def sIx (n d:Nat) : Option Int→Nat
 | none=>d
 | some v=>if v < 0 then (v+(n:Int)).toNat else min v.toNat n
theorem sIx_none (n d:Nat) : sIx n d none=d:=rfl
theorem sIx_nat (n d k:Nat) : sIx n d (some (k:Int))=min k n:=by
 show (if (k:Int) < 0 then ((k:Int)+(n:Int)).toNat else min (k:Int).toNat n)=min k n
 rw [if_neg (by omega),Int.toNat_natCast]
theorem sIx_le (n d:Nat) (hd:d≤n) (o:Option Int) : sIx n d o≤n:=by
 cases o with
 | none=>exact hd
 | some v =>
  show (if v < 0 then (v+(n:Int)).toNat else min v.toNat n)≤n
  by_cases hv:v < 0
  ·rw [if_pos hv]; omega
  ·rw [if_neg hv]; exact Nat.min_le_right _ _
end
end HT

namespace L2
open PySem PySem.Spec PyProof.Rows

abbrev TO:=St→Hp→(Option Int→Hp→Prop)→Prop
def PO (X:Cx) (e:Option Expr) (t:TO) : Prop:=
 ∀ (pins:List (Addr × Obj)) (s:Shared) (σ:St) (H:Hp) (Q:Option Int→Hp→Prop),Inv X pins σ H s→t σ H Q →
  wpAny (model X.prog X.w) X.A (evalPart e X.env) (fun u s'=>∃ o H',Inv X pins σ H' s'∧IsPart u o∧Q o H') X.xe s
def tNoPart:TO:=fun _ H Q=>Q none H
def tPart (t:TE) : TO:=fun σ H Q=>t σ H fun x H1=>∃ i,x = .int i∧Q (some i) H1

section
variable {X:Cx} {e:Expr} {te:TE} {lo hi:Option Expr} {tl th:TO} {pos p2:Pos}

theorem po_none:PO X none tNoPart:=by
 intro pins s σ H Q I h
 rw [evalPart_none]
 exact wpAny_pure ⟨none,H,I,.none,h⟩
theorem po_some (h:PE X e te) : PO X (some e) (tPart te):=by
 intro pins s σ H Q I hw
 rw [evalPart_some]
 refine thn (h pins s σ H _ I hw) fun u s1 ⟨x,H1,I1,r1,q1⟩=>?_
 obtain ⟨i,rfl,q⟩:=q1
 obtain ⟨t,rfl⟩:=r1
 exact ⟨some i,H1,I1,.int i t,q⟩

def SlR (X:Cx) (r:V→Option Int→Option Int→Hp→VK→Prop) : Prop:=
 ∀ (pins:List (Addr × Obj)) (s:Shared) (σ:St) (H:Hp) (x:V) (v vl vu:Value) (lo hi:Option Int) (sl:Addr) (Q:VK),Inv X pins σ H s→RelV x v→s.heap.IsSliceOf sl vl vu .none→IsPart vl lo→IsPart vu hi→r x lo hi H Q →
  ∃ T id,typeLookup (.type T) "__getitem__" = pure (some (.builtin id))∧s.TypeIs v T∧wpAny (model X.prog X.w) X.A (getItem v (.ref sl)) (EP X pins σ Q) X.xe s
def tSl (r:V→Option Int→Option Int→Hp→VK→Prop) (te:TE) (tl th:TO) : TE:=fun σ H Q=>te σ H fun x H1=>tl σ H1 fun l H2=>th σ H2 fun u H3=>r x l u H3 Q
theorem pe_slice {r:V→Option Int→Option Int→Hp→VK→Prop} (hr:SlR X r) (he:PE X e te) (hl:PO X lo tl) (hu:PO X hi th) : PE X (.Subscript e (.Slice lo hi none p2) pos) (tSl r te tl th):=by
 intro pins s σ H Q I h
 refine Subscript_ (thn (he pins s σ H _ I h) fun v s1 ⟨x,H1,I1,r1,q1⟩=>?_)
 refine wpAny_Slice (thn (hl pins s1 σ H1 _ I1 q1) fun vl s2 ⟨l,H2,I2,pl,q2⟩=>thn (hu pins s2 σ H2 _ I2 q2) fun vu s3 ⟨u,H3,I3,pu,q3⟩=>?_)
 rw [evalPart_none]
 refine wpAny_pure ?_
 have I4:Inv X pins σ H3 { s3 with heap:=s3.heap.push { cls:=.type "slice",data:=.fields #[vl,vu,.none] } }:=I3.kept (t':=s3.toks) fun b ob q=>Heap.get?_push_of_some _ q
 obtain ⟨T,id,hT,ht,hg⟩:=hr pins { s3 with heap:=s3.heap.push { cls:=.type "slice",data:=.fields #[vl,vu,.none] } } σ H3 x v vl vu l u s3.heap.objs.size Q I4 r1 (Heap.IsSliceOf.new ..) pl pu q3
 show wpAny (model X.prog X.w) X.A (subscriptTail e (.Slice lo hi none p2) v (.ref s3.heap.objs.size)) (EP X pins σ Q) X.xe { s3 with heap:=s3.heap.push { cls:=.type "slice",data:=.fields #[vl,vu,.none] } }
 exact tail_any (ops:=[.ref s3.heap.objs.size,v]) ht hT hg (by with_unfolding_all rfl)

def cutV (xs:List V) (lo hi:Option Int) : List V:=(xs.drop (HT.sIx xs.length 0 lo)).take (HT.sIx xs.length xs.length hi - HT.sIx xs.length 0 lo)
theorem cutV_length (xs:List V) (lo hi:Option Int) : (cutV xs lo hi).length≤xs.length:=by
 unfold cutV
 rw [List.length_take,List.length_drop]
 omega
end

def ixN (n:Nat) (i:Int) : Option Nat:=if 0≤i then (if i < n then some i.toNat else none) else if -(n:Int)≤i then some (i+n).toNat else none
def atI {α:Type} (xs:List α) (i:Int) : Option α:=(ixN xs.length i).bind fun j=>xs[j]?
theorem ixN_seq {n:Nat} {i:Int} {j:Nat} (h:ixN n i=some j) : seqIndex? i n=some j∧j < n∧-(n:Int)≤i∧i < n:=by
 unfold ixN at h
 by_cases h0:0≤i
 ·rw [if_pos h0] at h
  by_cases h1:i < n
  ·rw [if_pos h1] at h
   have e:i.toNat=j:=Option.some.inj h
   exact ⟨by rw [seqIndex_of h0 h1,e],by omega,by omega,h1⟩
  ·rw [if_neg h1] at h; cases h
 ·rw [if_neg h0] at h
  by_cases h1:-(n:Int)≤i
  ·rw [if_pos h1] at h
   have e:(i+n).toNat=j:=Option.some.inj h
   exact ⟨by rw [seqIndex_neg (by omega) h1,e],by omega,h1,by omega⟩
  ·rw [if_neg h1] at h; cases h
theorem atI_get {α:Type} {xs:List α} {i:Int} {v:α} (h:atI xs i=some v) : ∃ j,seqIndex? i xs.length=some j∧xs[j]? = some v∧j < xs.length∧-(xs.length:Int)≤i∧i < xs.length:=by
 unfold atI at h
 cases e:ixN xs.length i with
 | none=>rw [e] at h; cases h
 | some j =>
  rw [e] at h
  obtain ⟨h1,h2,h3,h4⟩:=ixN_seq e
  exact ⟨j,h1,h,h2,h3,h4⟩
theorem atI_nat {α:Type} {xs:List α} {j:Nat} {v:α} (h:xs[j]? = some v) : atI xs (j:Int)=some v:=by
 have hj:j < xs.length:=(List.getElem?_eq_some_iff.mp h).1
 have e:ixN xs.length (j:Int)=some j:=by
  unfold ixN
  rw [if_pos (by omega),if_pos (by omega)]; simp
 unfold atI; rw [e]; exact h
theorem atI_last {α:Type} (xs:List α) (v:α) : atI (xs++[v]) (-1)=some v:=by
 have hl:(xs++[v]).length=xs.length+1:=by simp
 have e:ixN (xs++[v]).length (-1)=some xs.length:=by
  unfold ixN
  rw [hl,if_neg (by decide),if_pos (by omega)]
  congr 1
  omega
 unfold atI
 rw [e]
 show (xs++[v])[xs.length]? = some v
 simp

def PlainIx (b:Expr) : Prop:=∀ o i,subscripted b false o i=operate [o,i] (getItem o i)
def IxR (X:Cx) (r:R2) : Prop:=
 ∀ (value slice:Expr) (pins:List (Addr × Obj)) (s:Shared) (σ:St) (H:Hp) (x y:V) (v u:Value) (Q:VK),Inv X pins σ H s→RelV x v→RelV y u→r x y H Q →
  subscripted slice false v u=operate [v,u] (getItem v u)→wpAny (model X.prog X.w) X.A (subscriptTail value slice v u) (EP X pins σ Q) X.xe s
def MtR (X:Cx) (id:String) (r:V→List V→Hp→VK→Prop) : Prop:=
 ∀ (pins:List (Addr × Obj)) (s:Shared) (σ:St) (H:Hp) (x:V) (xs:List V) (v:Value) (us:List Value) (Q:VK),Inv X pins σ H s→RelV x v→Vals xs us→r x xs H Q →
  wpAny (model X.prog X.w) X.A (call (.builtin id) (v :: us)) (EP X pins σ Q) X.xe s
section
variable {X:Cx} {a b:Expr} {ta tb:TE} {pos:Pos}
theorem pe_ix {r:R2} (hr:IxR X r) (ha:PE X a ta) (hb:PE X b tb) (hs:PlainIx b) : PE X (.Subscript a b pos) (tOp r ta tb):=by
 intro pins s σ H Q I h
 exact Subscript_ (binT ha hb I h fun v u s2 x y H2 I2 rx ry q=>hr a b pins s2 σ H2 x y v u Q I2 rx ry q (hs _ _))

def rIxL (K:PySem.W.Frag) : R2:=fun x y H Q=>∃ p xs i v,x = .ref p∧y = .int i∧SqL K H p xs∧atI xs i=some v∧Q v H
def rIxT (K:PySem.W.Frag) : R2:=fun x y H Q=>∃ p xs i v,x = .ref p∧y = .int i∧SqT K H p xs∧atI xs i=some v∧Q v H
def rIxS:R2:=fun x y H Q=>∃ z i c,x = .str z∧y = .int i∧z.length≤sizeLine∧atI z.cps.toList i=some c∧Q (.str ⟨#[c]⟩) H
theorem ix_list:IxR X (rIxL X.K):=by
 intro value slice pins s σ H x y v u Q I rx ry h hs
 obtain ⟨p,xs,i,z,rfl,rfl,hq,he,q⟩:=h
 cases rx
 obtain ⟨t,rfl⟩:=ry
 obtain ⟨its,r,pl,hz⟩:=I.list hq
 obtain ⟨j,h1,h2,h3,h4,h5⟩:=atI_get he
 obtain ⟨w,ew,rw'⟩:=r.get h2
 have hl:=r.length
 have hn:=line63
 have fin:EP X pins σ Q w s:=⟨z,H,I,rw',q⟩
 by_cases h0:0≤i
 ·have hj:i.toNat=j:=by
   rw [seqIndex_of h0 h5] at h1
   exact Option.some.inj h1
  exact item_listR pl.isList h0 (by omega) (by rw [hj]; simpa using ew) fin hs
 ·have hj:(i+(its.toArray.size:Int)).toNat=j:=by
   rw [seqIndex_neg (by omega) h4] at h1
   rw [List.size_toArray,← hl]
   exact Option.some.inj h1
  exact subscriptTail_builtinR (x:=w) pl.isList.typeIs slot_list_getitem.lookup
   (wpAny_getItem_list_neg (Q:=fun r s'=>r=w∧EP X pins σ Q r s') pl.isList (by omega) (by rw [List.size_toArray] <;> omega) (by omega) (by rw [hj]; simpa using ew) ⟨rfl,fin⟩) hs
theorem ix_tup:IxR X (rIxT X.K):=by
 intro value slice pins s σ H x y v u Q I rx ry h hs
 obtain ⟨p,xs,i,z,rfl,rfl,hq,he,q⟩:=h
 cases rx
 obtain ⟨t,rfl⟩:=ry
 obtain ⟨its,r,pl,hz⟩:=I.tuple hq
 obtain ⟨j,h1,h2,h3,h4,h5⟩:=atI_get he
 obtain ⟨w,ew,rw'⟩:=r.get h2
 have hl:=r.length
 have hn:=line63
 have fin:EP X pins σ Q w s:=⟨z,H,I,rw',q⟩
 exact subscriptTail_builtinR (x:=w) pl.typeIs slot_tuple_getitem.lookup
  (getItem_tuple (j:=j) (Q:=fun r s'=>r=w∧EP X pins σ Q r s') pl (by omega) (by omega) (by rw [List.size_toArray,← hl]; exact h1) (by simpa using ew) ⟨rfl,fin⟩) hs
theorem ix_str:IxR X rIxS:=by
 intro value slice pins s σ H x y v u Q I rx ry h hs
 obtain ⟨z,i,c,rfl,rfl,hz,he,q⟩:=h
 obtain ⟨t,rfl⟩:=rx
 obtain ⟨t',rfl⟩:=ry
 obtain ⟨j,h1,h2,h3,h4,h5⟩:=atI_get he
 have hl:z.cps.toList.length=z.length:=by simp [Str.length]
 rw [hl] at h1 h4 h5
 have hn:=line63
 exact tail_any (typeIs_str s z t) slot_str_getitem.lookup (getItem_str (c:=c) (by
  have e1:decide (i < -(2 ^ 63:Int))=false:=decide_eq_false (by omega)
  have e2:decide (i ≥ 2 ^ 63)=false:=decide_eq_false (by omega)
  rw [e1,e2,Bool.or_false]) (by rw [h1]; simpa using h2) ⟨.str ⟨#[c]⟩,H,I.tok _,⟨_,rfl⟩,q⟩) hs
theorem mapSeq_set (its:List Value) (n j:Nat) (u:Value) : Obj.mapSeq (·.setIfInBounds j u) { cls:=.type "list",data:=.seq its.toArray n }={ cls:=.type "list",data:=.seq (its.set j u).toArray n }:=by
 simp [Obj.mapSeq]
theorem Inv.lst {pins:List (Addr × Obj)} {σ:St} {H:Hp} {s:Shared} {p:Addr} {xs:List V} (I:Inv X pins σ H s) (h:H p=some (.lst xs)) :
  ∃ (its:List Value) (n:Nat),Vals xs its∧s.heap.get? p=some { cls:=.type "list",data:=.seq its.toArray n }∧xs.length≤sizeLine:=by
 obtain ⟨z,its,n,r,e⟩:=I.hok p _ h
 exact ⟨its,n,r,e,z⟩
theorem Inv.lstUpd {pins:List (Addr × Obj)} {σ:St} {H:Hp} {s:Shared} {p:Addr} {xs ys:List V} {its its':List Value} {n n':Nat} {f:Obj→Obj} (I:Inv X pins σ H s) (h:H p=some (.lst xs))
  (ho:s.heap.get? p=some { cls:=.type "list",data:=.seq its.toArray n }) (hf:f { cls:=.type "list",data:=.seq its.toArray n }={ cls:=.type "list",data:=.seq its'.toArray n' }) (r:Vals ys its') (hz:ys.length≤sizeLine) (t:Nat) :
  Inv X pins σ (upd H p (.lst ys)) { s with heap:=s.heap.update p f,toks:=t }:=by
 have e:(s.heap.update p f).get? p=some { cls:=.type "list",data:=.seq its'.toArray n' }:=by
  rw [Heap.get?_update_self f ho (by rw [hf] <;> rfl),hf]
 refine I.write (x:=p) (e:=p) (by rw [h]; trivial) (.inl rfl) (fun b u hb q=>(Heap.get?_update_other _ _ (Ne.symm hb)).trans q) ⟨_,e⟩ ?_
 exact ⟨hz,its',n',r,e⟩
def rSetL:V→V→V→Hp→(Hp→Prop)→Prop:=fun o i v H Q=>∃ p xs k j,o = .ref p∧i = .int k∧H p=some (.lst xs)∧ixN xs.length k=some j∧Q (upd H p (.lst (xs.set j v)))
theorem set_list:PSet X rSetL:=by
 intro pins s σ H o i v ov iv u Q I ro ri rv h
 obtain ⟨p,xs,k,j,rfl,rfl,hp,hj,q⟩:=h
 cases ro
 obtain ⟨t,rfl⟩:=ri
 obtain ⟨its,n,r,ho,hz⟩:=I.lst hp
 obtain ⟨h1,h2,h3,h4⟩:=ixN_seq hj
 have hl:=r.length
 have hn:=line63
 have I':Inv X pins σ (upd H p (.lst (xs.set j v))) { s with heap:=s.heap.update p (Obj.mapSeq (·.setIfInBounds j u)) }:=
  I.lstUpd hp ho (mapSeq_set its n j u) (r.set rv j) (by rw [List.length_set]; exact hz) s.toks
 by_cases h0:0≤k
 ·have hk:k.toNat=j:=by
   rw [seqIndex_of h0 h4] at h1
   exact Option.some.inj h1
  exact PySem.W.ki_setAt ho h0 (by omega) (by rw [List.size_toArray,← hl]; exact h4) (by rw [hk]; exact ⟨_,I',q⟩)
 ·have hk:(k+(its.toArray.size:Int)).toNat=j:=by
   rw [seqIndex_neg (by omega) h3] at h1
   rw [List.size_toArray,← hl]
   exact Option.some.inj h1
  exact PySem.W.ki_setBack ho (by omega) (by rw [List.size_toArray,← hl]; exact h3) (by omega) (by rw [hk]; exact ⟨_,I',q⟩)

theorem slice_bounds (lo hi:Option Int) (n:Nat) : (sliceBounds lo hi none n).1=((HT.sIx n 0 lo:Nat) : Int)∧(sliceBounds lo hi none n).2.1=((HT.sIx n n hi:Nat) : Int)∧(sliceBounds lo hi none n).2.2=1:=by
 refine ⟨?_,?_,rfl⟩
 ·cases lo with
  | none=>simp [sliceBounds,HT.sIx]
  | some i =>
   simp only [sliceBounds,HT.sIx,Option.getD_none,show (1:Int) > 0 by decide,if_true]
   by_cases h:i < 0
   ·simp only [h,if_true] <;> omega
   ·simp only [h,if_false] <;> omega
 ·cases hi with
  | none=>simp [sliceBounds,HT.sIx]
  | some i =>
   simp only [sliceBounds,HT.sIx,Option.getD_none,show (1:Int) > 0 by decide,if_true]
   by_cases h:i < 0
   ·simp only [h,if_true] <;> omega
   ·simp only [h,if_false] <;> omega
theorem slicePick_cut (its:List Value) (lo hi:Option Int) : slicePick its.toArray lo hi none=((its.drop (HT.sIx its.length 0 lo)).take (HT.sIx its.length its.length hi - HT.sIx its.length 0 lo)).toArray:=by
 obtain ⟨h1,h2,h3⟩:=slice_bounds lo hi its.toArray.size
 unfold slicePick
 rw [h1,h2,h3]
 simp only [sliceRange_one,pick_run,List.size_toArray] <;> rfl
def rSlL (K:PySem.W.Frag) : V→Option Int→Option Int→Hp→VK→Prop:=fun x lo hi H Q=>∃ a xs,x = .ref a∧SqL K H a xs∧∀ p,H p=none→Q (.ref p) (upd H p (.lst (cutV xs lo hi)))
theorem sl_list:SlR X (rSlL X.K):=by
 intro pins s σ H x v vl vu lo hi sl Q I rx hs pl pu h
 obtain ⟨a,xs,rfl,hx,q⟩:=h
 cases rx
 obtain ⟨its,r,ht,hz⟩:=I.list hx
 have hlen:=r.length
 refine ⟨"list",_,slot_list_getitem.lookup,ht.isList.typeIs,?_⟩
 refine wpAny_getItem_list_slice ht.isList hs pl pu .none (by simp) ?_ (by rw [List.size_toArray] <;> omega)
 rw [slicePick_cut,← hlen]
 refine ⟨.ref s.heap.objs.size,_,I.laid (t':=s.toks) (o:=.lst (cutV xs lo hi)) (fun b ob q=>Heap.get?_push_of_some _ q) (Nat.le_refl _) ?_,rfl,q _ (I.hok.fresh (Nat.le_refl _))⟩
 exact ⟨Nat.le_trans (cutV_length xs lo hi) hz,_,0,(r.drop (HT.sIx xs.length 0 lo)).take (HT.sIx xs.length xs.length hi - HT.sIx xs.length 0 lo),Heap.get?_push_size _ rfl⟩

def flatV:V→Bool
 | .non=>true
 | .bl _=>true
 | .int _=>true
 | .str _=>true
 | _=>false
def eqV:V→V→Bool
 | .non,.non=>true
 | .bl a,.bl b=>a == b
 | .bl a,.int b=>(if a then 1 else 0) == b
 | .int a,.bl b=>a == (if b then 1 else 0)
 | .int a,.int b=>a == b
 | .str a,.str b=>a == b
 | _,_=>false
theorem eqAt_V {A:Around} {s:Shared} {y x:V} {u v:Value} (ry:RelV y u) (rx:RelV x v) (fy:flatV y=true) (fx:flatV x=true) : SeqAt.EqAt A s u v (eqV y x):=by
 cases y with
 | non =>
  cases ry
  cases x with
  | non=>cases rx; exact SeqAt.EqAt.same _
  | bl b=>cases rx; exact SeqAt.EqAt.none_bool b
  | int b=>obtain ⟨t,rfl⟩:=rx; exact SeqAt.EqAt.none_int b t
  | str b=>obtain ⟨t,rfl⟩:=rx; exact SeqAt.EqAt.none_str b t
  | _=>exact absurd (show false=true from fx) Bool.false_ne_true
 | bl a =>
  cases ry
  cases x with
  | non=>cases rx; exact SeqAt.EqAt.bool_none a
  | bl b=>cases rx; exact SeqAt.EqAt.bool_bool a b
  | int b=>obtain ⟨t,rfl⟩:=rx; exact SeqAt.EqAt.bool_int a b t
  | str b=>obtain ⟨t,rfl⟩:=rx; exact SeqAt.EqAt.bool_str a b t
  | _=>exact absurd (show false=true from fx) Bool.false_ne_true
 | int a =>
  obtain ⟨t',rfl⟩:=ry
  cases x with
  | non=>cases rx; exact SeqAt.EqAt.int_none a t'
  | bl b=>cases rx; exact SeqAt.EqAt.int_bool a t' b
  | int b=>obtain ⟨t,rfl⟩:=rx; exact SeqAt.EqAt.int_int a t' b t
  | str b=>obtain ⟨t,rfl⟩:=rx; exact SeqAt.EqAt.int_str a t' b t
  | _=>exact absurd (show false=true from fx) Bool.false_ne_true
 | str a =>
  obtain ⟨t',rfl⟩:=ry
  cases x with
  | non=>cases rx; exact SeqAt.EqAt.str_none a t'
  | bl b=>cases rx; exact SeqAt.EqAt.str_bool a t' b
  | int b=>obtain ⟨t,rfl⟩:=rx; exact SeqAt.EqAt.str_int a t' b t
  | str b=>obtain ⟨t,rfl⟩:=rx; exact SeqAt.EqAt.str_str a t' b t
  | _=>exact absurd (show false=true from fx) Bool.false_ne_true
 | _=>exact absurd (show false=true from fy) Bool.false_ne_true
theorem call_len_seq:CallR X (.builtin "len") (fun xs H Q=>∃ p ys,xs=[.ref p]∧(SqL X.K H p ys∨SqT X.K H p ys)∧Q (.int ys.length) H):=by
 intro pins s σ H xs us Q I r h
 obtain ⟨p,ys,rfl,hq,q⟩:=h
 obtain ⟨u,rfl,rx⟩:=vals1 r
 cases rx
 have hn:=line63
 rcases hq with hq | hq
 ·obtain ⟨its,r',pl,hz⟩:=I.list hq
  have hlen:=r'.length
  exact Calls.call_len_list pl.isList (by simp only [List.size_toArray] <;> omega) ⟨.int ys.length,H,I.tok _,⟨s.toks+1,by rw [List.size_toArray,hlen]⟩,q⟩
 ·obtain ⟨its,r',pl,hz⟩:=I.tuple hq
  have hlen:=r'.length
  exact len_tuple pl (by simp only [List.size_toArray] <;> omega) ⟨.int ys.length,H,I.tok _,⟨s.toks+1,by rw [List.size_toArray,hlen]⟩,q⟩
theorem call_tuple_of:CallR X (.type "tuple") (fun xs H Q=>∃ p ys,xs=[.ref p]∧((SqL X.K H p ys∧∀ l,H l=none→Q (.ref l) (upd H l (.tup ys)))∨(SqT X.K H p ys∧Q (.ref p) H))):=by
 intro pins s σ H xs us Q I r h
 obtain ⟨p,ys,rfl,h⟩:=h
 obtain ⟨u,rfl,rx⟩:=vals1 r
 cases rx
 rcases h with ⟨hq,q⟩ | ⟨hq,q⟩
 ·obtain ⟨its,r',pl,hz⟩:=I.list hq
  have hlen:=r'.length
  refine call_tuple_list pl.isList (fun h' kp=>?_) (by simp only [List.size_toArray] <;> omega)
  have I1:Inv X pins σ H { s with heap:=h' }:=I.kept (t':=s.toks) kp
  have I2:Inv X pins σ (upd H h'.objs.size (.tup ys)) { s with heap:=h'.push { cls:=.type "tuple",data:=.seq its.toArray } }:=
   I1.laid (t':=s.toks) (fun b o e=>Heap.get?_push_of_some _ e) (Nat.le_refl _) (show ObjOk X.prog X.w _ _ _ (.tup ys) from ⟨hz,its,r',IsTup.new _ _⟩)
  exact ⟨.ref h'.objs.size,_,I2,rfl,q _ (I1.hok.fresh (Nat.le_refl _))⟩
 ·obtain ⟨its,r',pl,hz⟩:=I.tuple hq
  exact call_tuple_same pl ⟨.ref p,H,I,rfl,q⟩

def tyV (K:PySem.W.Frag) (T:String) (x:V) (H:Hp) : Prop:=match x with
 | .str _=>T = "str"
 | .int _=>T = "int"
 | .ref p=>(T = "list"∧∃ xs,SqL K H p xs)∨(T = "tuple"∧∃ o,K.lookup p=some o∧o.cls = .type "tuple"∧o.dict=none) ∨
   (T = "dict"∧((∃ kvs,H p=some (.dK kvs))∨∃ kvs,H p=some (.dT kvs)))∨(T = "set"∧∃ S n,H p=some (.set S n))
 | _=>False
theorem tyV_is {pins:List (Addr × Obj)} {σ:St} {H:Hp} {s:Shared} {T:String} {x:V} {v:Value} (I:Inv X pins σ H s) (r:RelV x v) (ty:tyV X.K T x H) :
  s.TypeIs v T∧∀ a,v = .ref a→∃ ob,s.heap.get? a=some ob∧ob.dict=none:=by
 cases x with
 | str z =>
  obtain ⟨t,rfl⟩:=r
  cases (show T = "str" from ty)
  exact ⟨typeIs_str s z t,fun _ e=>nomatch e⟩
 | int i =>
  obtain ⟨t,rfl⟩:=r
  cases (show T = "int" from ty)
  exact ⟨typeIs_int s i t,fun _ e=>nomatch e⟩
 | ref p =>
  cases r
  rcases ty with ⟨rfl,xs,hq⟩ | ⟨rfl,o,hk,hc,hd⟩ | ⟨rfl,hk⟩ | ⟨rfl,S,n,hk⟩
  ·obtain ⟨its,_,pl,_⟩:=I.list hq
   refine ⟨pl.isList.typeIs,fun a e=>?_⟩
   cases e
   obtain ⟨o,n,e,c,hd,_⟩:=pl
   exact ⟨o,e,hd⟩
  ·refine ⟨⟨o,I.kIn p o hk,hc⟩,fun a e=>?_⟩
   cases e
   exact ⟨o,I.kIn _ o hk,hd⟩
  ·have z:∃ o,s.heap.get? p=some o∧o.ExactDict:=by
    rcases hk with ⟨kvs,hk⟩ | ⟨kvs,hk⟩
    ·obtain ⟨_,_,_,_,o,_,_,e,ex,_⟩:=I.hok p _ hk
     exact ⟨o,e,ex⟩
    ·obtain ⟨_,_,_,_,o,_,_,e,ex,_⟩:=I.hok p _ hk
     exact ⟨o,e,ex⟩
   obtain ⟨o,e,ex⟩:=z
   refine ⟨⟨o,e,ex.1⟩,fun a e2=>?_⟩
   cases e2
   exact ⟨o,e,ex.2.1⟩
  ·obtain ⟨o,_,_,_,e,ex,_⟩:=I.hok p _ hk
   refine ⟨⟨o,e,ex.1⟩,fun a e2=>?_⟩
   cases e2
   exact ⟨o,e,ex.2.1⟩
 | _=>exact False.elim ty
def tBM0 (K:PySem.W.Frag) (T:String) (r:V→List V→Hp→VK→Prop) (to:TE) : TE:=fun σ H Q=>to σ H fun x H1=>tyV K T x H1∧r x [] H1 Q
def tBM (K:PySem.W.Frag) (T:String) (r:V→List V→Hp→VK→Prop) (to:TE) (t:TA) : TE:=fun σ H Q=>to σ H fun x H1=>tyV K T x H1∧t σ H1 fun xs H2=>r x xs H2 Q
variable {o e:Expr} {es:List Expr} {to:TE} {t:TA} {name:Str} {apos cpos:Pos} {T id:String} {r:V→List V→Hp→VK→Prop}
theorem pe_bm0 (pa:PlainAttrs T) (slot:Slot T name id) (hty:typeOf (.builtin id)=pure (.type "method_descriptor")) (hm:MtR X id r) (ho:PE X o to)
  (hbase:attributeBase o name X.env (eval o X.env)=eval o X.env:=by rfl) (hline:(apos.endLine == cpos.line)=true:=by rfl) : PE X (.Call (.Attribute o name apos) [] [] cpos) (tBM0 X.K T r to):=by
 intro pins s σ H Q I h
 refine wpAny_Call_method0_late hbase hline (thn (ho pins s σ H _ I h) fun v s1 ⟨x,H1,I1,r1,ty,q1⟩=>?_)
 obtain ⟨h1,h2⟩:=tyV_is I1 r1 ty
 exact ⟨T,id,pa,slot,hty,h1,h2,Calls.callWith_builtin rfl (PySem.evalArgs_none (hm pins s1 σ H1 x [] v [] Q I1 r1 .nil q1))⟩
theorem pe_bm (pa:PlainAttrs T) (slot:Slot T name id) (hty:typeOf (.builtin id)=pure (.type "method_descriptor")) (hm:MtR X id r) (ho:PE X o to) (ha:PA X (e :: es) t)
  (hbase:attributeBase o name X.env (eval o X.env)=eval o X.env:=by rfl)
  (hfew:((backTo cpos (starEach (e :: es) X.env)).all (fun x=>!x.1) && (backToKw cpos (keywordEach [] X.env)).all (fun x=>x.1.isSome)
   && decide ((e :: es).length+([] : List Keyword).length+(if ([] : List Keyword).isEmpty then 0 else 1) < 30))=true:=by rfl)
  (hline:(apos.endLine == cpos.line)=true:=by rfl) (hs:starEach (e :: es) X.env=(false,eval e X.env) :: starEach es X.env:=by rfl) (hplain:(backTo cpos (starEach es X.env)).any (·.1)=false:=by rfl) :
  PE X (.Call (.Attribute o name apos) (e :: es) [] cpos) (tBM X.K T r to t):=by
 intro pins s σ H Q I h
 refine wpAny_Call_method_late hbase hfew hline rfl (thn (ho pins s σ H _ I h) fun v s1 ⟨x,H1,I1,r1,ty,q1⟩=>?_)
 obtain ⟨h1,h2⟩:=tyV_is I1 r1 ty
 refine ⟨T,id,pa,slot,hty,h1,h2,?_⟩
 have hA:=ha cpos pins s1 σ H1 _ I1 q1
 rw [hs] at hA ⊢
 refine Calls.callWith_builtin (by show (false || (backTo cpos (starEach es X.env)).any (·.1))=false; rw [hplain] <;> rfl) (Calls.evalArgs_plain ?_)
 exact thn hA fun us s2 ⟨vs,H2,I2,r2,q2⟩=>hm pins s2 σ H2 x vs v us Q I2 r1 r2 q2
end

def MtM (X:Cx) (id:String) (r:V→List V→Hp→VK→Prop) : Prop:=
 ∀ (pins:List (Addr × Obj)) (s:Shared) (σ:St) (H:Hp) (x:V) (xs:List V) (v:Value) (us:List Value) (Q:VK),Inv X pins σ H s→RelV x v→Vals xs us→r x xs H Q →
  wpAny (model X.prog X.w) X.A (call (.builtin id) (v :: us)) (EP X pins σ Q) X.xe s

theorem Vals.one:∀ {x:V} {us:List Value},Vals [x] us→∃ u,us=[u]∧RelV x u
 | _,_,.cons r .nil=>⟨_,rfl,r⟩
theorem Vals.zero:∀ {us:List Value},Vals [] us→us=[]
 | _,.nil=>rfl
theorem Vals.dropLast {xs:List V} {us:List Value} (h:Vals xs us) : Vals xs.dropLast us.dropLast:=by
 induction h with
 | nil=>exact .nil
 | cons r t ih =>
  cases t with
  | nil=>exact .nil
  | cons q t'=>exact .cons r ih
theorem Vals.rep {xs:List V} {us:List Value} (h:Vals xs us) : ∀ k:Nat,Vals (List.replicate k xs).flatten (List.replicate k us).flatten
 | 0=>.nil
 | k+1=>by
  rw [List.replicate_succ,List.replicate_succ,List.flatten_cons,List.flatten_cons]
  exact Vals.append h (Vals.rep h k)
theorem erase_last {α:Type} (l:List α) : l.eraseIdx (l.length - 1)=l.dropLast:=by
 induction l with
 | nil=>rfl
 | cons a r ih =>
  cases r with
  | nil=>rfl
  | cons b r =>
   have e:(a :: b :: r).length - 1=((b :: r).length - 1)+1:=by
    have h1:(a :: b :: r).length=r.length+2:=rfl
    have h2:(b :: r).length=r.length+1:=rfl
    omega
   rw [e,List.eraseIdx_cons_succ,ih]
   all_goals rfl
theorem foldl_rep (its:List Value) : ∀ (k:Nat) (acc:List Value),
  List.foldl (fun x1 x2=>x1++x2) acc.toArray (List.replicate k its.toArray)=(acc++(List.replicate k its).flatten).toArray
 | 0,acc=>by simp
 | k+1,acc=>by
  have e:acc.toArray++its.toArray=(acc++its).toArray:=by simp
  have e2:(acc++its)++(List.replicate k its).flatten=acc++(List.replicate (k+1) its).flatten:=by
   rw [List.replicate_succ,List.flatten_cons,List.append_assoc]
  rw [← e2,← foldl_rep its k (acc++its),← e,List.replicate_succ,List.foldl_cons]

section
variable {X:Cx} {pins:List (Addr × Obj)} {σ:St} {H:Hp} {s:Shared} {l b:Addr} {xs ys zs:List V}

theorem Inv.lset {its its':List Value} {n:Nat} {f:Array Value→Array Value} {t':Nat} (I:Inv X pins σ H s) (hH:H l=some (.lst xs))
  (e:s.heap.get? l=some { cls:=.type "list",data:=.seq its.toArray n }) (hf:f its.toArray=its'.toArray) (hv:Vals ys its') (hz:ys.length≤sizeLine) :
  Inv X pins σ (upd H l (.lst ys)) { s with heap:=s.heap.update l (Obj.mapSeq f),toks:=t' }:=by
 have q:=PySem.IsL.update e f
 rw [hf] at q
 refine I.write (x:=l) (e:=l) (by rw [hH]; exact trivial) (.inl rfl) (fun b' u hb hu=>(Heap.get?_update_other s.heap (Obj.mapSeq f) (Ne.symm hb)).trans hu) ⟨_,q⟩ ?_
 exact ⟨hz,its',_,hv,q⟩
theorem Inv.lnew {its:List Value} {t':Nat} (I:Inv X pins σ H s) (hv:Vals ys its) (hz:ys.length≤sizeLine) :
  Inv X pins σ (upd H s.heap.objs.size (.lst ys)) { s with heap:=s.heap.push { cls:=.type "list",data:=.seq its.toArray },toks:=t' }:=
 I.laid (fun _ _ q=>Heap.get?_push_of_some _ q) (Nat.le_refl _) ⟨hz,its,0,hv,Heap.get?_push_size _ rfl⟩
theorem Inv.fresh (I:Inv X pins σ H s) : H s.heap.objs.size=none:=I.hok.fresh (Nat.le_refl _)
theorem Inv.lstM (I:Inv X pins σ H s) (hH:H l=some (.lst xs)) : xs.length≤sizeLine∧∃ (its:List Value) (n:Nat),Vals xs its∧xs.length=its.length∧s.heap.get? l=some { cls:=.type "list",data:=.seq its.toArray n }:=by
 obtain ⟨z,its,n,r,e⟩:=I.hok l _ hH
 exact ⟨z,its,n,r,r.length,e⟩

theorem notLongL {n:Nat} (h:n≤sizeLine) : Builtin.List.listTooLong n=false:=by
 unfold Builtin.List.listTooLong
 exact decide_eq_false (by omega)
end

section
variable {X:Cx}

def rAppend:V→List V→Hp→VK→Prop:=fun x vs H Q=>∃ l xs y,x = .ref l∧vs=[y]∧H l=some (.lst xs)∧xs.length < sizeLine∧Q .non (upd H l (.lst (xs++[y])))
theorem mt_append:MtM X "list.append" rAppend:=by
 intro pins s σ H x vs v us Q I rx rv h
 obtain ⟨l,xs,y,rfl,rfl,hH,hz,q⟩:=h
 cases rx
 obtain ⟨u,rfl,ru⟩:=rv.one
 obtain ⟨z,its,n,r,hl,e⟩:=I.lstM hH
 refine call_meets F.slot_list_append ⟨_,e,rfl⟩ F.entry_list_append (F.args_list_append_2 _ _) (PySem.list_append l its.toArray n u (by rw [List.size_toArray]; omega)) ⟨e,?_⟩
 refine ⟨.non,_,I.lset (its':=its++[u]) hH e (by simp) (r.append (.cons ru .nil)) ?_,rfl,q⟩
 rw [List.length_append,List.length_singleton]
 omega

def rExtend:V→List V→Hp→VK→Prop:=fun x vs H Q=>∃ l b xs zs,x = .ref l∧vs=[.ref b]∧H l=some (.lst xs)∧H b=some (.lst zs)∧xs.length+zs.length≤sizeLine∧Q .non (upd H l (.lst (xs++zs)))
theorem mt_extend:MtM X "list.extend" rExtend:=by
 intro pins s σ H x vs v us Q I rx rv h
 obtain ⟨l,b,xs,zs,rfl,rfl,hH,hB,hz,q⟩:=h
 cases rx
 obtain ⟨u,rfl,ru⟩:=rv.one
 cases ru
 obtain ⟨z,its,n,r,hl,e⟩:=I.lstM hH
 obtain ⟨z2,its2,n2,r2,hl2,e2⟩:=I.lstM hB
 have hsz:its.toArray.size+its2.toArray.size≤sizeLine:=by rw [List.size_toArray,List.size_toArray]; omega
 have hlong:¬ (!its.toArray.isEmpty && Builtin.List.listTooLong (its.toArray.size+its2.toArray.size))=true:=by
  rw [notLongL hsz,Bool.and_false]
  exact Bool.false_ne_true
 refine call_meets F.slot_list_extend ⟨_,e,rfl⟩ F.entry_list_extend (F.args_list_extend_2 _ _)
  (AutoSeq1.list_extend_list_list_0 l its.toArray n b its2.toArray n2 hlong (by rw [List.size_toArray]; omega) (by omega)) ⟨e,e2,?_⟩
 refine ⟨.non,_,I.lset (its':=its++its2) hH e (by simp) (r.append r2) ?_,rfl,q⟩
 rw [List.length_append]
 omega

def rPop:V→List V→Hp→VK→Prop:=fun x vs H Q=>∃ l xs y,x = .ref l∧vs=[]∧H l=some (.lst xs)∧xs[xs.length - 1]? = some y∧Q y (upd H l (.lst xs.dropLast))
theorem mt_pop:MtM X "list.pop" rPop:=by
 intro pins s σ H x vs v us Q I rx rv h
 obtain ⟨l,xs,y,rfl,rfl,hH,hy,q⟩:=h
 cases rx
 have hus:=rv.zero
 subst hus
 obtain ⟨z,its,n,r,hl,e⟩:=I.lstM hH
 obtain ⟨u,hu,ru⟩:=r.get hy
 have hy':its.toArray[its.toArray.size - 1]? = some u:=by
  show its.toArray[its.length - 1]? = some u
  rw [← Array.getElem?_toList,← hl]
  exact hu
 refine call_meets F.slot_list_pop ⟨_,e,rfl⟩ F.entry_list_pop (F.args_list_pop_1 _) (MeetsSeq.list_pop_last l its.toArray n u hy' (by rw [List.size_toArray]; omega)) ⟨e,?_⟩
 refine ⟨y,_,I.lset (its':=its.dropLast) hH e ?_ r.dropLast ?_,ru,q⟩
 ·show its.toArray.eraseIdxIfInBounds (its.toArray.size - 1)=its.dropLast.toArray
  rw [List.size_toArray,List.eraseIdxIfInBounds_toArray,erase_last]
 ·rw [List.length_dropLast]
  omega

def rCat:R2:=fun x y H Q=>∃ l b xs zs,x = .ref l∧y = .ref b∧H l=some (.lst xs)∧H b=some (.lst zs)∧xs.length+zs.length≤sizeLine∧∀ p,H p=none→Q (.ref p) (upd H p (.lst (xs++zs)))
theorem op_cat:OpR X (binaryOp .Add) rCat:=by
 intro pins s σ H x y v u Q I rx ry h
 obtain ⟨l,b,xs,zs,rfl,rfl,hH,hB,hz,q⟩:=h
 cases rx
 cases ry
 obtain ⟨z,its,n,r,hl,e⟩:=I.lstM hH
 obtain ⟨z2,its2,n2,r2,hl2,e2⟩:=I.lstM hB
 refine PySem.P.add_list e e2 ?_ (by rw [List.size_toArray,List.size_toArray]; omega)
 have ea:its.toArray++its2.toArray=(its++its2).toArray:=by simp
 rw [ea]
 exact ⟨.ref _,_,I.lnew (t':=s.toks) (r.append r2) (by rw [List.length_append]; omega),rfl,q _ I.fresh⟩
def rRep:R2:=fun x y H Q=>∃ l k xs,x = .ref l∧y = .int k∧H l=some (.lst xs)∧-(2 ^ 63)≤k∧k < 2 ^ 63∧xs.length * k.toNat≤sizeLine ∧
 ∀ p,H p=none→Q (.ref p) (upd H p (.lst (List.replicate k.toNat xs).flatten))
theorem len_rep {α:Type} (xs:List α) (k:Nat) : (List.replicate k xs).flatten.length=k * xs.length:=by
 induction k with
 | zero=>simp
 | succ k ih=>rw [List.replicate_succ,List.flatten_cons,List.length_append,ih,Nat.succ_mul,Nat.add_comm]
theorem op_rep:OpR X (binaryOp .Mult) rRep:=by
 intro pins s σ H x y v u Q I rx ry h
 obtain ⟨l,k,xs,rfl,rfl,hH,h1,h2,hz,q⟩:=h
 cases rx
 obtain ⟨t,rfl⟩:=ry
 obtain ⟨z,its,n,r,hl,e⟩:=I.lstM hH
 have hlen:its.toArray.size * k.toNat≤sizeLine:=by rw [List.size_toArray,← hl]; exact hz
 have hcap:¬ its.toArray.size * k.toNat > (2 ^ 63 - 1) / 8:=by
  have:(sizeLine:Nat)≤(2 ^ 63 - 1) / 8:=by decide
  omega
 have hfit:¬ (!Builtin.List.listFitsIndex k)=true:=by
  rw [fitsIndex_both h1 h2]
  exact Bool.false_ne_true
 have hlong:¬ Builtin.List.listTooLong (its.toArray.size * k.toNat)=true:=by
  rw [notLongL hlen]
  exact Bool.false_ne_true
 have hnew:List.foldl (fun x1 x2=>x1++x2) #[] (List.replicate (if its.toArray.isEmpty=true then 0 else k.toNat) its.toArray)=(List.replicate k.toNat its).flatten.toArray:=by
  have f0:∀ m:Nat,List.foldl (fun x1 x2=>x1++x2) #[] (List.replicate m its.toArray)=(List.replicate m its).flatten.toArray:=fun m=>by
   have:=foldl_rep its m []
   rw [List.nil_append] at this
   exact this
  rw [f0]
  cases its with
  | nil=>simp
  | cons a r'=>rw [if_neg (by simp)]
 refine wpAny_binaryOp_repeat_ref (T := "list") (U := "int") (by decide) ⟨_,e,rfl⟩ (fun s'=>typeIs_int s' k t) noFill_list_mul F.fills_int_mul F.slot_int_rmul repeat_list F.slot_int_index.lookup
  (call_meets F.slot_int_rmul (typeIs_int s k t) F.entry_int_rmul (F.args_int_rmul_2 _ _) (int___rmul___int_list k t l its.toArray n)
   ⟨e,rfl,⟨_,e,rfl⟩,call_meets F.slot_list_mul ⟨_,e,rfl⟩ F.entry_list_mul (F.args_list_mul_2 _ _) (AutoListH.list___mul___list_int_3 l its.toArray n k t hfit hcap hlong) ⟨e,?_⟩⟩)
 rw [hnew]
 exact ⟨.ref _,_,I.lnew (t':=s.toks) (r.rep k.toNat) (by rw [len_rep,Nat.mul_comm]; exact hz),rfl,q _ I.fresh⟩

end

section
variable {prog:Program} {w:World} {A:Around} {E:Value→Shared→Prop} {s:Shared}
end

section
variable {X:Cx}
end

section
variable {κ:Type} [DecidableEq κ]
def valV (kvs:List (κ × V)) (k:κ) : Option V:=(kvs.find? fun kv=>decide (kv.1=k)).map (·.2)
def putK (kvs:List (κ × V)) (k:κ) (v:V) : List (κ × V):=
 if (kvs.any fun kv=>decide (kv.1=k))=true then kvs.map (fun kv=>if kv.1=k then (kv.1,v) else kv) else kvs++[(k,v)]
theorem valV_pos {p:κ × V} {r:List (κ × V)} {k:κ} (e:p.1=k) : valV (p :: r) k=some p.2:=by simp [valV,List.find?_cons,e]
theorem valV_neg {p:κ × V} {r:List (κ × V)} {k:κ} (e:¬ p.1=k) : valV (p :: r) k=valV r k:=by simp [valV,List.find?_cons,e]
theorem valV_any (k:κ) : ∀ kvs:List (κ × V),(kvs.any fun kv=>decide (kv.1=k))=(valV kvs k).isSome
 | []=>rfl
 | p :: r=>by
  rw [List.any_cons]
  by_cases e:p.1=k
  ·simp only [valV_pos e,decide_eq_true e,Bool.true_or,Option.isSome_some]
  ·rw [valV_neg e,decide_eq_false e,Bool.false_or]; exact valV_any k r
theorem valV_map (k j:κ) (y:V) : ∀ kvs:List (κ × V),valV (kvs.map fun kv=>if kv.1=k then (kv.1,y) else kv) j=(valV kvs j).map fun x=>if j=k then y else x
 | []=>rfl
 | p :: r=>by
  have ih:=valV_map k j y r
  rw [List.map_cons]
  by_cases h:p.1=k
  ·rw [if_pos h]
   by_cases e:p.1=j
   ·rw [valV_pos (p:=(p.1,y)) e,valV_pos e,Option.map_some,if_pos (e.symm.trans h)]
   ·rw [valV_neg (p:=(p.1,y)) e,valV_neg e,ih]
  ·rw [if_neg h]
   by_cases e:p.1=j
   ·rw [valV_pos (p:=p) e,valV_pos e,Option.map_some,if_neg (fun z=>h (e.trans z))]
   ·rw [valV_neg (p:=p) e,valV_neg e,ih]
theorem valV_snoc (k j:κ) (y:V) : ∀ kvs:List (κ × V),valV kvs k=none→valV (kvs++[(k,y)]) j=if j=k then some y else valV kvs j
 | [],_=>by
  by_cases e:k=j
  ·rw [if_pos e.symm]; exact valV_pos (p:=(k,y)) e
  ·rw [if_neg (fun z=>e z.symm)]; exact valV_neg (p:=(k,y)) e
 | p :: r,hn=>by
  rw [List.cons_append]
  have hk:¬ p.1=k:=fun z=>by rw [valV_pos z] at hn; cases hn
  rw [valV_neg hk] at hn
  have ih:=valV_snoc k j y r hn
  by_cases e:p.1=j
  ·rw [valV_pos e,valV_pos e,if_neg (fun z=>hk (e.trans z))]
  ·rw [valV_neg e,valV_neg e,ih]
theorem valV_put (kvs:List (κ × V)) (k j:κ) (y:V) : valV (putK kvs k y) j=if j=k then some y else valV kvs j:=by
 unfold putK
 by_cases a:(kvs.any fun kv=>decide (kv.1=k))=true
 ·rw [if_pos a,valV_map]
  rw [valV_any] at a
  by_cases e:j=k
  ·obtain ⟨x,hx⟩:=Option.isSome_iff_exists.mp a
   rw [if_pos e,e,hx,Option.map_some,if_pos rfl]
  ·rw [if_neg e]
   cases valV kvs j with
   | none=>rfl
   | some x=>rw [Option.map_some,if_neg e]
 ·rw [if_neg a]
  refine valV_snoc k j y kvs ?_
  rw [valV_any] at a
  cases q:valV kvs k with
  | none=>rfl
  | some x=>rw [q] at a; exact (a rfl).elim
theorem length_putK (kvs:List (κ × V)) (k:κ) (v:V) : (putK kvs k v).length≤kvs.length+1:=by
 unfold putK
 split
 ·rw [List.length_map]; omega
 ·rw [List.length_append,List.length_cons,List.length_nil]; omega
theorem KV.val {kvs:List (κ × V)} {vs:List (κ × Value)} (r:KV kvs vs) (k:κ) : RelO (valV kvs k) (valueAt vs k):=by
 unfold KV at r
 induction r with
 | nil=>exact True.intro
 | @cons p q ps qs h t ih =>
  obtain ⟨h1,h2⟩:=h
  by_cases e:p.1=k
  ·have e':q.1=k:=h1.symm.trans e
   have b:valueAt (q :: qs) k=some q.2:=by simp [valueAt,List.find?_cons,e']
   rw [valV_pos e,b]; exact h2
  ·have e':¬ q.1=k:=fun z=>e (h1.trans z)
   have b:valueAt (q :: qs) k=valueAt qs k:=by simp [valueAt,List.find?_cons,e']
   rw [valV_neg e,b]; exact ih
theorem KV.any {kvs:List (κ × V)} {vs:List (κ × Value)} (r:KV kvs vs) (k:κ) : (kvs.any fun kv=>decide (kv.1=k))=vs.any fun kv=>decide (kv.1=k):=by
 unfold KV at r
 induction r with
 | nil=>rfl
 | cons h t ih=>rw [List.any_cons,List.any_cons,ih,h.1]
theorem KV.repl {kvs:List (κ × V)} {vs:List (κ × Value)} (r:KV kvs vs) (k:κ) {y:V} {u:Value} (ry:RelV y u) :
  KV (kvs.map fun kv=>if kv.1=k then (kv.1,y) else kv) (vs.map fun kv=>if kv.1=k then (kv.1,u) else kv):=by
 unfold KV at r ⊢
 induction r with
 | nil=>exact .nil
 | @cons p q ps qs h t ih =>
  rw [List.map_cons,List.map_cons]
  refine .cons ?_ ih
  obtain ⟨h1,h2⟩:=h
  by_cases e:p.1=k
  ·rw [if_pos e,if_pos (h1.symm.trans e)]; exact ⟨h1,ry⟩
  ·rw [if_neg e,if_neg (fun z=>e (h1.trans z))]; exact ⟨h1,h2⟩
theorem KV.put {kvs:List (κ × V)} {vs:List (κ × Value)} (r:KV kvs vs) (k:κ) {y:V} {u:Value} (ry:RelV y u) : KV (putK kvs k y) (stored vs k u):=by
 unfold putK stored
 rw [r.any k]
 by_cases e:(vs.any fun kv=>decide (kv.1=k))=true
 ·rw [if_pos e,if_pos e]; exact r.repl k ry
 ·rw [if_neg e,if_neg e]; exact Paired.snoc r ⟨rfl,ry⟩
end


theorem kV_is {P:Program} {w:World} {k:Key} {u:Value} (r:RelV (kV k) u) : (mixKind P w).is k u=true:=by
 cases k with
 | inl i=>obtain ⟨t,e⟩:=(show ∃ t,u=Value.int i t from r); subst e; exact mixKind_int P w i t
 | inr x=>obtain ⟨t,e⟩:=(show ∃ t,u=Value.str x t from r); subst e; exact mixKind_str P w x t
theorem items_are {P:Program} {w:World} : ∀ {ks:List Key} {us:List Value},Vals (ks.map kV) us→ItemsAre (mixKind P w) ks us
 | [],_,r=>by rw [List.map_nil] at r; cases r; exact .nil
 | k :: ks,_,r=>by
  rw [List.map_cons] at r
  cases r with
  | cons h t=>exact .cons (kV_is h) (items_are t)

abbrev KT (H:Hp) : List (List Key × V)→List (List Key × Addr × Value)→Prop:=Paired fun p q=>p.1=q.1∧H q.2.1=some (.tup (p.1.map kV))∧RelV p.2 q.2.2
theorem KT.val {H:Hp} {kvs:List (List Key × V)} {xs:List (List Key × Addr × Value)} (r:KT H kvs xs) (k:List Key) : RelO (valV kvs k) ((atKey xs k).map (·.2)):=by
 induction r with
 | nil=>exact True.intro
 | @cons p q ps qs h t ih =>
  obtain ⟨h1,_,h2⟩:=h
  by_cases e:p.1=k
  ·have e':q.1=k:=h1.symm.trans e
   have b:atKey (q :: qs) k=some q.2:=by simp [atKey,List.find?_cons,e']
   rw [valV_pos e,b]; exact h2
  ·have e':¬ q.1=k:=fun z=>e (h1.trans z)
   have b:atKey (q :: qs) k=atKey qs k:=by simp [atKey,List.find?_cons,e']
   rw [valV_neg e,b]; exact ih
section
variable {P:Program} {w:World} {H:Hp} {h:Heap} {a:Addr}
theorem rd_of {u:HO} (ok:HOk P w H h) (e:Rd H a u) : ObjOk P w H h a u:=e.ok ok
theorem dk_rd {kvs:List (Key × V)} (ok:HOk P w H h) (e:Rd H a (.dK kvs)) : kvs.length≤sizeLine∧(a == sysModules)=false∧∃ vs,KV kvs vs∧h.DictOf (mixKind P w) a vs:=
 show ObjOk P w H h a (.dK kvs) from rd_of ok e
theorem key_of {ks:List Key} (ok:HOk P w H h) (e:H a=some (.tup (ks.map kV))) : (tupleKind (mixKind P w)).is h ks a:=by
 obtain ⟨_,its,r,o,h1,h2,n,h3⟩:=(show ObjOk P w H h a (.tup (ks.map kV)) from ok a _ e)
 exact ⟨o,its.toArray,n,h1,h2,h3,by simpa using items_are r⟩
theorem dt_rd {kvs:List (List Key × V)} (ok:HOk P w H h) (e:Rd H a (.dT kvs)) : kvs.length≤sizeLine∧(a == sysModules)=false ∧
  ∃ xs,KT H kvs xs∧h.DictOfH (tupleKind (mixKind P w)) a xs:=by
 obtain ⟨z,y,xs,r,o,es,ep,h1,h2,h3,h4,h5⟩:=(show ObjOk P w H h a (.dT kvs) from rd_of ok e)
 refine ⟨z,y,xs,r,o,es,ep,h1,h2,h3,h4,fun x hx=>?_,h5⟩
 have all:∀ {l:List (List Key × V)} {m:List (List Key × Addr × Value)},KT H l m→∀ x ∈ m,(tupleKind (mixKind P w)).is h x.1 x.2.1:=by
  intro l m q
  induction q with
  | nil=>intro x hx; exact nomatch hx
  | @cons p q ps qs hq t ih =>
   intro x hx
   rcases List.mem_cons.mp hx with e | hx
   ·subst e
    exact key_of ok (by rw [← hq.1]; exact hq.2.1)
   ·exact ih x hx
 exact all r x hx
end

def DGet (H:Hp) (a:Addr) (y:V) (r:Option V) : Prop:=
 (∃ kvs k,Rd H a (.dK kvs)∧y=kV k∧r=valV kvs k)∨∃ kvs k b,Rd H a (.dT kvs)∧y = .ref b∧H b=some (.tup (k.map kV))∧r=valV kvs k
section
variable {X:Cx} {pins:List (Addr × Obj)} {σ:St} {H:Hp} {s:Shared} {a:Addr} {y v:V} {u r:Value} {o:Option V} {A:Around} {E:Value→Shared→Prop}

theorem Inv.big (I:Inv X pins σ H s) : sysModules < s.heap.objs.size:=by
 have h:mainGlobals < s.heap.objs.size:=(I.mod.glob.keeps I.bk).lt
 exact Nat.lt_trans (by decide) h

theorem d_getItem {Q:Value→Shared→Prop} (hu:A.units+1 < cLine) (I:Inv X pins σ H s) (g:DGet H a y (some v)) (ry:RelV y u) (h:∀ w' s',Inv X pins σ H s'→RelV v w'→Q w' s') :
  wpAny (model X.prog X.w) A (getItem (.ref a) u) Q E s:=by
 rcases g with ⟨kvs,k,e,ey,l⟩ | ⟨kvs,k,b,e,ey,eb,l⟩
 ·subst ey
  obtain ⟨z,hd,vs,rel,dd⟩:=dk_rd I.hok e
  obtain ⟨w',hw,rw'⟩:=RelO.some_of (v:=v) (o:=valueAt vs k) (by rw [l]; exact rel.val k)
  exact wpAny_getItem_of (kV_is ry) dd.mapOf hw (h w' _ (I.tok _) rw')
 ·subst ey
  cases (show u=Value.ref b from ry)
  obtain ⟨z,hd,xs,rel,dd⟩:=dt_rd I.hok e
  obtain ⟨w',hw,rw'⟩:=RelO.some_of (v:=v) (o:=(atKey xs k).map (·.2)) (by rw [l]; exact rel.val k)
  obtain ⟨p,hp,hp2⟩:=Option.map_eq_some_iff.mp hw
  refine wpAny_getItem_heap (tupleKind_room_in1 hu) (key_of I.hok eb) dd hp ?_
  rw [hp2]
  exact h w' _ (I.tok _) rw'
theorem dk_new {P:Program} {w:World} {H':Hp} {h':Heap} {kvs:List (Key × V)} {vs:List (Key × Value)} (z:kvs.length≤sizeLine) (hd:(a == sysModules)=false) (rel:KV kvs vs) (dd:h'.DictOf (mixKind P w) a vs) :
  ObjOk P w H' h' a (.dK kvs):=⟨z,hd,vs,rel,dd⟩
end

section
variable {X:Cx} {pins:List (Addr × Obj)} {σ:St} {H:Hp} {s:Shared} {a:Addr} {kvs:List (Key × V)} {k:Key} {u:Value} {A:Around} {E:Value→Shared→Prop}
end


def NoSl (i:Expr) : Prop:=∀ ov iv,subscripted i false ov iv=operate [ov,iv] (getItem ov iv)
theorem subD_of {prog:Program} {w:World} {A:Around} {E:Value→Shared→Prop} {s:Shared} {env:Env} {value slice:Expr} {pos:Pos} {T id:String} {Q:Value→Shared→Prop}
  (hl:typeLookup (.type T) "__getitem__" = pure (some (.builtin id))) (hs:NoSl slice)
  (h:wpAny (model prog w) A (eval value env) (fun o s₁=>wpAny (model prog w) A (eval slice env) (fun i s₂=>s₂.TypeIs o T∧wpAny (model prog w) A (getItem o i) Q E s₂) E s₁) E s) :
  wpAny (model prog w) A (eval (.Subscript value slice pos) env) Q E s:=by
 refine Subscript_ (wpAny_mono h (fun o s₁ h₁=>wpAny_mono h₁ (fun i s₂ h₂=>?_) fun _ _ x=>x) fun _ _ x=>x)
 obtain ⟨hT,h₂⟩:=h₂
 unfold subscriptTail
 refine wpAny_bind ?_
 rw [getitemInPython_of_ne hT.not_modules]
 refine wpAny_bind (wpAny_specialOf hT hl ?_)
 have fin:wpAny (model prog w) A (subscripted slice false o i) (fun r s₃=>wpAny (model prog w) A (letTemporaryGo value o r >>= fun _=>pure r) Q E s₃) E s₂:=by
  rw [hs o i]
  exact wpAny_operating (wpAny_mono h₂ (fun r s₃ h₃=>wpAny_bind (wpAny_letTemporaryGo (wpAny_pure h₃))) fun _ _ x=>x)
 first
  | exact wpAny_pure (wpAny_bind fin)
  | exact wpAny_bind (wpAny_pure (wpAny_bind fin))
  | exact wpAny_bind fin

theorem dict_typeIs {X:Cx} {pins:List (Addr × Obj)} {σ:St} {H:Hp} {s:Shared} {a:Addr} {y:V} {o:Option V} (I:Inv X pins σ H s) (g:DGet H a y o) : s.TypeIs (.ref a) "dict":=by
 rcases g with ⟨kvs,k,e,_,_⟩ | ⟨kvs,k,b,e,_,_,_⟩
 ·obtain ⟨_,_,vs,_,dd⟩:=dk_rd I.hok e
  exact dd.typeIs
 ·obtain ⟨_,_,xs,_,dd⟩:=dt_rd I.hok e
  exact dd.typeIs
def tDGet (td ty:TE) : TE:=fun σ H Q=>td σ H fun x H1=>ty σ H1 fun y H2=>∃ a v,x = .ref a∧DGet H2 a y (some v)∧Q v H2
section
variable {X:Cx} {o i e value:Expr} {pos pos' tpos:Pos} {td ty tv:TE}
theorem pe_dget (hu:X.A.units+1 < cLine) (ho:PE X o td) (hi:PE X i ty) (hs:NoSl i) : PE X (.Subscript o i pos) (tDGet td ty):=by
 intro pins s σ H Q I h
 refine subD_of PySem.F.slot_dict_getitem.lookup hs (thn (ho pins s σ H _ I h) fun u s1 ⟨x,H1,I1,rx,q1⟩=>thn (hi pins s1 σ H1 _ I1 q1) fun iv s2 ⟨y,H2,I2,ry,a,v,ex,g,q2⟩=>?_)
 subst ex
 obtain rfl:u=Value.ref a:=rx
 exact ⟨dict_typeIs I2 g,d_getItem hu I2 g ry fun w' s3 I3 rw'=>⟨v,H2,I3,rw',q2⟩⟩
end


section
variable {X:Cx} {pos:Pos}
end

structure M2 (X:Cx) (o:Expr) (m:Str) (apos:Pos) (e f:Expr) (cpos:Pos) : Prop where
 base:attributeBase o m X.env (eval o X.env)=eval o X.env
 few:((backTo cpos (starEach [e,f] X.env)).all (fun x=>!x.1) && (backToKw cpos (keywordEach [] X.env)).all (fun x=>x.1.isSome)
  && decide (([e,f] : List Expr).length+([] : List Keyword).length+(if ([] : List Keyword).isEmpty then 0 else 1) < 30))=true
 line:(apos.endLine == cpos.line)=true
 trees:backTo cpos (starEach [e,f] X.env)=[(false,eval e X.env),(false,eval f X.env)]

section
variable {X:Cx} {pins:List (Addr × Obj)} {σ:St} {H:Hp} {s:Shared} {a:Addr} {y d:V} {u r:Value} {o:Option V} {A:Around} {E:Value→Shared→Prop}
end

section
variable {X:Cx} {o e f:Expr} {apos cpos:Pos} {td ty tx:TE}
end

section
variable {X:Cx} {pins:List (Addr × Obj)} {σ:St} {H:Hp} {s:Shared} {a:Addr} {kvs:List (Key × V)} {A:Around} {E:Value→Shared→Prop}
end


section
variable {X:Cx} {pins:List (Addr × Obj)} {σ:St} {H:Hp} {s:Shared} {a:Addr} {y:V} {u:Value} {A:Around} {E:Value→Shared→Prop}
end
end L2

namespace Att
open PySem PySem.W PySem.Calls PyProof.Rows

theorem ints_of_wellAll {P:Params} {h:Heap} : ∀ (ns:List Int) (vs:List Value),WellAll P h vs (ns.map WData.int)→IntsAre vs ns:=by
 intro ns
 induction ns with
 | nil =>
  intro vs w
  rw [List.map_nil] at w
  cases w
  exact .nil
 | cons n ns ih =>
  intro vs w
  rw [List.map_cons] at w
  cases w with
  | cons a b =>
   cases a
   exact .cons _ _ (ih _ b)

theorem script_of {l:OpenLaw} {n:Nat} (hn:l.most=some n) {P:Params} {h:Heap} {args:List WData} {vals:List Value}
  (hpre:l.row.toRowW.claim.pre args=true) (hwl:WellAll P h vals args) :
  ∃ a vs ns,vals=[Value.ref a]∧args=[WData.list (ns.map WData.int)]∧h.get? a=some { cls:=.type "list",data:=.seq vs.toArray }∧IntsAre vs ns∧ns.length≤n:=by
 have hsh:WShape.hasAll [] args [.list .int]=true:=(pre_splitW hpre).1
 have hc:l.pre.holds [] { args:=args }=true:=(pre_splitW hpre).2
 obtain ⟨d,r,rfl,h1,h2⟩:=hasAllW_cons hsh
 obtain rfl:=hasAllW_nil h2
 obtain ⟨xs,rfl,h3⟩:=hasW_list h1
 obtain ⟨ns,rfl⟩:=items_int h3
 have hlen:ns.length≤n:=by
  unfold OpenLaw.pre at hc
  have h4:(WTm.not (.lt (.lit (.int (n:Int))) (.len (.arg 0)))).holds [] { args:=[.list (ns.map .int)] }=true:=by
   have h4:=(holds_andW hc).1
   rw [hn] at h4
   exact h4
  have h5:=condW_of h4 (w_not (w_lt w_lit (w_len_list (w_arg rfl))))
  rw [List.length_map] at h5
  refine Nat.le_of_not_lt fun q=>?_
  have q':(n:Int) < ((ns.length:Nat) : Int):=by omega
  first
   | (rw [decide_eq_true q'] at h5; exact absurd h5 (by decide))
   | (simp at h5; omega)
 cases hwl with
 | cons w1 w2 =>
  cases w2
  cases w1 with
  | list ho hall=>exact ⟨_,_,ns,rfl,rfl,ho,ints_of_wellAll ns _ hall,hlen⟩

theorem post_true (l:OpenLaw) (args:List WData) : l.row.toRowW.claim.post args (.bool true) args=true:=
 postW_of (r:=l.row.toRowW) (X:=(true == true))
  (show WShape.has [] (.bool true) .bool=true by first | rfl | decide | simp [WShape.has,WShape.arms,WShape.armsAll])
  (show (WTm.eq .res (.lit (.bool true))).value [] { args:=args,res:=some (.bool true),after:=args }=some (.bool (true == true)) from w_eq_bool (w_res rfl) w_lit) rfl

theorem attach_call {l:OpenLaw} {n:Nat} {q:Program} {loose:List Str} {XP:(Str→Option Value)→Heap→Prop} {YP:World→Heap→Prop} {d:DefRec}
  (hn:l.most=some n) (hdf:d.params.defaults=[])
  (call:∀ (w:World) (s₀ s₁:Shared) (mg mb:Str→Option Value) (fa:Addr) (o:Obj) (pm cd doc:Value) (a:Addr) (vs:List Value) (ns:List Int),
   Ground q loose [] XP w s₀ mg mb s₁.heap→YP w s₁.heap →
   s₁.heap.get? fa=some o→o.data = .func (docDef d.name d.params d.body d.scope pm cd doc)→s₁.heap.CodeRec cd d.name→mg d.name=some (.ref fa) →
   s₁.heap.get? a=some { cls:=.type "list",data:=.seq vs.toArray }→IntsAre vs ns→ns.length≤n→s₁.gens = #[] →
   codeAny (model l.prog w) callerA (.call (.ref fa) ⟨[.ref a],[]⟩) (fun r s'=>r = .ok (.ret (.bool true))∧OldK s₁.heap s'.heap∧s'.os=s₁.os∧AllBare s'.gens) s₁) :
  WalkO q loose XP YP l.row.toRowW d [] (fun f vs=>PySem.call f vs):=by
 intro w s₀ s₁ mg mb G Y fa o pm cd doc dV kV ho hd hcd hD hmg hg args vals as hpre hlay hrd hwl hlo
 obtain rfl:dV = .none:=Dflts.none hD hdf
 obtain rfl:kV = .none:=Dflts.noKw hD
 obtain ⟨a,vs,ns,rfl,rfl,hobj,hints,hlen⟩:=script_of hn hpre hwl
 refine enter_call (codeAny_mono (call w s₀ s₁ mg mb fa o pm cd doc a vs ns G Y ho (fd_plain hd) hcd hmg hobj hints hlen hg) fun r s' hq=>?_)
 obtain ⟨rfl,h2,h3,h4⟩:=hq
 exact ⟨.inl ⟨.bool true,.bool true,[],rfl,fun _=>rfl,.bool true,post_true l _,fun _=>⟨List.Pairwise.nil,fun _ hm=>(nomatch hm)⟩⟩,h2,h3,h4⟩

section
variable {prog:Program} {w:World} {A:Around} {E:Value→Shared→Prop} {s:Shared} {K:Frag}

end
end Att

namespace L2
open PySem PySem.Spec PyProof.Rows

theorem vals_ints:∀ {vs:List Value} {ns:List Int},IntsAre vs ns→Vals (ns.map V.int) vs
 | _,_,.nil=>.nil
 | _,_,.cons n t h=>.cons ⟨t,rfl⟩ (vals_ints h)

def Only (H:Hp) : Prop:=∀ b,H b=none∨∃ o xs,H b=some (.frz o (.lst xs))

theorem law_call {P:Program} {w:World} {K:PySem.W.Frag} {mg mb:Str→Option Value} {CX:CXT} {k:Nat} {fa a:Addr} {fd:FuncData} {x:Str} {sp:Sp} {s₁:Shared} {vs:List Value} {ns:List Int}
  (KX:K.In s₁.heap) (hns:s₁.heap.Ns mainGlobals mg) (hb:s₁.heap.Ns builtinsNs mb) (hbb:∀ x:Str,x≠"__name__"→mb x=bootBuiltins x) (hlim:s₁.heap.NoLimit) (hg:s₁.gens = #[])
  (ha:s₁.heap.get? a=some { cls:=.type "list",data:=.seq vs.toArray }) (hi:IntsAre vs ns) (hl:ns.length≤sizeLine) (hr:Room k callerA)
  (F:∀ base:Heap,K.In base→base.Ns mainGlobals mg→FnOk P w K mg base CX k fa fd [x] sp) (hbind:∀ (s:Shared) (u:Value),BindsTo s fd ⟨[u],[]⟩ [(x,u)])
  (hsp:∀ H:Hp,Only H→SqL K H a (ns.map V.int)→sp [.ref a] H (fun v _=>v = .bl true) fun _ _ _=>False)
  (hCX:∀ H e s',CX [] H s₁ (fun _ _ _=>False) e s'→False) :
  codeAny (model P w) callerA (.call (.ref fa) ⟨[.ref a],[]⟩) (fun r s'=>r = .ok (.ret (.bool true))∧OldK s₁.heap s'.heap∧s'.os=s₁.os∧AllBare s'.gens) s₁:=by
 have rv:=vals_ints hi
 have lenV:=hi.length
 -- from an abstract heap in which nothing but the script may be tracked
 have core:∀ H:Hp,Only H→SqL K H a (ns.map V.int)→HOk P w H s₁.heap→(∀ b,H b≠none→b=a)→(H a≠none→K.lookup a=none) →
   codeAny (model P w) callerA (.call (.ref fa) ⟨[.ref a],[]⟩) (fun r s'=>r = .ok (.ret (.bool true))∧OldK s₁.heap s'.heap∧s'.os=s₁.os∧AllBare s'.gens) s₁:=by
  intro H hO hS hok hA hK
  have base_of:∀ {b:Addr} {o:Obj},s₁.heap.get? b=some o→H b=none→(hidT s₁.heap H).get? b=some o:=fun e n=>hidT_get e n
  have noA:∀ {b:Addr} {o:Obj} {es:Array DictEntry} {ep:Nat},s₁.heap.get? b=some o→o.data = .dict es ep→H b=none:=fun {b o es ep} e d=>by
   cases q:H b with
   | none=>rfl
   | some u =>
    have e':b=a:=hA b (by rw [q]; simp)
    subst e'
    rw [ha] at e; cases e
    have d':Data.seq vs.toArray _=Data.dict es ep:=d
    cases d'
  have nsK:∀ {b:Addr} {m:Str→Option Value},s₁.heap.Ns b m→(hidT s₁.heap H).Ns b m:=fun {b m} ⟨o,es,ep,e,d,r⟩=>⟨o,es,ep,base_of e (noA e d),d,r⟩
  have hKb:K.In (hidT s₁.heap H):=fun b o e=>base_of (KX b o e) (by
   cases q:H b with
   | none=>rfl
   | some u =>
    have e':b=a:=hA b (by rw [q]; simp)
    subst e'
    rw [hK (by rw [q]; simp)] at e; cases e)
  have hM:Mod K mg (hidT s₁.heap H):=⟨hKb,nsK hns,⟨mb,nsK hb,hbb⟩,let ⟨mc,h1,h2⟩:=hlim; ⟨mc,nsK h1,h2⟩⟩
  have e0:Env0 P w K mg (hidT s₁.heap H) callerA [] s₁ H:=⟨rfl,hM,fun b o e=>of_hidT e,Nat.le_of_eq (hidT_size _ _),trivial,fun b hb=>absurd (show b ∈ ([] : List Addr) from hb) (by simp),hok,.of_eq hg⟩
  refine codeAny_mono ((F _ hKb (nsK hns)).run callerA [] s₁ H ⟨[.ref a],[]⟩ [.ref a] [.ref a] _ _ hr e0 (hbind s₁ (.ref a)) (.cons rfl .nil) (hsp H hO hS)) fun r s' h=>?_
  cases r with
  | error e=>exact (hCX H e s' h).elim
  | ok fl =>
   cases fl with
   | next=>exact False.elim h
   | brk=>exact False.elim h
   | cont=>exact False.elim h
   | ret u =>
    obtain ⟨v,H',os,bare,un,hok',r',q⟩:=h
    have q':v = .bl true:=q
    subst q'
    obtain rfl:u=Value.bool true:=r'
    refine ⟨rfl,OldK.of_keep fun b o e=>?_,os,bare⟩
    cases q:H b with
    | none=>exact un.keep b o e q (by intro z; exact absurd (show b ∈ ([] : List Addr) from z) (by simp)) (by simp)
    | some u =>
     rcases hO b with z | ⟨ob,xs,z⟩
     ·rw [q] at z; cases z
     ·have z2:=un.frzs b ob _ z
      obtain ⟨e1,_⟩:=hok b _ z
      obtain ⟨e2,_⟩:=hok' b _ z2
      rw [e] at e1; cases e1
      exact e2
 cases hk:K.lookup a with
 | some o =>
  -- the script is one of the module's own objects
  have e:=KX a o hk
  rw [ha] at e
  cases e
  refine core (fun _=>none) (fun _=>.inl rfl) (.inr ⟨_,vs.toArray,_,hk,rfl,rfl,rfl,by rw [List.size_toArray,lenV]; exact hl,by simpa using rv⟩) (fun b u z=>by have z':(none:Option HO)=some u:=z; cases z') (fun b z=>absurd rfl z) fun z=>absurd rfl z
 | none =>
  refine core (fun b=>if b=a then some (.frz { cls:=.type "list",data:=.seq vs.toArray } (.lst (ns.map V.int))) else none) (fun b=>?_) (.inl (.inr ⟨{ cls:=.type "list",data:=.seq vs.toArray },if_pos rfl⟩)) (fun b u z=>?_) (fun b z=>?_) fun _=>hk
  ·by_cases hb:b=a
   ·exact .inr ⟨_,_,if_pos hb⟩
   ·exact .inl (if_neg hb)
  ·by_cases hb:b=a
   ·have z':=(if_pos hb).symm.trans z
    cases z'
    subst hb
    exact ⟨ha,by rw [List.length_map]; exact hl,vs,_,rv,ha⟩
   ·have z':=(if_neg hb).symm.trans z
    cases z'
  ·by_cases hb:b=a
   ·exact hb
   ·exact absurd (if_neg hb) z

theorem walk_of {l:PySem.W.OpenLaw} {n k:Nat} {q:Program} {loose:List Str} {XP:(Str→Option Value)→Heap→Prop} {YP:World→Heap→Prop} {d:DefRec} {K:Params→PySem.W.Frag} {CX:World→CXT} {sp:World→Sp} {x:Str}
  (hn:l.most=some n) (hn2:n≤sizeLine) (hdf:d.params.defaults=[]) (hr:Room k callerA)
  (hY:∀ (w:World) (h:Heap),YP w h→(K w.params).In h)
  (F:∀ (w:World) (mg:Str→Option Value) (fa:Addr) (h:Heap),(K w.params).In h→h.Ns mainGlobals mg→mg d.name=some (.ref fa) →
   ∃ fd:FuncData,(∀ (s:Shared) (u:Value),BindsTo s fd ⟨[u],[]⟩ [(x,u)]) ∧
    ∀ base:Heap,(K w.params).In base→base.Ns mainGlobals mg→FnOk l.prog w (K w.params) mg base (CX w) k fa fd [x] (sp w))
  (hsp:∀ (w:World) (H:Hp) (a:Addr) (ns:List Int),ns.length≤n→Only H→SqL (K w.params) H a (ns.map V.int)→sp w [.ref a] H (fun v _=>v = .bl true) fun _ _ _=>False)
  (hCX:∀ (w:World) (H:Hp) (s:Shared) (e:Value) (s':Shared),CX w [] H s (fun _ _ _=>False) e s'→False) :
  PySem.W.WalkO q loose XP YP l.row.toRowW d [] (fun f vs=>PySem.call f vs):=by
 refine Att.attach_call hn hdf fun w s₀ s₁ mg mb fa o pm cd doc a vs ns G Y ho hd hcd hmg hobj hints hlen hg=>?_
 have KX:=hY w _ Y
 obtain ⟨fd,hb,hF⟩:=F w mg fa _ KX G.T.g hmg
 exact law_call KX G.T.g G.T.b G.T.builtins G.T.nolimit hg hobj hints (Nat.le_trans hlen hn2) hr hF hb (fun H hO hS=>hsp w H a ns hlen hO hS) fun H e s'=>hCX w H s₁ e s'

abbrev CX0:CXT:=fun _ _ _ _ _ _=>False
abbrev E0:XK:=fun _ _ _=>False
theorem pass0 {X:Cx} : Passes CX0 X E0:=fun _ _ _ _ _ _ _ h=>h.elim

structure Fun (K:PySem.W.Frag) (x qual:Str) (st:Stmt) (f:Addr) (fd:FuncData) : Prop where
 ex:∃ (oc:Value) (od:Option Addr) (kV doc pm:Value) (an:Option Addr) (cdv ct:Value) (osl:Array (Option Value)),
  fd=PySem.W.fnOf x qual (defArgs st) (defBody st) (defScope st) .none kV doc pm an cdv ct∧K.lookup f=some ⟨oc,od,.func fd,osl⟩∧PySem.W.codeIn K cdv qual=true
 kp:PySem.W.keepIn K (.ref f)=true
section
variable {P:Program} {w:World} {K:PySem.W.Frag} {mg:Str→Option Value} {base:Heap}
theorem Fun.ok {x qual:Str} {st:Stmt} {f:Addr} {fd:FuncData} {N ps:List Str} {k:Nat} {sp:Sp} (F:Fun K x qual st f fd) (S:FnScope N ps (defScope st)) (len:∀ vs H Q E,sp vs H Q E→vs.length=ps.length)
  (hbody:∀ (cdv:Value) (A:Around) (outer:List Env) (s:Shared) (H:Hp) (vs:List V) (Q:VK) (E:XK),Room k (A.deeper (envOfC qual (defScope st) s.heap.objs.size f cdv))→sp vs H Q E →
   ∃ t,PSs (cxOf CX0 P w K mg base N qual (defScope st) f cdv A outer s H E).nox (defBody st) t∧t { nx:=fun _ H'=>Q .non H',rt:=Q } (start N vs) H) : FnOk P w K mg base CX0 (k+1) f fd ps sp:=by
 obtain ⟨oc,od,kV,doc,pm,an,cdv,ct,osl,rfl,lk,hcd⟩:=F.ex
 refine fn_of lk hcd S len fun A outer s H vs Q E hr hsp=>?_
 obtain ⟨t,h,q⟩:=hbody cdv A outer s H vs Q E hr hsp
 exact ⟨t,h.nox,q⟩
theorem Fun.binds {x qual:Str} {st:Stmt} {f:Addr} {fd:FuncData} {ps:List Str} (F:Fun K x qual st f fd)
  (h:∀ (kV doc pm:Value) (an:Option Addr) (cdv ct:Value) (us:List Value),us.length=ps.length→bindArgs (PySem.W.fnOf x qual (defArgs st) (defBody st) (defScope st) .none kV doc pm an cdv ct) ⟨us,[]⟩=pure (ps.zip us)) : Binds K fd ps []:=by
 obtain ⟨oc,od,kV,doc,pm,an,cdv,ct,osl,rfl,lk,hcd⟩:=F.ex
 exact .all (h kV doc pm an cdv ct)
theorem fun_mk {x qual:Str} {st:Stmt} {f:Addr} {oc:Value} {od an:Option Addr} {osl:Array (Option Value)} {kV doc pm cdv ct:Value} (l:K.lookup f=some ⟨oc,od,.func (PySem.W.fnOf x qual (defArgs st) (defBody st) (defScope st) .none kV doc pm an cdv ct),osl⟩)
  (c:PySem.W.codeIn K cdv qual=true) (k:PySem.W.keepIn K (.ref f)=true) : Fun K x qual st f (PySem.W.fnOf x qual (defArgs st) (defBody st) (defScope st) .none kV doc pm an cdv ct):=⟨⟨oc,od,kV,doc,pm,an,cdv,ct,osl,rfl,l,c⟩,k⟩
end
theorem hu_of {A:Around} {k:Nat} (hr:Room k A) : A.units+1 < cLine:=Nat.lt_of_le_of_lt (Nat.add_le_add_left (by decide:1≤64) _) hr.units
theorem small1000 {n:Nat} (h:n≤1000000) : n < sizeLine:=Nat.lt_of_le_of_lt h (by decide)

section
variable {X:Cx}
theorem pv (i:Nat) {x:Str} {pos:Pos} (hN:X.N[i]? = some x:=by rfl) (hv:Vis X.env.scope x:=by first | exact Or.inl rfl | exact Or.inr (Or.inl rfl) | exact Or.inr (Or.inr rfl)) (hd:(x == ("__debug__" : Str))=false:=by decide)
  (hcd:(x == ("__classdict__" : Str))=false:=by decide) : PE X (.Name x pos) (tVar i):=pe_var hN hv hd hcd
end

theorem iteF {A B:Prop} (h:B) : if false=true then A else B:=by
 rw [if_neg Bool.false_ne_true]
 exact h
theorem iteT {A B:Prop} (h:A) : if true=true then A else B:=by
 rw [if_pos rfl]
 exact h
theorem ite2 {c A B:Prop} [Decidable c] (h1:c→A) (h2:¬ c→B) : if c then A else B:=by
 by_cases h:c
 ·rw [if_pos h]
  exact h1 h
 ·rw [if_neg h]
  exact h2 h
def Same (H H':Hp) : Prop:=∀ b o,H b=some o→H' b=some o
theorem Same.refl (H:Hp) : Same H H:=fun _ _ h=>h
theorem Same.trans {H H1 H2:Hp} (a:Same H H1) (b:Same H1 H2) : Same H H2:=fun c o h=>b c o (a c o h)
theorem Same.free {H H':Hp} (e:Same H H') {l:Addr} (h:H' l=Option.none) : H l=Option.none:=by
 cases q:H l with
 | none=>rfl
 | some o =>
  rw [e l o q] at h
  cases h
theorem Same.seq {K:PySem.W.Frag} {H H':Hp} {a:Addr} {xs:List V} (e:Same H H') (h:SqL K H a xs) : SqL K H' a xs:=by
 rcases h with (h | ⟨o,h⟩) | h
 ·exact .inl (.inl (e _ _ h))
 ·exact .inl (.inr ⟨o,e _ _ h⟩)
 ·exact .inr h

section
variable {κ:Type} [DecidableEq κ]
end

section
variable {prog:Program} {w:World} {A:Around} {R:Result→Shared→Prop} {s:Shared}
theorem compLoop_any {elt target iter:Expr} {ifs:List Expr} {scope:Scope} {pos:Pos} {it acc:Value} {env:Env} (I:Nat→Shared→Prop)
  (turn:∀ n s,I n s→wpAny (model prog w) A (pyNext it) (fun r s₁=>match r with
   | none=>R (.ok .next) s₁
   | some v=>wpAny (model prog w) A (letOwnedTupleGo target it v) (fun _ s₀=>wpAny (model prog w) A (assign target env v) (fun _ s₂ =>
     wpAny (model prog w) A (forIn ifs true fun c r=>if r=true then do let ok ← isTrue c env (eval c env); pure (ForInStep.yield ok) else pure (ForInStep.yield r)) (fun ok s₃ =>
      if ok=true then wpAny (model prog w) A (eval elt env) (fun x s₄ =>
       wpAny (model prog w) A (call (.builtin "list.append") [acc,x]) (fun _ s₅=>∃ m,m < n∧I m s₅) (fun _ _=>False) s₄) (fun _ _=>False) s₃
      else ∃ m,m < n∧I m s₃) (fun _ _=>False) s₂) (fun _ _=>False) s₀) (fun _ _=>False) s₁) (fun _ _=>False) s)
  (n:Nat) (h:I n s) : codeAny (model prog w) A (.compLoop (.ListComp elt [⟨target,iter,ifs,0⟩] scope pos) 0 it acc env) R s:=by
 refine codeAny_loop rfl I (fun n s hI=>?_) n h
 show wpAny _ A ((compTurn (.ListComp elt [⟨target,iter,ifs,0⟩] scope pos) 0 it acc env).onRaise (fun x=>do noteFrame x env; theTreesLotGoes x)) _ _ s
 refine wpAny_noted ?_
 rw [compTurn_list]
 refine wpAny_bind (wpAny_standAt (wpAny_bind (wpAny_mono (turn n s hI) (fun r s₁ h₁=>?_) fun _ _ h'=>h'.elim)))
 cases r with
 | none=>exact wpAny_pure h₁
 | some v =>
  refine wpAny_bind (wpAny_mono h₁ (fun _ s₀ h₀=>?_) fun _ _ h'=>h'.elim)
  refine wpAny_bind (wpAny_mono h₀ (fun _ s₂ h₂=>wpAny_bind (wpAny_mono h₂ (fun ok s₃ h₃=>?_) fun _ _ h'=>h'.elim)) fun _ _ h'=>h'.elim)
  cases ok with
  | false=>exact wpAny_pure ⟨rfl,h₃⟩
  | true =>
   exact wpAny_bind (wpAny_bind (wpAny_mono h₃ (fun x s₄ h₄=>wpAny_bind (wpAny_mono h₄ (fun _ s₅ h₅=>wpAny_pure (wpAny_pure ⟨rfl,h₅⟩)) fun _ _ h'=>h'.elim)) fun _ _ h'=>h'.elim))
end

def PTs (X:Cx) (ifs:List Expr) (t:TT) : Prop:=
 ∀ (pins:List (Addr × Obj)) (s:Shared) (σ:St) (H:Hp) (Q:Bool→Hp→Prop),Inv X pins σ H s→t σ H Q →
  wpAny (model X.prog X.w) X.A (forIn ifs true fun c r=>if r=true then do let ok ← isTrue c X.env (eval c X.env); pure (ForInStep.yield ok) else pure (ForInStep.yield r)) (TP X pins σ Q) X.xe s
def tYes:TT:=fun _ H Q=>Q true H
theorem pts_nil {X:Cx} : PTs X [] tYes:=fun _ _ _ H _ I h=>wpAny_tests_nil ⟨H,I,h⟩
theorem pts_one {X:Cx} {c:Expr} {t:TT} (h:PT X c t) : PTs X [c] t:=fun pins s σ H Q I hw=>wpAny_tests_one (h pins s σ H Q I hw)

abbrev Cx.blk (X:Cx) (N:List Str) (s:Shared) (H:Hp) (scope:Scope) (cl:List (Str × Addr)) (C:Addr) (ex:List Addr) : Cx:=
 { X with N:=N,s₀:=s,H₀:=H,env:=compEnvC scope cl C X.env,outer:=X.stack,stack:=X.stack,ex:=ex,fn:=fun _=>false,pn:=[],xe:=fun _ _=>False }

def AllC (env:Env) : List (Str × Addr)→Prop
 | []=>True
 | p :: r=>env.cells.lookup p.1=some p.2∧AllC env r
theorem lookup_mem {α:Type} : ∀ {l:List (Str × α)} {x:Str} {k:α},l.lookup x=some k→(x,k) ∈ l
 | [],_,_,h=>by simp at h
 | (n,k') :: r,x,k,h=>by
  rw [List.lookup_cons] at h
  cases hx:x == n with
  | true =>
   rw [hx] at h
   have e:x=n:=eq_of_beq hx
   have e2:k' = k:=Option.some.inj h
   rw [e,e2]; exact List.mem_cons_self
  | false =>
   rw [hx] at h
   exact List.mem_cons_of_mem _ (lookup_mem h)
theorem AllC.get {env:Env} : ∀ {cl:List (Str × Addr)} {x:Str} {c:Addr},AllC env cl→cl.lookup x=some c→env.cells.lookup x=some c:=fun {cl x c} h e=>by
 have go:∀ (l:List (Str × Addr)),AllC env l→∀ p ∈ l,env.cells.lookup p.1=some p.2:=by
  intro l
  induction l with
  | nil=>intro _ p hp; cases hp
  | cons q r ih =>
   intro ha p hp
   rcases List.mem_cons.mp hp with rfl | hp
   ·exact ha.1
   ·exact ih ha.2 p hp
 exact go cl h (x,c) (lookup_mem e)
def CapOk (X:Cx) (scope:Scope) (cl:List (Str × Addr)) : List Str→List Nat→Prop
 | [],[]=>True
 | y :: ys,j :: js=>(X.N[j]? = some y∧(X.env.kindOf y=some .cell∨X.env.kindOf y=some .free)∧(cl.lookup y).isSome=true∧((relabel scope X.env).names.lookup y=some .cell∨(relabel scope X.env).names.lookup y=some .free))∧CapOk X scope cl ys js
 | _,_=>False
theorem CapOk.get {X:Cx} {scope:Scope} {cl:List (Str × Addr)} : ∀ {ys:List Str} {js:List Nat} {i:Nat} {y:Str},CapOk X scope cl ys js→ys[i]? = some y →
  ∃ j,js[i]? = some j∧X.N[j]? = some y∧(X.env.kindOf y=some .cell∨X.env.kindOf y=some .free)∧(cl.lookup y).isSome=true∧((relabel scope X.env).names.lookup y=some .cell∨(relabel scope X.env).names.lookup y=some .free)
 | [],_,_,_,_,e=>by simp at e
 | _ :: _,[],_,_,h,_=>h.elim
 | y :: ys,j :: js,0,z,h,e=>by
  have e':y=z:=by simpa using e
  subst e'
  exact ⟨j,rfl,h.1⟩
 | y :: ys,j :: js,i+1,z,h,e=>by
  obtain ⟨k,e1,e2⟩:=CapOk.get (i:=i) h.2 (by simpa using e)
  exact ⟨k,by simpa using e1,e2⟩
theorem CapOk.len {X:Cx} {scope:Scope} {cl:List (Str × Addr)} : ∀ {ys:List Str} {js:List Nat},CapOk X scope cl ys js→ys.length=js.length
 | [],[],_=>rfl
 | [],_ :: _,h=>h.elim
 | _ :: _,[],h=>h.elim
 | _ :: _,_ :: _,h=>by rw [List.length_cons,List.length_cons,CapOk.len h.2]
def capv (σ:St) (js:List Nat) : St:=js.map fun j=>(σ[j]?).join
theorem relabel_free {scope:Scope} {env:Env} {x:Str} (hcell:∀ y ∈ scope.names,y.2≠.cell) (h:(relabel scope env).names.lookup x=some .cell∨(relabel scope env).names.lookup x=some .free) : (x,NameKind.free) ∈ scope.names:=by
 have hm:∃ k,(k=NameKind.cell∨k=NameKind.free)∧(x,k) ∈ (relabel scope env).names:=by
  rcases h with h | h
  ·exact ⟨_,.inl rfl,lookup_mem h⟩
  ·exact ⟨_,.inr rfl,lookup_mem h⟩
 obtain ⟨k,hk,hm⟩:=hm
 obtain ⟨⟨n,k'⟩,hin,e⟩:=List.mem_map.mp hm
 dsimp only at e
 by_cases hc:(k' == NameKind.free && env.scope.kind == .function && env.kindOf n == some .cell)=true
 ·rw [if_pos hc] at e
  cases e
  have:k' = NameKind.free:=by
   rw [Bool.and_eq_true,Bool.and_eq_true] at hc
   exact eq_of_beq hc.1.1
  rw [← this]; exact hin
 ·rw [if_neg hc] at e
  cases e
  rcases hk with hk | hk
  ·exact absurd hk (hcell _ hin)
  ·rw [← hk]; exact hin
section
variable {X:Cx} {pins:List (Addr × Obj)} {σ:St} {H:Hp} {s:Shared}
theorem Inv.adopt {D:Addr} {ys:List V} {its:List Value} {n:Nat} (I:Inv X pins σ H s) (hn:H D=none) (hnew:X.s₀.heap.objs.size≤D) (hL:D≠X.env.locals) (hc:∀ x c,X.env.cells.lookup x=some c→c≠D) (hp:∀ p ∈ X.pn++pins,p.1≠D)
  (e:s.heap.get? D=some { cls:=.type "list",data:=.seq its.toArray n }) (hv:Vals ys its) (hz:ys.length≤sizeLine) : Inv X pins σ (upd H D (.lst ys)) s:=by
 have ne:∀ b u,H b=some u→b≠D:=fun b u q=>ne_of_none q hn
 refine ⟨I.ok,I.os,I.bare,⟨I.base.keep,I.base.slot,fun b o q nn hx=>?_,I.base.there,fun b xs q=>?_,fun b o u q=>?_,fun b ps q=>?_⟩,I.loc,I.cell,?_,fun x c q=>?_,fun p hq=>?_,fun b u q=>?_,I.len⟩
 ·rw [upd_ne (Nat.ne_of_lt (Nat.lt_of_lt_of_le (Heap.lt_size q) hnew))]; exact I.base.free b o q nn hx
 ·have z:=I.base.tups b xs q
  rw [upd_ne (ne b _ z)]; exact z
 ·have z:=I.base.frzs b o u q
  rw [upd_ne (ne b _ z)]; exact z
 ·obtain ⟨more,z⟩:=I.base.tbls b ps q
  exact ⟨more,by rw [upd_ne (ne b _ z)]; exact z⟩
 ·rw [upd_ne (Ne.symm hL)]; exact I.free
 ·rw [upd_ne (hc x c q)]; exact I.freeC x c q
 ·obtain ⟨a1,a2,a3⟩:=I.pin p hq
  exact ⟨a1,by rw [upd_ne (hp p hq)]; exact a2,a3⟩
 ·by_cases hb:b=D
  ·subst hb
   rw [upd_same] at q; cases q
   exact ⟨hz,its,n,hv,e⟩
  ·rw [upd_ne hb] at q
   exact (I.hok b u q).stay (fun c v _ r=>r) (fun c r=>by rw [upd_ne (ne c _ r)]; exact r) fun c xs r=>by rw [upd_ne (ne c _ r)]; exact r
structure Outed (X:Cx) (pins:List (Addr × Obj)) (σ:St) (C D:Addr) (H:Hp) (s:Shared) : Prop where
 inv:Inv X pins σ H s
 ns:∃ m,s.heap.Ns C m
 nL:C≠X.env.locals
 new:X.s₀.heap.objs.size≤C
 nc:∀ x c,X.env.cells.lookup x=some c→c≠C
 np:∀ p ∈ X.pn++pins,p.1≠C
 free:H C=none
theorem Outed.gone {C D:Addr} {h':Heap} (O:Outed X pins σ C D H s) (sb:Heap.SameBut C s.heap h') : Inv X pins σ H { s with heap:=h' }:=
 O.inv.turned (t':=s.toks) (it:=C) (fun b o hb e=>(sb.2 b hb).trans e) O.free O.nL (.inr O.new) O.nc O.np
end

def gLC (J:It) (g:TG) (tc:TT) (te:TE) (n:Nat) (cv:St) (Fin:List V→Hp→Prop) (H1:Hp) : Prop:=
 ∃ W:Nat→Nat→List V→Hp→Prop,(∃ m,W 0 m [] H1)∧∀ i m ys H,W i m ys H →
  (J.stop i H∧Fin ys H) ∨
  (J.go i H∧ys.length < sizeLine∧∃ N:List V→Hp→Prop,(∀ ys' H',N ys' H'→∃ m',m' < m∧W (i+1) m' ys' H')∧∀ x H',J.yld i H x H'→∀ own:St,own.length=n→g x (own++cv) H' fun σ2 H2=>(∃ own2:St,own2.length=n∧σ2=own2++cv) ∧
   tc σ2 H2 fun b H3=>if b=true then te σ2 H3 fun y H4=>N (ys++[y]) H4 else N ys H3)

def clOf (env:Env) : List (Str × NameKind)→List (Str × Addr)→List (Str × Addr)
 | [],acc=>acc
 | (n,k) :: r,acc=>clOf env r (if k == .free then (match env.cells.lookup n with | some c=>(n,c) :: acc | none=>acc) else acc)
theorem clOf_all (env:Env) : ∀ (names:List (Str × NameKind)) (acc:List (Str × Addr)),AllC env acc→AllC env (clOf env names acc)
 | [],_,h=>h
 | (n,k) :: r,acc,h=>by
  refine clOf_all env r _ ?_
  split
  ·split
   ·exact ⟨by assumption,h⟩
   ·exact h
  ·exact h
structure LcOk (X:Cx) (scope:Scope) (cl:List (Str × Addr)) (own caps:List Str) (js:List Nat) : Prop where
 clos:closureFor scope X.env=pure cl
 cell:∀ y ∈ scope.names,y.2≠.cell
 kind:scope.kind = .function
 names:∀ y ∈ scope.names,y.2 = .local→scope.names.lookup y.1=some .local
 allc:AllC X.env cl
 free:(scope.names.all fun y=>y.2 != .free || (cl.lookup y.1).isSome)=true
 cap:CapOk X scope cl caps js

theorem lcok {X:Cx} {scope:Scope} {own caps:List Str} {js:List Nat} (clos:closureFor scope X.env=pure (clOf X.env scope.names []):=by with_unfolding_all rfl) (cell:∀ y ∈ scope.names,y.2≠.cell:=by decide +kernel) (kind:scope.kind = .function:=by rfl)
  (names:∀ y ∈ scope.names,y.2 = .local→scope.names.lookup y.1=some .local:=by decide +kernel) (free:(scope.names.all fun y=>y.2 != .free || ((clOf X.env scope.names []).lookup y.1).isSome)=true:=by with_unfolding_all rfl)
  (cap:CapOk X scope (clOf X.env scope.names []) caps js) : LcOk X scope (clOf X.env scope.names []) own caps js:=⟨clos,cell,kind,names,clOf_all _ _ _ trivial,free,cap⟩
section
variable {X:Cx} {elt iter target:Expr} {ifs:List Expr} {scope:Scope} {cl:List (Str × Addr)} {pos:Pos} {own caps:List Str} {js:List Nat} {g:TG} {tc:TT} {te:TE}
theorem lc_block {pins:List (Addr × Obj)} {σ:St} {s₂:Shared} {H1:Hp} {it:Addr} {fp:List Addr} {tn:Nat→Heap→Prop} {J:It} {Fin:List V→Hp→Prop} {RR:Value→Addr→Result→Shared→Prop} {E:Value→Shared→Prop}
  (hc:X.calm=true) (L:LcOk X scope cl own caps js)
  (hg:∀ s H C ex,PG (X.blk (own++caps) s H scope cl C ex) target g) (ht:∀ s H C ex,PTs (X.blk (own++caps) s H scope cl C ex) ifs tc) (he:∀ s H C ex,PE (X.blk (own++caps) s H scope cl C ex) elt te)
  (I2:Inv X pins σ H1 s₂) (T:Turn X.prog X.w X.K target J fp it tn) (st2:tn 0 s₂.heap) (f2:∀ b ∈ fp,FpOk X pins H1 b)
  (G:gLC J g tc te own.length (capv σ js) Fin H1)
  (hRR:∀ D C H ys s',H D=none→Outed X pins σ C D (upd H D (.lst ys)) s'→Fin ys H→RR (.ref D) C (.ok .next) s') :
  wpAny (model X.prog X.w) X.A (newList []) (fun acc s₃=>wpAny (model X.prog X.w) X.A (newFunctionEnv scope X.env.globals cl [] X.env.qual none .none (some X.env)) (fun cenv s₄ =>
   codeAny (model X.prog X.w) X.A (.compStart (.ListComp elt [⟨target,iter,ifs,0⟩] scope pos) 0 (.ref it) acc { cenv with scope:=relabel scope X.env }) (RR acc cenv.locals) s₄) E s₃) E s₂:=by
 refine wpAny_newObj_type (wpAny_newFunctionEnv L.cell (by intro y hy; simp at hy) (fun h₁ hns₁ hsb₁=>?_) L.kind)
 dsimp only at hns₁ hsb₁ ⊢
 generalize hH2:s₂.heap.push { cls:=.type "list",dict:=none,data:=.seq ([] : List Value).toArray }=G2 at hns₁ hsb₁ ⊢
 have hC:G2.objs.size=s₂.heap.objs.size+1:=by rw [← hH2,Heap.size_push]
 have up2:∀ b o,s₂.heap.get? b=some o→G2.get? b=some o:=fun b o e=>hH2 ▸ Heap.get?_push_of_some _ e
 have hDC:s₂.heap.objs.size≠G2.objs.size:=by rw [hC]; exact Nat.ne_of_lt (Nat.lt_succ_self _)
 have hD2:G2.get? s₂.heap.objs.size=some { cls:=.type "list",data:=.seq ([] : List Value).toArray ([] : List Value).length }:=hH2 ▸ Heap.get?_push_size _ rfl
 -- the state with the list laid
 have I3:Inv X pins σ H1 { s₂ with heap:=G2 }:=I2.kept (t':=s₂.toks) up2
 have up3:∀ b o,G2.get? b=some o→h₁.get? b=some o:=fun b o e=>hsb₁.extBut b o (Nat.ne_of_lt (Heap.lt_size e)) (Heap.get?_push_of_some _ e)
 have DH:H1 s₂.heap.objs.size=none:=I2.fresh
 have CH:H1 G2.objs.size=none:=I3.fresh
 have fpl:∀ b ∈ fp,b < s₂.heap.objs.size:=fun b hb=>by
  obtain ⟨o,e,_⟩:=T.obj 0 _ st2 b hb
  exact Heap.lt_size e
 have celllt:∀ x c,X.env.cells.lookup x=some c→c < s₂.heap.objs.size:=fun x c e=>by
  obtain ⟨v,q⟩:=I2.cell x c e
  exact q.lt
 have locl:X.env.locals < s₂.heap.objs.size:=I2.lt
 generalize hD:s₂.heap.objs.size=D at *
 generalize hCC:G2.objs.size=C at *
 have hDltC:D < C:=by omega
 have noF:∀ b,b ∈ frs X.stack→b < D:=fun b hb=>by
  rcases List.mem_cons.mp (I2.stkSub b hb) with e | hb
  ·rw [e]; exact locl
  ·obtain ⟨_,o,ho,_⟩:=I2.ok.funs.mem hb
   exact Nat.lt_of_lt_of_le (Heap.lt_size ho) (hD ▸ I2.sz)
 have fpF:∀ b ∈ fp,b ∉ frs X.stack:=fun b hb z=>by
  obtain ⟨_,e1,e2,_⟩:=f2 b hb
  rcases List.mem_cons.mp (I2.stkSub b z) with e | z
  ·exact e1 e
  ·exact e2 z
 have ok':(X.blk (own++caps) { s₂ with heap:=G2 } H1 scope cl C (D :: fp)).Ok:={
  mod:=I2.ok.mod
  kind:=L.kind
  glob:=I2.ok.glob
  blt:=I2.ok.blt
  above:=Nat.le_of_eq hCC
  inj:=fun x y c e1 e2=>I2.ok.inj x y c (L.allc.get e1) (L.allc.get e2)
  has:=fun x hx=>by
   have hm:=relabel_free L.cell hx
   have q:=List.all_eq_true.mp L.free _ hm
   have q':(cl.lookup x).isSome=true:=by simpa using q
   exact Option.isSome_iff_exists.mp q'
  cab:=fun x c e=>nomatch e
  hd:=I2.ok.hd
  frames:=I2.ok.frames
  stk:=.inl rfl
  exf:=fun b hb=>by
   rcases List.mem_cons.mp hb with rfl | hb
   ·exact ⟨Nat.ne_of_lt hDltC,fun x c e=>Nat.ne_of_lt (celllt x c (L.allc.get e))⟩
   ·obtain ⟨_,e1,e2,_,e4,_⟩:=f2 b hb
    exact ⟨Nat.ne_of_lt (Nat.lt_trans (fpl b hb) hDltC),fun x c e=>e4 x c (L.allc.get e)⟩
  bs:=fun b o e=>⟨up2 b o (I2.bs b o e).1,(I2.bs b o e).2⟩
  bsz:=by
   show X.base.objs.size≤G2.objs.size
   have:=I2.ok.bsz
   have:=I2.sz
   omega
  noex:=fun b o e hb=>by
   have hlt:=Heap.lt_size (I2.bs b o e).1
   rcases List.mem_cons.mp hb with z | hb
   ·exact absurd (show b < D from hD ▸ hlt) (by rw [z]; exact Nat.lt_irrefl _)
   ·obtain ⟨_,_,_,e3,_⟩:=f2 b hb
    rcases e3 with e3 | e3
    ·exact I2.ok.noex b o e e3
    ·exact absurd (Nat.lt_of_lt_of_le (Heap.lt_size (I2.ok.bs b o e).1) e3) (Nat.lt_irrefl _)
  exfs:=fun b hb z=>by
   rcases List.mem_cons.mp hb with e | hb
   ·exact absurd (noF b z) (by rw [e]; exact Nat.lt_irrefl _)
   ·exact fpF b hb z
  funs:=I3.stack
  frf:=I3.stkFree }
 have hns:h₁.Ns C (fun x=>([] : List (Str × Value)).reverse.lookup x):=hns₁
 have start:Inv (X.blk (own++caps) { s₂ with heap:=G2 } H1 scope cl C (D :: fp)) [(D,LCg.lst [])] (List.replicate own.length none++capv σ js) H1 { s₂ with heap:=h₁,toks:=s₂.toks+([] : List (Str × Value)).length }:=by
  refine ⟨ok',rfl,I2.bare,Un.kept up3,⟨_,hns,fun i x v e1 e2 e3=>?_⟩,fun x c e=>?_,CH,fun x c e=>I2.freeC x c (L.allc.get e),fun p hp=>?_,I3.hok.kept up3,?_⟩
  ·have hlo:own.length≤i:=by
    refine Nat.le_of_not_lt fun hlt=>?_
    rw [List.getElem?_append_left (by rw [List.length_replicate]; exact hlt),List.getElem?_replicate,if_pos hlt] at e2
    cases e2
   have e1':caps[i - own.length]? = some x:=by rw [← List.getElem?_append_right hlo]; exact e1
   obtain ⟨j,j1,j2,j3,j4,j5⟩:=L.cap.get e1'
   have e2':(capv σ js)[i - own.length]? = some (some v):=by
    rw [← e2,List.getElem?_append_right (by rw [List.length_replicate]; exact hlo),List.length_replicate]
   have e4:σ[j]? = some (some v):=by
    unfold capv at e2'
    rw [List.getElem?_map,j1] at e2'
    have e5:(σ[j]?).join=some v:=Option.some.inj e2'
    cases hq:σ[j]? with
    | none=>rw [hq] at e5; cases e5
    | some q=>rw [hq] at e5; exact congrArg some e5
   obtain ⟨m,hn,hl⟩:=I2.loc
   obtain ⟨u,ru,lk⟩:=hl j x v j2 e4 (.inr j3)
   refine ⟨u,ru,.inr ⟨j5,?_⟩⟩
   rcases lk with ⟨k,_⟩ | ⟨_,c,ec,o,ho,hd⟩
   ·rcases j3 with z | z <;> (rw [k] at z; cases z)
   ·obtain ⟨c',ec'⟩:=Option.isSome_iff_exists.mp j4
    have:=L.allc.get ec'
    rw [ec] at this
    cases this
    exact ⟨c,ec',o,up3 _ _ (up2 _ _ ho),hd⟩
  ·obtain ⟨v,o,ho,hd⟩:=I2.cell x c (L.allc.get e)
   exact ⟨v,o,up3 _ _ (up2 _ _ ho),hd⟩
  ·have e:p=(D,LCg.lst []):=by simpa using hp
   subst e
   exact ⟨up3 _ _ hD2,DH,Nat.ne_of_lt hDltC,fun z=>absurd (noF D z) (Nat.lt_irrefl _),fun v z=>by cases z⟩
  ·rw [List.length_append,List.length_append,List.length_replicate]
   unfold capv
   rw [List.length_map,L.cap.len]
 obtain ⟨W,⟨m0,w0⟩,turn⟩:=G
 have loop:codeAny (model X.prog X.w) X.A (.compLoop (.ListComp elt [⟨target,iter,ifs,0⟩] scope pos) 0 (.ref it) (.ref D) (compEnvC scope cl C X.env)) (RR (.ref D) C) { s₂ with heap:=h₁,toks:=s₂.toks+([] : List (Str × Value)).length }:=by
  refine compLoop_any (fun n s'=>∃ i ys its ow H',Inv (X.blk (own++caps) { s₂ with heap:=G2 } H1 scope cl C (D :: fp)) [(D,LCg.lst its)] (ow++capv σ js) H' s'∧ow.length=own.length∧tn i s'.heap∧(∀ b ∈ fp,H' b=none)∧Vals ys its∧ys.length≤sizeLine∧W i n ys H') ?_ m0
   ⟨0,[],[],List.replicate own.length none,H1,start,List.length_replicate,T.keep _ _ _ st2 fun b _ o e=>up3 _ _ (up2 _ _ e),fun b hb=>(f2 b hb).1,.nil,Nat.zero_le _,w0⟩
  rintro n s' ⟨i,ys,its,ow,H',I',hlo,st,fr,hv,hz,wv⟩
  have fpok:∀ {H'':Hp},(∀ b ∈ fp,H'' b=none)→∀ b ∈ fp,FpOk (X.blk (own++caps) { s₂ with heap:=G2 } H1 scope cl C (D :: fp)) [(D,LCg.lst its)] H'' b:=fun hn b hb=>by
   obtain ⟨_,e1,e2,e3,e4,e5⟩:=f2 b hb
   refine ⟨hn b hb,Nat.ne_of_lt (Nat.lt_trans (fpl b hb) hDltC),fpF b hb,.inl (List.mem_cons_of_mem _ hb),fun x c e=>e4 x c (L.allc.get e),fun p hp=>?_⟩
   have e:p=(D,LCg.lst its):=by simpa using hp
   subst e
   exact Nat.ne_of_gt (fpl b hb)
  rcases turn i n ys H' wv with ⟨stop,fin⟩ | ⟨go,hlt,N,hN,step⟩
  ·refine wpAny_mono (T.done (X.blk (own++caps) { s₂ with heap:=G2 } H1 scope cl C (D :: fp)) rfl rfl rfl hc i _ s' _ H' (fun _ _=>False) I' (fpok fr) st stop) (fun r s4 ⟨hr,I4⟩=>?_) fun _ _ f=>f
   subst hr
   have pD:=I4.pin (D,LCg.lst its) (by simp)
   have hch:∀ b ∈ D :: fp,(b ∈ X.ex∨X.s₀.heap.objs.size≤b)∧b≠X.env.locals∧(∀ x c,X.env.cells.lookup x=some c→c≠b)∧∀ p ∈ X.pn++pins,p.1≠b:=fun b hb=>by
    rcases List.mem_cons.mp hb with rfl | hb
    ·exact ⟨.inr (hD ▸ I2.sz),Nat.ne_of_gt locl,fun x c e=>Nat.ne_of_lt (celllt x c e),fun p hp=>Nat.ne_of_lt (hD ▸ Heap.lt_size (I2.pin p hp).1)⟩
    ·obtain ⟨_,e1,e2,e3,e4,e5⟩:=f2 b hb
     exact ⟨e3,e1,e4,e5⟩
   have IX:Inv X pins σ H' s4:=I2.call' (ch:=D :: fp) I4.os ((Un.kept up2).trans I4.base) I4.hok I4.bare hch
   have cD:=hch D List.mem_cons_self
   have IA:Inv X pins σ (upd H' D (.lst ys)) s4:=IX.adopt pD.2.1 (hD ▸ I2.sz) cD.2.1 cD.2.2.1 cD.2.2.2 pD.1 hv hz
   obtain ⟨mm,hmm,_⟩:=I4.loc
   refine hRR D C H' ys s4 pD.2.1 ⟨IA,⟨mm,hmm⟩,Nat.ne_of_gt (Nat.lt_trans locl hDltC),?_,fun x c e=>Nat.ne_of_lt (Nat.lt_trans (celllt x c e) hDltC),fun p hp=>?_,?_⟩ fin
   ·have:=I2.sz
    omega
   ·exact Nat.ne_of_lt (Nat.lt_trans (show p.1 < D from hD ▸ Heap.lt_size (I2.pin p hp).1) hDltC)
   ·rw [upd_ne (Nat.ne_of_gt hDltC)]; exact I4.free
  ·refine wpAny_mono (T.item (X.blk (own++caps) { s₂ with heap:=G2 } H1 scope cl C (D :: fp)) rfl rfl rfl hc i _ s' _ H' (fun _ _=>False) I' (fpok fr) st go) (fun r s4 ⟨u,hr,h4⟩=>?_) fun _ _ f=>f
   subst hr
   refine wpAny_mono h4 (fun _ s5 ⟨x,H5,I5,r5,y5,st5,fr5⟩=>?_) fun _ _ f=>f
   have I5':=I5.pinned (fpok fr5) (T.obj _ _ st5)
   have keepT:∀ {σ8:St} {H8:Hp} {s8:Shared},Inv (X.blk (own++caps) { s₂ with heap:=G2 } H1 scope cl C (D :: fp)) ([(D,LCg.lst its)]++pinsAt fp s5.heap) σ8 H8 s8→tn (i+1) s8.heap∧∀ b ∈ fp,H8 b=none:=fun {σ8 H8 s8} I8 =>
    ⟨T.keep _ _ _ st5 fun b hb o e=>(I8.pin (b,o) (List.mem_append_right _ (List.mem_append_right _ (mem_pinsAt hb e)))).1,fun b hb=>by
     obtain ⟨o,e,d⟩:=T.obj _ _ st5 b hb
     exact (I8.pin (b,o) (List.mem_append_right _ (List.mem_append_right _ (mem_pinsAt hb e)))).2.1⟩
   refine wpAny_mono (hg _ _ _ _ _ s5 _ H5 x u _ I5' r5 (step x H5 y5 ow hlo)) (fun _ s6 ⟨σ6,H6,I6,⟨own2,hl2,e6⟩,q6⟩=>?_) fun _ _ f=>f
   subst e6
   refine wpAny_mono (ht _ _ _ _ _ s6 _ H6 _ I6 q6) (fun b s7 ⟨H7,I7,q7⟩=>?_) fun _ _ f=>f
   cases b with
   | false =>
    rw [if_neg Bool.false_ne_true]
    rw [if_neg Bool.false_ne_true] at q7
    obtain ⟨m',hm,w7⟩:=hN _ _ q7
    obtain ⟨k1,k2⟩:=keepT I7
    exact ⟨m',hm,i+1,ys,its,own2,H7,I7.unpinned,hl2,k1,k2,hv,hz,w7⟩
   | true =>
    rw [if_pos rfl]
    rw [if_pos rfl] at q7
    refine wpAny_mono (he _ _ _ _ _ s7 _ H7 _ I7 q7) (fun y s8 ⟨vy,H8,I8,r8,n8⟩=>?_) fun _ _ f=>f
    obtain ⟨m',hm,w8⟩:=hN _ _ n8
    obtain ⟨k1,k2⟩:=keepT I8
    have pD:=I8.pin (D,LCg.lst its) (by simp)
    have hyl:=hv.length
    refine append_at (hsz:=by show its.toArray.size≤sizeLine; rw [List.size_toArray]; omega) pD.1 fun h9 hs9 hD9=>?_
    have I9:Inv (X.blk (own++caps) { s₂ with heap:=G2 } H1 scope cl C (D :: fp)) [] (own2++capv σ js) H8 { s8 with heap:=h9 }:=by
     refine (I8.pins_of (pins':=[]) fun p hp=>nomatch hp).turned (t':=s8.toks) (it:=D) (fun b o hb e=>(hs9.2 b hb).trans e) pD.2.1 (Nat.ne_of_lt hDltC) (.inl List.mem_cons_self) (fun x c e=>Nat.ne_of_lt (celllt x c (L.allc.get e))) fun p hp=>?_
     simp at hp
    refine ⟨m',hm,i+1,ys++[vy],its++[y],own2,H8,I9.pins_of fun p hp=>?_,hl2,T.keep _ _ _ k1 fun b hb o e=>(hs9.2 b (Nat.ne_of_lt (fpl b hb))).trans e,k2,hv.append (.cons r8 .nil),?_,w8⟩
    ·have e:p=(D,LCg.lst (its++[y])):=by simpa using hp
     subst e
     exact ⟨hD9.trans (congrArg some (LCg.lst_snoc its y)),pD.2.1,Nat.ne_of_lt hDltC,fun z=>absurd (noF D z) (Nat.lt_irrefl _),fun v z=>by cases z⟩
    ·rw [List.length_append,List.length_singleton]; omega
 exact codeAny_compStart_list loop (T.self _ _ _ _ _ (T.keep _ _ _ st2 fun b _ o e=>up3 _ _ (up2 _ _ e)) loop)

def tLCg (wi:TI) (g:TG) (tc:TT) (te:TE) (n:Nat) (js:List Nat) : TE:=fun σ H Q=>wi σ H fun J H1=>gLC J g tc te n (capv σ js) (fun ys H=>∀ p,H p=none→Q (.ref p) (upd H p (.lst ys))) H1
variable {wi:TI}
theorem pe_lcg (hc:X.calm=true) (L:LcOk X scope cl own caps js) (hi:PI X target iter wi)
  (hg:∀ s H C ex,PG (X.blk (own++caps) s H scope cl C ex) target g) (ht:∀ s H C ex,PTs (X.blk (own++caps) s H scope cl C ex) ifs tc) (he:∀ s H C ex,PE (X.blk (own++caps) s H scope cl C ex) elt te)
  (hs:∀ x,foldedSetIterable iter X.env x=pure x:=by intro _; rfl) : PE X (.ListComp elt [⟨target,iter,ifs,0⟩] scope pos) (tLCg wi g tc te own.length js):=by
 intro pins s σ H Q I h
 rw [eval_ListComp]
 refine wpAny_comprehension_free (use:=none) rfl hs L.clos L.kind L.names (thn (hi pins s σ H _ I h) fun v s1 h1=>thn h1 fun itv s2 h2=>?_)
 obtain ⟨it,fp,tn,J,H2,e,I2,T,st2,f2,G⟩:=h2
 subst e
 refine lc_block hc L hg ht he I2 T st2 f2 G ?_
 intro D C H3 ys s' hD O fin
 obtain ⟨m,hn⟩:=O.ns
 exact ⟨m,hn,fun h' sb=>⟨.ref D,_,O.gone sb,rfl,fin D hD⟩⟩
theorem ps_lcg {k:Nat} {y:Str} {py spos:Pos} (hc:X.calm=true) (L:LcOk X scope cl own caps js) (hi:PI X target iter wi)
  (hg:∀ s H C ex,PG (X.blk (own++caps) s H scope cl C ex) target g) (ht:∀ s H C ex,PTs (X.blk (own++caps) s H scope cl C ex) ifs tc) (he:∀ s H C ex,PE (X.blk (own++caps) s H scope cl C ex) elt te)
  (hN:X.N.Nodup) (hk:X.N[k]? = some y) (hy:X.env.scope.names.lookup y=some .local)
  (hsw:swapsWith (.ListComp elt [⟨target,iter,ifs,0⟩] scope pos) (some (.Name y py)) spos.line X.env=pure true:=by rfl)
  (hs:∀ x,foldedSetIterable iter X.env x=pure x:=by intro _; rfl) : PS X (.Assign [.Name y py] (.ListComp elt [⟨target,iter,ifs,0⟩] scope pos) spos) (tAsg (tLCg wi g tc te own.length js) (gName k)):=by
 intro pins s σ H De I h
 rw [exec_Assign_Name_used _ _ _ _ hsw]
 refine wpAny_bind (wpAny_standAt (wpAny_bind ?_))
 show wpAny _ _ (do let _ ← comprehension (.ListComp elt [⟨target,iter,ifs,0⟩] scope pos) scope X.env _ (newList []) false (eval iter X.env) (some (assign (.Name y py) X.env))) _ _ s
 refine wpAny_bind (wpAny_mono (wpAny_comprehension_free (use:=some (assign (.Name y py) X.env)) (Q:=fun _ s'=>SP X pins De .next s') rfl hs L.clos L.kind L.names
  (thn (hi pins s σ H _ I h) fun v s1 h1=>thn h1 fun itv s2 h2=>?_)) (fun _ s' hq=>wpAny_pure (wpAny_pure hq)) fun _ _ e=>e)
 obtain ⟨it,fp,tn,J,H2,e,I2,T,st2,f2,G⟩:=h2
 subst e
 refine lc_block hc L hg ht he I2 T st2 f2 G ?_
 intro D C H3 ys s' hD O fin
 show wpAny _ _ (assign (.Name y py) X.env (.ref D)) _ _ _
 refine wpAny_assign_Name (store_ok2 O.inv hN hk (.inl hy) (show RelV (.ref D) (.ref D) from rfl) (fun s'' I'' sb=>?_) (.inr hy))
 obtain ⟨a,hsb,ha⟩:=sb
 have hne:C≠a:=by
  rcases ha with rfl | ha
  ·exact O.nL
  ·exact Ne.symm (O.nc _ _ ha)
 obtain ⟨m,hn⟩:=O.ns
 refine ⟨m,hn.sameBut hsb hne,fun h' sb'=>⟨_,_,?_,fin D hD⟩⟩
 exact I''.turned (t':=s''.toks) (it:=C) (fun b o hb e=>(sb'.2 b hb).trans e) O.free O.nL (.inr O.new) O.nc O.np
end

section
variable {X:Cx} {elt iter:Expr} {ifs:List Expr} {scope:Scope} {cl:List (Str × Addr)} {pos:Pos} {caps:List Str} {js:List Nat} {tc:TT} {te:TE} {wi:TI} {x:Str} {px:Pos}
theorem gLC1 {J:It} {cv:St} {Fin:List V→Hp→Prop} {H1:Hp} (h:∃ W:Nat→Nat→List V→Hp→Prop,(∃ m,W 0 m [] H1)∧∀ i m ys H,W i m ys H →
  (J.stop i H∧Fin ys H) ∨
  (J.go i H∧ys.length < sizeLine∧∃ N:List V→Hp→Prop,(∀ ys' H',N ys' H'→∃ m',m' < m∧W (i+1) m' ys' H')∧∀ x H',J.yld i H x H' →
   tc (some x :: cv) H' fun b H3=>if b=true then te (some x :: cv) H3 fun y H4=>N (ys++[y]) H4 else N ys H3)) : gLC J (gName 0) tc te 1 cv Fin H1:=by
 obtain ⟨W,w0,turn⟩:=h
 refine ⟨W,w0,fun i m ys H w=>?_⟩
 rcases turn i m ys H w with ⟨a,b⟩ | ⟨a,b,N,hN,c⟩
 ·exact .inl ⟨a,b⟩
 ·refine .inr ⟨a,b,N,hN,fun v H' y own ho=>?_⟩
  match own,ho with
  | [τ],_=>exact ⟨⟨[some v],rfl,rfl⟩,c v H' y⟩
def tLC (wi:TI) (tc:TT) (te:TE) (js:List Nat) : TE:=tLCg wi (gName 0) tc te 1 js
theorem pe_lc (hc:X.calm=true) (L:LcOk X scope cl [x] caps js) (hi:PI X (.Name x px) iter wi)
  (ht:∀ s H C ex,PTs (X.blk (x :: caps) s H scope cl C ex) ifs tc) (he:∀ s H C ex,PE (X.blk (x :: caps) s H scope cl C ex) elt te)
  (hN:(x :: caps).Nodup:=by decide +kernel) (hx:(relabel scope X.env).names.lookup x=some .local:=by with_unfolding_all rfl)
  (hs:∀ x,foldedSetIterable iter X.env x=pure x:=by intro _; rfl) : PE X (.ListComp elt [⟨.Name x px,iter,ifs,0⟩] scope pos) (tLC wi tc te js):=
 pe_lcg (own:=[x]) (g:=gName 0) hc L hi (fun s H C ex=>pg_name (i:=0) hN rfl (.inl hx) (.inr hx)) ht he hs
theorem ps_lc {k:Nat} {y:Str} {py spos:Pos} (hc:X.calm=true) (L:LcOk X scope cl [x] caps js) (hi:PI X (.Name x px) iter wi)
  (ht:∀ s H C ex,PTs (X.blk (x :: caps) s H scope cl C ex) ifs tc) (he:∀ s H C ex,PE (X.blk (x :: caps) s H scope cl C ex) elt te)
  (hXN:X.N.Nodup) (hk:X.N[k]? = some y) (hy:X.env.scope.names.lookup y=some .local) (hN:(x :: caps).Nodup:=by decide +kernel) (hx:(relabel scope X.env).names.lookup x=some .local:=by with_unfolding_all rfl)
  (hsw:swapsWith (.ListComp elt [⟨.Name x px,iter,ifs,0⟩] scope pos) (some (.Name y py)) spos.line X.env=pure true:=by rfl)
  (hs:∀ x,foldedSetIterable iter X.env x=pure x:=by intro _; rfl) : PS X (.Assign [.Name y py] (.ListComp elt [⟨.Name x px,iter,ifs,0⟩] scope pos) spos) (tAsg (tLC wi tc te js) (gName k)):=
 ps_lcg (own:=[x]) (g:=gName 0) hc L hi (fun s H C ex=>pg_name (i:=0) hN rfl (.inl hx) (.inr hx)) ht he hXN hk hy hsw hs
theorem lc_list {K:PySem.W.Frag} {a:Addr} {xs:List V} {cv:St} {Fin:List V→Hp→Prop} {H1:Hp} (Pv:Nat→List V→Hp→Prop) (h0:Pv 0 [] H1) (hl:∀ i ys H,i≤xs.length→Pv i ys H→SqL K H a xs) (hz:∀ i ys H,i < xs.length→Pv i ys H→ys.length < sizeLine)
  (hs:∀ i x ys H,xs[i]? = some x→Pv i ys H→tc (some x :: cv) H fun b H3=>if b=true then te (some x :: cv) H3 fun y H4=>Pv (i+1) (ys++[y]) H4 else Pv (i+1) ys H3)
  (hd:∀ ys H,Pv xs.length ys H→Fin ys H) : gLC (Itl K a) (gName 0) tc te 1 cv Fin H1:=by
 refine gLC1 ⟨fun i m ys H=>m=xs.length - i∧i≤xs.length∧Pv i ys H,⟨xs.length,by simp,Nat.zero_le _,h0⟩,?_⟩
 rintro i m ys H ⟨rfl,hi,p⟩
 have q:=hl i ys H hi p
 by_cases hlt:i < xs.length
 ·refine .inr ⟨⟨xs,xs[i],q,by simp [hlt]⟩,hz i ys H hlt p,Pv (i+1),fun ys' H' p'=>⟨xs.length - (i+1),by omega,rfl,hlt,p'⟩,fun v H' y=>?_⟩
  obtain ⟨e,y⟩:=y
  subst e
  exact hs i v ys _ (y xs q) p
 ·have e:i=xs.length:=by omega
  subst e
  exact .inl ⟨⟨xs,q,Nat.le_refl _⟩,hd ys H p⟩
theorem lc_range {lo:Int} {n:Nat} {cv:St} {Fin:List V→Hp→Prop} {H1:Hp} (Pv:Nat→List V→Hp→Prop) (h0:Pv 0 [] H1) (hz:∀ i ys H,i < n→Pv i ys H→ys.length < sizeLine)
  (hs:∀ i ys H,i < n→Pv i ys H→tc (some (.int (lo+i)) :: cv) H fun b H3=>if b=true then te (some (.int (lo+i)) :: cv) H3 fun y H4=>Pv (i+1) (ys++[y]) H4 else Pv (i+1) ys H3)
  (hd:∀ ys H,Pv n ys H→Fin ys H) : gLC (Itr lo n) (gName 0) tc te 1 cv Fin H1:=by
 refine gLC1 ⟨fun i m ys H=>m=n - i∧i≤n∧Pv i ys H,⟨n,by simp,Nat.zero_le _,h0⟩,?_⟩
 rintro i m ys H ⟨rfl,hi,p⟩
 by_cases hlt:i < n
 ·refine .inr ⟨hlt,hz i ys H hlt p,Pv (i+1),fun ys' H' p'=>⟨n - (i+1),by omega,rfl,hlt,p'⟩,fun v H' y=>?_⟩
  obtain ⟨e,y⟩:=y
  subst e y
  exact hs i ys _ hlt p
 ·have e:i=n:=by omega
  subst e
  exact .inl ⟨Nat.le_refl _,hd ys H p⟩
end

theorem yes_go {A B:Hp→Prop} {σ:St} {H:Hp} (h:A H) : tYes σ H (fun b H3=>if b=true then A H3 else B H3):=by
 show if true=true then A H else B H
 rw [if_pos rfl]
 exact h
section
variable {X:Cx} {tg:Expr}
end
section
variable {X:Cx}
theorem partOf {v:Value} {o:Option Int} (p:IsPart v o) : ∃ l:Option (Int × Tok),v=partValue l∧o=l.map (·.1):=by
 cases p with
 | none=>exact ⟨none,rfl,rfl⟩
 | int i t=>exact ⟨some (i,t),rfl,rfl⟩
theorem sl_str:SlR X (fun x lo hi H Q=>∃ z,x = .str z∧z.length≤sizeLine∧Q (.str (Txt.slice z lo hi)) H):=by
 intro pins s σ H x v vl vu lo hi sl Q I r hs pl pu h
 obtain ⟨z,rfl,hz,q⟩:=h
 obtain ⟨t,rfl⟩:=r
 obtain ⟨l,rfl,rfl⟩:=partOf pl
 obtain ⟨u,rfl,rfl⟩:=partOf pu
 exact ⟨"str",_,F.slot_str_getitem.lookup,typeIs_str _ _ _,wpAny_getItem_str_slice (l:=l) (u:=u) (st:=none) hs rfl
  (post_val_or_str ⟨Nat.le_trans (Txt.slice_le z _ _) hz,fun t' k=>⟨.str (Txt.slice z _ _),H,I.tok k,⟨t',rfl⟩,q⟩⟩)⟩
theorem strsAre_of {ys:List Str} : ∀ {us:List Value},Vals (ys.map V.str) us→StrsAre us ys:=by
 induction ys with
 | nil=>intro us h; cases h; exact .nil
 | cons y ys ih =>
  intro us h
  cases h with
  | cons r t =>
   obtain ⟨tk,rfl⟩:=r
   exact .cons y tk (ih t)
theorem mt_join:MtR X "str.join" (fun x xs H Q=>∃ sep a ys,x = .str sep∧xs=[.ref a]∧SqL X.K H a (ys.map V.str)∧sep.length≤16∧(ys.map (·.length)).sum+ys.length≤1048576∧Q (.str (Txt.join sep ys)) H):=by
 intro pins s σ H x xs v us Q I rx r h
 obtain ⟨sep,a,ys,rfl,rfl,hS,h1,h2,q⟩:=h
 obtain ⟨t,rfl⟩:=rx
 obtain ⟨w',rfl,rfl⟩:=vals1 r
 obtain ⟨its,rv,p,hz⟩:=I.list hS
 exact join_listW p.isList (strsAre_of (by simpa using rv)) h1 h2 fun t' k=>⟨.str _,H,I.tok k,⟨t',rfl⟩,q⟩
theorem mt_find:MtR X "str.find" (fun x xs H Q=>∃ z y,x = .str z∧xs=[.str y]∧Q (.int (Txt.find z y)) H):=by
 intro pins s σ H x xs v us Q I rx r h
 obtain ⟨z,y,rfl,rfl,q⟩:=h
 obtain ⟨t,rfl⟩:=rx
 obtain ⟨w',rfl,u,rfl⟩:=vals1 r
 exact SC.find ⟨.int _,H,I.tok _,⟨_,rfl⟩,q⟩
end
end L2

namespace Tl
open PySem PySem.Builtin PySem.Builtin.Str L2

abbrev tx (l:List Nat) : Str:=⟨l.toArray⟩
theorem tx_app (a b:List Nat) : tx a++tx b=tx (a++b):=by
 show (⟨a.toArray++b.toArray⟩ : Str)=⟨(a++b).toArray⟩
 rw [List.append_toArray]
theorem tx_len (l:List Nat) : (tx l).length=l.length:=by show l.toArray.size=_; simp
theorem tx_inj {a b:List Nat} (h:tx a=tx b) : a=b:=by
 have e:a.toArray=b.toArray:=congrArg Str.cps h
 have e2:=congrArg Array.toList e
 simpa using e2
def cutL {α:Type} (l:List α) (lo hi:Option Int) : List α:=(l.drop (HT.sIx l.length 0 lo)).take (HT.sIx l.length l.length hi - HT.sIx l.length 0 lo)
theorem clip_eq (n d:Nat) (i:Int) : max 0 (min (if i < 0 then i+(n:Int) else i) (n:Int))=((HT.sIx n d (some i) : Nat) : Int):=by
 show _=(((if i < 0 then (i+(n:Int)).toNat else min i.toNat n) : Nat) : Int)
 by_cases h:i < 0
 ·rw [if_pos h,if_pos h]; omega
 ·rw [if_neg h,if_neg h]; omega
theorem idx_range (lo hi:Option Int) (n:Nat) : strSliceIndices lo hi 1 n=sliceRange ((HT.sIx n 0 lo:Nat) : Int) ((HT.sIx n n hi:Nat) : Int) 1:=by
 cases lo with
 | none =>
  cases hi with
  | none=>rfl
  | some j=>exact congrArg (fun z=>sliceRange 0 z 1) (clip_eq n n j)
 | some i =>
  cases hi with
  | none=>exact congrArg (fun z=>sliceRange z (n:Int) 1) (clip_eq n 0 i)
  | some j =>
   have a:=clip_eq n 0 i
   have b:=clip_eq n n j
   show sliceRange (max 0 (min (if i < 0 then i+(n:Int) else i) (n:Int))) (max 0 (min (if j < 0 then j+(n:Int) else j) (n:Int))) 1=_
   rw [a,b]
theorem slice_tx (l:List Nat) (lo hi:Option Int) : Txt.slice (tx l) lo hi=tx (cutL l lo hi):=by
 have h1:=HT.sIx_le l.length 0 (Nat.zero_le _) lo
 have h2:=HT.sIx_le l.length l.length (Nat.le_refl _) hi
 have ei:strSliceIndices lo hi 1 l.length=strSliceIndices (some ((HT.sIx l.length 0 lo:Nat) : Int)) (some ((HT.sIx l.length l.length hi:Nat) : Int)) 1 l.length:=by
  rw [idx_range lo hi,idx_range (some _) (some _),HT.sIx_nat,HT.sIx_nat,Nat.min_eq_left h1,Nat.min_eq_left h2]
 have e:Txt.slice (tx l) lo hi=StrLaws.sliceText (tx l) (some ((HT.sIx l.length 0 lo:Nat) : Int)) (some ((HT.sIx l.length l.length hi:Nat) : Int)):=by
  unfold Txt.slice StrLaws.sliceText
  rw [tx_len,ei]
 by_cases hab:HT.sIx l.length 0 lo≤HT.sIx l.length l.length hi
 ·rw [e,StrLaws.sliceText_nat (tx l) hab (by rw [tx_len]; exact h2)]
  rfl
 ·have e0:strSliceIndices lo hi 1 (tx l).length=[]:=by
   rw [tx_len,idx_range]
   unfold sliceRange
   simp only [show (1:Int) > 0 by decide,if_true]
   rw [if_neg (by omega)]
   rfl
  unfold Txt.slice
  rw [e0]
  have hne:¬ (((1:Int) == 1 && ([] : List Nat).length == (tx l).length)=true):=by
   rw [tx_len]
   intro h
   have:0=l.length:=by simpa using h
   omega
  rw [if_neg hne]
  unfold cutL
  rw [Nat.sub_eq_zero_of_le (by omega),List.take_zero]
  rfl
theorem cut_to {α:Type} (l:List α) (j:Nat) : cutL l none (some (j:Int))=l.take j:=by
 unfold cutL
 rw [HT.sIx_none,HT.sIx_nat,List.drop_zero,Nat.sub_zero]
 by_cases h:j≤l.length
 ·rw [Nat.min_eq_left h]
 ·rw [Nat.min_eq_right (by omega),List.take_of_length_le (Nat.le_refl _),List.take_of_length_le (by omega)]
def joinL (sep:List Nat) : List (List Nat)→List Nat
 | []=>[]
 | [x]=>x
 | x :: y :: r=>x++sep++joinL sep (y :: r)
theorem join_tx (sep:List Nat) : ∀ ps:List (List Nat),Txt.join (tx sep) (ps.map tx)=tx (joinL sep ps):=by
 have go:∀ ps:List (List Nat),Str.join (tx sep) (ps.map tx)=tx (joinL sep ps):=by
  intro ps
  induction ps with
  | nil=>rfl
  | cons x r ih =>
   cases r with
   | nil=>rfl
   | cons y r =>
    show tx x++tx sep++Str.join (tx sep) (tx y :: r.map tx)=_
    rw [show Str.join (tx sep) (tx y :: r.map tx)=tx (joinL sep (y :: r)) from ih,tx_app,tx_app]
    rfl
 intro ps
 show glued (tx sep) (ps.map tx)=_
 rw [StrLaws.glued_eq_join]
 exact go ps
end Tl

namespace L2
open PySem PySem.Spec PyProof.Rows

def isiV (K:PySem.W.Frag) (T:String) (x:V) (H:Hp) (b:Bool) : Prop:=match x with
 | .non=>b=false
 | .bl _=>b=(T == "bool" || T == "int")
 | .int _=>b=(T == "int")
 | .str _=>b=(T == "str")
 | .ref p=>((∃ xs,SqL K H p xs)∧b=(T == "list"))∨((∃ xs,SqT K H p xs)∧b=(T == "tuple"))
 | _=>False
section
variable {X:Cx}
theorem call_isi:CallR X (.builtin "isinstance") (fun xs H Q=>∃ x T b,xs=[x,.ty T]∧(T = "bool"∨T = "int"∨T = "str"∨T = "tuple"∨T = "list")∧isiV X.K T x H b∧Q (.bl b) H):=by
 intro pins s σ H xs us Q I r h
 obtain ⟨x,T,b,rfl,hT,hv,q⟩:=h
 obtain ⟨u,w',rfl,r1,r2⟩:=vals2 r
 cases r2
 have no:b=false→EP X pins σ Q (.bool false) { s with toks:=s.toks+1 }:=fun e=>⟨.bl false,H,I.tok _,rfl,e ▸ q⟩
 have yes:b=true→EP X pins σ Q (.bool true) s:=fun e=>⟨.bl true,H,I,rfl,e ▸ q⟩
 cases x with
 | non =>
  cases r1
  have hv':b=false:=hv
  rcases hT with rfl | rfl | rfl | rfl | rfl
  ·exact IsiPair.NoneType_bool (no hv')
  ·exact IsiPair.NoneType_int (no hv')
  ·exact IsiPair.NoneType_str (no hv')
  ·exact IsiPair.NoneType_tuple (no hv')
  ·exact IsiPair.NoneType_list (no hv')
 | bl c =>
  cases r1
  rcases hT with rfl | rfl | rfl | rfl | rfl
  ·exact IsiPair.bool_bool (yes (hv.trans (by decide)))
  ·exact IsiPair.bool_int (yes (hv.trans (by decide)))
  ·exact IsiPair.bool_str (no (hv.trans (by decide)))
  ·exact IsiPair.bool_tuple (no (hv.trans (by decide)))
  ·exact IsiPair.bool_list (no (hv.trans (by decide)))
 | int c =>
  obtain ⟨t,rfl⟩:=r1
  rcases hT with rfl | rfl | rfl | rfl | rfl
  ·exact IsiPair.int_bool (no (hv.trans (by decide)))
  ·exact IsiPair.int_int (yes (hv.trans (by decide)))
  ·exact IsiPair.int_str (no (hv.trans (by decide)))
  ·exact IsiPair.int_tuple (no (hv.trans (by decide)))
  ·exact IsiPair.int_list (no (hv.trans (by decide)))
 | str c =>
  obtain ⟨t,rfl⟩:=r1
  rcases hT with rfl | rfl | rfl | rfl | rfl
  ·exact IsiPair.str_bool (no (hv.trans (by decide)))
  ·exact IsiPair.str_int (no (hv.trans (by decide)))
  ·exact IsiPair.str_str (yes (hv.trans (by decide)))
  ·exact IsiPair.str_tuple (no (hv.trans (by decide)))
  ·exact IsiPair.str_list (no (hv.trans (by decide)))
 | ref p =>
  cases r1
  rcases hv with ⟨⟨xs,hq⟩,hb⟩ | ⟨⟨xs,hq⟩,hb⟩
  ·obtain ⟨its,_,p',_⟩:=I.list hq
   obtain ⟨o,n,e,c,_⟩:=p'
   rcases hT with rfl | rfl | rfl | rfl | rfl
   ·exact IsiPair.list_bool e c (no (hb.trans (by decide)))
   ·exact IsiPair.list_int e c (no (hb.trans (by decide)))
   ·exact IsiPair.list_str e c (no (hb.trans (by decide)))
   ·exact IsiPair.list_tuple e c (no (hb.trans (by decide)))
   ·exact IsiPair.list_list e c (yes (hb.trans (by decide)))
  ·obtain ⟨its,_,p',_⟩:=I.tuple hq
   obtain ⟨o,e,c,_⟩:=p'
   rcases hT with rfl | rfl | rfl | rfl | rfl
   ·exact IsiPair.tuple_bool e c (no (hb.trans (by decide)))
   ·exact IsiPair.tuple_int e c (no (hb.trans (by decide)))
   ·exact IsiPair.tuple_str e c (no (hb.trans (by decide)))
   ·exact IsiPair.tuple_tuple e c (yes (hb.trans (by decide)))
   ·exact IsiPair.tuple_list e c (no (hb.trans (by decide)))
 | byt c=>exact hv.elim
 | flt c=>exact hv.elim
 | ty c=>exact hv.elim
end

section
variable {X:Cx}
end
structure DefOk (K:PySem.W.Frag) (mg:Str→Option Value) (x:Str) (st:Stmt) (ps:List Str) (f:Addr) (fd:FuncData) : Prop where
 fn:Fun K x x st f fd
 bd:Binds K fd ps []
 mg:mg x=some (.ref f)
 ba:∀ us:List Value,us.length=ps.length→bindArgs fd ⟨us,[]⟩=pure (ps.zip us)
section
variable {X:Cx} {x:Str} {st:Stmt} {ps:List Str} {f:Addr} {fd:FuncData} {k:Nat} {sp:Sp} {e:Expr} {es:List Expr} {t:TA} {p pos:Pos}
theorem pe_callD (D:DefOk X.K X.mg x st ps f fd) (G:FnOk X.prog X.w X.K X.mg X.base CX0 k f fd ps sp) (hr:Room k X.A) (hg:Gl X x) (ha:PA X (e :: es) t) (hd:(x == ("__debug__" : Str))=false:=by decide)
  (he:starEach (e :: es) X.env=(false,eval e X.env) :: starEach es X.env:=by rfl) (hpl:(backTo pos (starEach es X.env)).any (·.1)=false:=by rfl) : PE X (.Call (.Name x p) (e :: es) [] pos) (tCall sp [] E0 t):=pe_call G hr hg D.mg D.fn.kp D.bd .nil pass0 ha hd he hpl
theorem defok_mk {K:PySem.W.Frag} {h:Heap} {mg:Str→Option Value} (KX:K.In h) (G:h.Ns mainGlobals mg) {od an:Option Addr} {sl:Array (Option Value)} {oc kV dc pm cd ct:Value} (a:PySem.W.nsIn K mainGlobals x=some (some (.ref f)))
  (l:K.lookup f=some ⟨oc,od,.func (PySem.W.fnOf x x (defArgs st) (defBody st) (defScope st) .none kV dc pm an cd ct),sl⟩) (c:PySem.W.codeIn K cd x=true) (k:PySem.W.keepIn K (.ref f)=true)
  (b:∀ (kV doc pm:Value) (an:Option Addr) (cdv ct:Value) (us:List Value),us.length=ps.length→bindArgs (PySem.W.fnOf x x (defArgs st) (defBody st) (defScope st) .none kV doc pm an cdv ct) ⟨us,[]⟩=pure (ps.zip us)) :
  DefOk K mg x st ps f (PySem.W.fnOf x x (defArgs st) (defBody st) (defScope st) .none kV dc pm an cd ct):=
 ⟨fun_mk l c k,(fun_mk l c k).binds b,PySem.W.mg_of KX G a,fun us hl=>b _ _ _ _ _ _ us hl⟩
end

theorem cut_seq {t u:TS} {D:Ends} {σ:St} {H:Hp} (Mid:St→Hp→Prop) (h2:∀ σ' H',Mid σ' H'→u D σ' H') (h1:(∀ σ' H',Mid σ' H'→u D σ' H')→t { D with nx:=u D } σ H) : tSeq t u D σ H:=h1 h2

def eqVs:List V→List V→Bool
 | [],[]=>true
 | a :: r,b :: s=>eqV a b && eqVs r s
 | _,_=>false
theorem eqVs_len:∀ {xs ys:List V},xs.length≠ys.length→eqVs xs ys=false
 | [],[],h=>absurd rfl h
 | [],_ :: _,_=>rfl
 | _ :: _,[],_=>rfl
 | a :: r,b :: s,h=>by
  show (eqV a b && eqVs r s)=false
  rw [eqVs_len (xs:=r) (ys:=s) (fun e=>h (by rw [List.length_cons,List.length_cons,e])),Bool.and_false]
theorem eqVs_range:∀ {xs ys:List V},xs.length=ys.length→(List.range xs.length).all (fun j=>eqV ((xs[j]?).getD .non) ((ys[j]?).getD .non))=eqVs xs ys
 | [],[],_=>rfl
 | [],_ :: _,h=>by simp at h
 | _ :: _,[],h=>by simp at h
 | a :: r,b :: s,h=>by
  have ih:=eqVs_range (xs:=r) (ys:=s) (by simpa using h)
  rw [List.length_cons,List.range_succ_eq_map,List.all_cons,List.all_map]
  show (eqV a b && _)=(eqV a b && eqVs r s)
  rw [← ih]
  rfl
theorem eqV_refl:∀ {x:V},flatV x=true→eqV x x=true:=by
 intro x f
 cases x with
 | non=>rfl
 | bl b=>show (b == b)=true; simp
 | int i=>show (i == i)=true; simp
 | str s=>show (s == s)=true; simp
 | _=>exact absurd (show false=true from f) Bool.false_ne_true
theorem eqVs_refl:∀ {xs:List V},xs.all flatV=true→eqVs xs xs=true
 | [],_=>rfl
 | a :: r,h=>by
  rw [List.all_cons,Bool.and_eq_true] at h
  show (eqV a a && eqVs r r)=true
  rw [eqV_refl h.1,eqVs_refl h.2]
  rfl
section
variable {X:Cx}
theorem flat_get {xs:List V} (f:xs.all flatV=true) {j:Nat} {x:V} (h:xs[j]? = some x) : flatV x=true:=List.all_eq_true.mp f x (List.mem_of_getElem? h)
theorem items_eq {A:Around} {s:Shared} {xs ys:List V} {its its2:List Value} (r:Vals xs its) (r2:Vals ys its2) (fx:xs.all flatV=true) (fy:ys.all flatV=true) (j:Nat) (h1:j < its.toArray.size) (h2:j < its2.toArray.size) :
  SeqAt.EqAt A s its.toArray[j] its2.toArray[j] (eqV ((xs[j]?).getD .non) ((ys[j]?).getD .non)):=by
 have l1:=r.length
 have l2:=r2.length
 have h1':j < its.length:=by simpa using h1
 have h2':j < its2.length:=by simpa using h2
 have e1:xs[j]? = some xs[j]:=List.getElem?_eq_getElem (by omega)
 have e2:ys[j]? = some ys[j]:=List.getElem?_eq_getElem (by omega)
 obtain ⟨u,hu,ru⟩:=r.get e1
 obtain ⟨v,hv,rv⟩:=r2.get e2
 have eu:its.toArray[j]=u:=by
  have:its[j]? = some its[j]:=List.getElem?_eq_getElem h1'
  rw [hu] at this
  simpa using this.symm
 have ev:its2.toArray[j]=v:=by
  have:its2[j]? = some its2[j]:=List.getElem?_eq_getElem h2'
  rw [hv] at this
  simpa using this.symm
 rw [eu,ev,e1,e2]
 exact eqAt_V ru rv (flat_get fx e1) (flat_get fy e2)
def rEqL (K:PySem.W.Frag) (neg:Bool) : R2:=fun x y H Q=>∃ a b xs ys,x = .ref a∧y = .ref b∧SqL K H a xs∧SqL K H b ys∧xs.all flatV=true∧ys.all flatV=true∧Q (.bl (if neg then !eqVs xs ys else eqVs xs ys)) H
theorem op_eqL (hu:X.A.units < cLine) : OpR X (compareOp .Eq) (rEqL X.K false):=by
 intro pins s σ H x y v u Q I rx ry h
 obtain ⟨a,b,xs,ys,rfl,rfl,ha,hb,fx,fy,q⟩:=h
 cases rx
 cases ry
 obtain ⟨its,r,p,z⟩:=I.list ha
 obtain ⟨its2,r2,p2,z2⟩:=I.list hb
 have l1:=r.length
 have l2:=r2.length
 by_cases hl:xs.length=ys.length
 ·refine SeqAt.eq_listAt (e:=fun j=>eqV ((xs[j]?).getD .non) ((ys[j]?).getD .non)) p.isList p2.isList (by simp; omega) hu (fun j h1 h2=>items_eq r r2 fx fy j h1 h2) ⟨.bl _,H,I,rfl,?_⟩
  have e:its.toArray.size=xs.length:=by simp; omega
  rw [e,eqVs_range hl]
  exact q
 ·refine SeqAt.eq_list_lengthsAt p.isList p2.isList (by simp; omega) hu ⟨.bl false,H,I,rfl,?_⟩
  have q':Q (.bl (eqVs xs ys)) H:=q
  rw [eqVs_len hl] at q'
  exact q'
theorem op_neL (hu:X.A.units < cLine) : OpR X (compareOp .NotEq) (rEqL X.K true):=by
 intro pins s σ H x y v u Q I rx ry h
 obtain ⟨a,b,xs,ys,rfl,rfl,ha,hb,fx,fy,q⟩:=h
 cases rx
 cases ry
 obtain ⟨its,r,p,z⟩:=I.list ha
 obtain ⟨its2,r2,p2,z2⟩:=I.list hb
 have l1:=r.length
 have l2:=r2.length
 by_cases hl:xs.length=ys.length
 ·refine SeqAt.RcNeAt.lists (e:=fun j=>eqV ((xs[j]?).getD .non) ((ys[j]?).getD .non)) p.isList p2.isList (by simp; omega) hu (fun j h1 h2=>items_eq r r2 fx fy j h1 h2) _ _ _ _ ⟨.bl _,H,I,rfl,?_⟩
  have e:its.toArray.size=xs.length:=by simp; omega
  rw [e,eqVs_range hl]
  exact q
 ·refine SeqAt.RcNeAt.lists_lengths p.isList p2.isList (by simp; omega) hu _ _ _ _ ⟨.bl true,H,I,rfl,?_⟩
  have q':Q (.bl (!eqVs xs ys)) H:=q
  rw [eqVs_len hl] at q'
  exact q'

end

inductive DD where
 | bl (b:Bool)
 | int (i:Int)
 | str (s:Str)
 | tup (l:List DD)
 | lst (l:List DD)
mutual
def DD.deep:DD→Nat
 | .bl _=>0
 | .int _=>0
 | .str _=>0
 | .tup l=>deeps l+1
 | .lst l=>deeps l+1
def deeps:List DD→Nat
 | []=>0
 | d :: r=>max d.deep (deeps r)
end
mutual
def Rep (K:PySem.W.Frag) (H:Hp) : DD→V→Prop
 | .bl b,v=>v = .bl b
 | .int i,v=>v = .int i
 | .str s,v=>v = .str s
 | .tup l,v=>∃ a xs,v = .ref a∧SqT K H a xs∧l.length≤500000∧Reps K H l xs
 | .lst l,v=>∃ a xs,v = .ref a∧SqL K H a xs∧l.length≤500000∧Reps K H l xs
def Reps (K:PySem.W.Frag) (H:Hp) : List DD→List V→Prop
 | [],xs=>xs=[]
 | d :: l,xs=>∃ x r,xs=x :: r∧Rep K H d x∧Reps K H l r
end
theorem Reps.len {K:PySem.W.Frag} {H:Hp} : ∀ {l:List DD} {xs:List V},Reps K H l xs→xs.length=l.length
 | [],xs,h=>by
  unfold Reps at h
  rw [h]; rfl
 | d :: l,xs,h=>by
  unfold Reps at h
  obtain ⟨x,r,rfl,_,h⟩:=h
  rw [List.length_cons,List.length_cons,h.len]
theorem Reps.get {K:PySem.W.Frag} {H:Hp} : ∀ {l:List DD} {xs:List V} {i:Nat} {d:DD},Reps K H l xs→l[i]? = some d→∃ x,xs[i]? = some x∧Rep K H d x
 | [],_,_,_,_,e=>by simp at e
 | d :: l,xs,0,d',h,e=>by
  unfold Reps at h
  obtain ⟨x,r,rfl,hx,h⟩:=h
  have:d=d':=by simpa using e
  subst this
  exact ⟨x,rfl,hx⟩
 | d :: l,xs,i+1,d',h,e=>by
  unfold Reps at h
  obtain ⟨x,r,rfl,hx,h⟩:=h
  obtain ⟨y,ey,hy⟩:=h.get (i:=i) (by simpa using e)
  exact ⟨y,by simpa using ey,hy⟩
def isDD (T:String) : DD→Bool
 | .bl _=>T == "bool" || T == "int"
 | .int _=>T == "int"
 | .str _=>T == "str"
 | .tup _=>T == "tuple"
 | .lst _=>T == "list"
theorem Rep.isi {K:PySem.W.Frag} {H:Hp} {d:DD} {x:V} (h:Rep K H d x) (T:String) : isiV K T x H (isDD T d):=by
 cases d with
 | bl b=>unfold Rep at h; subst h; rfl
 | int b=>unfold Rep at h; subst h; rfl
 | str b=>unfold Rep at h; subst h; rfl
 | tup l =>
  unfold Rep at h
  obtain ⟨a,xs,rfl,s,_,_⟩:=h
  exact .inr ⟨⟨xs,s⟩,rfl⟩
 | lst l =>
  unfold Rep at h
  obtain ⟨a,xs,rfl,s,_,_⟩:=h
  exact .inl ⟨⟨xs,s⟩,rfl⟩

section
variable {X:Cx} {o i:Expr} {pos:Pos} {td ty:TE}
end

section
variable {P:Program} {w:World} {K:PySem.W.Frag} {mg:Str→Option Value} {base:Heap} {N:List Str} {qual:Str} {scope:Scope} {f:Addr} {cd:Value} {A:Around} {outer:List Env} {s:Shared} {H:Hp} {E:XK}
end

section
variable {X:Cx} {E:XK} {c:Str} {C:Addr} {e:Expr} {es:List Expr} {t:TA} {np cpos pos:Pos}
end
section
variable {X:Cx} {k:Nat} {f T:Addr} {fd:FuncData} {ps:List Str} {sp:Sp} {fx c:Str} {st:Stmt} {e:Expr} {es:List Expr} {t:TA} {b₀:Stmt} {suite:List Stmt} {th:TS} {np pf cpos apos hpos pos:Pos}
end
end L2

set_option maxHeartbeats 4000000
namespace L2
open PySem PySem.Spec PyProof.Rows Tl

section
variable {X:Cx}
end

section
variable {X:Cx} {elts:List Expr} {k1:Nat} {tp:Pos}
end

section
variable {X:Cx} {tg:Expr}
end
theorem op_eqNil {X:Cx} (hu:X.A.units < cLine) : OpR X (compareOp .Eq) (fun x y H Q=>∃ a b xs,x = .ref a∧y = .ref b∧SqL X.K H a xs∧SqL X.K H b []∧Q (.bl xs.isEmpty) H):=by
 intro pins s σ H x y v u Q I rx ry h
 obtain ⟨a,b,xs,rfl,rfl,ha,hb,q⟩:=h
 cases rx
 cases ry
 obtain ⟨its,r,p,z⟩:=I.list ha
 obtain ⟨its2,r2,p2,z2⟩:=I.list hb
 have l1:=r.length
 have l2:=r2.length
 cases xs with
 | nil =>
  refine SeqAt.eq_listAt (e:=fun _=>true) p.isList p2.isList (by simp at l1 l2 ⊢; omega) hu (fun j h1 h2=>absurd h1 (by simp at l1 ⊢; omega)) ⟨.bl _,H,I,rfl,?_⟩
  have e:its.toArray.size=0:=by rw [List.size_toArray]; exact l1.symm
  rw [e]
  exact q
 | cons x r=>exact SeqAt.eq_list_lengthsAt p.isList p2.isList (by simp at l1 l2 ⊢; omega) hu ⟨.bl false,H,I,rfl,q⟩
end L2

namespace L2
open PySem PySem.Spec PyProof.Rows

section
variable {X:Cx}
theorem all_true {n:Nat} : (List.range n).all (fun _=>true)=true:=List.all_eq_true.mpr fun _ _=>rfl
theorem same_new {H:Hp} {p:Addr} (h:H p=none) (o:HO) : Same H (upd H p o):=fun b u q=>by rw [upd_ne (ne_of_none q h)]; exact q
theorem Same.tup {K:PySem.W.Frag} {H H':Hp} {a:Addr} {xs:List V} (e:Same H H') (h:SqT K H a xs) : SqT K H' a xs:=by
 rcases h with (h | ⟨o,h⟩) | h
 ·exact .inl (.inl (e _ _ h))
 ·exact .inl (.inr ⟨o,e _ _ h⟩)
 ·exact .inr h
def sp_law (K:PySem.W.Frag) : Sp:=fun vs H Q _=>∃ (a:Addr) (ns:List Int),vs=[.ref a]∧SqL K H a (ns.map V.int)∧ns.length≤63∧∀ H',Q (.bl true) H'
theorem small {n:Nat} (h:n≤1000000) : n≤sizeLine:=Nat.le_of_lt (small1000 h)
theorem small2 {n:Nat} (h:n≤1000000) : n≤sizeLine:=Nat.le_trans h (by decide)
theorem le1:1≤sizeLine:=by decide
theorem le2:2≤sizeLine:=by decide
theorem le3:3≤sizeLine:=by decide
theorem le4:4≤sizeLine:=by decide
theorem get_int {ns:List Int} {i:Nat} {y:V} (h:(ns.map V.int)[i]? = some y) : ∃ z,y=V.int z∧ns[i]? = some z:=by
 rw [List.getElem?_map] at h
 cases e:ns[i]? with
 | none=>rw [e] at h; cases h
 | some z=>rw [e] at h; exact ⟨z,(Option.some.inj h).symm,rfl⟩
end
end L2

namespace HT
open PySem PyProof.Rows
section
open PySem.SeqAt
open PySem.AutoSeq1 (wpAny_loadPart')
open PySem.MeetsSeq PySem.MeetsSeq2 PySem.MeetsSeq3

end
end HT

namespace L2
open PySem PySem.Spec PyProof.Rows
section
variable {X:Cx}

end
end L2

set_option maxHeartbeats 4000000
namespace L2
open PySem PySem.Spec PyProof.Rows Tl
abbrev pl (x:Int × Int) : List V:=[.int x.1,.int x.2]
def nextTop (x:Int × Int) : Int × Int:=(x.1+1,0)
def rowsOn (h:Int) (x:Int × Int) (k:Int) : Int × Int:=if h≤x.2+k then nextTop x else (x.1,x.2+k)
def firstFrom (f:Int) (x:Int × Int) (l:Int) : Int × Int:=if l=4∧(f+x.1) % 2=0 then nextTop x else x
def behindI (h f:Int) (x:Int × Int) (l:Int) : Int × Int:=if l=0 then x else if l=1 then rowsOn h x 1 else if l=2 then rowsOn h x 2 else firstFrom f (nextTop x) l
def sooner (x y:Int × Int) : Bool:=decide (x.1 < y.1) || (decide (x.1=y.1) && decide (x.2 < y.2))
inductive Say where
 | text (l:List Nat)
 | page (k:Nat)
 | row (k:Nat)
def Dq (K:PySem.W.Frag) (H:Hp) : Nat→V→V→Prop
 | 0,x,y=>(flatV x=true∧flatV y=true∧eqV x y=true)∨∃ a,x = .ref a∧y = .ref a
 | n+1,x,y=>((flatV x=true∧flatV y=true∧eqV x y=true)∨∃ a,x = .ref a∧y = .ref a) ∨
   ∃ a b xs ys,x = .ref a∧y = .ref b∧((SqL K H a xs∧SqL K H b ys)∨(SqT K H a xs∧SqT K H b ys))∧xs.length=ys.length∧∀ (i:Nat) x y,xs[i]? = some x→ys[i]? = some y→Dq K H n x y
theorem items_deep {X:Cx} {pins:List (Addr × Obj)} {σ:St} {H:Hp} {s:Shared} {xs ys:List V} {its its2:List Value} {n:Nat} {A:Around} (r:Vals xs its) (r2:Vals ys its2)
  (d:∀ (i:Nat) x y,xs[i]? = some x→ys[i]? = some y→∀ u v,RelV x u→RelV y v→SeqAt.EqAt A s u v true) (j:Nat) (h1:j < its.toArray.size) (h2:j < its2.toArray.size) : SeqAt.EqAt A s its.toArray[j] its2.toArray[j] true:=by
 have l1:=r.length
 have l2:=r2.length
 have h1':j < its.length:=by simpa using h1
 have h2':j < its2.length:=by simpa using h2
 have hx:j < xs.length:=by omega
 have hy:j < ys.length:=by omega
 have e1:xs[j]? = some xs[j]:=List.getElem?_eq_getElem hx
 have e2:ys[j]? = some ys[j]:=List.getElem?_eq_getElem hy
 obtain ⟨u,hu,ru⟩:=r.get e1
 obtain ⟨v,hv,rv⟩:=r2.get e2
 have eu:its.toArray[j]=u:=by
  have:its[j]? = some its[j]:=List.getElem?_eq_getElem h1'
  rw [hu] at this
  simpa using this.symm
 have ev:its2.toArray[j]=v:=by
  have:its2[j]? = some its2[j]:=List.getElem?_eq_getElem h2'
  rw [hv] at this
  simpa using this.symm
 rw [eu,ev]
 exact d j _ _ e1 e2 u v ru rv
theorem min_true {n m:Nat} (h:n=m) : ((List.range (min n m)).all (fun _=>true) && (n == m))=true:=by
 rw [all_true,h]
 simp
theorem deep_eq {X:Cx} {pins:List (Addr × Obj)} {σ:St} {H:Hp} {s:Shared} (I:Inv X pins σ H s) : ∀ (n:Nat) (A:Around) (x y:V) (u v:Value),Dq X.K H n x y→RelV x u→RelV y v→A.units+n < cLine→SeqAt.EqAt A s u v true
 | 0,A,x,y,u,v,d,ru,rv,hu=>by
  rcases d with ⟨f,g,e⟩ | ⟨a,rfl,rfl⟩
  ·have:=eqAt_V (A:=A) (s:=s) ru rv f g
   rw [e] at this
   exact this
  ·cases ru
   cases rv
   exact SeqAt.EqAt.same _
 | n+1,A,x,y,u,v,d,ru,rv,hu=>by
  rcases d with (⟨f,g,e⟩ | ⟨a,rfl,rfl⟩) | ⟨a,b,xs,ys,rfl,rfl,hab,hl,hd⟩
  ·have:=eqAt_V (A:=A) (s:=s) ru rv f g
   rw [e] at this
   exact this
  ·cases ru
   cases rv
   exact SeqAt.EqAt.same _
  ·cases ru
   cases rv
   by_cases e:a=b
   ·subst e
    exact SeqAt.EqAt.same _
   have hrec:=fun i x y (e1:xs[i]? = some x) (e2:ys[i]? = some y) u v (ru:RelV x u) (rv:RelV y v)=>deep_eq I n A.in1 x y u v (hd i x y e1 e2) ru rv (by show A.units+1+n < cLine; omega)
   rcases hab with ⟨ha,hb⟩ | ⟨ha,hb⟩
   ·obtain ⟨its,r,p,z⟩:=I.list ha
    obtain ⟨its2,r2,p2,z2⟩:=I.list hb
    have l1:=r.length
    have l2:=r2.length
    have:=SeqAt.RcAt.lists (A:=A) (e:=fun _=>true) p.isList p2.isList (by simp; omega) (by omega) (fun j h1 h2=>items_deep (X:=X) (pins:=pins) (σ:=σ) (H:=H) (n:=n) r r2 hrec j h1 h2)
    rw [all_true] at this
    exact SeqAt.EqAt.of_refs e this
   ·obtain ⟨its,r,p,z⟩:=I.tuple ha
    obtain ⟨its2,r2,p2,z2⟩:=I.tuple hb
    have l1:=r.length
    have l2:=r2.length
    have:=SeqAt.RcAt.tuples (A:=A) (e:=fun _=>true) p p2 (by omega) (fun j h1 h2=>items_deep (X:=X) (pins:=pins) (σ:=σ) (H:=H) (n:=n) r r2 hrec j h1 h2)
    rw [min_true (by simp; omega)] at this
    exact SeqAt.EqAt.of_refs e this
section
variable {X:Cx}
theorem pre_sum (ns:List Int) : ∀ k,k≤ns.length→preSum (fun i=>(ns[i]?).getD 0) k=(ns.take k).sum
 | 0,_=>by simp [preSum]
 | k+1,h=>by
  rw [preSum,pre_sum ns k (by omega),List.take_add_one,List.getElem?_eq_getElem (by omega),List.sum_append]
  show _+ns[k]=_+(ns[k]+0)
  rw [Int.add_zero]
theorem call_sum (hc:X.calm=true) : CallR X (.builtin "sum") (fun xs H Q=>∃ (l:Addr) (ns:List Int),xs=[.ref l]∧SqL X.K H l (ns.map V.int)∧Q (.int ns.sum) H):=by
 intro pins s σ H xs us Q I r h
 obtain ⟨l,ns,rfl,hl,q⟩:=h
 obtain ⟨u,rfl,ru⟩:=vals1 r
 cases ru
 obtain ⟨its,rv,p,z⟩:=I.list hl
 have hlt:l < s.heap.objs.size:=by obtain ⟨_,_,e,_⟩:=p; exact Heap.lt_size e
 have len:=rv.length
 rw [List.length_map] at len
 refine call_sum_walkG (wpAny_pyIter_list p.isList ?_)
 refine ⟨s.heap.objs.size,[s.heap.objs.size,l],[s.heap.objs.size],its.toArray.size,_,_,fun i=>(ns[i]?).getD 0,rfl,Walks.list (A:=X.A.in1) (I.ok.hd hc) _ l (Nat.ne_of_lt hlt) its.toArray,
  ⟨⟨_,Heap.get?_push_size _ rfl,rfl,rfl⟩,p.isList.push _⟩,fun b hb=>?_,fun i v hP=>?_,fun h' tk t' hk=>?_⟩
 ·show b < (s.heap.push _).objs.size
  rw [Heap.size_push]
  rcases List.mem_cons.mp hb with rfl | hb
  ·exact Nat.lt_succ_self _
  ·rw [List.mem_singleton.mp hb]
   exact Nat.lt_succ_of_lt hlt
 ·have hi:its[i]? = some v:=by simpa using hP
  have hlt2:i < ns.length:=by
   have:=(List.getElem?_eq_some_iff.mp hi).1
   omega
  have eb:(ns.map V.int)[i]? = some (V.int ns[i]):=by rw [List.getElem?_map,List.getElem?_eq_getElem hlt2]; rfl
  obtain ⟨w',hw,t,ht⟩:=rv.get eb
  rw [hi] at hw
  cases hw
  refine ⟨t,?_⟩
  have e2:(ns[i]?).getD 0=ns[i]:=by rw [List.getElem?_eq_getElem hlt2]; rfl
  show v=Value.int ((ns[i]?).getD 0) t
  rw [e2]
  exact ht
 ·have e1:its.toArray.size=ns.length:=by simp; omega
  have e:preSum (fun i=>(ns[i]?).getD 0) its.toArray.size=ns.sum:=by
   rw [e1,pre_sum ns _ (Nat.le_refl _),List.take_length]
  rw [e]
  exact ⟨.int _,H,I.kept fun b x e=>hk b x (fun hm=>by rw [List.mem_singleton.mp hm] at e; exact Nat.lt_irrefl _ (Heap.lt_size e)) (Heap.get?_push_of_some _ e),⟨_,rfl⟩,q⟩
end
theorem Same.put {H H2:Hp} {r:Addr} {o:HO} (s:Same H H2) (hr:H r=none) : Same H (upd H2 r o):=fun b u q=>by rw [upd_ne (ne_of_none q hr)]; exact s b u q
theorem cutV_map {α:Type} (f:α→V) (ns:List α) (lo hi:Option Int) : cutV (ns.map f) lo hi=(cutL ns lo hi).map f:=by
 unfold cutV cutL
 rw [List.length_map,List.map_take,List.map_drop]
structure Wd where
 lead:Int
 kept:Bool
 say:Say
 foot:List Say

section
variable {prog:Program} {w:World} {A:Around} {R:Result→Shared→Prop} {I:Addr} {fp wr:List Addr} {P:Nat→Value→Prop} {St:Nat→Heap→Prop}
end
section
variable {prog:Program} {w:World} {A:Around} {R:Result→Shared→Prop} {I:Addr} {fp wr:List Addr} {P:Nat→Value→Prop} {St:Nat→Heap→Prop}
end
def laterI (x y:Int × Int) : Int × Int:=if sooner x y then y else x
structure Frm where
 w:Int
 h:Int
 f:Int
 m:Int
def wd0:Wd:=⟨0,false,.text [],[]⟩
abbrev dAt (ds:List Wd) (i:Nat) : Wd:=ds.getD i wd0
abbrev xAt (xs:List (Int × Int)) (i:Nat) : Int × Int:=xs.getD i (0,0)
def toldBehind (F:Frm) (ds:List Wd) (xs:List (Int × Int)) (i:Nat) : Int × Int:=
 firstFrom F.f (if 0 < i then laterI (xAt xs i) (behindI F.h F.f (xAt xs (i - 1)) (dAt ds i).lead) else xAt xs i) (dAt ds i).lead
theorem op_neNil {X:Cx} (hu:X.A.units < cLine) : OpR X (compareOp .NotEq) (fun x y H Q=>∃ a b xs,x = .ref a∧y = .ref b∧SqL X.K H a xs∧SqL X.K H b []∧Q (.bl (!xs.isEmpty)) H):=by
 intro pins s σ H x y v u Q I rx ry h
 obtain ⟨a,b,xs,rfl,rfl,ha,hb,q⟩:=h
 cases rx
 cases ry
 obtain ⟨its,r,p,z⟩:=I.list ha
 obtain ⟨its2,r2,p2,z2⟩:=I.list hb
 have l1:=r.length
 have l2:=r2.length
 cases xs with
 | nil =>
  refine SeqAt.RcNeAt.lists (e:=fun _=>true) p.isList p2.isList (by simp at l1 l2 ⊢; omega) hu (fun j h1 h2=>absurd h1 (by simp at l1 ⊢; omega)) _ _ _ _ ⟨.bl _,H,I,rfl,?_⟩
  have e:its.toArray.size=0:=by rw [List.size_toArray]; exact l1.symm
  rw [e]
  exact q
 | cons x r=>exact SeqAt.RcNeAt.lists_lengths p.isList p2.isList (by simp at l1 l2 ⊢; omega) hu _ _ _ _ ⟨.bl true,H,I,rfl,q⟩
inductive CL:List Expr→List V→Prop where
 | nil:CL [] []
 | int {i:Int} {j:Nat} {pos:Pos} {es:List Expr} {vs:List V} (h:CL es vs) : CL (.Constant (.int i) j pos :: es) (.int i :: vs)
 | str {x:Str} {j:Nat} {pos:Pos} {es:List Expr} {vs:List V} (h:CL es vs) : CL (.Constant (.str x) j pos :: es) (.str x :: vs)
def tVs (vs:List V) : TA:=fun _ H Q=>Q vs H
theorem pa_cl {X:Cx} : ∀ {es:List Expr} {vs:List V},CL es vs→PA X es (tVs vs)
 | _,_,.nil=>pa_nil
 | _,_,.int h=>pa_cons pe_int (pa_cl h)
 | _,_,.str h=>pa_cons pe_str (pa_cl h)
theorem ps_pick {X:Cx} {i:Nat} {x:Str} {es:List Expr} {vs:List V} {b:Expr} {tb:TE} {p1 p2 p3 p4:Pos} (hN:X.N.Nodup) (hi:X.N[i]? = some x) (hx:Loc X.env.scope x) (hc:CL es vs) (hb:PE X b tb) (hs:PlainIx b)
  (hf:X.fn x=true∨X.env.scope.names.lookup x=some .local) : PS X (.Assign [.Name x p1] (.Subscript (.List es p2) b p3) p4) (tAsg (tOp (rIxL X.K) (tLst (tVs vs)) tb) (gName i)):=
 ps_set (i:=i) hN hi hx (pe_ix ix_list (pe_lst (pa_cl hc)) hb hs)
def rLen (K:PySem.W.Frag) : List V→Hp→VK→Prop:=fun xs H Q=>∃ p ys,xs=[.ref p]∧(SqL K H p ys∨SqT K H p ys)∧Q (.int (ys.length:Nat)) H
def kB:Str:=PySem.Str.ofString "behind"
def kW:Str:=PySem.Str.ofString "wide"
def kN:Str:=PySem.Str.ofString "never"
section
variable (F:Frm) (ds:List Wd) (xs:List (Int × Int)) (k:Str) (i:Nat) (j:Int)
def lr1:Int × Int:=if k=kB∧j=(i:Int) - 1 then toldBehind F ds xs i else xAt xs i
end
section
variable {F:Frm} {ds:List Wd} {xs ys:List (Int × Int)}
end
section
variable {prog:Program} {w:World} {A:Around} {R:Result→Shared→Prop} {I:Addr} {fp wr:List Addr} {n:Nat} {P:Nat→Value→Prop} {St:Nat→Heap→Prop}
end
section
variable {F:Frm} {ds:List Wd} {xs:List (Int × Int)} {i:Nat}
end
section
variable {F:Frm} {ds:List Wd} {xs ys:List (Int × Int)} {i:Nat}
end
theorem rep1 {α:Type} (x:α) : ∀ n:Nat,(List.replicate n [x]).flatten=List.replicate n x
 | 0=>rfl
 | n+1=>by rw [List.replicate_succ,List.flatten_cons,rep1 x n]; rfl
section
variable {X:Cx} {elts:List Expr} {k1:Nat} {tp:Pos}
end
end L2

set_option maxHeartbeats 4000000
namespace PySem
section
variable {prog:Program} {w:World} {A:Around} {E:Value→Shared→Prop} {s:Shared}
end
section
variable {prog:Program} {w:World} {A:Around} {R:Result→Shared→Prop}
end
namespace F
end F
section
variable {prog:Program} {w:World} {A:Around} {s:Shared} {R:Result→Shared→Prop}
end
section
variable {prog:Program} {w:World} {A:Around} {E:Value→Shared→Prop} {s:Shared}
end
end PySem

set_option maxHeartbeats 4000000
namespace L2
open PySem PySem.Spec PyProof.Rows Tl
section
variable {X:Cx} {x:Str} {st:Stmt} {ps:List Str} {f:Addr} {fd:FuncData} {dv:Value} {k:Nat} {sp:Sp} {e:Expr} {es:List Expr} {t:TA} {p pos:Pos}
end
section
variable {F:Frm} {ds:List Wd} {xs ys zs:List (Int × Int)} {i j:Nat}
end
section
variable {F:Frm} {ds:List Wd} {x0 xs zs:List (Int × Int)} {np i:Nat}
end
section
variable {F:Frm} {ds:List Wd} {xs:List (Int × Int)} {i j:Nat}
end
section
variable {room:Int} {brk:Nat→Bool}
end
section
variable {F:Frm} {ds:List Wd} {L room:Int} {brk:Nat→Bool}
end
section
variable {F:Frm} {ds:List Wd} {xs:List (Int × Int)} {i j:Nat}
end
section
variable {F:Frm} {ds es:List Wd} {xs ys:List (Int × Int)} {a r:Nat}
end
section
variable {a:Nat} {ds rs:List Wd}
end
section
variable {F:Frm} {ds:List Wd} {xs:List (Int × Int)} {k:Nat}
end
section
variable {F:Frm} {ds es:List Wd} {xs:List (Int × Int)} {k j:Nat} {h h' f w:Int}
end
section
variable {K:PySem.W.Frag} {H0 H H':Hp} {as:List Addr} {ds:List Wd}
end
section
variable {X:Cx}
end
section
variable {prog:Program} {w:World} {A:Around} {E:Value→Shared→Prop} {s:Shared}
end
section
variable {X:Cx} {pos:Pos}
end
section
variable {X:Cx} {elt iter:Expr} {ifs:List Expr} {scope:Scope} {cl:List (Str × Addr)} {pos px py tp:Pos} {k1:Nat} {x y:Str} {caps:List Str} {js:List Nat} {tc:TT} {te:TE} {wi:TI}
def g2 (K:PySem.W.Frag) : TG:=gTup K 2 (gCons (gName 0) (gCons (gName 1) gNil))
end
end L2

set_option maxHeartbeats 4000000
namespace L2
open PySem PySem.W PySem.Calls PySem.Spec PyProof.Rows Builtin Builtin.ObjectAttr Builtin.Getset_descriptor
section
variable {prog:Program} {w:World} {A:Around} {E:Value→Shared→Prop} {h:Heap} {g:Array GenState} {d:Drawn} {t:Nat} {os:OsState} {K:Frag} {x C:Addr}
end
end L2

namespace L2
open PySem PySem.W PySem.Spec PyProof.Rows
section
variable {X:Cx} {pins:List (Addr × Obj)} {σ:St} {H:Hp} {s:Shared}
end
section
variable {X:Cx} {k:Nat} {f T:Addr} {fd:FuncData} {ps:List Str} {sp:Sp} {fx c n:Str} {i:Nat} {st:Stmt} {e:Expr} {es:List Expr} {t:TA} {b₀:Stmt} {suite:List Stmt} {th:TS} {np pf cpos apos hpos pos:Pos}
end
end L2

set_option maxHeartbeats 4000000
namespace L2
open PySem PySem.Spec PyProof.Rows Builtin Builtin.ObjectAttr
section
variable {prog:Program} {w:World} {A:Around} {E:Value→Shared→Prop} {h:Heap} {g:Array GenState} {d:Drawn} {t:Nat} {os:OsState} {a:Addr} {o:Obj}
theorem lk_list_keys:typeLookup (.type "list") "keys" = pure none:=by rw [typeLookup_type,builtinLookup_eq_fast]; kernel_rfl
theorem sub_attr:isSubtype (.type "AttributeError") (.type "AttributeError")=pure true:=by rw [isSubtype_type]; kernel_rfl
theorem raise_attr {α:Type} {ov:Value} {name msg:Str} {Q:α→Shared→Prop} (hm:msg.length≤sizeLine) (hh:A.handled=none)
  (hq:∀ h' t' e,(∀ b o,h.get? b=some o→h'.get? b=some o)→(∃ ob,h'.get? e=some ob∧ob.cls = .type "AttributeError")→E (.ref e) ⟨h',g,d,t',os⟩) :
  wpAny (model prog w) A (raiseAttrError ov name msg:Sem α) Q E ⟨h,g,d,t,os⟩:=by
 unfold raiseAttrError
 refine wpAny_bind (wpAny_mkStr (wpAny_bind ?_) hm)
 unfold newExc newTuple
 refine wpAny_bind (wpAny_newObj_type ?_ (by size_fits))
 refine wpAny_bind (m:=firstArgMember _ _) (wpAny_of_eq (a:=Value.none) (by unfold firstArgMember; kernel_rfl) ?_)
 refine wpAny_newObj_type ?_ (by size_fits)
 have hE:=Heap.get?_push_size (h.push { cls:=.type "tuple",data:=.seq #[Value.str msg t] }) (o:={ cls:=.type "AttributeError",data:=.fields (#[Value.ref h.objs.size,.none,.none,.none,.bool false,.none]++ownMembersOf (.type "AttributeError") [Value.str msg t]) }) rfl
 have hT:(⟨(h.push { cls:=.type "tuple",data:=.seq #[Value.str msg t] }).push { cls:=.type "AttributeError",data:=.fields (#[Value.ref h.objs.size,.none,.none,.none,.bool false,.none]++ownMembersOf (.type "AttributeError") [Value.str msg t]) },g,d,t+1,os⟩ : Shared).TypeIs (.ref (h.push { cls:=.type "tuple",data:=.seq #[Value.str msg t] }).objs.size) "AttributeError":=⟨_,hE,rfl⟩
 have f1:=sub_attr
 unfold noteAttr lacksNameAndObj layMembers
 repeat (any_goals (first | assumption | wp_step))
 unfold raiseNew
 refine wpAny_bind (wpAny_handled ?_)
 rw [hh]
 first
  | refine wpAny_throw ?_
  | refine wpAny_bind (wpAny_pure (wpAny_throw ?_))
 refine hq _ _ _ (fun b o hb=>?_) ⟨_,Heap.get?_update_self _ hE rfl,rfl⟩
 have lt:=Heap.lt_size hb
 refine (Heap.get?_update_other _ _ (fun e=>?_)).trans (Heap.get?_push_of_some _ (Heap.get?_push_of_some _ hb))
 have sz:(h.push { cls:=.type "tuple",data:=.seq #[Value.str msg t] }).objs.size=h.objs.size+1:=Heap.size_push ..
 have e':(h.push { cls:=.type "tuple",data:=.seq #[Value.str msg t] }).objs.size=b:=e
 exact absurd lt (by rw [← e',sz]; exact Nat.not_lt.mpr (Nat.le_succ _))
theorem keys_entry {tk:Tok} {Q:Fin→Shared→Prop} {its:Array Value} {n:Nat} {sl:Array (Option Value)} (hx:h.get? a=some ⟨.type "list",none,.seq its n,sl⟩) (hh:A.handled=none)
  (hq:∀ h' t' e,(∀ b o,h.get? b=some o→h'.get? b=some o)→(∃ ob,h'.get? e=some ob∧ob.cls = .type "AttributeError")→E (.ref e) ⟨h',g,d,t',os⟩) :
  wpAny (model prog w) A (Builtin.«object.__getattribute__» ⟨[.ref a,.str "keys" tk],[]⟩) Q E ⟨h,g,d,t,os⟩:=by
 have hT:(⟨h,g,d,t,os⟩ : Shared).TypeIs (.ref a) "list":=⟨_,hx,rfl⟩
 have f4:=lk_list_keys
 repeat (any_goals (first | assumption | wp_step))
 exact raise_attr (by decide +kernel) hh hq
theorem sub_attr_list:typeLookup (.type "list") "__getattr__" = pure none:=by rw [typeLookup_type,builtinLookup_eq_fast]; kernel_rfl
theorem keys_call {tk:Tok} {R:Result→Shared→Prop} {its:Array Value} {n:Nat} {sl:Array (Option Value)} (hx:h.get? a=some ⟨.type "list",none,.seq its n,sl⟩) (hh:A.handled=none)
  (hq:∀ h' t' e,(∀ b o,h.get? b=some o→h'.get? b=some o)→(∃ ob,h'.get? e=some ob∧ob.cls = .type "AttributeError")→R (.error (.ref e)) ⟨h',g,d,t',os⟩) :
  codeAny (model prog w) A (.call (.builtin "list.__getattribute__") ⟨[.ref a,.str "keys" tk],[]⟩) R ⟨h,g,d,t,os⟩:=
 codeAny_call_builtin F.slot_list_getattribute.plain F.entry_list_ga (F.slot_list_getattribute.check _ _ _ _ _ _ _ _ (show (⟨h,g,d,t,os⟩ : Shared).TypeIs (.ref a) "list" from ⟨_,hx,rfl⟩) (F.args_list_getattribute_2 _ _) (keys_entry hx hh hq))
theorem keys_by {tk:Tok} {Q:Value→Shared→Prop} {its:Array Value} {n:Nat} {sl:Array (Option Value)} (hx:h.get? a=some ⟨.type "list",none,.seq its n,sl⟩) (hh:A.handled=none)
  (hq:∀ h' t' e,(∀ b o,h.get? b=some o→h'.get? b=some o)→(∃ ob,h'.get? e=some ob∧ob.cls = .type "AttributeError")→E (.ref e) ⟨h',g,d,t',os⟩) :
  wpAny (model prog w) A (getAttrBy (.ref a) (.str "keys" tk) false) Q E ⟨h,g,d,t,os⟩:=by
 have hT:(⟨h,g,d,t,os⟩ : Shared).TypeIs (.ref a) "list":=⟨_,hx,rfl⟩
 have f2:=F.slot_list_getattribute.lookup
 have f3:=F.slot_list_getattribute.bind (.ref a)
 repeat (any_goals (first | assumption | wp_step))
 refine keys_call hx hh fun h' t' e k ex=>?_
 obtain ⟨ob,he,hec⟩:=id ex
 have hT2:(⟨h',g,d,t',os⟩ : Shared).TypeIs (.ref e) "AttributeError":=⟨_,he,hec⟩
 have f5:=sub_attr
 have f6:=sub_attr_list
 show wpAny (model prog w) A (getattributeRaised (Value.ref a) (Value.str (Str.ofString "keys") tk) (Value.type "list") (.ref e) none false false) Q E ⟨h',g,d,t',os⟩
 unfold getattributeRaised hookBehind
 repeat (any_goals (first | assumption | wp_step))
 exact hq _ _ _ k ex
theorem keys_none {Q:Option Value→Shared→Prop} {its:Array Value} {n:Nat} {sl:Array (Option Value)} (hx:h.get? a=some ⟨.type "list",none,.seq its n,sl⟩) (hh:A.handled=none)
  (hq:∀ h' t',(∀ b o,h.get? b=some o→h'.get? b=some o)→Q none ⟨h',g,d,t',os⟩) :
  wpAny (model prog w) A (getAttr? (.ref a) "keys") Q E ⟨h,g,d,t,os⟩:=by
 unfold getAttr? getAttrBy?
 repeat (any_goals (first | assumption | with_reducible apply keys_by hx hh | wp_step))
 rintro h' t' e k ⟨ob,he,hec⟩
 have hT2:(⟨h',g,d,t',os⟩ : Shared).TypeIs (.ref e) "AttributeError":=⟨_,he,hec⟩
 have f5:=sub_attr
 repeat (any_goals (first | assumption | wp_step))
 exact hq _ _ k
end
end L2

namespace L2
open PySem PySem.Spec PyProof.Rows
def laid (kvs:List (Key × Value)) : List (Key × Value):=kvs.foldl (fun m kv=>stored m kv.1 kv.2) []
theorem laid_snoc (kvs:List (Key × Value)) (kv:Key × Value) : laid (kvs++[kv])=stored (laid kvs) kv.1 kv.2:=by unfold laid; rw [List.foldl_append]; rfl
theorem stored_len (m:List (Key × Value)) (k:Key) (v:Value) : (stored m k v).length≤m.length+1:=by
 unfold stored
 split
 ·rw [List.length_map]; omega
 ·rw [List.length_append]; simp
theorem entry_upd_loop:entryFor table "dict.update.loop" = some Builtin.«dict.update.loop»:=entryFor_of_tree (by kernel_rfl)
theorem plain_upd_loop:plainId "dict.update.loop" = true:=by decide +kernel
section
variable {prog:Program} {w:World} {A:Around} {R:Result→Shared→Prop} {i0 l d:Addr} {its:Array Value} {kvs:List (Key × Value)}
def Prs (prog:Program) (w:World) (h:Heap) (its:Array Value) (kvs:List (Key × Value)) : Prop:=its.size=kvs.length∧∀ (j:Nat) v k x,its[j]? = some v→kvs[j]? = some (k,x)→∃ p key,v = .ref p∧IsTup h p #[key,x]∧(mixKind prog w).is k key=true
theorem tup_keep {h h':Heap} {p a:Addr} {xs:Array Value} (t:IsTup h p xs) (s:Heap.SameBut a h h') (n:p≠a) : IsTup h' p xs:=by
 obtain ⟨o,ho,r⟩:=t
 exact ⟨o,(s.2 p n).trans ho,r⟩
theorem Prs.keep {h h':Heap} {a:Addr} (t:Prs prog w h its kvs) (s:Heap.SameBut a h h') (n:∀ o,h.get? a=some o→o.cls≠.type "tuple") : Prs prog w h' its kvs:=⟨t.1,fun j v k x e1 e2=>by
 obtain ⟨p,key,e3,tp,kk⟩:=t.2 j v k x e1 e2
 refine ⟨p,key,e3,tup_keep tp s fun e=>?_,kk⟩
 obtain ⟨o,ho,hc,_⟩:=tp
 exact n o (by rw [← e]; exact ho) hc⟩
theorem code_upd_loop (ne1:i0≠d) (ne2:l≠d) (ne3:l≠i0) (hh:A.in1.handled=none) (hz:its.size≤100000) :
  ∀ (k i:Nat) (s:Shared),its.size - i=k→i≤its.size→s.heap.IsListIter i0 l i→s.heap.IsList l its→s.heap.DictOf (mixKind prog w) d (laid (kvs.take i))→(laid (kvs.take i)).length≤i→Prs prog w s.heap its kvs →
  (∀ h' tk,h'.DictOf (mixKind prog w) d (laid kvs)→(∀ b o,b≠d→b≠i0→s.heap.get? b=some o→h'.get? b=some o)→R (.ok (.ret .none)) { s with heap:=h',toks:=tk }) →
  codeAny (model prog w) A (.builtin "dict.update.loop" ⟨[.ref d,.ref i0,rawInt (i:Int),.none],[]⟩) R s:=by
 intro k
 induction k with
 | zero =>
  intro i s hk hi hit hl hd hdl hp hR
  have ei:i=its.size:=by omega
  refine codeAny_builtin entry_upd_loop ?_
  rw [Around.under_plainId plain_upd_loop _]
  show wpAny _ A.in1 (pyNext (.ref i0) >>= _) _ _ s
  refine wpAny_bind (wpAny_pyNext_list_end hh hit hl (by simp [ei]) fun h' ex=>?_)
  refine wpAny_bind (wpAny_pure ?_)
  have e1:kvs.take i=kvs:=List.take_of_length_le (by rw [ei,hp.1]; exact Nat.le_refl _)
  rw [e1] at hd
  exact wpAny_pure (hR h' _ (hd.extBut ex (Ne.symm ne1)) fun b o _ hb e=>ex b o hb e)
 | succ k ih =>
  intro i s hk hi hit hl hd hdl hp hR
  have hlt:i < its.size:=by omega
  have hkl:i < kvs.length:=by rw [← hp.1]; exact hlt
  refine codeAny_builtin entry_upd_loop ?_
  rw [Around.under_plainId plain_upd_loop _]
  show wpAny _ A.in1 (pyNext (.ref i0) >>= _) _ _ s
  refine wpAny_bind (wpAny_pyNext_list_item hit hl (x:=its[i]) (by simp [hlt]) fun h1 it1 sb1=>?_)
  have hp1:Prs prog w h1 its kvs:=hp.keep sb1 fun o ho hc=>by
   obtain ⟨o2,ho2,hc2,_⟩:=hit
   rw [ho] at ho2
   cases ho2
   rw [hc] at hc2
   exact absurd (Value.type.inj hc2) (by decide)
  obtain ⟨p,key,ev,tp,kk⟩:=hp1.2 i its[i] kvs[i].1 kvs[i].2 (by simp [hlt]) (by rw [List.getElem?_eq_getElem hkl])
  rw [ev]
  have hd1:=hd.sameBut sb1 (Ne.symm ne1)
  have hT:({ s with heap:=h1 } : Shared).TypeIs (.ref p) "tuple":=by
   obtain ⟨o,ho,hc,_⟩:=tp
   exact ⟨o,ho,hc⟩
  obtain ⟨ot,hot,hotc,nt,hotd⟩:=id tp
  show wpAny _ A.in1 (holding [Value.ref p] _ >>= _) _ _ _
  refine wpAny_bind (wpAny_holding (wpAny_bind (wpAny_tryCatch ?_)))
  unfold Builtin.Dict.pairItems
  refine wpAny_bind (wpAny_typeOf hT ?_)
  rw [if_pos (by decide)]
  refine wpAny_bind (wpAny_seqItems hot hotd (wpAny_pure ?_))
  show wpAny _ A.in1 (holding [key,kvs[i].2] (dictSet d key kvs[i].2)) _ _ _
  refine wpAny_holding (wpAny_dictSet_pairs kk hd1 (fun h2 dd sb2=>?_) (Nat.le_trans hdl (Nat.le_trans hi (Nat.le_trans hz (by decide)))))
  have tk1:kvs.take (i+1)=kvs.take i++[kvs[i]]:=by rw [List.take_add_one,List.getElem?_eq_getElem hkl]; rfl
  have dd2:h2.DictOf (mixKind prog w) d (laid (kvs.take (i+1))):=by rw [tk1,laid_snoc]; exact dd
  have hp2:Prs prog w h2 its kvs:=hp1.keep sb2 fun o ho hc=>by
   have ty:({ s with heap:=h1 } : Shared).TypeIs (.ref d) "dict":=hd1.typeIs
   obtain ⟨o2,ho2,hc2⟩:=ty
   have ho3:h1.get? d=some o2:=ho2
   rw [ho] at ho3
   cases ho3
   rw [hc] at hc2
   exact absurd (Value.type.inj hc2) (by decide)
  have it2:h2.IsListIter i0 l (i+1):=by
   obtain ⟨o2,ho2,r⟩:=it1
   exact ⟨o2,(sb2.2 _ ne1).trans ho2,r⟩
  have hl2:h2.IsList l its:=by
   obtain ⟨o2,ho2,r⟩:=hl
   exact ⟨o2,(sb2.2 _ ne2).trans ((sb1.2 _ ne3).trans ho2),r⟩
  have sl:(laid (kvs.take (i+1))).length≤i+1:=by
   rw [tk1,laid_snoc]
   have:=stored_len (laid (kvs.take i)) kvs[i].1 kvs[i].2
   omega
  refine wpAny_pure ⟨plainId_quiet plain_upd_loop _,ih (i+1) _ (by omega) hlt it2 hl2 dd2 sl hp2 fun h' tk dd' kp=>hR h' tk dd' fun b o n1 n2 e=>kp b o n1 n2 ?_⟩
  exact (sb2.2 _ n1).trans ((sb1.2 _ n2).trans e)
end
def laidK (kvs:List (Key × V)) : List (Key × V):=kvs.foldl (fun m kv=>putK m kv.1 kv.2) []
theorem laidK_snoc (kvs:List (Key × V)) (kv:Key × V) : laidK (kvs++[kv])=putK (laidK kvs) kv.1 kv.2:=by unfold laidK; rw [List.foldl_append]; rfl
def PrsA (K:PySem.W.Frag) (H:Hp) (ps:List V) (kvs:List (Key × V)) : Prop:=ps.length=kvs.length∧∀ (j:Nat) p k v,ps[j]? = some p→kvs[j]? = some (k,v)→∃ a,p = .ref a∧SqT K H a [kV k,v]
section
variable {X:Cx}
theorem call_dict_pairs (hc:X.calm=true) : CallR X (.type "dict") (fun xs H Q=>∃ l ps kvs,xs=[.ref l]∧SqL X.K H l ps∧ps.length≤100000∧PrsA X.K H ps kvs∧∀ p,H p=none→Q (.ref p) (upd H p (.dK (laidK kvs)))):=by
 intro pins s σ H xs us Q I r h
 obtain ⟨l,ps,kvs,rfl,hl,hz,hp,q⟩:=h
 obtain ⟨u,rfl,ru⟩:=vals1 r
 cases ru
 obtain ⟨its,rv,p,z⟩:=I.list hl
 have hh:=I.ok.hd hc
 refine callType_codes (Q₁:=fun obj s₁=>obj = .ref s.heap.objs.size∧s₁={ s with heap:=s.heap.push { cls:=.type "dict",data:=.dict #[] } }) F.kt_called_dict (F.kt_typeCall_dict_1 _) F.entry_dict_init (kt_code_dict_new _ ⟨rfl,rfl⟩) ?_
 rintro obj s₁ ⟨rfl,rfl⟩
 have hnew:(s.heap.push { cls:=.type "dict",data:=.dict #[] }).DictOf (mixKind X.prog X.w) s.heap.objs.size []:=Heap.DictOf.new s.heap
 refine ⟨hnew.typeIs,F.args_dict_init_2 _ _,?_⟩
 unfold Builtin.«dict.__init__»
 refine wpAny_bind ?_
 unfold Builtin.Dict.selfAndRest
 refine wpAny_bind (wpAny_notOrdered_dict hnew.typeIs ?_)
 show wpAny _ _ (pure (s.heap.objs.size,[Value.ref l])) _ _ _
 refine wpAny_pure ?_
 show wpAny _ _ (Builtin.Dict.updateFrom "dict.__init__" s.heap.objs.size (.ref l) [] .none) _ _ _
 unfold Builtin.Dict.updateFrom
 have pl:=p.isList.push { cls:=.type "dict",data:=.dict #[] }
 refine wpAny_bind (wpAny_typeOf pl.typeIs ?_)
 rw [if_pos (by decide)]
 obtain ⟨o0,n0,ho0,hcl,hdd,hdat⟩:=id p
 obtain ⟨c0,d0,dt0,sl0⟩:=o0
 simp only at hcl hdd hdat
 subst hcl hdd hdat
 have hlt:l < s.heap.objs.size:=Heap.lt_size ho0
 have hx:=Heap.get?_push_of_some { cls:=.type "dict",data:=.dict #[] } ho0
 refine wpAny_bind (keys_none hx hh fun h1 t1 k1=>?_)
 refine wpAny_bind (wpAny_rule ?_)
 have pl1:h1.IsList l its.toArray:=⟨_,k1 _ _ hx,rfl,_,rfl⟩
 refine wpAny_bind (wpAny_pyIter_list pl1 ?_)
 refine wpAny_pure ⟨plainId_quiet plain_upd_loop _,?_⟩
 have hdn:h1.DictOf (mixKind X.prog X.w) s.heap.objs.size []:=by
  obtain ⟨o,es,ep,ho,rr⟩:=hnew
  exact ⟨o,es,ep,k1 _ _ ho,rr⟩
 have hdlt:s.heap.objs.size < h1.objs.size:=by
  obtain ⟨o,es,ep,ho,rr⟩:=hdn
  exact Heap.lt_size ho
 have kept:∀ b o,s.heap.get? b=some o→h1.get? b=some o:=fun b o e=>k1 _ _ (Heap.get?_push_of_some _ e)
 have ilen:its.length=ps.length:=rv.length.symm
 have ex:∀ n,n≤kvs.length→∃ vs:List (Key × Value),vs.length=n∧∀ j,(hj:j < n)→∃ x:Key × Value,vs[j]? = some x∧x.1=(kvs[j]?.map (·.1)).getD x.1∧(∀ v,(kvs[j]?.map (·.2))=some v→RelV v x.2)∧∃ a key,its[j]? = some (.ref a)∧IsTup s.heap a #[key,x.2]∧(mixKind X.prog X.w).is x.1 key=true:=by
  intro n
  induction n with
  | zero=>exact fun _=>⟨[],rfl,fun j hj=>absurd hj (Nat.not_lt_zero _)⟩
  | succ n ih =>
   intro hn
   obtain ⟨vs,vl,hv⟩:=ih (by omega)
   have hk:n < kvs.length:=hn
   have hpn:n < ps.length:=by rw [hp.1]; exact hk
   obtain ⟨a,ea,ha⟩:=hp.2 n ps[n] kvs[n].1 kvs[n].2 (List.getElem?_eq_getElem hpn) (List.getElem?_eq_getElem hk)
   obtain ⟨u,eu,ru⟩:=rv.get (List.getElem?_eq_getElem hpn)
   rw [ea] at ru
   cases ru
   obtain ⟨it2,r2,p2,_⟩:=I.tuple ha
   obtain ⟨u1,u2,rfl,r3,r4⟩:=vals2 r2
   refine ⟨vs++[(kvs[n].1,u2)],by simp [vl],fun j hj=>?_⟩
   by_cases c:j < n
   ·obtain ⟨x,e1,e2⟩:=hv j c
    exact ⟨x,by rw [List.getElem?_append_left (by omega)]; exact e1,e2⟩
   ·have ej:j=n:=by omega
    subst ej
    refine ⟨(kvs[j].1,u2),by rw [List.getElem?_append_right (by omega),vl,Nat.sub_self]; rfl,by rw [List.getElem?_eq_getElem hk]; rfl,fun v e=>?_,a,u1,eu,p2,kV_is r3⟩
    rw [List.getElem?_eq_getElem hk] at e
    cases e
    exact r4
 obtain ⟨vs,vl,hv⟩:=ex kvs.length (Nat.le_refl _)
 have rel:∀ n,n≤kvs.length→KV (laidK (kvs.take n)) (laid (vs.take n)):=by
  intro n
  induction n with
  | zero=>exact fun _=>.nil
  | succ n ih =>
   intro hn
   obtain ⟨x,e1,e2,e3,_⟩:=hv n hn
   have hk:n < kvs.length:=hn
   have t1':kvs.take (n+1)=kvs.take n++[kvs[n]]:=by rw [List.take_add_one,List.getElem?_eq_getElem hk]; rfl
   have t2':vs.take (n+1)=vs.take n++[x]:=by rw [List.take_add_one,e1]; rfl
   rw [t1',t2',laidK_snoc,laid_snoc]
   rw [List.getElem?_eq_getElem hk] at e2 e3
   have ek:x.1=kvs[n].1:=e2
   rw [ek]
   exact (ih (by omega)).put _ (e3 _ rfl)
 have rel':=rel kvs.length (Nat.le_refl _)
 rw [List.take_length,← vl,List.take_length] at rel'
 have prs:Prs X.prog X.w (h1.push { cls:=.type "list_iterator",data:=.fields #[.ref l,.int 0 0] }) its.toArray vs:=by
  refine ⟨by simp [ilen,hp.1,vl],fun j v k x e1 e2=>?_⟩
  have hj:j < kvs.length:=by rw [← vl]; exact (List.getElem?_eq_some_iff.mp e2).1
  obtain ⟨y,f1,f2,f3,a,key,f4,f5,f6⟩:=hv j hj
  rw [e2] at f1
  cases f1
  have e1':its[j]? = some v:=by simpa using e1
  rw [f4] at e1'
  cases e1'
  obtain ⟨oo,hoo,rr⟩:=f5
  exact ⟨a,key,rfl,⟨oo,Heap.get?_push_of_some _ (kept _ _ hoo),rr⟩,f6⟩
 have lz:∀ n,(laidK (kvs.take n)).length≤n:=by
  intro n
  induction n with
  | zero=>exact Nat.le_refl _
  | succ n ih =>
   by_cases hk:n < kvs.length
   ·have t1':kvs.take (n+1)=kvs.take n++[kvs[n]]:=by rw [List.take_add_one,List.getElem?_eq_getElem hk]; rfl
    rw [t1',laidK_snoc]
    have:=length_putK (laidK (kvs.take n)) kvs[n].1 kvs[n].2
    omega
   ·rw [List.take_of_length_le (by omega)]
    rw [List.take_of_length_le (by omega)] at ih
    omega
 have lz':=lz kvs.length
 rw [List.take_length] at lz'
 refine code_upd_loop (prog:=X.prog) (w:=X.w) (A:=X.A.in1) (i0:=h1.objs.size) (l:=l) (d:=s.heap.objs.size) (its:=its.toArray) (kvs:=vs) (Nat.ne_of_gt hdlt) (Nat.ne_of_lt hlt) (Nat.ne_of_lt (Nat.lt_trans hlt hdlt)) hh (by simp; omega) its.toArray.size 0 _ (by simp) (Nat.zero_le _) ?_ ?_ ?_ (Nat.le_refl _) ?_ ?_
 ·exact ⟨_,Heap.get?_push_size _ rfl,rfl,rfl⟩
 ·exact pl1.push _
 ·rw [List.take_zero]
  exact hdn.push _
 ·exact prs
 ·intro h' tk dd kp
  refine ⟨rfl,.ref s.heap.objs.size,_,I.laid (a:=s.heap.objs.size) (o:=.dK (laidK kvs)) (t':=tk) (fun b o e=>?_) (Nat.le_refl _) (dk_new (Nat.le_trans lz' (by rw [← hp.1]; exact Nat.le_trans hz (by decide))) (beq_eq_false_iff_ne.mpr (Ne.symm (Nat.ne_of_lt I.big))) rel' dd),rfl,q _ (I.hok.fresh (Nat.le_refl _))⟩
  have hb:=Heap.lt_size e
  exact kp b o (Nat.ne_of_lt hb) (Nat.ne_of_lt (Nat.lt_trans hb hdlt)) (Heap.get?_push_of_some _ (kept _ _ e))
end
end L2

set_option maxHeartbeats 4000000
namespace L2
open PySem PySem.Spec PyProof.Rows Tl
section
variable {X:Cx} {fx c:Str} {st:Stmt} {ps:List Str} {f T:Addr} {fd:FuncData} {dv:Value} {k i:Nat} {n:Str} {sp:Sp} {e:Expr} {es:List Expr} {t:TA} {th:TS} {pf cpos apos np hpos pos:Pos} {b₀:Stmt} {suite:List Stmt}
end
section
variable {α β:Type} {P P':α→β→Prop} {as as':List α} {bs bs':List β}
end
abbrev Wd0:=List Nat
def barW:Wd0:=[124]
def endW:Wd0:=[93]
def placeW (k:Nat) : Wd0:=[36,48+k]
def barJoin:List (List Wd0)→List Wd0
 | []=>[]
 | [x]=>x
 | x :: y :: r=>x++barW :: barJoin (y :: r)
theorem barJoin_snoc (x:List Wd0) : ∀ r:List (List Wd0),barJoin (r++[x])=(r.map (·++[barW])).flatten++x
 | []=>rfl
 | [y]=>by show y++barW :: x=_; simp
 | y :: z :: r=>by
  show y++barW :: barJoin ((z :: r)++[x])=_
  rw [barJoin_snoc x (z :: r)]
  simp
abbrev Mn:=List Wd0 × DD × List Addr
def mW (xs:List Mn) : List Wd0:=(xs.map fun x=>x.1).flatten
def erL (H:Hp) (os:List Addr) : Hp:=fun b=>if b ∈ os then none else H b
theorem erL_of {H:Hp} {os:List Addr} {b:Addr} {o:HO} (h:erL H os b=some o) : b ∉ os∧H b=some o:=by
 unfold erL at h
 split at h
 ·cases h
 ·exact ⟨by assumption,h⟩
theorem erL_get {H:Hp} {os:List Addr} {b:Addr} {o:HO} (h1:b ∉ os) (h:H b=some o) : erL H os b=some o:=by
 unfold erL
 rw [if_neg h1]
 exact h
theorem erL_step {H H':Hp} {os os':List Addr} (h1:∀ b o,b ∉ os→H b=some o→H' b=some o) (h2:∀ b ∈ os',b ∈ os∨H b=none) : ∀ b o,erL H os b=some o→erL H' os' b=some o:=fun b o h=>by
 obtain ⟨a1,a2⟩:=erL_of h
 refine erL_get (fun z=>?_) (h1 b o a1 a2)
 rcases h2 b z with z | z
 ·exact a1 z
 ·rw [a2] at z; cases z
structure Fr where
 t:Addr
 A:Addr
 N:Addr
 n:Wd0
 als:List Addr
 wss:List Mn
 vs:List V
 wn:List Mn
section
variable {H0 H H':Hp} {pl cur c2 A t p:Addr} {fs:List Fr} {f:Fr} {vs:List V} {wn:List Mn}
end
theorem bj_bar:∀ {r:List (List Wd0)},r≠[]→(r.map (·++[barW])).flatten=barJoin r++[barW]
 | [],h=>absurd rfl h
 | [x],_=>by simp [barJoin]
 | x :: y :: r,_=>by
  rw [List.map_cons,List.flatten_cons,bj_bar (r:=y :: r) (by simp)]
  show _=(x++barW :: barJoin (y :: r))++[barW]
  simp
end L2

set_option maxHeartbeats 4000000
namespace PySem
open Sem (wp)
open AutoSeq1 (wpAny_loadPart')
section
variable {prog:Program} {w:World} {A:Around} {E:Value→Shared→Prop} {s:Shared}
end
end PySem
namespace L2
open PySem PySem.Spec PyProof.Rows Tl
section
variable {X:Cx} {elts:List Expr} {k1:Nat} {tp:Pos}
end
theorem lc_tupl {tc:TT} {te:TE} {K:PySem.W.Frag} {a:Addr} {xs:List V} {cv:St} {Fin:List V→Hp→Prop} {H1:Hp} (Pv:Nat→List V→Hp→Prop) (h0:Pv 0 [] H1) (hl:∀ i ys H,i≤xs.length→Pv i ys H→SqT K H a xs) (hz:∀ i ys H,i < xs.length→Pv i ys H→ys.length < sizeLine)
  (hs:∀ i x ys H,xs[i]? = some x→Pv i ys H→tc (some x :: cv) H fun b H3=>if b=true then te (some x :: cv) H3 fun y H4=>Pv (i+1) (ys++[y]) H4 else Pv (i+1) ys H3)
  (hd:∀ ys H,Pv xs.length ys H→Fin ys H) : gLC (Itt K a) (gName 0) tc te 1 cv Fin H1:=by
 refine gLC1 ⟨fun i m ys H=>m=xs.length - i∧i≤xs.length∧Pv i ys H,⟨xs.length,by simp,Nat.zero_le _,h0⟩,?_⟩
 rintro i m ys H ⟨rfl,hi,p⟩
 have q:=hl i ys H hi p
 by_cases hlt:i < xs.length
 ·refine .inr ⟨⟨xs,xs[i],q,by simp [hlt]⟩,hz i ys H hlt p,Pv (i+1),fun ys' H' p'=>⟨xs.length - (i+1),by omega,rfl,hlt,p'⟩,fun v H' y=>?_⟩
  obtain ⟨e,y⟩:=y
  subst e
  exact hs i v ys _ (y xs q) p
 ·have e:i=xs.length:=by omega
  subst e
  exact .inl ⟨⟨xs,q,Nat.le_refl _⟩,hd ys H p⟩
mutual
theorem Rep.mono {K:PySem.W.Frag} {H H':Hp} (s:Same H H') : ∀ {d:DD} {v:V},Rep K H d v→Rep K H' d v
 | .bl _,v,h=>by unfold Rep at h ⊢; exact h
 | .int _,v,h=>by unfold Rep at h ⊢; exact h
 | .str _,v,h=>by unfold Rep at h ⊢; exact h
 | .tup l,v,h=>by
  unfold Rep at h ⊢
  obtain ⟨a,xs,h1,h2,h3,h4⟩:=h
  exact ⟨a,xs,h1,s.tup h2,h3,Reps.mono s h4⟩
 | .lst l,v,h=>by
  unfold Rep at h ⊢
  obtain ⟨a,xs,h1,h2,h3,h4⟩:=h
  exact ⟨a,xs,h1,s.seq h2,h3,Reps.mono s h4⟩
theorem Reps.mono {K:PySem.W.Frag} {H H':Hp} (s:Same H H') : ∀ {l:List DD} {xs:List V},Reps K H l xs→Reps K H' l xs
 | [],xs,h=>by unfold Reps at h ⊢; exact h
 | d :: l,xs,h=>by
  unfold Reps at h ⊢
  obtain ⟨x,r,h1,h2,h3⟩:=h
  exact ⟨x,r,h1,Rep.mono s h2,Reps.mono s h3⟩
end
section
variable {K:PySem.W.Frag} {H:Hp}
theorem Reps.nil:Reps K H [] []:=by unfold Reps; rfl
theorem Reps.cons {d:DD} {l:List DD} {x:V} {xs:List V} (h1:Rep K H d x) (h2:Reps K H l xs) : Reps K H (d :: l) (x :: xs):=by unfold Reps; exact ⟨x,xs,rfl,h1,h2⟩
theorem Reps.app:∀ {l l2:List DD} {xs ys:List V},Reps K H l xs→Reps K H l2 ys→Reps K H (l++l2) (xs++ys)
 | [],l2,xs,ys,h,h2=>by unfold Reps at h; rw [h]; exact h2
 | d :: l,l2,xs,ys,h,h2=>by
  unfold Reps at h
  obtain ⟨x,r,rfl,h3,h4⟩:=h
  exact Reps.cons h3 (Reps.app h4 h2)
theorem Reps.snoc {d:DD} {l:List DD} {x:V} {xs:List V} (h1:Reps K H l xs) (h2:Rep K H d x) : Reps K H (l++[d]) (xs++[x]):=h1.app (Reps.cons h2 Reps.nil)
theorem Reps.getR:∀ {l:List DD} {xs:List V} {i:Nat} {x:V},Reps K H l xs→xs[i]? = some x→∃ d,l[i]? = some d∧Rep K H d x
 | [],xs,i,x,h,e=>by unfold Reps at h; rw [h] at e; simp at e
 | d :: l,xs,0,x,h,e=>by
  unfold Reps at h
  obtain ⟨y,r,rfl,h3,h4⟩:=h
  have e:y=x:=Option.some.inj e
  exact ⟨d,rfl,e ▸ h3⟩
 | d :: l,xs,i+1,x,h,e=>by
  unfold Reps at h
  obtain ⟨y,r,rfl,h3,h4⟩:=h
  show ∃ d',l[i]? = some d'∧_
  exact Reps.getR h4 (by simpa using e)
theorem rep_int (i:Int) : Rep K H (.int i) (.int i):=by unfold Rep; rfl
theorem rep_str (s:Str) : Rep K H (.str s) (.str s):=by unfold Rep; rfl
theorem rep_lst {a:Addr} {vs:List V} {l:List DD} (h:SqL K H a vs) (hl:l.length≤500000) (r:Reps K H l vs) : Rep K H (.lst l) (.ref a):=by
 unfold Rep
 exact ⟨a,vs,rfl,h,hl,r⟩
theorem rep_tup {a:Addr} {vs:List V} {l:List DD} (h:SqT K H a vs) (hl:l.length≤500000) (r:Reps K H l vs) : Rep K H (.tup l) (.ref a):=by
 unfold Rep
 exact ⟨a,vs,rfl,h,hl,r⟩
theorem Rep.lstO {l:List DD} {v:V} (h:Rep K H (.lst l) v) : ∃ a xs,v = .ref a∧SqL K H a xs∧l.length≤500000∧Reps K H l xs:=by unfold Rep at h; exact h
theorem Rep.tupO {l:List DD} {v:V} (h:Rep K H (.tup l) v) : ∃ a xs,v = .ref a∧SqT K H a xs∧l.length≤500000∧Reps K H l xs:=by unfold Rep at h; exact h
theorem Reps.two {d e:DD} {xs:List V} (h:Reps K H [d,e] xs) : ∃ x y,xs=[x,y]∧Rep K H d x∧Rep K H e y:=by
 unfold Reps at h
 obtain ⟨x,r,rfl,h1,h⟩:=h
 unfold Reps at h
 obtain ⟨y,r,rfl,h2,h⟩:=h
 unfold Reps at h
 exact ⟨x,y,by rw [h],h1,h2⟩
theorem Reps.three {d e f:DD} {xs:List V} (h:Reps K H [d,e,f] xs) : ∃ x y z,xs=[x,y,z]∧Rep K H d x∧Rep K H e y∧Rep K H f z:=by
 unfold Reps at h
 obtain ⟨x,r,rfl,h1,h⟩:=h
 obtain ⟨y,z,rfl,h2,h3⟩:=Reps.two h
 exact ⟨x,y,z,rfl,h1,h2,h3⟩
theorem reps_ints:∀ ns:List Int,Reps K H (ns.map DD.int) (ns.map V.int)
 | []=>Reps.nil
 | n :: r=>Reps.cons (rep_int n) (reps_ints r)
theorem Rep.strO {s:Str} {v:V} (h:Rep K H (.str s) v) : v = .str s:=by unfold Rep at h; exact h
theorem Rep.intO {i:Int} {v:V} (h:Rep K H (.int i) v) : v = .int i:=by unfold Rep at h; exact h
theorem Reps.intsO:∀ {ns:List Int} {xs:List V},Reps K H (ns.map DD.int) xs→xs=ns.map V.int
 | [],xs,h=>by unfold Reps at h; exact h
 | n :: r,xs,h=>by
  have h:Reps K H (DD.int n :: r.map DD.int) xs:=h
  unfold Reps at h
  obtain ⟨x,r2,rfl,h1,h2⟩:=h
  rw [h1.intO,h2.intsO]
  rfl
end
theorem Rep.dq {K:PySem.W.Frag} {H:Hp} : ∀ (n:Nat) {d:DD} {x y:V},Rep K H d x→Rep K H d y→d.deep≤n→Dq K H n x y:=by
 intro n
 induction n with
 | zero =>
  intro d x y h1 h2 hd
  cases d with
  | bl b=>unfold Rep at h1 h2; subst h1 h2; exact .inl ⟨rfl,rfl,by simp [eqV]⟩
  | int b=>unfold Rep at h1 h2; subst h1 h2; exact .inl ⟨rfl,rfl,by simp [eqV]⟩
  | str b=>unfold Rep at h1 h2; subst h1 h2; exact .inl ⟨rfl,rfl,by simp [eqV]⟩
  | tup l=>unfold DD.deep at hd; omega
  | lst l=>unfold DD.deep at hd; omega
 | succ n ih =>
  intro d x y h1 h2 hd
  have mem:∀ {l:List DD} {i:Nat} {d:DD},l[i]? = some d→d.deep≤deeps l:=fun {l}=>by
   induction l with
   | nil=>intro i d e; simp at e
   | cons a r ihr =>
    intro i d e
    unfold deeps
    cases i with
    | zero=>have e:a=d:=Option.some.inj e; rw [e]; omega
    | succ i=>have:=ihr (i:=i) (d:=d) e; omega
  cases d with
  | bl b=>unfold Rep at h1 h2; subst h1 h2; exact .inl (.inl ⟨rfl,rfl,by simp [eqV]⟩)
  | int b=>unfold Rep at h1 h2; subst h1 h2; exact .inl (.inl ⟨rfl,rfl,by simp [eqV]⟩)
  | str b=>unfold Rep at h1 h2; subst h1 h2; exact .inl (.inl ⟨rfl,rfl,by simp [eqV]⟩)
  | tup l =>
   unfold DD.deep at hd
   obtain ⟨a,xs,rfl,s1,_,r1⟩:=h1.tupO
   obtain ⟨b,ys,rfl,s2,_,r2⟩:=h2.tupO
   refine .inr ⟨a,b,xs,ys,rfl,rfl,.inr ⟨s1,s2⟩,by rw [r1.len,r2.len],fun i x y e1 e2=>?_⟩
   obtain ⟨d1,g1,q1⟩:=r1.getR e1
   obtain ⟨d2,g2,q2⟩:=r2.getR e2
   rw [g1] at g2
   cases g2
   have:=mem g1
   exact ih q1 q2 (by omega)
  | lst l =>
   unfold DD.deep at hd
   obtain ⟨a,xs,rfl,s1,_,r1⟩:=h1.lstO
   obtain ⟨b,ys,rfl,s2,_,r2⟩:=h2.lstO
   refine .inr ⟨a,b,xs,ys,rfl,rfl,.inl ⟨s1,s2⟩,by rw [r1.len,r2.len],fun i x y e1 e2=>?_⟩
   obtain ⟨d1,g1,q1⟩:=r1.getR e1
   obtain ⟨d2,g2,q2⟩:=r2.getR e2
   rw [g1] at g2
   cases g2
   have:=mem g1
   exact ih q1 q2 (by omega)
def wdD (w:Wd0) : DD:=.tup [.str (PySem.Str.ofString "word"),.str (tx w)]
def plD (k:Nat) : DD:=.tup [.str (PySem.Str.ofString "place"),.int (k:Int)]
def clD (n:Wd0) (as:List (List DD)) : DD:=.tup [.str (PySem.Str.ofString "call"),.str (tx n),.lst (as.map DD.lst)]
def Nd (M:List (Wd0 × Nat)) (c:Nat) : Nat→DD→Prop
 | 0,_=>False
 | d+1,x=>(∃ w,x=wdD w)∨(∃ k,1≤k∧k≤c∧x=plD k)∨∃ n as,x=clD n as∧(n,as.length) ∈ M∧∀ a ∈ as,a.length≤300000+d∧∀ y ∈ a,Nd M c d y
theorem Nd.out {M:List (Wd0 × Nat)} {c d:Nat} {x:DD} (h:Nd M c (d+1) x) : (∃ w,x=wdD w)∨(∃ k,1≤k∧k≤c∧x=plD k)∨∃ n as,x=clD n as∧(n,as.length) ∈ M∧∀ a ∈ as,a.length≤300000+d∧∀ y ∈ a,Nd M c d y:=h
theorem Nd.pos {M:List (Wd0 × Nat)} {c d:Nat} {x:DD} (h:Nd M c d x) : ∃ e,d=e+1:=by
 cases d with
 | zero=>exact h.elim
 | succ e=>exact ⟨e,rfl⟩
theorem Nd.up {M M':List (Wd0 × Nat)} {c c':Nat} (hM:∀ x ∈ M,x ∈ M') (hc:c≤c') : ∀ {d d':Nat} {x:DD},d≤d'→Nd M c d x→Nd M' c' d' x
 | d+1,d',x,hd,h=>by
  obtain ⟨e,rfl⟩ : ∃ e,d' = e+1:=⟨d' - 1,by omega⟩
  rcases h.out with ⟨w,rfl⟩ | ⟨k,h1,h2,rfl⟩ | ⟨n,as,rfl,h1,h2⟩
  ·exact .inl ⟨w,rfl⟩
  ·exact .inr (.inl ⟨k,h1,by omega,rfl⟩)
  ·exact .inr (.inr ⟨n,as,rfl,hM _ h1,fun a ha=>⟨by have:=(h2 a ha).1; omega,fun y hy=>Nd.up hM hc (by omega) ((h2 a ha).2 y hy)⟩⟩)
theorem deeps_le {k:Nat} : ∀ {l:List DD},(∀ x ∈ l,x.deep≤k)→deeps l≤k
 | [],_=>Nat.zero_le _
 | d :: r,h=>by
  unfold deeps
  have:=h d List.mem_cons_self
  have:=deeps_le (l:=r) fun x hx=>h x (List.mem_cons_of_mem _ hx)
  omega
theorem Nd.deep {M:List (Wd0 × Nat)} {c:Nat} : ∀ {d:Nat} {x:DD},Nd M c d x→x.deep≤3 * d
 | d+1,x,h=>by
  rcases h.out with ⟨w,rfl⟩ | ⟨k,h1,h2,rfl⟩ | ⟨n,as,rfl,h1,h2⟩
  ·simp [wdD,DD.deep,deeps]; omega
  ·simp [plD,DD.deep,deeps]; omega
  ·have:deeps (as.map DD.lst)≤3 * d+1:=deeps_le fun z hz=>by
    obtain ⟨a,ha,rfl⟩:=List.mem_map.mp hz
    unfold DD.deep
    have:=deeps_le (k:=3 * d) (l:=a) fun y hy=>Nd.deep ((h2 a ha).2 y hy)
    omega
   simp [clD,DD.deep,deeps]
   omega
structure Sh where
 n:Wd0
 c:Nat
 ns:List DD
 r:List Int
 k:Int
def shD (s:Sh) : DD:=.tup [.str (tx s.n),.int (s.c:Int),.lst s.ns,.lst (s.r.map DD.int),.int s.k]
def shF (S:List Sh) (x:Str) : Option Sh:=S.find? fun s=>decide (tx s.n=x)
def ddL:DD→List DD
 | .lst l=>l
 | _=>[]
def fstN:List Nat→Nat
 | []=>0
 | x :: r=>if x=0 then fstN r else x
theorem fstN_zero {l:List Nat} (h:∀ x ∈ l,x=0) : fstN l=0:=by
 induction l with
 | nil=>rfl
 | cons x r ih =>
  show (if x=0 then fstN r else x)=0
  rw [if_pos (h x List.mem_cons_self)]
  exact ih fun y hy=>h y (List.mem_cons_of_mem _ hy)
theorem fstN_mem {l:List Nat} (h:fstN l=0) : ∀ x ∈ l,x=0:=by
 induction l with
 | nil=>intro x hx; cases hx
 | cons y r ih =>
  intro x hx
  have h:(if y=0 then fstN r else y)=0:=h
  by_cases e:y=0
  ·rw [if_pos e] at h
   rcases List.mem_cons.mp hx with rfl | hx
   ·exact e
   ·exact ih h x hx
  ·rw [if_neg e] at h
   exact absurd h e
def argS (r:List Int) : Nat→List Int→Int
 | _,[]=>0
 | i,y :: ys=>r.getD i 0 * y+argS r (i+1) ys
theorem argS_snoc (r:List Int) (y:Int) : ∀ (i:Nat) (ys:List Int),argS r i (ys++[y])=argS r i ys+r.getD (i+ys.length) 0 * y
 | i,[]=>by simp [argS]
 | i,x :: ys=>by
  show r.getD i 0 * x+argS r (i+1) (ys++[y])=r.getD i 0 * x+argS r (i+1) ys+r.getD (i+(ys.length+1)) 0 * y
  rw [argS_snoc r y (i+1) ys,show i+1+ys.length=i+(ys.length+1) by omega]
  omega
def wrD (S:List Sh) : Nat→DD→Nat
 | d+1,.tup [_,.str x,.lst as]=>match shF S x with
  | none=>1
  | some s=>if as.length=s.c then fstN (as.map fun a=>fstN ((ddL a).map (wrD S d))) else 2
 | _,_=>0
def szR (S:List Sh) (j:Nat) : Nat→DD→Int
 | _+1,.tup [_,.str _]=>if j=0 then 1 else 0
 | _+1,.tup [_,.int k]=>if k=(j:Int) then 1 else 0
 | d+1,.tup [_,.str x,.lst as]=>match shF S x with
  | none=>0
  | some s=>(if j=0 then s.r.getD 0 0 else 0)+argS s.r 1 (as.map fun a=>((ddL a).map (szR S j d)).sum)
 | _,_=>0
def szC (S:List Sh) : Nat→DD→Int
 | d+1,.tup [_,.str x,.lst as]=>match shF S x with
  | none=>0
  | some s=>1+s.k+(as.map fun a=>((ddL a).map (szC S d)).sum).sum
 | _,_=>0
def wrL (S:List Sh) (d:Nat) (xs:List DD) : Nat:=fstN (xs.map (wrD S d))
def rwL (f:Nat→Int) (c:Nat) : List Int:=(List.range (c+1)).map f
def rowL (S:List Sh) (c d:Nat) (xs:List DD) : List Int:=rwL (fun j=>(xs.map (szR S j d)).sum) c
def calL (S:List Sh) (d:Nat) (xs:List DD) : Int:=(xs.map (szC S d)).sum
section
variable {S:List Sh} {d j:Nat} {n:Wd0} {as:List (List DD)} {w:Wd0} {k:Nat} {s:Sh}
theorem wr_wd:wrD S (d+1) (wdD w)=0:=rfl
theorem wr_pl:wrD S (d+1) (plD k)=0:=rfl
theorem ddL_map {α:Type} (f:List DD→α) : (as.map DD.lst).map (fun a=>f (ddL a))=as.map f:=by
 rw [List.map_map]
 rfl
theorem wr_none (h:shF S (tx n)=none) : wrD S (d+1) (clD n as)=1:=by
 show (match shF S (tx n) with | none=>1 | some s=>_)=1
 rw [h]
theorem wr_bad (h:shF S (tx n)=some s) (hl:as.length≠s.c) : wrD S (d+1) (clD n as)=2:=by
 show (match shF S (tx n) with | none=>1 | some s=>if (as.map DD.lst).length=s.c then _ else 2)=2
 rw [h]
 show (if (as.map DD.lst).length=s.c then _ else 2)=2
 rw [List.length_map,if_neg hl]
theorem wr_fit (h:shF S (tx n)=some s) (hl:as.length=s.c) : wrD S (d+1) (clD n as)=fstN (as.map (wrL S d)):=by
 show (match shF S (tx n) with | none=>1 | some s=>if (as.map DD.lst).length=s.c then fstN ((as.map DD.lst).map fun a=>fstN ((ddL a).map (wrD S d))) else 2)=_
 rw [h]
 show (if (as.map DD.lst).length=s.c then fstN ((as.map DD.lst).map fun a=>fstN ((ddL a).map (wrD S d))) else 2)=_
 rw [List.length_map,if_pos hl]
 exact congrArg fstN (ddL_map fun a=>fstN (a.map (wrD S d)))
theorem sz_wd:szR S j (d+1) (wdD w)=if j=0 then 1 else 0:=rfl
theorem sz_pl:szR S j (d+1) (plD k)=if k=j then 1 else 0:=by
 show (if (k:Int)=(j:Int) then (1:Int) else 0)=_
 by_cases h:k=j
 ·rw [if_pos h,if_pos (by omega)]
 ·rw [if_neg h,if_neg (by omega)]
theorem sz_cl (h:shF S (tx n)=some s) : szR S j (d+1) (clD n as)=(if j=0 then s.r.getD 0 0 else 0)+argS s.r 1 (as.map fun a=>(a.map (szR S j d)).sum):=by
 show (match shF S (tx n) with | none=>0 | some s=>(if j=0 then s.r.getD 0 0 else 0)+argS s.r 1 ((as.map DD.lst).map fun a=>((ddL a).map (szR S j d)).sum))=_
 rw [h,ddL_map fun a=>(a.map (szR S j d)).sum]
theorem sc_wd:szC S (d+1) (wdD w)=0:=rfl
theorem sc_pl:szC S (d+1) (plD k)=0:=rfl
theorem sc_cl (h:shF S (tx n)=some s) : szC S (d+1) (clD n as)=1+s.k+(as.map (calL S d)).sum:=by
 show (match shF S (tx n) with | none=>0 | some s=>1+s.k+((as.map DD.lst).map fun a=>((ddL a).map (szC S d)).sum).sum)=_
 rw [h,ddL_map fun a=>(a.map (szC S d)).sum]
 rfl
end
theorem rwL_len (f:Nat→Int) (c:Nat) : (rwL f c).length=c+1:=by unfold rwL; rw [List.length_map,List.length_range]
theorem rwL_get (f:Nat→Int) {c j:Nat} (h:j≤c) : (rwL f c)[j]? = some (f j):=by
 unfold rwL
 rw [List.getElem?_map,List.getElem?_range (by omega)]
 rfl
theorem rwL_congr {f g:Nat→Int} {c:Nat} (h:∀ j,j≤c→f j=g j) : rwL f c=rwL g c:=List.map_congr_left fun j hj=>h j (by have:=List.mem_range.mp hj; omega)
theorem rwL_at (f:Nat→Int) {c j:Nat} (h:j≤c) : atI ((rwL f c).map V.int) (j:Int)=some (V.int (f j)):=atI_nat (by rw [List.getElem?_map,rwL_get f h]; rfl)
theorem rwL_set (f:Nat→Int) {c j:Nat} (y:Int) (h:j≤c) : ((rwL f c).map V.int).set j (V.int y)=(rwL (fun i=>if i=j then y else f i) c).map V.int:=by
 refine List.ext_getElem? fun i=>?_
 rw [List.getElem?_set,List.getElem?_map,List.getElem?_map,List.length_map,rwL_len]
 by_cases e:j=i
 ·subst e
  rw [if_pos rfl,if_pos (by omega),rwL_get _ h]
  simp
 ·rw [if_neg e]
  by_cases hi:i≤c
  ·rw [rwL_get _ hi,rwL_get _ hi,if_neg (Ne.symm e)]
  ·rw [List.getElem?_eq_none (by rw [rwL_len]; omega),List.getElem?_eq_none (by rw [rwL_len]; omega)]
theorem ixN_nat {l j:Nat} (h:j < l) : ixN l (j:Int)=some j:=by
 have:=atI_nat (xs:=List.range l) (j:=j) (v:=j) (by rw [List.getElem?_range h])
 unfold atI at this
 rw [List.length_range] at this
 cases e:ixN l (j:Int) with
 | none=>rw [e] at this; cases this
 | some i =>
  rw [e] at this
  have h2:(List.range l)[i]? = some j:=this
  have h3:i < l:=by have:=(List.getElem?_eq_some_iff.mp h2).1; rwa [List.length_range] at this
  rw [List.getElem?_range h3] at h2
  rw [Option.some.inj h2]
theorem sum_snoc (f:DD→Int) {xs:List DD} {k:Nat} {x:DD} (h:xs[k]? = some x) : ((xs.take (k+1)).map f).sum=((xs.take k).map f).sum+f x:=by
 rw [List.take_add_one,h,List.map_append,List.sum_append]
 simp
def erG (H0 H:Hp) (os:List Addr) : Hp:=fun b=>if b ∈ os∨H0 b≠none then none else H b
theorem erG_of {H0 H:Hp} {os:List Addr} {b:Addr} {o:HO} (h:erG H0 H os b=some o) : (b ∉ os∧H0 b=none)∧H b=some o:=by
 unfold erG at h
 split at h
 ·cases h
 ·rename_i z
  refine ⟨⟨fun e=>z (.inl e),?_⟩,h⟩
  cases e:H0 b with
  | none=>rfl
  | some x=>exact absurd (.inr (by rw [e]; intro z; cases z)) z
theorem erG_get {H0 H:Hp} {os:List Addr} {b:Addr} {o:HO} (h0:H0 b=none) (h1:b ∉ os) (h:H b=some o) : erG H0 H os b=some o:=by
 unfold erG
 rw [if_neg]
 ·exact h
 ·rintro (z | z)
  ·exact h1 z
  ·exact z h0
theorem erG_step {H0 H H':Hp} {os os':List Addr} (h1:∀ b o,b ∉ os→H0 b=none→H b=some o→H' b=some o) (h2:∀ b ∈ os',b ∈ os∨H b=none) : Same (erG H0 H os) (erG H0 H' os'):=fun b o h=>by
 obtain ⟨⟨a1,a0⟩,a2⟩:=erG_of h
 refine erG_get a0 (fun z=>?_) (h1 b o a1 a0 a2)
 rcases h2 b z with z | z
 ·exact a1 z
 ·rw [a2] at z; cases z
theorem erG_in {H0 H:Hp} {os:List Addr} : Same (erG H0 H os) H:=fun b o h=>(erG_of h).2
theorem erG_nil {H0 H:Hp} {os:List Addr} : Same (erG H0 H os) (erG H0 H []):=fun b o h=>erG_get (erG_of h).1.2 (by simp) (erG_of h).2
theorem erG_up {H0 H H':Hp} {os:List Addr} (s:Same H H') : Same (erG H0 H os) (erG H0 H' os):=erG_step (fun b o _ _ h=>s b o h) fun b hb=>.inl hb
structure Gf where
 t:Addr
 D:Addr
 N:Addr
 n:Wd0
 m:Nat
 Dv:List V
 ds:List (List DD)
 vs:List V
 xs:List DD
def opF (pf:Addr) (gs:List Gf) : List Addr:=pf :: gs.map Gf.N
structure GfAt (K:PySem.W.Frag) (E H:Hp) (g:Gf) : Prop where
 tup:E g.t=some (.tup [.str (tx g.n),.ref g.D,.ref g.N,.int (g.m:Int)])
 dl:E g.D=some (.lst g.Dv)
 dr:Reps K E (g.ds.map DD.lst) g.Dv
 hN:H g.N=some (.lst g.vs)
 nr:Reps K E g.xs g.vs
theorem GfAt.step {K:PySem.W.Frag} {E E' H H':Hp} {g:Gf} (h:GfAt K E H g) (s:Same E E') (hN:H' g.N=H g.N) : GfAt K E' H' g:=⟨s _ _ h.tup,s _ _ h.dl,h.dr.mono s,hN.trans h.hN,h.nr.mono s⟩
structure FrS (K:PySem.W.Frag) (H0 H:Hp) (pf:Addr) (gs:List Gf) : Prop where
 same:Same H0 H
 nd:(opF pf gs).Nodup
 fresh:∀ b ∈ opF pf gs,H0 b=none
 top:H pf=some (.lst (gs.map fun g=>V.ref g.t).reverse)
 fr:∀ g ∈ gs,GfAt K (erG H0 H (opF pf gs)) H g
section
variable {K:PySem.W.Frag} {H0 H H':Hp} {pf t D N:Addr} {gs r:List Gf} {g:Gf} {v:V} {x:DD} {n:Wd0} {m:Nat}
theorem FrS.some (S:FrS K H0 H pf gs) : ∀ b ∈ opF pf gs,∃ o,H b=Option.some (.lst o):=fun b hb=>by
 rcases List.mem_cons.mp hb with rfl | hb
 ·exact ⟨_,S.top⟩
 ·obtain ⟨g,hg,rfl⟩:=List.mem_map.mp hb
  exact ⟨_,(S.fr g hg).hN⟩
theorem FrS.not (S:FrS K H0 H pf gs) {b:Addr} (hb:H b=none) : b ∉ opF pf gs:=fun z=>by
 obtain ⟨o,e⟩:=S.some b z
 rw [hb] at e; cases e
theorem FrS.get (S:FrS K H0 H pf gs) {b:Addr} {o:HO} (hb:H b=none) (h:H' b=Option.some o) : erG H0 H' (opF pf gs) b=Option.some o:=erG_get (S.same.free hb) (S.not hb) h
theorem Nf_mem (hg:g ∈ gs) : g.N ∈ gs.map Gf.N:=List.mem_map.mpr ⟨g,hg,rfl⟩
theorem FrS.up (S:FrS K H0 H pf gs) (s:Same H H') : Same (erG H0 H (opF pf gs)) (erG H0 H' (opF pf gs)):=erG_up s
theorem FrS.ext (S:FrS K H0 H pf gs) (s:Same H H') : FrS K H0 H' pf gs:=
 ⟨S.same.trans s,S.nd,S.fresh,s _ _ S.top,fun g hg=>(S.fr g hg).step (erG_up s) ((s _ _ (S.fr g hg).hN).trans (S.fr g hg).hN.symm)⟩
theorem FrS.zero (s:Same H0 H) (h1:H0 pf=none) (h2:H0 N=none) (f1:H0 t=none) (f2:H0 D=none) (nn:pf≠N) (h3:H pf=Option.some (.lst [V.ref t])) (h4:H N=Option.some (.lst [])) (h5:H t=Option.some (.tup [.str (tx []),.ref D,.ref N,.int 0])) (h6:H D=Option.some (.lst [])) (n1:D≠pf) (n2:D≠N) : FrS K H0 H pf [⟨t,D,N,[],0,[],[],[],[]⟩]:=by
 have ht:t ∉ opF pf [⟨t,D,N,[],0,[],[],[],[]⟩]:=by
  unfold opF
  simp only [List.map_cons,List.map_nil,List.mem_cons,List.not_mem_nil,or_false,not_or]
  exact ⟨ne_of h5 h3 (by intro z; cases z),ne_of h5 h4 (by intro z; cases z)⟩
 refine ⟨s,by unfold opF; simp [nn],fun b hb=>?_,h3,fun g hg=>?_⟩
 ·unfold opF at hb
  simp only [List.map_cons,List.map_nil,List.mem_cons,List.not_mem_nil,or_false] at hb
  rcases hb with rfl | rfl
  ·exact h1
  ·exact h2
 ·rw [List.mem_singleton.mp hg]
  exact ⟨erG_get f1 ht h5,erG_get f2 (by unfold opF; simp [n1,n2]) h6,Reps.nil,h4,Reps.nil⟩
theorem FrS.push (S:FrS K H0 H pf (g :: r)) (hv:Rep K (erG H0 H (opF pf (g :: r))) x v) : FrS K H0 (upd H g.N (.lst (g.vs++[v]))) pf ({ g with vs:=g.vs++[v],xs:=g.xs++[x] } :: r):=by
 have hc:g.N ∈ opF pf (g :: r):=List.mem_cons_of_mem _ List.mem_cons_self
 have st:Same (erG H0 H (opF pf (g :: r))) (erG H0 (upd H g.N (.lst (g.vs++[v]))) (opF pf (g :: r))):=erG_step (fun b o nb _ h=>by rw [upd_ne (show b≠g.N from fun e=>nb (by rw [e]; exact hc))]; exact h) fun b hb=>.inl hb
 have nd:=S.nd
 have q:=S.fr g List.mem_cons_self
 refine ⟨fun b o hb=>?_,S.nd,S.fresh,?_,fun g' hg'=>?_⟩
 ·rw [upd_ne (ne_of_none hb (S.fresh g.N hc))]
  exact S.same b o hb
 ·rw [upd_ne (by unfold opF at nd; simp only [List.map_cons] at nd; grind)]
  exact S.top
 ·rcases List.mem_cons.mp hg' with rfl | hg'
  ·exact ⟨st _ _ q.tup,st _ _ q.dl,q.dr.mono st,upd_same,(q.nr.mono st).snoc (hv.mono st)⟩
  ·have hm:=Nf_mem hg'
   refine (S.fr g' (List.mem_cons_of_mem _ hg')).step st (upd_ne ?_)
   unfold opF at nd
   simp only [List.map_cons] at nd
   grind
theorem FrS.open {Dv:List V} {ds:List (List DD)} (S:FrS K H0 H pf gs) (same':Same H0 H') (keep:∀ b o,b≠pf→H b=Option.some o→H' b=Option.some o) (hD:erG H0 H (opF pf gs) D=Option.some (.lst Dv)) (hr:Reps K (erG H0 H (opF pf gs)) (ds.map DD.lst) Dv) (hN0:H N=none) (ht0:H t=none) (fN:H0 N=none) (n2:t≠N)
  (ht:H' t=Option.some (.tup [.str (tx n),.ref D,.ref N,.int (m:Int)])) (hN:H' N=Option.some (.lst [])) (hpf:H' pf=Option.some (.lst ((gs.map fun g=>V.ref g.t).reverse++[V.ref t]))) : FrS K H0 H' pf (⟨t,D,N,n,m,Dv,ds,[],[]⟩ :: gs):=by
 have nt:=S.not ht0
 have nN:=S.not hN0
 have nd:=S.nd
 have fr:=S.fresh
 have ft:=S.same.free ht0
 unfold opF at nt nN nd fr
 have st:=erG_step (H0:=H0) (H:=H) (H':=H') (os:=opF pf gs) (os':=opF pf (⟨t,D,N,n,m,Dv,ds,[],[]⟩ :: gs)) (fun b o nb _ h=>keep b o (fun e=>nb (by rw [e]; exact List.mem_cons_self)) h) (fun b hb=>by
  unfold opF at hb ⊢
  simp only [List.map_cons] at hb
  grind)
 refine ⟨same',by unfold opF; simp only [List.map_cons]; grind,fun b hb=>by unfold opF at hb; simp only [List.map_cons] at hb; grind,by rw [hpf,List.map_cons,List.reverse_cons],fun g' hg'=>?_⟩
 rcases List.mem_cons.mp hg' with rfl | hg'
 ·exact ⟨erG_get ft (by unfold opF; simp only [List.map_cons]; grind) ht,st _ _ hD,hr.mono st,hN,Reps.nil⟩
 ·have q:=S.fr g' hg'
  have hm:=Nf_mem hg'
  exact q.step st ((keep _ _ (by grind) q.hN).trans q.hN.symm)
theorem FrS.pop (S:FrS K H0 H pf (g :: r)) : FrS K H0 (upd H pf (.lst (r.map fun g=>V.ref g.t).reverse)) pf r∧GfAt K (erG H0 (upd H pf (.lst (r.map fun g=>V.ref g.t).reverse)) (opF pf r)) (erG H0 (upd H pf (.lst (r.map fun g=>V.ref g.t).reverse)) (opF pf r)) g:=by
 have nd:=S.nd
 have fr:=S.fresh
 have q:=S.fr g List.mem_cons_self
 have st:Same (erG H0 H (opF pf (g :: r))) (erG H0 (upd H pf (.lst (r.map fun g=>V.ref g.t).reverse)) (opF pf r)):=erG_step (fun b o nb _ h=>by rw [upd_ne (show b≠pf from fun e=>nb (by rw [e]; exact List.mem_cons_self))]; exact h) fun b hb=>by
  unfold opF at hb ⊢
  simp only [List.map_cons]
  grind
 unfold opF at nd fr
 simp only [List.map_cons] at nd fr
 have fN:=fr g.N (by simp)
 refine ⟨⟨fun b o hb=>?_,by unfold opF; grind,fun b hb=>fr b (by unfold opF at hb; grind),upd_same,fun g' hg'=>?_⟩,?_⟩
 ·rw [upd_ne (ne_of_none hb (fr pf List.mem_cons_self))]
  exact S.same b o hb
 ·have hm:=Nf_mem hg'
  exact (S.fr g' (List.mem_cons_of_mem _ hg')).step st (upd_ne (by grind))
 ·refine ⟨st _ _ q.tup,st _ _ q.dl,q.dr.mono st,erG_get fN (by unfold opF; grind) ?_,q.nr.mono st⟩
  rw [upd_ne (by grind)]
  exact q.hN
end
def GfOk (M:List (Wd0 × Nat)) (c:Nat) : Nat→List Gf→Prop
 | _,[]=>True
 | k,g :: r=>g.xs.length < k∧(∀ x ∈ g.xs,Nd M c (12 - r.length) x)∧(r≠[]→g.ds.length < g.m∧(g.n,g.m) ∈ M∧∀ a ∈ g.ds,a.length≤90∧∀ y ∈ a,Nd M c (12 - r.length) y)∧GfOk M c (k - 1) r
theorem GfOk.up {M:List (Wd0 × Nat)} {c:Nat} : ∀ {gs:List Gf} {k k':Nat},k≤k'→GfOk M c k gs→GfOk M c k' gs
 | [],_,_,_,_=>trivial
 | g :: r,k,k',h,⟨h1,h2,h3,h4⟩=>⟨by omega,h2,h3,GfOk.up (by omega) h4⟩
def toGo:List Gf→Nat
 | []=>0
 | [_]=>0
 | g :: h :: r=>(g.m - g.ds.length)+toGo (h :: r)
def menuS (S:List Sh) : List (Wd0 × Nat):=S.map fun s=>(s.n,s.c)
structure ShX (S:List Sh) : Prop where
 nd:(S.map Sh.n).Nodup
 len:S.length≤4
 ord:∀ (i:Nat) s,S[i]? = some s→∀ x ∈ s.ns,Nd (menuS (S.take i)) s.c 12 x
 eqr:∀ s ∈ S,s.r=rowL S s.c 12 s.ns
 pos:∀ s ∈ S,∀ k,1≤k→k≤s.c→1≤s.r.getD k 0
 nn:∀ s ∈ S,∀ y ∈ s.r,0≤y
 sum:∀ s ∈ S,s.r.sum≤400
def ex {α:Type} (wd:Str→α) (S:List Sh) : Nat→List (List α)→DD→List α
 | _+1,_,.tup [_,.str x]=>[wd x]
 | _+1,A,.tup [_,.int k]=>A.getD (k - 1).toNat []
 | n+1,A,.tup [_,.str x,.lst as]=>match shF S x with
  | none=>[]
  | some s=>(s.ns.map (ex wd S n (as.map fun a=>((ddL a).map (ex wd S n A)).flatten))).flatten
 | _,_,_=>[]
section
variable {α β:Type} {wd:Str→α} {S:List Sh} {n:Nat} {A:List (List α)} {w nm:Wd0} {k:Nat} {as:List (List DD)} {s:Sh}
end
def En (S:List Sh) : Nat→Nat→DD→Prop
 | 0,_,_=>False
 | n+1,c,x=>(∃ w,x=wdD w)∨(∃ k,1≤k∧k≤c∧x=plD k)∨∃ nm as s,x=clD nm as∧shF S (tx nm)=some s∧as.length=s.c∧s ∈ S∧(∀ a ∈ as,∀ y ∈ a,En S n c y)∧∀ y ∈ s.ns,En S n s.c y
theorem En.out {S:List Sh} {n c:Nat} {x:DD} (h:En S (n+1) c x) : (∃ w,x=wdD w)∨(∃ k,1≤k∧k≤c∧x=plD k)∨∃ nm as s,x=clD nm as∧shF S (tx nm)=some s∧as.length=s.c∧s ∈ S∧(∀ a ∈ as,∀ y ∈ a,En S n c y)∧∀ y ∈ s.ns,En S n s.c y:=h
theorem En.up {S:List Sh} : ∀ {n m c:Nat} {x:DD},n≤m→En S n c x→En S m c x
 | n+1,m,c,x,hm,h=>by
  obtain ⟨m,rfl⟩ : ∃ e,m=e+1:=⟨m - 1,by omega⟩
  rcases h.out with ⟨w,rfl⟩ | ⟨k,h1,h2,rfl⟩ | ⟨nm,as,s,rfl,h1,h2,h3,h4,h5⟩
  ·exact .inl ⟨w,rfl⟩
  ·exact .inr (.inl ⟨k,h1,h2,rfl⟩)
  ·exact .inr (.inr ⟨nm,as,s,rfl,h1,h2,h3,fun a ha y hy=>En.up (by omega) (h4 a ha y hy),fun y hy=>En.up (by omega) (h5 y hy)⟩)
theorem shF_of {S:List Sh} (nd:(S.map Sh.n).Nodup) {s:Sh} (hs:s ∈ S) : shF S (tx s.n)=some s:=by
 cases hq:shF S (tx s.n) with
 | none =>
  unfold shF at hq
  exact absurd (decide_eq_true (rfl:tx s.n=tx s.n)) (List.find?_eq_none.mp hq s hs)
 | some t =>
  unfold shF at hq
  have t1:=List.mem_of_find?_eq_some hq
  have t2:tx t.n=tx s.n:=by simpa using List.find?_some hq
  have e3:=tx_inj t2
  obtain ⟨i,hi⟩:=List.getElem?_of_mem hs
  obtain ⟨j,hj⟩:=List.getElem?_of_mem t1
  have:i=j:=(List.getElem?_inj (by rw [List.length_map]; exact (List.getElem?_eq_some_iff.mp hi).1) nd).mp (by rw [List.getElem?_map,List.getElem?_map,hi,hj]; show some s.n=some t.n; rw [e3])
  rw [this,hj] at hi
  exact hi
theorem call_of {S:List Sh} (nd:(S.map Sh.n).Nodup) {i m:Nat} {nm:Wd0} (hM:(nm,m) ∈ menuS (S.take i)) : ∃ (j:Nat) (s:Sh),j < i∧S[j]? = some s∧s ∈ S∧s.n=nm∧s.c=m∧shF S (tx nm)=some s:=by
 unfold menuS at hM
 obtain ⟨s,hs,e⟩:=List.mem_map.mp hM
 obtain ⟨e1,e2⟩:=Prod.mk.inj e
 obtain ⟨j,hj⟩:=List.getElem?_of_mem hs
 have hl:=(List.getElem?_eq_some_iff.mp hj).1
 rw [List.length_take] at hl
 rw [List.getElem?_take_of_lt (by omega)] at hj
 have hm:=List.mem_of_getElem? hj
 exact ⟨j,s,by omega,hj,hm,e1,e2,by rw [← e1]; exact shF_of nd hm⟩
theorem en_of {S:List Sh} (h:ShX S) : ∀ (i d c:Nat) (x:DD),Nd (menuS (S.take i)) c d x→En S (d+12 * i) c x:=by
 intro i
 induction i using Nat.strongRecOn with
 | ind i ih =>
  intro d
  induction d with
  | zero=>intro c x hx; exact hx.elim
  | succ d ihd =>
   intro c x hx
   rw [show d+1+12 * i=(d+12 * i)+1 by omega]
   rcases hx.out with ⟨w,rfl⟩ | ⟨k,h1,h2,rfl⟩ | ⟨nm,as,rfl,h1,h2⟩
   ·exact .inl ⟨w,rfl⟩
   ·exact .inr (.inl ⟨k,h1,h2,rfl⟩)
   ·obtain ⟨j,s,hj,ej,hs,e1,e2,hF⟩:=call_of h.nd h1
    exact .inr (.inr ⟨nm,as,s,rfl,hF,e2.symm,hs,fun a ha y hy=>ihd c y ((h2 a ha).2 y hy),fun y hy=>(ih j hj 12 s.c y (h.ord j s ej y hy)).up (by omega)⟩)
def dot (f W:Nat→Int) : Nat→Int
 | 0=>f 0 * W 0
 | c+1=>dot f W c+f (c+1) * W (c+1)
section
variable {W:Nat→Int}
theorem dot_congr {f g:Nat→Int} : ∀ {c:Nat},(∀ j,j≤c→f j=g j)→dot f W c=dot g W c
 | 0,h=>by show f 0 * W 0=g 0 * W 0; rw [h 0 (Nat.le_refl _)]
 | c+1,h=>by
  show dot f W c+f (c+1) * W (c+1)=dot g W c+g (c+1) * W (c+1)
  rw [dot_congr (fun j hj=>h j (by omega)),h (c+1) (Nat.le_refl _)]
theorem dot_add (f g:Nat→Int) : ∀ c,dot (fun j=>f j+g j) W c=dot f W c+dot g W c
 | 0=>by show (f 0+g 0) * W 0=f 0 * W 0+g 0 * W 0; rw [Int.add_mul]
 | c+1=>by
  show dot _ W c+(f (c+1)+g (c+1)) * W (c+1)=dot f W c+f (c+1) * W (c+1)+(dot g W c+g (c+1) * W (c+1))
  rw [dot_add f g c,Int.add_mul]
  omega
theorem dot_mul (t:Int) (f:Nat→Int) : ∀ c,dot (fun j=>t * f j) W c=t * dot f W c
 | 0=>by show t * f 0 * W 0=t * (f 0 * W 0); rw [Int.mul_assoc]
 | c+1=>by
  show dot _ W c+t * f (c+1) * W (c+1)=t * (dot f W c+f (c+1) * W (c+1))
  rw [dot_mul t f c,Int.mul_add,Int.mul_assoc]
theorem dot_zero:∀ c,dot (fun _=>0) W c=0
 | 0=>Int.zero_mul _
 | c+1=>by
  show dot _ W c+0 * W (c+1)=0
  rw [dot_zero c,Int.zero_mul]
  rfl
theorem dot_sum {β:Type} (F:Nat→β→Int) (c:Nat) : ∀ xs:List β,dot (fun j=>(xs.map (F j)).sum) W c=(xs.map fun x=>dot (fun j=>F j x) W c).sum
 | []=>dot_zero c
 | x :: xs=>by
  rw [List.map_cons,List.sum_cons,← dot_sum F c xs,← dot_add]
  exact dot_congr fun j _=>by rw [List.map_cons,List.sum_cons]
theorem dot_arg {β:Type} (r:List Int) (F:Nat→β→Int) (c:Nat) : ∀ (i:Nat) (as:List β),dot (fun j=>argS r i (as.map (F j))) W c=argS r i (as.map fun a=>dot (fun j=>F j a) W c)
 | i,[]=>dot_zero c
 | i,a :: as=>by
  show dot (fun j=>r.getD i 0 * F j a+argS r (i+1) (as.map (F j))) W c=r.getD i 0 * dot (fun j=>F j a) W c+argS r (i+1) (as.map fun a=>dot (fun j=>F j a) W c)
  rw [dot_add,dot_mul,dot_arg r F c (i+1) as]
theorem dot_one (t:Int) : ∀ c,dot (fun j=>if j=0 then t else 0) W c=t * W 0
 | 0=>rfl
 | c+1=>by
  show dot _ W c+(if c+1=0 then t else 0) * W (c+1)=_
  rw [dot_one t c,if_neg (by omega),Int.zero_mul,Int.add_zero]
theorem dot_pl (k:Nat) : ∀ c,dot (fun j=>if k=j then 1 else 0) W c=if k≤c then W k else 0
 | 0=>by
  show (if k=0 then (1:Int) else 0) * W 0=_
  by_cases h:k=0
  ·rw [if_pos h,if_pos (by omega),h,Int.one_mul]
  ·rw [if_neg h,if_neg (by omega),Int.zero_mul]
 | c+1=>by
  show dot _ W c+(if k=c+1 then (1:Int) else 0) * W (c+1)=_
  rw [dot_pl k c]
  by_cases h:k=c+1
  ·rw [if_pos h,if_neg (by omega),if_pos (by omega),h]; omega
  ·rw [if_neg h,Int.zero_mul,Int.add_zero]
   by_cases h2:k≤c
   ·rw [if_pos h2,if_pos (by omega)]
   ·rw [if_neg h2,if_neg (by omega)]
theorem dot_ones {f:Nat→Int} : ∀ {c:Nat},(∀ j,j≤c→W j=1)→dot f W c=(rwL f c).sum
 | 0,h=>by show f 0 * W 0=_; rw [h 0 (Nat.le_refl _),Int.mul_one]; simp [rwL]
 | c+1,h=>by
  show dot f W c+f (c+1) * W (c+1)=_
  rw [dot_ones (fun j hj=>h j (by omega)),h (c+1) (Nat.le_refl _),Int.mul_one]
  unfold rwL
  rw [List.range_succ (n:=c+1),List.map_append,List.sum_append]
  simp
end
def sbv {β:Type} (wd:Str→β) (G:List (List β)) : Str ⊕ Nat→List β
 | .inl x=>[wd x]
 | .inr k=>G.getD (k - 1) []
def sb {β:Type} (wd:Str→β) (G:List (List β)) (l:List (Str ⊕ Nat)) : List β:=(l.map (sbv wd G)).flatten
section
variable {β:Type} {wd:Str→β} {G:List (List β)}
end
theorem shF_app {S T:List Sh} {x:Str} {s:Sh} (h:shF S x=some s) : shF (S++T) x=some s:=by
 unfold shF at h ⊢
 rw [List.find?_append,h]
 rfl
theorem sz_app {S T:List Sh} {c j:Nat} : ∀ {d:Nat} {x:DD},(S.map Sh.n).Nodup→Nd (menuS S) c d x→szR (S++T) j d x=szR S j d x
 | d+1,x,nd,hx=>by
  rcases hx.out with ⟨w,rfl⟩ | ⟨k,h1,h2,rfl⟩ | ⟨nm,as,rfl,h1,h2⟩
  ·rw [sz_wd,sz_wd]
  ·rw [sz_pl,sz_pl]
  ·obtain ⟨s,hs,e⟩:=List.mem_map.mp h1
   obtain ⟨e1,e2⟩:=Prod.mk.inj e
   subst e1
   have hF:=shF_of nd hs
   rw [sz_cl (shF_app hF),sz_cl hF]
   have e:(as.map fun a=>(a.map (szR (S++T) j d)).sum)=as.map fun a=>(a.map (szR S j d)).sum:=List.map_congr_left fun a ha=>congrArg List.sum (List.map_congr_left fun y hy=>sz_app nd ((h2 a ha).2 y hy))
   rw [e]
theorem row_app {S T:List Sh} {c d:Nat} {xs:List DD} (nd:(S.map Sh.n).Nodup) (hx:∀ x ∈ xs,Nd (menuS S) c d x) : rowL (S++T) c d xs=rowL S c d xs:=by
 unfold rowL
 exact rwL_congr fun j _=>congrArg List.sum (List.map_congr_left fun x hm=>sz_app nd (hx x hm))
theorem menuS_take {S:List Sh} {i:Nat} : ∀ x ∈ menuS (S.take i),x ∈ menuS S:=fun x hx=>by
 unfold menuS at hx ⊢
 obtain ⟨s,hs,rfl⟩:=List.mem_map.mp hx
 exact List.mem_map.mpr ⟨s,List.mem_of_mem_take hs,rfl⟩
theorem ShX.snoc {S:List Sh} {s:Sh} (h:ShX S) (nd:((S++[s]).map Sh.n).Nodup) (hl:S.length < 4) (ho:∀ x ∈ s.ns,Nd (menuS S) s.c 12 x) (he:s.r=rowL S s.c 12 s.ns) (hp:∀ k,1≤k→k≤s.c→1≤s.r.getD k 0) (hn:∀ y ∈ s.r,0≤y) (hs:s.r.sum≤400) : ShX (S++[s]):=by
 have mem:∀ {P:Sh→Prop},(∀ t ∈ S,P t)→P s→∀ t ∈ S++[s],P t:=fun h1 h2 t ht=>by
  rcases List.mem_append.mp ht with ht | ht
  ·exact h1 t ht
  ·rw [List.mem_singleton.mp ht]; exact h2
 refine ⟨nd,by rw [List.length_append,List.length_singleton]; omega,fun i t hi x hx=>?_,mem (fun t ht=>?_) ?_,mem h.pos hp,mem h.nn hn,mem h.sum hs⟩
 ·by_cases hlt:i < S.length
  ·rw [List.getElem?_append_left hlt] at hi
   rw [List.take_append_of_le_length (by omega)]
   exact h.ord i t hi x hx
  ·rw [List.getElem?_append_right (by omega)] at hi
   have h0:i - S.length=0:=by
    have:=(List.getElem?_eq_some_iff.mp hi).1
    simp at this
    omega
   rw [h0] at hi
   have e:s=t:=by simpa using hi
   subst e
   rw [show i=S.length by omega,List.take_left']
   ·exact ho x hx
   ·rfl
 ·obtain ⟨j,hj⟩:=List.getElem?_of_mem ht
  rw [row_app h.nd fun x hx=>(h.ord j t hj x hx).up menuS_take (Nat.le_refl _) (Nat.le_refl _)]
  exact h.eqr t ht
 ·rw [row_app h.nd ho]
  exact he
mutual
def DD.calls:DD→Nat
 | .bl _=>0
 | .int _=>0
 | .str _=>0
 | .tup l=>(if l.length=3 then 1 else 0)+callsL l
 | .lst l=>callsL l
def callsL:List DD→Nat
 | []=>0
 | d :: l=>d.calls+callsL l
end
theorem calls_cons (a:DD) (l:List DD) : callsL (a :: l)=a.calls+callsL l:=by rw [callsL]
theorem calls_app:∀ (l l2:List DD),callsL (l++l2)=callsL l+callsL l2
 | [],l2=>by show callsL l2=callsL []+callsL l2; unfold callsL; omega
 | d :: l,l2=>by
  show callsL (d :: (l++l2))=_
  rw [calls_cons,calls_cons,calls_app l l2]
  omega
theorem calls_one (d:DD) : callsL [d]=d.calls:=by
 unfold callsL
 show d.calls+callsL []=_
 unfold callsL
 omega
theorem calls_wd (w:Wd0) : (wdD w).calls=0:=by simp [wdD,DD.calls,callsL]
theorem calls_pl (k:Nat) : (plD k).calls=0:=by simp [plD,DD.calls,callsL]
theorem calls_cl (n:Wd0) (as:List (List DD)) : (clD n as).calls=1+callsL (as.map DD.lst):=by simp [clD,DD.calls,callsL]
theorem calls_lst (l:List DD) : (DD.lst l).calls=callsL l:=by rw [DD.calls]
theorem cal_le {S:List Sh} (h:∀ s ∈ S,0≤s.k∧s.k≤60) {M:List (Wd0 × Nat)} {c:Nat} : ∀ {d:Nat} {x:DD},Nd M c d x→0≤szC S d x∧szC S d x≤61 * (x.calls:Int)
 | d+1,x,hx=>by
  rcases hx.out with ⟨w,rfl⟩ | ⟨k,h1,h2,rfl⟩ | ⟨nm,as,rfl,h1,h2⟩
  ·rw [sc_wd,calls_wd]; exact ⟨Int.le_refl _,Int.le_refl _⟩
  ·rw [sc_pl,calls_pl]; exact ⟨Int.le_refl _,Int.le_refl _⟩
  ·have q1:∀ l:List DD,(∀ y ∈ l,Nd M c d y)→0≤calL S d l∧calL S d l≤61 * (callsL l:Int):=fun l=>by
    induction l with
    | nil=>intro _; simp [calL,callsL]
    | cons y r ih =>
     intro hy
     have a1:=ih fun z hz=>hy z (List.mem_cons_of_mem _ hz)
     have a2:=cal_le h (hy y List.mem_cons_self)
     have e:calL S d (y :: r)=szC S d y+calL S d r:=by unfold calL; rw [List.map_cons,List.sum_cons]
     rw [e,calls_cons]
     omega
   have q2:∀ as:List (List DD),(∀ a ∈ as,∀ y ∈ a,Nd M c d y)→0≤(as.map (calL S d)).sum∧(as.map (calL S d)).sum≤61 * (callsL (as.map DD.lst) : Int):=fun as=>by
    induction as with
    | nil=>intro _; simp [callsL]
    | cons a r ih =>
     intro hy
     have a1:=ih fun z hz=>hy z (List.mem_cons_of_mem _ hz)
     have a2:=q1 a (hy a List.mem_cons_self)
     rw [List.map_cons,List.sum_cons,List.map_cons,calls_cons,calls_lst]
     omega
   have q:=q2 as fun a ha y hy=>(h2 a ha).2 y hy
   rw [calls_cl]
   cases hF:shF S (tx nm) with
   | none =>
    have:szC S (d+1) (clD nm as)=0:=by
     show (match shF S (tx nm) with | none=>0 | some s=>1+s.k+((as.map DD.lst).map fun a=>((ddL a).map (szC S d)).sum).sum)=0
     rw [hF]
    omega
   | some s =>
    rw [sc_cl hF]
    have hs:s ∈ S:=by unfold shF at hF; exact List.mem_of_find?_eq_some hF
    have:=h s hs
    omega
theorem calL_le {S:List Sh} (h:∀ s ∈ S,0≤s.k∧s.k≤60) {M:List (Wd0 × Nat)} {c d:Nat} : ∀ {l:List DD},(∀ y ∈ l,Nd M c d y)→0≤calL S d l∧calL S d l≤61 * (callsL l:Int)
 | [],_=>by simp [calL,callsL]
 | y :: r,hy=>by
  have a1:=calL_le h (l:=r) fun z hz=>hy z (List.mem_cons_of_mem _ hz)
  have a2:=cal_le h (hy y List.mem_cons_self)
  have e:calL S d (y :: r)=szC S d y+calL S d r:=by unfold calL; rw [List.map_cons,List.sum_cons]
  rw [e,calls_cons]
  omega
section
variable {X:Cx}
end
def Cat {α:Type} (R:α→V→List Addr→Prop) : List α→List V→List Addr→Prop
 | [],vs,l=>vs=[]∧l=[]
 | x :: xs,vs,l=>∃ v vr l1 l2,vs=v :: vr∧l=l1++l2∧R x v l1∧Cat R xs vr l2
section
variable {α:Type} {R R':α→V→List Addr→Prop}
theorem Cat.nil:Cat R [] [] []:=⟨rfl,rfl⟩
theorem Cat.snoc:∀ {xs:List α} {vs:List V} {l:List Addr} {x:α} {v:V} {l1:List Addr},Cat R xs vs l→R x v l1→Cat R (xs++[x]) (vs++[v]) (l++l1)
 | [],vs,l,x,v,l1,h,hx=>by
  obtain ⟨rfl,rfl⟩:=h
  exact ⟨v,[],l1,[],rfl,(List.append_nil _).symm,hx,rfl,rfl⟩
 | y :: xs,vs,l,x,v,l1,h,hx=>by
  obtain ⟨w,vr,a,b,rfl,rfl,h1,h2⟩:=h
  exact ⟨w,vr++[v],a,b++l1,rfl,List.append_assoc _ _ _,h1,Cat.snoc h2 hx⟩
theorem Cat.imp:∀ {xs:List α} {vs:List V} {l:List Addr},(∀ x ∈ xs,∀ v l,R x v l→R' x v l)→Cat R xs vs l→Cat R' xs vs l
 | [],_,_,_,h=>h
 | y :: xs,vs,l,hi,h=>by
  obtain ⟨w,vr,a,b,h0,h0',h1,h2⟩:=h
  exact ⟨w,vr,a,b,h0,h0',hi y List.mem_cons_self _ _ h1,Cat.imp (fun x hx=>hi x (List.mem_cons_of_mem _ hx)) h2⟩
theorem Cat.len:∀ {xs:List α} {vs:List V} {l:List Addr},Cat R xs vs l→vs.length=xs.length
 | [],_,_,h=>by rw [h.1]; rfl
 | y :: xs,vs,l,h=>by
  obtain ⟨w,vr,a,b,rfl,_,_,h2⟩:=h
  rw [List.length_cons,List.length_cons,h2.len]
theorem Cat.next {xs:List α} {vs:List V} {l:List Addr} {k:Nat} {y:V} (h:Cat R (xs.drop k) (vs.drop k) l) (e:vs[k]? = some y) : ∃ x l1 l2,xs[k]? = some x∧l=l1++l2∧R x y l1∧Cat R (xs.drop (k+1)) (vs.drop (k+1)) l2:=by
 have hk:=(List.getElem?_eq_some_iff.mp e).1
 have hy:=(List.getElem?_eq_some_iff.mp e).2
 rw [List.drop_eq_getElem_cons hk,hy] at h
 have hl:=h.len
 have hx:k < xs.length:=by
  rw [List.length_cons,List.length_drop,List.length_drop] at hl
  omega
 rw [List.drop_eq_getElem_cons hx] at h
 obtain ⟨w,vr,a,b,h0,h1,h2,h3⟩:=h
 injection h0 with h01 h02
 subst h01 h02
 exact ⟨xs[k],a,b,List.getElem?_eq_getElem hx,h1,h2,h3⟩
end
def ApG (H:Hp) (N:DD→V→List Addr→Prop) (a:List DD) (y:V) (l:List Addr) : Prop:=∃ b vs l',y = .ref b∧H b=some (.lst vs)∧l=b :: l'∧a.length≤400000∧Cat N a vs l'
def ApN (K:PySem.W.Frag) (H:Hp) : Nat→DD→V→List Addr→Prop
 | 0,_,_,_=>False
 | d+1,x,v,l=>(Rep K H x v∧l=[]∧((∃ w,x=wdD w)∨∃ k,x=plD k))∨∃ n as t b ys l',x=clD n as∧v = .ref t∧H t=some (.tup [.str (PySem.Str.ofString "call"),.str (tx n),.ref b])∧H b=some (.lst ys)∧l=b :: l'∧as.length≤10∧Cat (ApG H (ApN K H d)) as ys l'
theorem ApN.out {K:PySem.W.Frag} {H:Hp} {d:Nat} {x:DD} {v:V} {l:List Addr} (h:ApN K H (d+1) x v l) : (Rep K H x v∧l=[]∧((∃ w,x=wdD w)∨∃ k,x=plD k))∨∃ n as t b ys l',x=clD n as∧v = .ref t∧H t=some (.tup [.str (PySem.Str.ofString "call"),.str (tx n),.ref b])∧H b=some (.lst ys)∧l=b :: l'∧as.length≤10∧Cat (ApG H (ApN K H d)) as ys l':=h
theorem ApG.mono {H H':Hp} {N N':DD→V→List Addr→Prop} (s:Same H H') {a:List DD} {y:V} {l:List Addr} (hN:∀ x ∈ a,∀ v l,N x v l→N' x v l) (h:ApG H N a y l) : ApG H' N' a y l:=by
 obtain ⟨b,vs,l',h1,h2,h3,h4,h5⟩:=h
 exact ⟨b,vs,l',h1,s _ _ h2,h3,h4,h5.imp hN⟩
theorem ApN.mono {K:PySem.W.Frag} {H H':Hp} (s:Same H H') : ∀ {d:Nat} {x:DD} {v:V} {l:List Addr},ApN K H d x v l→ApN K H' d x v l
 | d+1,x,v,l,h=>by
  rcases h.out with ⟨h1,h2,h3⟩ | ⟨n,as,t,b,ys,l',h1,h2,h3,h4,h5,h6,h7⟩
  ·exact .inl ⟨h1.mono s,h2,h3⟩
  ·exact .inr ⟨n,as,t,b,ys,l',h1,h2,s _ _ h3,s _ _ h4,h5,h6,h7.imp fun a _ y l z=>z.mono s fun x _ v l z=>ApN.mono s z⟩
theorem Cat.mono {K:PySem.W.Frag} {H H':Hp} (s:Same H H') {d:Nat} {xs:List DD} {vs:List V} {l:List Addr} (h:Cat (ApN K H d) xs vs l) : Cat (ApN K H' d) xs vs l:=h.imp fun _ _ _ _ z=>z.mono s
theorem Cat.reps {K:PySem.W.Frag} {H:Hp} {α:Type} {R:α→V→List Addr→Prop} {f:α→DD} : ∀ {xs:List α} {vs:List V} {l:List Addr},(∀ x ∈ xs,∀ v l,R x v l→Rep K H (f x) v)→Cat R xs vs l→Reps K H (xs.map f) vs
 | [],vs,l,_,h=>by rw [h.1]; exact Reps.nil
 | x :: xs,vs,l,hi,h=>by
  obtain ⟨w,vr,a,b,rfl,_,h1,h2⟩:=h
  exact Reps.cons (hi x List.mem_cons_self _ _ h1) (Cat.reps (fun x hx=>hi x (List.mem_cons_of_mem _ hx)) h2)
theorem ApN.rep {K:PySem.W.Frag} {H:Hp} : ∀ {d:Nat} {x:DD} {v:V} {l:List Addr},ApN K H d x v l→Rep K H x v
 | d+1,x,v,l,h=>by
  rcases h.out with ⟨h1,h2,h3⟩ | ⟨n,as,t,b,ys,l',rfl,rfl,h3,h4,h5,h6,h7⟩
  ·exact h1
  ·refine rep_tup (SqT.of h3) (by simp) (Reps.cons (rep_str _) (Reps.cons (rep_str _) (Reps.cons (rep_lst (SqL.of h4) (by rw [List.length_map]; omega) ?_) Reps.nil)))
   refine h7.reps fun a _ y l z=>?_
   obtain ⟨b,vs,l',rfl,z2,z3,z4,z5⟩:=z
   have:=z5.reps (f:=id) fun x _ v l z=>ApN.rep z
   rw [List.map_id] at this
   exact rep_lst (SqL.of z2) (by omega) this
theorem Cat.rep {K:PySem.W.Frag} {H:Hp} {d:Nat} {xs:List DD} {vs:List V} {l:List Addr} (h:Cat (ApN K H d) xs vs l) : Reps K H xs vs:=by
 have:=h.reps (f:=id) fun x _ v l z=>ApN.rep z
 rw [List.map_id] at this
 exact this
theorem Cat.small {α:Type} {R:α→V→List Addr→Prop} {f:α→Nat} : ∀ {xs:List α} {vs:List V} {l:List Addr},(∀ x ∈ xs,∀ v l,R x v l→l.length≤f x)→Cat R xs vs l→l.length≤(xs.map f).sum
 | [],vs,l,_,h=>by rw [h.2]; exact Nat.le_refl _
 | x :: xs,vs,l,hi,h=>by
  obtain ⟨w,vr,a,b,_,rfl,h1,h2⟩:=h
  have q1:=hi x List.mem_cons_self _ _ h1
  have q2:=Cat.small (fun x hx=>hi x (List.mem_cons_of_mem _ hx)) h2
  rw [List.length_append,List.map_cons,List.sum_cons]
  omega
theorem calls_sum:∀ xs:List DD,(xs.map fun x=>11 * x.calls).sum=11 * callsL xs
 | []=>by rw [callsL]; rfl
 | x :: xs=>by
  rw [List.map_cons,List.sum_cons,calls_sum xs,calls_cons]
  omega
theorem args_sum:∀ as:List (List DD),(as.map fun a=>1+11 * callsL a).sum=as.length+11 * callsL (as.map DD.lst)
 | []=>by show 0=0+11 * callsL []; rw [callsL]
 | a :: as=>by
  rw [List.map_cons,List.sum_cons,args_sum as,List.map_cons,calls_cons,calls_lst,List.length_cons]
  omega
theorem ApN.small {K:PySem.W.Frag} {H:Hp} : ∀ {d:Nat} {x:DD} {v:V} {l:List Addr},ApN K H d x v l→l.length≤11 * x.calls
 | d+1,x,v,l,h=>by
  rcases h.out with ⟨h1,rfl,h3⟩ | ⟨n,as,t,b,ys,l',rfl,rfl,h3,h4,rfl,h6,h7⟩
  ·exact Nat.zero_le _
  ·have:=h7.small (f:=fun a=>1+11 * callsL a) fun a _ y l z=>by
    obtain ⟨b,vs,l',rfl,z2,rfl,z4,z5⟩:=z
    have:=z5.small (f:=fun x=>11 * x.calls) fun x _ v l z=>ApN.small z
    rw [calls_sum] at this
    rw [List.length_cons]
    omega
   rw [args_sum] at this
   rw [calls_cl,List.length_cons]
   omega
theorem Cat.small2 {K:PySem.W.Frag} {H:Hp} {d:Nat} {xs:List DD} {vs:List V} {l:List Addr} (h:Cat (ApN K H d) xs vs l) : l.length≤11 * callsL xs:=by
 have:=Cat.small (f:=fun x=>11 * x.calls) (fun x _ v l z=>ApN.small z) h
 rw [calls_sum] at this
 exact this
structure NewL (H H':Hp) (l:List Addr) : Prop where
 nd:l.Nodup
 new:∀ b ∈ l,H b=none
 at':∀ b ∈ l,∃ o,H' b=some (.lst o)∧o.length≤400000
theorem NewL.nil {H H':Hp} : NewL H H' []:=⟨List.nodup_nil,fun b hb=>(by cases hb),fun b hb=>(by cases hb)⟩
theorem NewL.up {H H' H2:Hp} {l:List Addr} (h:NewL H H' l) (s:Same H' H2) : NewL H H2 l:=⟨h.nd,h.new,fun b hb=>by obtain ⟨o,h1,h2⟩:=h.at' b hb; exact ⟨o,s _ _ h1,h2⟩⟩
theorem NewL.app {H G G':Hp} {l l2:List Addr} (h:NewL H G l) (s:Same H G) (s2:Same G G') (h2:NewL G G' l2) : NewL H G' (l++l2):=by
 refine ⟨List.nodup_append.mpr ⟨h.nd,h2.nd,fun a ha b hb e=>?_⟩,fun b hb=>?_,fun b hb=>?_⟩
 ·subst e
  obtain ⟨o,h3,_⟩:=h.at' a ha
  rw [h2.new a hb] at h3
  cases h3
 ·rcases List.mem_append.mp hb with hb | hb
  ·exact h.new b hb
  ·exact s.free (h2.new b hb)
 ·rcases List.mem_append.mp hb with hb | hb
  ·exact (h.up s2).at' b hb
  ·exact h2.at' b hb
theorem NewL.one {H G G':Hp} {l:List Addr} {p:Addr} {o:List V} (h:NewL H G l) (s:Same H G) (s2:Same G G') (hp:G p=none) (hk:G' p=some (.lst o)) (ho:o.length≤400000) : NewL H G' (p :: l):=by
 refine ⟨List.nodup_cons.mpr ⟨fun z=>?_,h.nd⟩,fun b hb=>?_,fun b hb=>?_⟩
 ·obtain ⟨o,h3,_⟩:=h.at' p z
  rw [hp] at h3
  cases h3
 ·rcases List.mem_cons.mp hb with rfl | hb
  ·exact s.free hp
  ·exact h.new b hb
 ·rcases List.mem_cons.mp hb with rfl | hb
  ·exact ⟨o,hk,ho⟩
  ·exact (h.up s2).at' b hb
def mxE (B H G:Hp) (os:List Addr) : Hp:=fun b=>if b ∈ os then none else match H b with
 | none=>G b
 | some _=>B b
section
variable {B H G G' G2:Hp} {os:List Addr} {pt:Addr}
theorem mxE_new {b:Addr} {o:HO} (h0:H b=none) (h1:b ∉ os) (h:G b=some o) : mxE B H G os b=some o:=by
 unfold mxE
 rw [if_neg h1,h0]
 exact h
theorem mxE_of {b:Addr} {o:HO} (h:mxE B H G os b=some o) : b ∉ os∧((H b=none∧G b=some o)∨B b=some o):=by
 unfold mxE at h
 split at h
 ·cases h
 ·rename_i z
  cases e:H b with
  | none=>rw [e] at h; exact ⟨z,.inl ⟨rfl,h⟩⟩
  | some q=>rw [e] at h; exact ⟨z,.inr h⟩
theorem mxE_old (sB:Same B H) {b:Addr} {o:HO} (h1:b ∉ os) (h:B b=some o) : mxE B H G os b=some o:=by
 unfold mxE
 rw [if_neg h1,sB b o h]
 exact h
theorem mxE_base (sB:Same B H) (ho:∀ b ∈ os,B b=none) : Same B (mxE B H G os):=fun b o h=>mxE_old sB (fun z=>by rw [ho b z] at h; cases h) h
theorem mxE_step (sB:Same B H) (h:∀ b o,b ∉ os→G b=some o→G2 b=some o) : Same (mxE B H G os) (mxE B H G2 os):=fun b o hb=>by
 obtain ⟨h1,h2 | h2⟩:=mxE_of hb
 ·exact mxE_new h2.1 h1 (h b o h1 h2.2)
 ·exact mxE_old sB h1 h2
theorem mxE_in (sB:Same B H) (s1:Same H G) {x:HO} (hpt:H pt=none) (hp:G pt=some x) (h:∀ b o,b≠pt→G' b=some o→G2 b=some o) : Same (mxE B G G' []) (mxE B H G2 [pt]):=fun b o hb=>by
 obtain ⟨_,h2 | h2⟩:=mxE_of hb
 ·have nb:b≠pt:=fun z=>by rw [z,hp] at h2; cases h2.1
  exact mxE_new (s1.free h2.1) (by simpa using nb) (h b o nb h2.2)
 ·have nb:b≠pt:=fun z=>by rw [z] at h2; rw [sB _ _ h2] at hpt; cases hpt
  exact mxE_old sB (by simpa using nb) h2
theorem mxE_nil (sB:Same B H) : Same (mxE B H G os) (mxE B H G []):=fun b o hb=>by
 obtain ⟨h1,h2 | h2⟩:=mxE_of hb
 ·exact mxE_new h2.1 (by simp) h2.2
 ·exact mxE_old sB (by simp) h2
theorem mxE_out (sB:Same B H) (s1:Same H G) : Same (mxE B H G os) G:=fun b o hb=>by
 obtain ⟨h1,h2 | h2⟩:=mxE_of hb
 ·exact h2.2
 ·exact s1 _ _ (sB _ _ h2)
end
def Ns (M:List (Wd0 × Nat)) (c:Nat) : Nat→DD→Prop
 | 0,_=>False
 | d+1,x=>(∃ w,x=wdD w)∨(∃ k,1≤k∧k≤c∧x=plD k)∨∃ n as,x=clD n as∧(n,as.length) ∈ M∧∀ a ∈ as,∀ y ∈ a,Ns M c d y
theorem Ns.out {M:List (Wd0 × Nat)} {c d:Nat} {x:DD} (h:Ns M c (d+1) x) : (∃ w,x=wdD w)∨(∃ k,1≤k∧k≤c∧x=plD k)∨∃ n as,x=clD n as∧(n,as.length) ∈ M∧∀ a ∈ as,∀ y ∈ a,Ns M c d y:=h
theorem Ns.pos {M:List (Wd0 × Nat)} {c d:Nat} {x:DD} (h:Ns M c d x) : ∃ e,d=e+1:=by
 cases d with
 | zero=>exact h.elim
 | succ e=>exact ⟨e,rfl⟩
theorem Nd.ns {M:List (Wd0 × Nat)} {c:Nat} : ∀ {d:Nat} {x:DD},Nd M c d x→Ns M c d x
 | d+1,x,h=>by
  rcases h.out with ⟨w,rfl⟩ | ⟨k,h1,h2,rfl⟩ | ⟨n,as,rfl,h1,h2⟩
  ·exact .inl ⟨w,rfl⟩
  ·exact .inr (.inl ⟨k,h1,h2,rfl⟩)
  ·exact .inr (.inr ⟨n,as,rfl,h1,fun a ha y hy=>Nd.ns ((h2 a ha).2 y hy)⟩)
theorem Ns.up {M M':List (Wd0 × Nat)} {c:Nat} (hM:∀ x ∈ M,x ∈ M') : ∀ {d d':Nat} {x:DD},d≤d'→Ns M c d x→Ns M' c d' x
 | d+1,d',x,hd,h=>by
  obtain ⟨e,rfl⟩ : ∃ e,d' = e+1:=⟨d' - 1,by omega⟩
  rcases h.out with ⟨w,rfl⟩ | ⟨k,h1,h2,rfl⟩ | ⟨n,as,rfl,h1,h2⟩
  ·exact .inl ⟨w,rfl⟩
  ·exact .inr (.inl ⟨k,h1,h2,rfl⟩)
  ·exact .inr (.inr ⟨n,as,rfl,hM _ h1,fun a ha y hy=>Ns.up hM (by omega) (h2 a ha y hy)⟩)

mutual
def DD.lv:DD→Nat
 | .bl _=>0
 | .int _=>0
 | .str _=>0
 | .tup l=>(if l.length=2 then 1 else 0)+lvL l
 | .lst l=>lvL l
def lvL:List DD→Nat
 | []=>0
 | d :: l=>d.lv+lvL l
end
theorem lv_nil:lvL []=0:=by rw [lvL]
theorem lv_cons (a:DD) (l:List DD) : lvL (a :: l)=a.lv+lvL l:=by rw [lvL]
theorem lv_lst (l:List DD) : (DD.lst l).lv=lvL l:=by rw [DD.lv]
theorem lv_wd (w:Wd0) : (wdD w).lv=1:=by simp [wdD,DD.lv,lvL]
theorem lv_pl (k:Nat) : (plD k).lv=1:=by simp [plD,DD.lv,lvL]
theorem lv_cl (n:Wd0) (as:List (List DD)) : (clD n as).lv=lvL (as.map DD.lst):=by simp [clD,DD.lv,lvL]
theorem calls_nil:callsL []=0:=by rw [callsL]
theorem len_lv {M:List (Wd0 × Nat)} {c d:Nat} : ∀ {l:List DD},(∀ x ∈ l,Ns M c d x)→l.length≤lvL l+callsL l
 | [],_=>Nat.zero_le _
 | x :: r,h=>by
  have q1:=len_lv (l:=r) fun y hy=>h y (List.mem_cons_of_mem _ hy)
  have q2:1≤x.lv+x.calls:=by
   have hx:=h x List.mem_cons_self
   obtain ⟨e,rfl⟩:=hx.pos
   rcases hx.out with ⟨w,rfl⟩ | ⟨k,h1,h2,rfl⟩ | ⟨n,as,rfl,h1,h2⟩
   ·rw [lv_wd]; omega
   ·rw [lv_pl]; omega
   ·rw [calls_cl]; omega
  rw [List.length_cons,lv_cons,calls_cons]
  omega
theorem lv_mem {l:List DD} {x:DD} (h:x ∈ l) : x.lv≤lvL l∧x.calls≤callsL l:=by
 induction l with
 | nil=>cases h
 | cons y r ih =>
  rw [lv_cons,calls_cons]
  rcases List.mem_cons.mp h with rfl | h
  ·omega
  ·have:=ih h
   omega
theorem Ns.nd {M:List (Wd0 × Nat)} {c:Nat} : ∀ {d:Nat} {x:DD},Ns M c d x→x.lv+x.calls≤300000→Nd M c d x
 | d+1,x,h,hl=>by
  rcases h.out with ⟨w,rfl⟩ | ⟨k,h1,h2,rfl⟩ | ⟨n,as,rfl,h1,h2⟩
  ·exact .inl ⟨w,rfl⟩
  ·exact .inr (.inl ⟨k,h1,h2,rfl⟩)
  ·rw [lv_cl,calls_cl] at hl
   refine .inr (.inr ⟨n,as,rfl,h1,fun a ha=>?_⟩)
   have q:=lv_mem (List.mem_map.mpr ⟨a,ha,rfl⟩ : DD.lst a ∈ as.map DD.lst)
   rw [lv_lst,calls_lst] at q
   have ql:=len_lv (h2 a ha)
   refine ⟨by omega,fun y hy=>Ns.nd (h2 a ha y hy) ?_⟩
   have:=lv_mem hy
   omega
theorem Ns.low {M:List (Wd0 × Nat)} {c:Nat} : ∀ {d:Nat} {x:DD},Ns M c d x→Ns M c (x.calls+1) x
 | d+1,x,h=>by
  rcases h.out with ⟨w,rfl⟩ | ⟨k,h1,h2,rfl⟩ | ⟨n,as,rfl,h1,h2⟩
  ·exact .inl ⟨w,rfl⟩
  ·exact .inr (.inl ⟨k,h1,h2,rfl⟩)
  ·refine .inr (.inr ⟨n,as,rfl,h1,fun a ha y hy=>(Ns.low (h2 a ha y hy)).up (fun _ h=>h) ?_⟩)
   have q:=lv_mem (List.mem_map.mpr ⟨a,ha,rfl⟩ : DD.lst a ∈ as.map DD.lst)
   rw [calls_lst] at q
   have q2:=lv_mem hy
   rw [calls_cl]
   omega
theorem cl_inj {n n':Wd0} {as as':List (List DD)} (e:clD n as=clD n' as') : n=n'∧as=as':=by
 unfold clD at e
 injection e with e
 injection e with _ e
 injection e with e1 e
 injection e with e _
 injection e with e
 injection e1 with e1
 have e:=congrArg (fun z=>z.map ddL) e
 simp only [List.map_map] at e
 have q:∀ l:List (List DD),l.map (ddL ∘ DD.lst)=l:=fun l=>by
  have:(ddL ∘ DD.lst)=(id:List DD→List DD):=rfl
  rw [this,List.map_id]
 rw [q,q] at e
 exact ⟨tx_inj e1,e⟩
def fiD (A:List (List DD)) : Nat→DD→List DD
 | d+1,.tup [_,.str x,.lst as]=>[.tup [.str (PySem.Str.ofString "call"),.str x,.lst (as.map fun a=>.lst ((ddL a).map (fiD A d)).flatten)]]
 | _+1,.tup [_,.int k]=>A.getD (k - 1).toNat []
 | _,x=>[x]
def fiL (A:List (List DD)) (d:Nat) (xs:List DD) : List DD:=(xs.map (fiD A d)).flatten
section
variable {A:List (List DD)} {d k:Nat} {w n:Wd0} {as:List (List DD)}
theorem fi_wd:fiD A (d+1) (wdD w)=[wdD w]:=rfl
theorem fi_pl:fiD A (d+1) (plD k)=A.getD (k - 1) []:=by
 show A.getD ((k:Int) - 1).toNat []=_
 rw [show ((k:Int) - 1).toNat=k - 1 by omega]
theorem fi_cl:fiD A (d+1) (clD n as)=[clD n (as.map (fiL A d))]:=by
 show [DD.tup [.str (PySem.Str.ofString "call"),.str (tx n),.lst ((as.map DD.lst).map fun a=>.lst ((ddL a).map (fiD A d)).flatten)]]=_
 unfold clD
 rw [List.map_map,List.map_map]
 rfl
theorem fiL_snoc {xs:List DD} {i:Nat} {x:DD} (h:xs[i]? = some x) : fiL A d (xs.take (i+1))=fiL A d (xs.take i)++fiD A d x:=by
 unfold fiL
 rw [List.take_add_one,h,List.map_append,List.flatten_append]
 simp
theorem fiL_mem {xs:List DD} {z:DD} (h:z ∈ fiL A d xs) : ∃ x ∈ xs,z ∈ fiD A d x:=by
 unfold fiL at h
 obtain ⟨l,hl,hz⟩:=List.mem_flatten.mp h
 obtain ⟨x,hx,rfl⟩:=List.mem_map.mp hl
 exact ⟨x,hx,hz⟩
end
theorem getD_mem {α:Type} {A:List (List α)} {k:Nat} {z:α} (h:z ∈ A.getD k []) : ∃ a ∈ A,z ∈ a:=by
 rw [List.getD_eq_getElem?_getD] at h
 cases e:A[k]? with
 | none=>rw [e] at h; cases h
 | some a=>rw [e] at h; exact ⟨a,List.mem_of_getElem? e,h⟩
theorem fi_ns {M M':List (Wd0 × Nat)} {c c' e:Nat} {A:List (List DD)} (hM:∀ x ∈ M,x ∈ M') (hA:∀ a ∈ A,∀ x ∈ a,Ns M' c' e x) : ∀ {d:Nat} {y:DD},Ns M c d y→∀ z ∈ fiD A d y,Ns M' c' (d+e) z
 | d+1,y,h=>by
  intro z hz
  rcases h.out with ⟨w,rfl⟩ | ⟨k,h1,h2,rfl⟩ | ⟨n,as,rfl,h1,h2⟩
  ·rw [fi_wd] at hz
   rw [List.mem_singleton.mp hz,show d+1+e=(d+e)+1 by omega]
   exact .inl ⟨w,rfl⟩
  ·rw [fi_pl] at hz
   obtain ⟨a,ha,hz⟩:=getD_mem hz
   exact (hA a ha z hz).up (fun _ h=>h) (by omega)
  ·rw [fi_cl] at hz
   rw [List.mem_singleton.mp hz,show d+1+e=(d+e)+1 by omega]
   refine .inr (.inr ⟨n,_,rfl,by rw [List.length_map]; exact hM _ h1,fun b hb u hu=>?_⟩)
   obtain ⟨a,ha,rfl⟩:=List.mem_map.mp hb
   obtain ⟨v,hv,hu⟩:=fiL_mem hu
   exact fi_ns hM hA (h2 a ha v hv) u hu
theorem lv_le {S:List Sh} (h:ShX S) {c:Nat} : ∀ {d:Nat} {x:DD},Ns (menuS S) c d x→(x.lv:Int)≤dot (fun j=>szR S j d x) (fun _=>1) c
 | d+1,x,hx=>by
  rcases hx.out with ⟨w,rfl⟩ | ⟨k,h1,h2,rfl⟩ | ⟨nm,as,rfl,h1,h2⟩
  ·have e:dot (fun j=>szR S j (d+1) (wdD w)) (fun _=>1) c=dot (fun j=>if j=0 then 1 else 0) (fun _=>1) c:=dot_congr fun j _=>sz_wd
   rw [e,dot_one,lv_wd]
   decide
  ·have e:dot (fun j=>szR S j (d+1) (plD k)) (fun _=>1) c=dot (fun j=>if k=j then 1 else 0) (fun _=>1) c:=dot_congr fun j _=>sz_pl
   rw [e,dot_pl,if_pos h2,lv_pl]
   decide
  ·obtain ⟨j,s,_,_,hs,e1,e2,hF⟩:=call_of (i:=S.length) h.nd (by rw [List.take_of_length_le (Nat.le_refl _)]; exact h1)
   have e4:dot (fun j=>szR S j (d+1) (clD nm as)) (fun _=>1) c=dot (fun j=>(if j=0 then s.r.getD 0 0 else 0)+argS s.r 1 (as.map fun a=>(a.map (szR S j d)).sum)) (fun _=>1) c:=dot_congr fun j _=>sz_cl hF
   rw [e4,dot_add,dot_one,dot_arg s.r (fun j (a:List DD)=>(a.map (szR S j d)).sum),lv_cl]
   have q:∀ a ∈ as,(lvL a:Int)≤dot (fun j=>(a.map (szR S j d)).sum) (fun _=>1) c:=fun a ha=>by
    rw [dot_sum]
    have q1:∀ l:List DD,(∀ v ∈ l,v ∈ a)→(lvL l:Int)≤(l.map fun x=>dot (fun j=>szR S j d x) (fun _=>1) c).sum:=fun l=>by
     induction l with
     | nil=>intro _; rw [lv_nil]; exact Int.le_refl _
     | cons v r ih =>
      intro hl
      have a1:=ih fun u hu=>hl u (List.mem_cons_of_mem _ hu)
      have a2:=lv_le h (h2 a ha v (hl v List.mem_cons_self))
      rw [lv_cons,List.map_cons,List.sum_cons]
      omega
    exact q1 a fun v hv=>hv
   have g0:0≤s.r.getD 0 0:=by
    rw [List.getD_eq_getElem?_getD]
    cases e:s.r[0]? with
    | none=>exact Int.le_refl _
    | some y=>exact h.nn s hs y (List.mem_of_getElem? e)
   have q3:∀ (as:List (List DD)) (i:Nat),(∀ a ∈ as,(lvL a:Int)≤dot (fun j=>(a.map (szR S j d)).sum) (fun _=>1) c)→(∀ j,i≤j→j < i+as.length→1≤s.r.getD j 0)→(lvL (as.map DD.lst) : Int)≤argS s.r i (as.map fun a=>dot (fun j=>(a.map (szR S j d)).sum) (fun _=>1) c):=fun as=>by
    induction as with
    | nil=>intro i _ _; rw [List.map_nil,lv_nil]; exact Int.le_refl _
    | cons a r ih =>
     intro i ha hr
     have a1:=ih (i+1) (fun b hb=>ha b (List.mem_cons_of_mem _ hb)) fun j h1 h2=>hr j (by omega) (by rw [List.length_cons]; omega)
     have a2:=ha a List.mem_cons_self
     have a3:=hr i (Nat.le_refl _) (by rw [List.length_cons]; omega)
     rw [List.map_cons,List.map_cons,lv_cons,lv_lst]
     show _≤s.r.getD i 0 * _+argS s.r (i+1) _
     have hz:(0:Int)≤dot (fun j=>(a.map (szR S j d)).sum) (fun _=>1) c:=by omega
     have:=Int.mul_le_mul_of_nonneg_right a3 hz
     omega
   have:=q3 as 1 q fun j h1 h2=>h.pos s hs j h1 (by omega)
   omega
def stL' (f:Int→DD→List DD) : Int→List DD→List DD
 | _,[]=>[]
 | t,x :: r=>f t x++stL' f (t - (x.calls:Int)) r
def stA' (f:Int→DD→List DD) : Int→List (List DD)→List (List DD)
 | _,[]=>[]
 | t,a :: r=>stL' f t a :: stA' f (t - (callsL a:Int)) r
def stD (S:List Sh) : Nat→Int→DD→List DD
 | d+1,t,.tup [_,.str x,.lst as]=>if t=0 then (match shF S x with
   | none=>[]
   | some s=>fiL (as.map ddL) 12 s.ns) else [.tup [.str (PySem.Str.ofString "call"),.str x,.lst ((stA' (stD S d) (t - 1) (as.map ddL)).map DD.lst)]]
 | _,_,x=>[x]
def stL (S:List Sh) (d:Nat) (t:Int) (xs:List DD) : List DD:=stL' (stD S d) t xs
section
variable {S:List Sh} {d k:Nat} {t:Int} {w n:Wd0} {as:List (List DD)} {s:Sh}
theorem map_ddL (as:List (List DD)) : (as.map DD.lst).map ddL=as:=by
 rw [List.map_map]
 have:(ddL ∘ DD.lst)=(id:List DD→List DD):=rfl
 rw [this,List.map_id]
theorem st_wd:stD S (d+1) t (wdD w)=[wdD w]:=rfl
theorem st_pl:stD S (d+1) t (plD k)=[plD k]:=rfl
theorem st_cl0 (hF:shF S (tx n)=some s) : stD S (d+1) 0 (clD n as)=fiL as 12 s.ns:=by
 show (if (0:Int)=0 then (match shF S (tx n) with | none=>[] | some s=>fiL ((as.map DD.lst).map ddL) 12 s.ns) else _)=_
 rw [if_pos rfl,hF,map_ddL]
theorem st_cl1 (ht:t≠0) : stD S (d+1) t (clD n as)=[clD n (stA' (stD S d) (t - 1) as)]:=by
 show (if t=0 then _ else [DD.tup [.str (PySem.Str.ofString "call"),.str (tx n),.lst ((stA' (stD S d) (t - 1) ((as.map DD.lst).map ddL)).map DD.lst)]])=_
 rw [if_neg ht,map_ddL]
 rfl
theorem stA_len (f:Int→DD→List DD) : ∀ (as:List (List DD)) (t:Int),(stA' f t as).length=as.length
 | [],_=>rfl
 | a :: r,t=>by
  show (stL' f t a :: stA' f (t - (callsL a:Int)) r).length=_
  rw [List.length_cons,List.length_cons,stA_len f r]
theorem stA_mem {f:Int→DD→List DD} : ∀ {as:List (List DD)} {t:Int} {b:List DD},b ∈ stA' f t as→∃ a ∈ as,∃ u,b=stL' f u a
 | a :: r,t,b,h=>by
  rcases List.mem_cons.mp (show b ∈ stL' f t a :: stA' f (t - (callsL a:Int)) r from h) with rfl | h
  ·exact ⟨a,List.mem_cons_self,t,rfl⟩
  ·obtain ⟨a',ha,u,e⟩:=stA_mem h
   exact ⟨a',List.mem_cons_of_mem _ ha,u,e⟩
theorem stL_mem {f:Int→DD→List DD} : ∀ {l:List DD} {t:Int} {z:DD},z ∈ stL' f t l→∃ x ∈ l,∃ u,z ∈ f u x
 | x :: r,t,z,h=>by
  rcases List.mem_append.mp (show z ∈ f t x++stL' f (t - (x.calls:Int)) r from h) with h | h
  ·exact ⟨x,List.mem_cons_self,t,h⟩
  ·obtain ⟨y,hy,u,e⟩:=stL_mem h
   exact ⟨y,List.mem_cons_of_mem _ hy,u,e⟩
end
section
variable {S:List Sh} (h:ShX S)
include h
theorem body48 {s:Sh} (hs:s ∈ S) : ∀ y ∈ s.ns,En S 48 s.c y∧Ns (menuS S) s.c 12 y:=fun y hy=>by
 obtain ⟨j,hj⟩:=List.getElem?_of_mem hs
 have hl:=(List.getElem?_eq_some_iff.mp hj).1
 have:=h.len
 exact ⟨(en_of h j 12 s.c y (h.ord j s hj y hy)).up (by omega),(h.ord j s hj y hy).ns.up menuS_take (Nat.le_refl _)⟩
theorem st_ns {c:Nat} : ∀ {d:Nat} {x:DD},Ns (menuS S) c d x→∀ t,∀ z ∈ stD S d t x,Ns (menuS S) c (d+12) z
 | d+1,x,hx=>by
  intro t z hz
  rcases hx.out with ⟨w,rfl⟩ | ⟨k,h1,h2,rfl⟩ | ⟨nm,as,rfl,h1,h2⟩
  ·rw [st_wd] at hz
   rw [List.mem_singleton.mp hz]
   exact hx.up (fun _ h=>h) (by omega)
  ·rw [st_pl] at hz
   rw [List.mem_singleton.mp hz]
   exact hx.up (fun _ h=>h) (by omega)
  ·obtain ⟨j,s,_,_,hs,e1,e2,hF⟩:=call_of (i:=S.length) h.nd (by rw [List.take_of_length_le (Nat.le_refl _)]; exact h1)
   by_cases ht:t=0
   ·subst ht
    rw [st_cl0 hF] at hz
    obtain ⟨y,hy,hz⟩:=fiL_mem hz
    exact (fi_ns (fun _ h=>h) h2 (body48 h hs y hy).2 z hz).up (fun _ h=>h) (by omega)
   ·rw [st_cl1 ht] at hz
    rw [List.mem_singleton.mp hz,show d+1+12=(d+12)+1 by omega]
    refine .inr (.inr ⟨nm,_,rfl,by rw [stA_len]; exact h1,fun b hb u hu=>?_⟩)
    obtain ⟨a,ha,v,rfl⟩:=stA_mem hb
    obtain ⟨y,hy,v2,hu⟩:=stL_mem hu
    exact st_ns (h2 a ha y hy) v2 u hu
end
theorem calls_snoc {xs:List DD} {i:Nat} {x:DD} (h:xs[i]? = some x) : callsL (xs.take (i+1))=callsL (xs.take i)+x.calls:=by
 rw [List.take_add_one,h,calls_app]
 show _+callsL [x]=_
 rw [calls_one]
theorem stL_snoc {S:List Sh} {d:Nat} : ∀ {xs:List DD} {i:Nat} {x:DD} {t:Int},xs[i]? = some x→stL S d t (xs.take (i+1))=stL S d t (xs.take i)++stD S d (t - (callsL (xs.take i) : Int)) x
 | y :: r,0,x,t,e=>by
  have e:y=x:=Option.some.inj e
  subst e
  show stD S d t y++stL' (stD S d) (t - (y.calls:Int)) []=[]++stD S d (t - (callsL [] : Int)) y
  rw [calls_nil]
  show stD S d t y++[]=stD S d (t - ((0:Nat) : Int)) y
  rw [List.append_nil]
  congr 1
  omega
 | y :: r,i+1,x,t,e=>by
  have e:r[i]? = some x:=by simpa using e
  show stD S d t y++stL S d (t - (y.calls:Int)) (r.take (i+1))=(stD S d t y++stL S d (t - (y.calls:Int)) (r.take i))++stD S d (t - (callsL (y :: r.take i) : Int)) x
  rw [stL_snoc e,List.append_assoc,calls_cons]
  congr 2
  congr 1
  omega
theorem stA_snoc {S:List Sh} {d:Nat} : ∀ {as:List (List DD)} {i:Nat} {a:List DD} {t:Int},as[i]? = some a→stA' (stD S d) t (as.take (i+1))=stA' (stD S d) t (as.take i)++[stL S d (t - (callsL ((as.take i).map DD.lst) : Int)) a]
 | b :: r,0,a,t,e=>by
  have e:b=a:=Option.some.inj e
  subst e
  show [stL' (stD S d) t b]=[]++[stL S d (t - (callsL [] : Int)) b]
  rw [calls_nil]
  show [stL S d t b]=[stL S d (t - ((0:Nat) : Int)) b]
  congr 2
  omega
 | b :: r,i+1,a,t,e=>by
  have e:r[i]? = some a:=by simpa using e
  show stL' (stD S d) t b :: stA' (stD S d) (t - (callsL b:Int)) (r.take (i+1))=(stL' (stD S d) t b :: stA' (stD S d) (t - (callsL b:Int)) (r.take i))++[stL S d (t - (callsL (DD.lst b :: (r.take i).map DD.lst) : Int)) a]
  rw [stA_snoc e,calls_cons,calls_lst]
  show _ :: (_++[stL S d _ a])=_ :: (_++[stL S d _ a])
  congr 4
  omega
theorem callsA_snoc {as:List (List DD)} {i:Nat} {a:List DD} (h:as[i]? = some a) : callsL ((as.take (i+1)).map DD.lst)=callsL ((as.take i).map DD.lst)+callsL a:=by
 rw [List.take_add_one,h,List.map_append,calls_app]
 show _+callsL [DD.lst a]=_
 rw [calls_one,calls_lst]
theorem callsA_sum:∀ as:List (List DD),((as.map fun a=>(callsL a:Int)).sum:Int)=(callsL (as.map DD.lst) : Int)
 | []=>by rw [List.map_nil,List.map_nil,calls_nil]; rfl
 | a :: r=>by
  rw [List.map_cons,List.sum_cons,callsA_sum r,List.map_cons,calls_cons,calls_lst]
  omega
theorem fiL_take {A:List (List DD)} {d:Nat} (xs:List DD) (k:Nat) : (fiL A d (xs.take k)).length≤(fiL A d xs).length:=by
 conv=>rhs; rw [← List.take_append_drop k xs]
 unfold fiL
 rw [List.map_append,List.flatten_append,List.length_append]
 omega
theorem fiL_of {A:List (List DD)} {d:Nat} {xs:List DD} {x z:DD} (hx:x ∈ xs) (hz:z ∈ fiD A d x) : z ∈ fiL A d xs:=List.mem_flatten.mpr ⟨_,List.mem_map.mpr ⟨x,hx,rfl⟩,hz⟩
theorem stL_take {S:List Sh} {d:Nat} : ∀ (xs:List DD) (t:Int) (k:Nat),(stL S d t (xs.take k)).length≤(stL S d t xs).length∧∀ z ∈ stL S d t (xs.take k),z ∈ stL S d t xs
 | [],t,k=>by rw [List.take_nil]; exact ⟨Nat.le_refl _,fun z h=>h⟩
 | x :: r,t,0=>⟨Nat.zero_le _,fun z h=>(by cases h)⟩
 | x :: r,t,k+1=>by
  have q:=stL_take (S:=S) (d:=d) r (t - (x.calls:Int)) k
  show (stD S d t x++stL S d (t - (x.calls:Int)) (r.take k)).length≤(stD S d t x++stL S d (t - (x.calls:Int)) r).length∧∀ z ∈ stD S d t x++stL S d (t - (x.calls:Int)) (r.take k),z ∈ stD S d t x++stL S d (t - (x.calls:Int)) r
  refine ⟨by rw [List.length_append,List.length_append]; omega,fun z hz=>?_⟩
  rcases List.mem_append.mp hz with hz | hz
  ·exact List.mem_append.mpr (.inl hz)
  ·exact List.mem_append.mpr (.inr (q.2 z hz))
theorem cl_nd {M:List (Wd0 × Nat)} {c D:Nat} {n:Wd0} {bs:List (List DD)} (h:Nd M c D (clD n bs)) : ∀ b ∈ bs,b.length≤300000+D∧∀ y ∈ b,Nd M c (D - 1) y:=by
 obtain ⟨e,rfl⟩:=h.pos
 rcases h.out with ⟨w,e⟩ | ⟨k,_,_,e⟩ | ⟨n',bs',e,_,h'⟩
 ·exact absurd (congrArg (fun z=>match z with | DD.tup l=>l.length | _=>0) e) (by simp [clD,wdD])
 ·exact absurd (congrArg (fun z=>match z with | DD.tup l=>l.length | _=>0) e) (by simp [clD,plD])
 ·obtain ⟨_,e2⟩:=cl_inj e
  subst e2
  exact fun b hb=>⟨by have:=(h' b hb).1; omega,(h' b hb).2⟩
theorem stA_take {f:Int→DD→List DD} : ∀ (as:List (List DD)) (t:Int) (k:Nat),∀ b ∈ stA' f t (as.take k),b ∈ stA' f t as
 | [],t,k=>by rw [List.take_nil]; exact fun b h=>h
 | a :: r,t,0=>fun b h=>(by cases h)
 | a :: r,t,k+1=>fun b hb=>by
  rcases List.mem_cons.mp (show b ∈ stL' f t a :: stA' f (t - (callsL a:Int)) (r.take k) from hb) with rfl | hb
  ·exact List.mem_cons_self
  ·exact List.mem_cons_of_mem _ (stA_take r _ k b hb)
theorem cutV_to {vs:List V} {k:Nat} (h:k≤vs.length) : cutV vs none (some (k:Int))=vs.take k:=by
 unfold cutV
 rw [HT.sIx_none,HT.sIx_nat,Nat.min_eq_left h,List.drop_zero,Nat.sub_zero]
theorem cutV_from {vs:List V} {k:Nat} (h:k≤vs.length) : cutV vs (some (k:Int)) none=vs.drop k:=by
 unfold cutV
 rw [HT.sIx_none,HT.sIx_nat,Nat.min_eq_left h,List.take_of_length_le (by rw [List.length_drop]; exact Nat.le_refl _)]
theorem hu190 {A:Around} {k:Nat} (hr:Room k A) : A.units+190 < cLine:=by have:=hr.un; omega
def rNeF (K:PySem.W.Frag) : R2:=fun x y H Q=>∃ n a b xs ys,n≤180∧x = .ref a∧y = .ref b∧SqL K H a xs∧SqL K H b ys∧xs.length=ys.length∧(∀ (i:Nat) x y,xs[i]? = some x→ys[i]? = some y→Dq K H n x y)∧Q (.bl false) H
theorem op_neF {X:Cx} (hu:X.A.units+190 < cLine) : OpR X (compareOp .NotEq) (rNeF X.K):=by
 intro pins s σ H x y v u Q I rx ry h
 obtain ⟨n,a,b,xs,ys,hn,rfl,rfl,ha,hb,hl,hd,q⟩:=h
 cases rx
 cases ry
 have hrec:=fun i x y (e1:xs[i]? = some x) (e2:ys[i]? = some y) u v (ru:RelV x u) (rv:RelV y v)=>deep_eq I n X.A.in1 x y u v (hd i x y e1 e2) ru rv (by show X.A.units+1+n < cLine; omega)
 obtain ⟨its,r,p,z⟩:=I.list ha
 obtain ⟨its2,r2,p2,z2⟩:=I.list hb
 have l1:=r.length
 have l2:=r2.length
 refine SeqAt.RcNeAt.lists (e:=fun _=>true) p.isList p2.isList (by simp; omega) (by omega) (fun j h1 h2=>items_deep (X:=X) (pins:=pins) (σ:=σ) (H:=H) (n:=n) r r2 hrec j h1 h2) _ _ _ _ ⟨.bl _,H,I,rfl,?_⟩
 rw [all_true]
 exact q
theorem Cat.app {α:Type} {R:α→V→List Addr→Prop} : ∀ {xs ys:List α} {vs ws:List V} {l m:List Addr},Cat R xs vs l→Cat R ys ws m→Cat R (xs++ys) (vs++ws) (l++m)
 | [],ys,vs,ws,l,m,h,h2=>by
  obtain ⟨rfl,rfl⟩:=h
  exact h2
 | x :: xs,ys,vs,ws,l,m,h,h2=>by
  obtain ⟨v,vr,a,b,rfl,rfl,h1,h3⟩:=h
  exact ⟨v,vr++ws,a,b++m,rfl,List.append_assoc _ _ _,h1,Cat.app h3 h2⟩
theorem ApN.up {K:PySem.W.Frag} {H:Hp} : ∀ {d d':Nat} {x:DD} {v:V} {l:List Addr},d≤d'→ApN K H d x v l→ApN K H d' x v l
 | d+1,d',x,v,l,hd,h=>by
  obtain ⟨d',rfl⟩ : ∃ e,d' = e+1:=⟨d' - 1,by omega⟩
  rcases h.out with ⟨h1,h2,h3⟩ | ⟨n,as,t,b,ys,l',h1,h2,h3,h4,h5,h6,h7⟩
  ·exact .inl ⟨h1,h2,h3⟩
  ·exact .inr ⟨n,as,t,b,ys,l',h1,h2,h3,h4,h5,h6,h7.imp fun a _ y l z=>z.mono (Same.refl _) fun x _ v l z=>ApN.up (by omega) z⟩
theorem NewL.tail {H H':Hp} {p:Addr} {l:List Addr} (h:NewL H H' (p :: l)) : NewL H H' l:=⟨(List.nodup_cons.mp h.nd).2,fun b hb=>h.new b (List.mem_cons_of_mem _ hb),fun b hb=>h.at' b (List.mem_cons_of_mem _ hb)⟩
section
variable {K:PySem.W.Frag} {B H G G2 G4:Hp} {pt:Addr}
theorem NewL.opn {x o:HO} {l l4:List Addr} (nw:NewL H (erL G [pt]) l) (s1:Same H G) (hpt:H pt=none) (kt:G pt=some x) (n4:NewL G G4 l4) (s4:Same G G4) : NewL H (erL (upd G4 pt o) [pt]) (l++l4):=by
 have ke:∀ b q,b≠pt→G4 b=some q→(upd G4 pt o) b=some q:=fun b q nb hb=>by rw [upd_ne nb]; exact hb
 refine nw.app (fun b o hb=>erL_get (by simpa using ne_of_none hb hpt) (s1 b o hb)) (erL_step (fun b q nb hb=>ke b q (by simpa using nb) (s4 _ _ hb)) fun b hb=>.inl hb) ⟨n4.nd,fun b hb=>?_,fun b hb=>?_⟩
 ·unfold erL
  split
  ·rfl
  ·exact n4.new b hb
 ·obtain ⟨o',h1,h2⟩:=n4.at' b hb
  have nb:b≠pt:=Ne.symm (ne_of_none kt (n4.new b hb))
  exact ⟨o',erL_get (by simpa using nb) (ke b _ nb h1),h2⟩
theorem NewL.fin {l:List Addr} {vs:List V} (nw:NewL H (erL G [pt]) l) (hpt:H pt=none) (kt:G pt=some (.lst vs)) (hl:vs.length≤400000) : NewL H G (pt :: l):=by
 refine ⟨List.nodup_cons.mpr ⟨fun z=>?_,nw.nd⟩,fun b hb=>?_,fun b hb=>?_⟩
 ·obtain ⟨o,h1,_⟩:=nw.at' pt z
  exact (erL_of h1).1 (by simp)
 ·rcases List.mem_cons.mp hb with rfl | hb
  ·exact hpt
  ·exact nw.new b hb
 ·rcases List.mem_cons.mp hb with rfl | hb
  ·exact ⟨_,kt,hl⟩
  ·obtain ⟨o,h1,h2⟩:=nw.at' b hb
   exact ⟨o,(erL_of h1).2,h2⟩
def AL (K:PySem.W.Frag) (B H G:Hp) (pt:Addr) (D:Nat) (xs:List DD) (vs:List V) : Prop:=∃ l,Cat (ApN K (mxE B H G [pt]) D) xs vs l∧NewL H (erL G [pt]) l
def AF (K:PySem.W.Frag) (B H G:Hp) (p:Addr) (D:Nat) (xs:List DD) (vs:List V) : Prop:=∃ l,Cat (ApN K (mxE B H G []) D) xs vs l∧NewL H G (p :: l)
def AC (K:PySem.W.Frag) (B H G:Hp) (D:Nat) (bs:List (List DD)) (vs:List V) : Prop:=∃ l,Cat (ApG (mxE B H G []) (ApN K (mxE B H G []) D)) bs vs l∧NewL H G l
def AM (K:PySem.W.Frag) (B H G:Hp) (pt:Addr) (D:Nat) (bs:List (List DD)) (vs:List V) : Prop:=∃ l,Cat (ApG (mxE B H G [pt]) (ApN K (mxE B H G [pt]) D)) bs vs l∧NewL H (erL G [pt]) l
def AG (K:PySem.W.Frag) (B H G:Hp) (p:Addr) (D:Nat) (bs:List (List DD)) (vs:List V) : Prop:=∃ l,Cat (ApG (mxE B H G []) (ApN K (mxE B H G []) D)) bs vs l∧NewL H G (p :: l)
variable {D:Nat} {xs:List DD} {bs:List (List DD)} {vs:List V}
theorem AL.nil:AL K B H G pt D [] []:=⟨[],Cat.nil,NewL.nil⟩
theorem AL.len (h:AL K B H G pt D xs vs) : vs.length=xs.length:=by obtain ⟨l,h1,_⟩:=h; exact h1.len
theorem AF.len {p:Addr} (h:AF K B H G p D xs vs) : vs.length=xs.length:=by obtain ⟨l,h1,_⟩:=h; exact h1.len
theorem AM.len (h:AM K B H G pt D bs vs) : vs.length=bs.length:=by obtain ⟨l,h1,_⟩:=h; exact h1.len
theorem AC.len (h:AC K B H G D bs vs) : vs.length=bs.length:=by obtain ⟨l,h1,_⟩:=h; exact h1.len
theorem ap_mono {G G':Hp} (u:Same G G') {l:List Addr} (h:Cat (ApG G (ApN K G D)) bs vs l) : Cat (ApG G' (ApN K G' D)) bs vs l:=h.imp fun a _ y l z=>z.mono u fun x _ v l z=>z.mono u
theorem AL.keep (sB:Same B H) (h:AL K B H G pt D xs vs) (u:Same G G2) : AL K B H G2 pt D xs vs:=by
 obtain ⟨l,h1,h2⟩:=h
 exact ⟨l,h1.mono (mxE_step sB fun b o _ hb=>u _ _ hb),h2.up (erL_step (fun b o _ hb=>u _ _ hb) fun b hb=>.inl hb)⟩
theorem AM.keep (sB:Same B H) (h:AM K B H G pt D bs vs) (u:Same G G2) : AM K B H G2 pt D bs vs:=by
 obtain ⟨l,h1,h2⟩:=h
 exact ⟨l,ap_mono (mxE_step sB fun b o _ hb=>u _ _ hb) h1,h2.up (erL_step (fun b o _ hb=>u _ _ hb) fun b hb=>.inl hb)⟩
theorem AL.leaf {o:HO} {x:DD} {v:V} (h:AL K B H G pt D xs vs) (sB:Same B H) (hpt:H pt=none) (hD:1≤D) (r:Rep K B x v) (hx:(∃ w,x=wdD w)∨∃ k,x=plD k) : AL K B H (upd G pt o) pt D (xs++[x]) (vs++[v]):=by
 obtain ⟨l,h1,h2⟩:=h
 obtain ⟨D,rfl⟩ : ∃ e,D=e+1:=⟨D - 1,by omega⟩
 have bpt:∀ b ∈ [pt],B b=none:=fun b hb=>by
  rw [List.mem_singleton.mp hb]
  exact sB.free hpt
 have ke:∀ b q,b≠pt→G b=some q→(upd G pt o) b=some q:=fun b q nb hb=>by rw [upd_ne nb]; exact hb
 refine ⟨l,?_,h2.up (erL_step (fun b q nb hb=>ke b q (by simpa using nb) hb) fun b hb=>.inl hb)⟩
 have:=(h1.mono (mxE_step sB fun b q nb hb=>ke b q (by simpa using nb) hb)).snoc (x:=x) (v:=v) (l1:=[]) (.inl ⟨r.mono (mxE_base sB bpt),rfl,hx⟩)
 rwa [List.append_nil] at this
theorem AL.ext {o z:HO} {p:Addr} {e:Nat} {ys:List DD} {ws:List V} (h:AL K B H G pt D xs vs) (sB:Same B H) (s1:Same H G) (hpt:H pt=none) (kt:G pt=some z) (s5:Same G G4) (he:e≤D) (f:AF K B G G4 p e ys ws) : AL K B H (upd G4 pt o) pt D (xs++ys) (vs++ws):=by
 obtain ⟨l,h1,h2⟩:=h
 obtain ⟨m,f1,f2⟩:=f
 have ke:∀ b q,b≠pt→G b=some q→(upd G4 pt o) b=some q:=fun b q nb hb=>by rw [upd_ne nb]; exact s5 _ _ hb
 refine ⟨l++m,(h1.mono (mxE_step sB fun b q nb hb=>ke b q (by simpa using nb) hb)).app ?_,h2.opn s1 hpt kt f2.tail s5⟩
 exact (f1.mono (mxE_in sB s1 hpt kt fun b o nb hb=>by rw [upd_ne nb]; exact hb)).imp fun x _ v l z=>z.up he
theorem AL.call {o z:HO} {p pb:Addr} {nm:Wd0} {zs:List V} (h:AL K B H G pt (D+1) xs vs) (sB:Same B H) (s1:Same H G) (hpt:H pt=none) (kt:G pt=some z) (s5:Same G G4) (f:AG K B G G4 pb D bs zs) (hb:G4 pb=some (.lst zs)) (fp:G p=none) (hp:G4 p=some (.tup [V.str (PySem.Str.ofString "call"),V.str (tx nm),V.ref pb])) (h10:bs.length≤10) : AL K B H (upd G4 pt o) pt (D+1) (xs++[clD nm bs]) (vs++[V.ref p]):=by
 obtain ⟨l,h1,h2⟩:=h
 obtain ⟨m,f1,f2⟩:=f
 have fb:=f2.new pb List.mem_cons_self
 have npb:pb≠pt:=Ne.symm (ne_of_none kt fb)
 have np:p≠pt:=Ne.symm (ne_of_none kt fp)
 have ke:∀ b q,b≠pt→G b=some q→(upd G4 pt o) b=some q:=fun b q nb hb=>by rw [upd_ne nb]; exact s5 _ _ hb
 refine ⟨l++(pb :: m),(h1.mono (mxE_step sB fun b q nb hb=>ke b q (by simpa using nb) hb)).snoc (.inr ⟨nm,bs,p,pb,zs,m,rfl,rfl,mxE_new (s1.free fp) (by simpa using np) (by rw [upd_ne np]; exact hp),mxE_new (s1.free fb) (by simpa using npb) (by rw [upd_ne npb]; exact hb),rfl,h10,ap_mono (mxE_in sB s1 hpt kt fun b o nb hb=>by rw [upd_ne nb]; exact hb) f1⟩),h2.opn s1 hpt kt f2 s5⟩
theorem AL.fin (h:AL K B H G pt D xs vs) (sB:Same B H) (hpt:H pt=none) (kt:G pt=some (.lst vs)) (hl:vs.length≤400000) : AF K B H G pt D xs vs:=by
 obtain ⟨l,h1,h2⟩:=h
 exact ⟨l,h1.mono (mxE_nil sB),h2.fin hpt kt hl⟩
theorem AG.up {p:Addr} (f:AG K B H G p D bs vs) (u:Same G G2) (sB:Same B H) : AG K B H G2 p D bs vs:=by
 obtain ⟨m,f1,f2⟩:=f
 exact ⟨m,ap_mono (mxE_step sB fun b o _ hb=>u _ _ hb) f1,f2.up u⟩
theorem AM.nil:AM K B H G pt D [] []:=⟨[],Cat.nil,NewL.nil⟩
theorem AM.snoc {o z:HO} {p:Addr} {b:List DD} {ws:List V} (h:AM K B H G pt D bs vs) (sB:Same B H) (s1:Same H G) (hpt:H pt=none) (kt:G pt=some z) (s5:Same G G4) (f:AF K B G G4 p D b ws) (hp:G4 p=some (.lst ws)) (hb:b.length≤400000) : AM K B H (upd G4 pt o) pt D (bs++[b]) (vs++[V.ref p]):=by
 obtain ⟨l,h1,h2⟩:=h
 obtain ⟨m,f1,f2⟩:=f
 have fp:=f2.new p List.mem_cons_self
 have np:p≠pt:=Ne.symm (ne_of_none kt fp)
 have ke:∀ b q,b≠pt→G b=some q→(upd G4 pt o) b=some q:=fun b q nb hb=>by rw [upd_ne nb]; exact s5 _ _ hb
 refine ⟨l++(p :: m),(ap_mono (mxE_step sB fun b q nb hb=>ke b q (by simpa using nb) hb) h1).snoc ⟨p,ws,m,rfl,mxE_new (s1.free fp) (by simpa using np) (by rw [upd_ne np]; exact hp),rfl,hb,f1.mono (mxE_in sB s1 hpt kt fun b o nb hb=>by rw [upd_ne nb]; exact hb)⟩,h2.opn s1 hpt kt f2 s5⟩
theorem AM.fin (h:AM K B H G pt D bs vs) (sB:Same B H) (hpt:H pt=none) (kt:G pt=some (.lst vs)) (hl:vs.length≤400000) : AG K B H G pt D bs vs:=by
 obtain ⟨l,h1,h2⟩:=h
 exact ⟨l,ap_mono (mxE_nil sB) h1,h2.fin hpt kt hl⟩
theorem AC.nil:AC K B H G D [] []:=⟨[],Cat.nil,NewL.nil⟩
theorem AC.snoc {p:Addr} {b:List DD} {ws:List V} (h:AC K B H G D bs vs) (sB:Same B H) (s2:Same H G) (s5:Same G G4) (f:AF K B G G4 p D b ws) (hp:G4 p=some (.lst ws)) (hb:b.length≤400000) : AC K B H G4 D (bs++[b]) (vs++[V.ref p]):=by
 obtain ⟨l,h1,h2⟩:=h
 obtain ⟨m,f1,f2⟩:=f
 have fp:=f2.new p List.mem_cons_self
 have u2:Same (mxE B G G4 []) (mxE B H G4 []):=fun b o hb=>by
  obtain ⟨_,h2 | h2⟩:=mxE_of hb
  ·exact mxE_new (s2.free h2.1) (by simp) h2.2
  ·exact mxE_old sB (by simp) h2
 exact ⟨l++(p :: m),(ap_mono (mxE_step sB fun b q _ hb=>s5 _ _ hb) h1).snoc ⟨p,ws,m,rfl,mxE_new (s2.free fp) (by simp) hp,rfl,hb,f1.mono u2⟩,h2.app s2 s5 f2⟩
theorem AC.shut {p:Addr} (h:AC K B H G D bs vs) (sB:Same B H) (s2:Same H G) (hp:G p=none) (hl:vs.length≤400000) : AG K B H (upd G p (.lst vs)) p D bs vs:=by
 obtain ⟨l,h1,h2⟩:=h
 have g:=same_new hp (.lst vs)
 exact ⟨l,ap_mono (mxE_step sB fun b q _ hb=>g _ _ hb) h1,h2.one s2 g hp upd_same hl⟩
end
end L2

namespace K15
open PySem PySem.Spec L2 Tl

def isL (c:Nat) : Bool:=decide (97≤c∧c≤122)
def isF (c:Nat) : Bool:=decide (48≤c∧c≤57)
def LL:List Nat:=[97,98,99,100,101,102,103,104,105,106,107,108,109,110,111,112,113,114,115,116,117,118,119,120,121,122]
def FF:List Nat:=[48,49,50,51,52,53,54,55,56,57]
def isName:List Nat→Bool
 | []=>false
 | c :: r=>decide ((c :: r).length≤12) && (isL c && (c :: r).all fun d=>isL d || isF d)
theorem name_short {c:Nat} {r:List Nat} (h:(c :: r).length≤12) : isName (c :: r)=(isL c && (c :: r).all fun d=>isL d || isF d):=by
 show (decide _ && _)=_
 rw [decide_eq_true h,Bool.true_and]
theorem ce:(PySem.Str.ofString "")=tx []:=by decide +kernel
theorem name_len {l:List Nat} (h:isName l=true) : l.length≤12∧l≠[]∧∀ c ∈ l,c < 127:=by
 cases l with
 | nil=>cases h
 | cons c r =>
  unfold isName at h
  rw [Bool.and_eq_true,Bool.and_eq_true] at h
  refine ⟨of_decide_eq_true h.1,by simp,fun d hd=>?_⟩
  have:=List.all_eq_true.mp h.2.2 d hd
  rcases Bool.or_eq_true_iff.mp this with q | q
  ·unfold isL at q
   have:=of_decide_eq_true q
   omega
  ·unfold isF at q
   have:=of_decide_eq_true q
   omega

def opn:List Nat→Bool
 | c :: r=>decide (c=91) && isName r
 | []=>false
section
variable {cn:Option Nat} {w:List Nat} {t:List (List Nat)} {m:Nat}
end
structure WOk (w:List Nat) : Prop where
 ne:w≠[]
 len:w.length≤40
 lt:∀ c ∈ w,c < 127
theorem c91:(PySem.Str.ofString "[")=tx [91]:=by decide +kernel
theorem c36:(PySem.Str.ofString "$")=tx [36]:=by decide +kernel
theorem cBar:(PySem.Str.ofString "|")=tx barW:=by decide +kernel
theorem cEnd:(PySem.Str.ofString "]")=tx endW:=by decide +kernel
section
variable {cn:Option Nat} {s:List (Wd0 × List DD × List DD)} {f:Wd0 × List DD × List DD} {cur:List DD} {w n:Wd0}
end
def unT (s:Str) : List Nat:=s.cps.toList
theorem unT_tx (w:Wd0) : unT (tx w)=w:=by simp [unT,tx]
def wtD:Nat→DD→List Wd0
 | _+1,.tup [_,.str s]=>[unT s]
 | _+1,.tup [_,.int k]=>[placeW k.toNat]
 | d+1,.tup [_,.str n,.lst as]=>(91 :: unT n) :: (barJoin (as.map fun a=>((ddL a).map (wtD d)).flatten)++[endW])
 | _,_=>[]
def wtL (d:Nat) (xs:List DD) : List Wd0:=(xs.map (wtD d)).flatten
theorem wt_wd {d:Nat} {w:Wd0} : wtD (d+1) (wdD w)=[w]:=by show [unT (tx w)]=[w]; rw [unT_tx]
theorem wt_pl {d k:Nat} : wtD (d+1) (plD k)=[placeW k]:=rfl
theorem wt_cl {d:Nat} {n:Wd0} {as:List (List DD)} : wtD (d+1) (clD n as)=(91 :: n) :: (barJoin (as.map (wtL d))++[endW]):=by
 show (91 :: unT (tx n)) :: (barJoin ((as.map DD.lst).map fun a=>((ddL a).map (wtD d)).flatten)++[endW])=_
 rw [unT_tx,ddL_map fun a=>(a.map (wtD d)).flatten]
 rfl
theorem wtL_cons {d:Nat} {x:DD} {xs:List DD} : wtL d (x :: xs)=wtD d x++wtL d xs:=rfl
theorem wtL_snoc {d:Nat} {xs:List DD} {i:Nat} {x:DD} (h:xs[i]? = some x) : wtL d (xs.take (i+1))=wtL d (xs.take i)++wtD d x:=by
 unfold wtL
 rw [List.take_add_one,h,List.map_append,List.flatten_append]
 simp
theorem wtL_app {d:Nat} (xs ys:List DD) : wtL d (xs++ys)=wtL d xs++wtL d ys:=by
 unfold wtL
 rw [List.map_append,List.flatten_append]
def Wf (P:Wd0→Prop) : Nat→DD→Prop
 | 0,_=>False
 | d+1,x=>(∃ w,P w∧x=wdD w)∨(∃ k,x=plD k)∨∃ n as,x=clD n as∧(∀ a,as=[a]→a≠[])∧∀ a ∈ as,∀ y ∈ a,Wf P d y
theorem Wf.out {P:Wd0→Prop} {d:Nat} {x:DD} (h:Wf P (d+1) x) : (∃ w,P w∧x=wdD w)∨(∃ k,x=plD k)∨∃ n as,x=clD n as∧(∀ a,as=[a]→a≠[])∧∀ a ∈ as,∀ y ∈ a,Wf P d y:=h
theorem Wf.up {P P':Wd0→Prop} (hP:∀ w,P w→P' w) : ∀ {d d':Nat} {x:DD},d≤d'→Wf P d x→Wf P' d' x
 | d+1,d',x,hd,h=>by
  obtain ⟨e,rfl⟩ : ∃ e,d' = e+1:=⟨d' - 1,by omega⟩
  rcases h.out with ⟨w,h1,rfl⟩ | ⟨k,rfl⟩ | ⟨n,as,rfl,h1,h2⟩
  ·exact .inl ⟨w,hP w h1,rfl⟩
  ·exact .inr (.inl ⟨k,rfl⟩)
  ·exact .inr (.inr ⟨n,as,rfl,h1,fun a ha y hy=>Wf.up hP (by omega) (h2 a ha y hy)⟩)
theorem clD_inj {n n':Wd0} {as as':List (List DD)} (e:clD n as=clD n' as') : as=as':=by
 unfold clD at e
 injection e with e
 injection e with _ e
 injection e with _ e
 injection e with e _
 injection e with e
 have e:=congrArg (fun z=>z.map ddL) e
 simp only [List.map_map] at e
 have q:∀ l:List (List DD),l.map (ddL ∘ DD.lst)=l:=fun l=>by
  have:(ddL ∘ DD.lst)=(id:List DD→List DD):=rfl
  rw [this,List.map_id]
 rw [q,q] at e
 exact e
theorem cl_ne_wd {n w:Wd0} {as:List (List DD)} : clD n as≠wdD w:=fun e=>absurd (congrArg (fun z=>match z with | DD.tup l=>l.length | _=>0) e) (by simp [clD,wdD])
theorem cl_ne_pl {n:Wd0} {k:Nat} {as:List (List DD)} : clD n as≠plD k:=fun e=>absurd (congrArg (fun z=>match z with | DD.tup l=>l.length | _=>0) e) (by simp [clD,plD])
theorem wd_ne_pl {w:Wd0} {k:Nat} : wdD w≠plD k:=fun e=>by
 unfold wdD plD at e
 injection e with e
 injection e with e _
 injection e with e
 exact absurd e (by decide +kernel)
theorem wd_inj {v w:Wd0} (e:wdD v=wdD w) : v=w:=by
 unfold wdD at e
 injection e with e
 injection e with _ e
 injection e with e _
 injection e with e
 exact tx_inj e
mutual
def muD:DD→Nat
 | .bl _=>0
 | .int _=>0
 | .str _=>0
 | .tup l=>1+muL l
 | .lst l=>1+muL l
def muL:List DD→Nat
 | []=>0
 | d :: l=>muD d+muL l
end
theorem muL_cons (a:DD) (l:List DD) : muL (a :: l)=muD a+muL l:=by rw [muL]
theorem muL_nil:muL []=0:=by rw [muL]
theorem muL_app:∀ (l l2:List DD),muL (l++l2)=muL l+muL l2
 | [],l2=>by rw [List.nil_append,muL_nil,Nat.zero_add]
 | d :: l,l2=>by rw [List.cons_append,muL_cons,muL_cons,muL_app l l2]; omega
theorem muL_one (d:DD) : muL [d]=muD d:=by rw [muL_cons,muL_nil]; omega
theorem mu_wd (w:Wd0) : muD (wdD w)=1:=by simp [wdD,muD,muL]
theorem mu_pl (k:Nat) : muD (plD k)=1:=by simp [plD,muD,muL]
theorem mu_cl (n:Wd0) (as:List (List DD)) : muD (clD n as)=2+muL (as.map DD.lst):=by simp [clD,muD,muL]; omega
theorem mu_lst (l:List DD) : muD (DD.lst l)=1+muL l:=by rw [muD]
theorem bj_len:∀ ls:List (List Wd0),(barJoin ls).length≤(ls.map fun l=>1+l.length).sum
 | []=>Nat.le_refl _
 | [l]=>by show l.length≤1+l.length+0; omega
 | l :: b :: r=>by
  have:=bj_len (b :: r)
  show (l++barW :: barJoin (b :: r)).length≤1+l.length+((b :: r).map fun l=>1+l.length).sum
  rw [List.length_append,List.length_cons]
  omega
theorem wt_len {M:List (Wd0 × Nat)} {c:Nat} : ∀ {d:Nat} {x:DD},Nd M c d x→(wtD d x).length≤muD x
 | d+1,x,hx=>by
  rcases hx.out with ⟨w,rfl⟩ | ⟨k,h1,h2,rfl⟩ | ⟨n,as,rfl,h1,h2⟩
  ·rw [wt_wd,mu_wd]; exact Nat.le_refl _
  ·rw [wt_pl,mu_pl]; exact Nat.le_refl _
  ·rw [wt_cl,mu_cl,List.length_cons,List.length_append,List.length_singleton]
   have q1:∀ l:List DD,(∀ y ∈ l,Nd M c d y)→(wtL d l).length≤muL l:=fun l=>by
    induction l with
    | nil=>intro _; exact Nat.zero_le _
    | cons y r ih =>
     intro hy
     have a1:=ih fun z hz=>hy z (List.mem_cons_of_mem _ hz)
     have a2:=wt_len (hy y List.mem_cons_self)
     rw [wtL_cons,List.length_append,muL_cons]
     omega
   have q2:∀ as:List (List DD),(∀ a ∈ as,∀ y ∈ a,Nd M c d y)→((as.map (wtL d)).map fun l=>1+l.length).sum≤muL (as.map DD.lst):=fun as=>by
    induction as with
    | nil=>intro _; exact Nat.zero_le _
    | cons a r ih =>
     intro hy
     have a1:=ih fun z hz=>hy z (List.mem_cons_of_mem _ hz)
     have a2:=q1 a (hy a List.mem_cons_self)
     rw [List.map_cons,List.map_cons,List.sum_cons,List.map_cons,muL_cons,mu_lst]
     omega
   have:=bj_len (as.map (wtL d))
   have:=q2 as fun a ha y hy=>(h2 a ha).2 y hy
   omega
theorem wtL_len {M:List (Wd0 × Nat)} {c d:Nat} : ∀ {l:List DD},(∀ y ∈ l,Nd M c d y)→(wtL d l).length≤muL l
 | [],_=>Nat.zero_le _
 | y :: r,hy=>by
  have a1:=wtL_len (l:=r) fun z hz=>hy z (List.mem_cons_of_mem _ hz)
  have a2:=wt_len (hy y List.mem_cons_self)
  rw [wtL_cons,List.length_append,muL_cons]
  omega
def tmu:List Gf→Nat
 | []=>0
 | [g]=>muL g.xs
 | g :: h :: r=>muL g.xs+muL (g.ds.map DD.lst)+(3+(g.m - g.ds.length))+tmu (h :: r)
def GfW (P:Wd0→Prop) : List Gf→Prop
 | []=>True
 | g :: r=>(∀ x ∈ g.xs,Wf P (12 - r.length) x)∧(∀ a ∈ g.ds,∀ y ∈ a,Wf P (12 - r.length) y)∧GfW P r
theorem tmu_push {g:Gf} {r:List Gf} {vs:List V} (x:DD) : tmu ({ g with vs:=vs,xs:=g.xs++[x] } :: r)=tmu (g :: r)+muD x:=by
 have e:muL (g.xs++[x])=muL g.xs+muD x:=by rw [muL_app,muL_one]
 cases r with
 | nil=>exact e
 | cons k r=>show muL (g.xs++[x])+muL (g.ds.map DD.lst)+(3+(g.m - g.ds.length))+tmu (k :: r)=muL g.xs+muL (g.ds.map DD.lst)+(3+(g.m - g.ds.length))+tmu (k :: r)+_; omega
def PlW (w:Wd0) : Prop:=WOk w∧∀ c ∈ w,c≠36∧c≠91∧c≠93∧c≠124
theorem cal_app {S T:List Sh} {c:Nat} : ∀ {d:Nat} {x:DD},(S.map Sh.n).Nodup→Nd (menuS S) c d x→szC (S++T) d x=szC S d x
 | d+1,x,nd,hx=>by
  rcases hx.out with ⟨w,rfl⟩ | ⟨k,h1,h2,rfl⟩ | ⟨nm,as,rfl,h1,h2⟩
  ·rw [sc_wd,sc_wd]
  ·rw [sc_pl,sc_pl]
  ·obtain ⟨s,hs,e⟩:=List.mem_map.mp h1
   obtain ⟨e1,e2⟩:=Prod.mk.inj e
   subst e1
   have hF:=shF_of nd hs
   rw [sc_cl (shF_app hF),sc_cl hF]
   have e:as.map (calL (S++T) d)=as.map (calL S d):=List.map_congr_left fun a ha=>congrArg List.sum (List.map_congr_left fun y hy=>cal_app nd ((h2 a ha).2 y hy))
   rw [e]
theorem calL_app {S T:List Sh} {c d:Nat} {xs:List DD} (nd:(S.map Sh.n).Nodup) (hx:∀ x ∈ xs,Nd (menuS S) c d x) : calL (S++T) d xs=calL S d xs:=by
 unfold calL
 exact congrArg List.sum (List.map_congr_left fun x hm=>cal_app nd (hx x hm))
def nm (ns:List (List Nat)) (i:Nat) : List Nat:=ns.getD i []

def al (b:Nat) : Nat:=(LL++FF).getD b 0
theorem at_both:∀ k:Nat,k < 36→atI (PySem.Str.ofString "abcdefghijklmnopqrstuvwxyz0123456789").cps.toList (k:Int)=some (al k):=by decide +kernel
theorem al_inj:∀ b:Nat,b < 36→∀ c:Nat,c < 36→al b=al c→b=c:=by decide +kernel
theorem al_let:∀ b:Nat,b < 26→isL (al b)=true:=by decide +kernel
theorem al_any:∀ b:Nat,b < 36→(isL (al b) || isF (al b))=true:=by decide +kernel
structure Ix (xs:List Nat) : Prop where
 ne:xs≠[]
 len:xs.length≤12
 fst:∀ b,xs.head? = some b→b < 26
 all:∀ b ∈ xs,b < 36
theorem Ix.name {xs:List Nat} (h:Ix xs) : isName (xs.map al)=true:=by
 cases xs with
 | nil=>exact absurd rfl h.ne
 | cons b r =>
  have hl:(al b :: r.map al).length≤12:=by have:=h.len; simp at this ⊢; omega
  show isName (al b :: r.map al)=true
  rw [name_short hl,al_let b (h.fst b rfl),Bool.true_and]
  refine List.all_eq_true.mpr fun d hd=>?_
  obtain ⟨b',hb',rfl⟩:=List.mem_map.mp (show d ∈ (b :: r).map al from hd)
  exact al_any b' (h.all b' hb')
theorem join_one:∀ cs:List Nat,joinL [] (cs.map fun c=>[c])=cs
 | []=>rfl
 | [c]=>rfl
 | c :: d :: r=>by
  show [c]++[]++joinL [] ((d :: r).map fun c=>[c])=_
  rw [join_one (d :: r)]
  rfl
theorem sum_one:∀ cs:List Nat,((cs.map fun c=>tx [c]).map (·.length)).sum=cs.length
 | []=>rfl
 | c :: r=>by
  rw [List.map_cons,List.map_cons,List.sum_cons,sum_one r,tx_len]
  simp only [List.length_cons,List.length_nil]
  omega
structure Names (ns:List (List Nat)) (m:Nat) : Prop where
 len:ns.length=m
 name:∀ i,i < m→isName (nm ns i)=true
 inj:∀ i j,i < m→j < m→nm ns i=nm ns j→i=j
def xsB (bs:List Nat) (size at' j:Nat) : List Nat:=(List.range size).map fun k=>(bs.getD k 0+(if k=at' then j else 0)) % (if 0 < k then 36 else 26)
theorem md (x k:Nat) : x % (if 0 < k then 36 else 26) < 36:=by
 by_cases h:0 < k
 ·rw [if_pos h]; omega
 ·rw [if_neg h]; omega
theorem xsB_get (bs:List Nat) (size at' j k:Nat) (h:k < size) : (xsB bs size at' j)[k]? = some ((bs.getD k 0+(if k=at' then j else 0)) % (if 0 < k then 36 else 26)):=by
 unfold xsB
 rw [List.getElem?_map,List.getElem?_range h]
 rfl
theorem xsB_ix {bs:List Nat} {size at' j:Nat} (h1:1≤size) (h2:size≤12) : Ix (xsB bs size at' j):=by
 have hl:(xsB bs size at' j).length=size:=by unfold xsB; simp
 refine ⟨fun e=>by rw [e] at hl; simp at hl; omega,by omega,fun b hb=>?_,fun b hb=>?_⟩
 ·have e:(xsB bs size at' j)[0]? = some b:=by rw [← List.head?_eq_getElem?]; exact hb
  rw [xsB_get _ _ _ _ 0 (by omega)] at e
  have e2:=Option.some.inj e
  simp only [Nat.lt_irrefl,if_false] at e2
  omega
 ·unfold xsB at hb
  obtain ⟨k,_,rfl⟩:=List.mem_map.mp hb
  exact md _ _
theorem xsB_inj {bs:List Nat} {size at' i j:Nat} (h:at' < size) (hi:i < 20) (hj:j < 20) (e:(xsB bs size at' i).map al=(xsB bs size at' j).map al) : i=j:=by
 have e1:=congrArg (fun l=>l[at']?) e
 simp only [List.getElem?_map,xsB_get _ _ _ _ _ h] at e1
 have e2:=Option.some.inj e1
 have e3:=al_inj _ (md _ _) _ (md _ _) e2
 simp only [if_true] at e3
 by_cases h0:0 < at'
 ·simp only [if_pos h0] at e3; omega
 ·simp only [if_neg h0] at e3; omega
theorem get_map {α:Type} {f:α→V} {l:List α} {i:Nat} {y:V} (h:(l.map f)[i]? = some y) : ∃ x,l[i]? = some x∧y=f x:=by
 rw [List.getElem?_map] at h
 cases e:l[i]? with
 | none=>rw [e] at h; cases h
 | some x=>rw [e] at h; exact ⟨x,rfl,(Option.some.inj h).symm⟩
theorem nm_map {f:Nat→List Nat} {m i:Nat} (h:i < m) : nm ((List.range m).map f) i=f i:=by
 unfold nm
 rw [List.getD_eq_getElem?_getD,List.getElem?_map,List.getElem?_range h]
 rfl
theorem join1:∀ cs:List Nat,joinL [] (cs.map fun c=>[c])=cs
 | []=>rfl
 | [c]=>rfl
 | c :: d :: r=>by
  show [c]++[]++joinL [] ((d :: r).map fun c=>[c])=_
  rw [join1 (d :: r)]
  rfl
theorem cOw:(PySem.Str.ofString "o")=tx [111]:=by decide +kernel
theorem cNil:(PySem.Str.ofString "")=tx []:=by decide +kernel
theorem ej1 (cs:List Nat) : Txt.join (PySem.Str.ofString "") (cs.map fun d=>tx [d])=tx cs:=by
 rw [cNil,show (cs.map fun d=>tx [d])=((cs.map fun d=>[d]).map tx) by rw [List.map_map]; rfl,join_tx,join1]
def alW:List Nat:=[33,34,35,38,39,40,41,42,43,44,45,46,47,48,49,50,51,52,53,54,55,56,57,58,59,60,61,62,63,64,65,66,67,68,69,70,71,72,73,74,75,76,77,78,79,80,81,82,83,84,85,86,87,88,89,90,92,94,95,96,97,98,99,100,101,102,103,104,105,106,107,108,109,110,111,112,113,114,115,116,117,118,119,120,121,122,123,125,126]
theorem at_alW:∀ k:Nat,k < 89→atI (PySem.Str.ofString "!\"#&'()*+,-./0123456789:;<=>?@ABCDEFGHIJKLMNOPQRSTUVWXYZ\\^_`abcdefghijklmnopqrstuvwxyz{}~").cps.toList (k:Int)=some (alW.getD k 0):=by decide +kernel
def MOk (M:List (Wd0 × Nat)) : Prop:=M.length≤40∧∀ x ∈ M,x.1.length≤12∧(∀ c ∈ x.1,c < 127)∧x.2≤10
structure ShOk (S:List Sh) : Prop where
 nd:(S.map Sh.n).Nodup
 len:S.length≤4
 row:∀ s ∈ S,s.r.length=s.c+1
 c9:∀ s ∈ S,s.c≤9
 nam:∀ s ∈ S,s.n.length≤12∧∀ c ∈ s.n,c < 127
 r4:∀ s ∈ S,∀ y ∈ s.r,0≤y∧y≤400
 nod:∀ s ∈ S,s.ns.length≤200∧∃ M,∀ x ∈ s.ns,Nd M s.c 12 x
 x:ShX S
 k6:∀ s ∈ S,0≤s.k∧s.k≤60
 isn:∀ s ∈ S,isName s.n=true
 eqk:∀ s ∈ S,s.k=calL S 12 s.ns
 wf:∀ s ∈ S,∀ x ∈ s.ns,Wf PlW 12 x
 mu:∀ s ∈ S,muL s.ns≤780
theorem shF_mem {S:List Sh} {x:Str} {s:Sh} (h:shF S x=some s) : s ∈ S∧tx s.n=x:=by
 unfold shF at h
 exact ⟨List.mem_of_find?_eq_some h,by simpa using List.find?_some h⟩
def NmAt (K:PySem.W.Frag) (H:Hp) (na:Addr) (S:List Sh) : Prop:=∃ kvs:List (Key × V),H na=some (.dK kvs)∧∀ x:Str,(shF S x=none→valV kvs (.inr x)=none)∧∀ s,shF S x=some s→∃ v,valV kvs (.inr x)=some v∧Rep K H (shD s) v
theorem zero_row (c:Nat) : (List.replicate ((c:Int)+1).toNat [V.int 0]).flatten=(rwL (fun _=>0) c).map V.int:=by
 rw [rep1,show ((c:Int)+1).toNat=c+1 by omega]
 unfold rwL
 rw [List.map_map]
 refine List.ext_getElem? fun i=>?_
 rw [List.getElem?_replicate,List.getElem?_map]
 by_cases hi:i < c+1
 ·rw [if_pos hi,List.getElem?_range hi]; rfl
 ·rw [if_neg hi,List.getElem?_eq_none (by rw [List.length_range]; omega)]; rfl
theorem row_word {S:List Sh} {c d k:Nat} {xs:List DD} {w:Wd0} (e:xs[k]? = some (wdD w)) : (rwL (fun i=>if i=0 then ((xs.take k).map (szR S 0 (d+1))).sum+1 else ((xs.take k).map (szR S i (d+1))).sum) c)=rowL S c (d+1) (xs.take (k+1)):=rwL_congr fun j _=>by
 rw [sum_snoc _ e,sz_wd]
 by_cases h:j=0
 ·rw [if_pos h,if_pos h,h]
 ·rw [if_neg h,if_neg h]; omega
theorem row_place {S:List Sh} {c d k p:Nat} {xs:List DD} (e:xs[k]? = some (plD p)) : (rwL (fun i=>if i=p then ((xs.take k).map (szR S p (d+1))).sum+1 else ((xs.take k).map (szR S i (d+1))).sum) c)=rowL S c (d+1) (xs.take (k+1)):=rwL_congr fun j _=>by
 rw [sum_snoc _ e,sz_pl]
 by_cases h:j=p
 ·rw [if_pos h,if_pos h.symm,h]
 ·rw [if_neg h,if_neg (fun z=>h z.symm)]; omega
theorem get_r {s:Sh} {j:Nat} (h:j < s.r.length) : s.r[j]? = some (s.r.getD j 0):=by
 rw [List.getD_eq_getElem?_getD,List.getElem?_eq_getElem h]
 rfl
theorem andH {a:Prop} {_inst:Decidable a} {X A:Prop} {B:Hp→Prop} {G:Hp} (P:Hp→Prop) (hP:P G) (hb:∀ G',P G'→B G') (hx:(∀ G',P G'→B G')→X) : if a then X else (if false=true then A else B G):=by
 split
 ·exact hx hb
 ·exact iteF (hb G hP)
def MnAt (K:PySem.W.Frag) (H:Hp) (ma:Addr) (M:List (Wd0 × Nat)) : Prop:=∃ ms:List V,SqL K H ma ms∧ms.length=M.length∧∀ (i:Nat) v,ms[i]? = some v→∃ (a:Addr) (n:Wd0) (m:Nat) (rest:List V),v = .ref a∧SqT K H a (.str (tx n) :: .int (m:Int) :: rest)∧M[i]? = some (n,m)
theorem szR_nn {S:List Sh} (h:∀ s ∈ S,∀ y ∈ s.r,0≤y) (j:Nat) {M:List (Wd0 × Nat)} {c:Nat} : ∀ {d:Nat} {x:DD},Nd M c d x→0≤szR S j d x
 | d+1,x,hn=>by
  rcases hn.out with ⟨w,rfl⟩ | ⟨k,h1,h2,rfl⟩ | ⟨n,as,rfl,h1,h2⟩
  ·rw [sz_wd]; split <;> omega
  ·rw [sz_pl]; split <;> omega
  ·cases hF:shF S (tx n) with
   | none =>
    have:szR S j (d+1) (clD n as)=0:=by
     show (match shF S (tx n) with | none=>0 | some s=>(if j=0 then s.r.getD 0 0 else 0)+argS s.r 1 ((as.map DD.lst).map fun a=>((ddL a).map (szR S j d)).sum))=0
     rw [hF]
    omega
   | some s =>
    rw [sz_cl hF]
    have hr:=h s (shF_mem hF).1
    have g0:∀ i,0≤s.r.getD i 0:=fun i=>by
     rw [List.getD_eq_getElem?_getD]
     cases e:s.r[i]? with
     | none=>exact Int.le_refl _
     | some y=>exact hr y (List.mem_of_getElem? e)
    have ha:∀ (l:List Int) (i:Nat),(∀ y ∈ l,0≤y)→0≤argS s.r i l:=fun l=>by
     induction l with
     | nil=>intro i _; exact Int.le_refl _
     | cons y ys ih =>
      intro i hy
      have q1:=ih (i+1) fun z hz=>hy z (List.mem_cons_of_mem _ hz)
      have q2:=Int.mul_nonneg (g0 i) (hy y List.mem_cons_self)
      show 0≤s.r.getD i 0 * y+argS s.r (i+1) ys
      omega
    have hsum:∀ l:List DD,(∀ y ∈ l,0≤szR S j d y)→0≤(l.map (szR S j d)).sum:=fun l=>by
     induction l with
     | nil=>intro _; exact Int.le_refl _
     | cons y ys ih =>
      intro hy
      have q1:=ih fun z hz=>hy z (List.mem_cons_of_mem _ hz)
      have q2:=hy y List.mem_cons_self
      rw [List.map_cons,List.sum_cons]
      omega
    have q:=ha (as.map fun a=>(a.map (szR S j d)).sum) 1 fun y hy=>by
     obtain ⟨a,ha,rfl⟩:=List.mem_map.mp hy
     exact hsum a fun z hz=>szR_nn h j ((h2 a ha).2 z hz)
    have:=g0 0
    split <;> omega
theorem sumZ_nn {f:DD→Int} : ∀ {l:List DD},(∀ y ∈ l,0≤f y)→0≤(l.map f).sum
 | [],_=>Int.le_refl _
 | y :: ys,hy=>by
  have q1:=sumZ_nn (f:=f) (l:=ys) fun z hz=>hy z (List.mem_cons_of_mem _ hz)
  have q2:=hy y List.mem_cons_self
  rw [List.map_cons,List.sum_cons]
  omega
theorem sumI_nn:∀ {l:List Int},(∀ y ∈ l,0≤y)→0≤l.sum
 | [],_=>Int.le_refl _
 | y :: ys,hy=>by
  have q1:=sumI_nn (l:=ys) fun z hz=>hy z (List.mem_cons_of_mem _ hz)
  have q2:=hy y List.mem_cons_self
  rw [List.sum_cons]
  omega
theorem le_sum:∀ {l:List Int},(∀ y ∈ l,0≤y)→∀ x ∈ l,x≤l.sum
 | y :: ys,h,x,hx=>by
  have q2:=h y List.mem_cons_self
  have hs:=sumI_nn (l:=ys) fun z hz=>h z (List.mem_cons_of_mem _ hz)
  rw [List.sum_cons]
  rcases List.mem_cons.mp hx with rfl | hx
  ·omega
  ·have:=le_sum (fun z hz=>h z (List.mem_cons_of_mem _ hz)) x hx
   omega
theorem row_nn {S:List Sh} (h:∀ s ∈ S,∀ y ∈ s.r,0≤y) {M:List (Wd0 × Nat)} {c d:Nat} {xs:List DD} (hx:∀ x ∈ xs,Nd M c d x) : ∀ y ∈ rowL S c d xs,0≤y:=fun y hy=>by
 unfold rowL rwL at hy
 obtain ⟨j,_,rfl⟩:=List.mem_map.mp hy
 exact sumZ_nn fun x hm=>szR_nn h j (hx x hm)
theorem sum_le1 {f:DD→Int} : ∀ {l:List DD},(∀ y ∈ l,f y≤1)→(l.map f).sum≤l.length
 | [],_=>Int.le_refl _
 | y :: ys,hy=>by
  have q1:=sum_le1 (f:=f) (l:=ys) fun z hz=>hy z (List.mem_cons_of_mem _ hz)
  have q2:=hy y List.mem_cons_self
  rw [List.map_cons,List.sum_cons,List.length_cons]
  omega
theorem wr_ok {S:List Sh} (nd:(S.map Sh.n).Nodup) {c:Nat} : ∀ {d:Nat} {x:DD},Nd (S.map fun s=>(s.n,s.c)) c d x→wrD S d x=0
 | d+1,x,hn=>by
  rcases hn.out with ⟨w,rfl⟩ | ⟨k,h1,h2,rfl⟩ | ⟨n,as,rfl,h1,h2⟩
  ·exact wr_wd
  ·exact wr_pl
  ·obtain ⟨s,hs,e⟩:=List.mem_map.mp h1
   obtain ⟨e1,e2⟩:=Prod.mk.inj e
   subst e1
   have hF:shF S (tx s.n)=some s:=by
    cases hq:shF S (tx s.n) with
    | none =>
     unfold shF at hq
     exact absurd (decide_eq_true (rfl:tx s.n=tx s.n)) (List.find?_eq_none.mp hq s hs)
    | some t =>
     obtain ⟨t1,t2⟩:=shF_mem hq
     have e3:=tx_inj t2
     obtain ⟨i,hi⟩:=List.getElem?_of_mem hs
     obtain ⟨j,hj⟩:=List.getElem?_of_mem t1
     have:i=j:=(List.getElem?_inj (by rw [List.length_map]; exact (List.getElem?_eq_some_iff.mp hi).1) nd).mp (by rw [List.getElem?_map,List.getElem?_map,hi,hj]; show some s.n=some t.n; rw [e3])
     rw [this,hj] at hi
     exact hi
   rw [wr_fit hF e2.symm]
   refine fstN_zero fun y hy=>?_
   obtain ⟨a,ha,rfl⟩:=List.mem_map.mp hy
   exact fstN_zero fun z hz=>by
    obtain ⟨b,hb,rfl⟩:=List.mem_map.mp hz
    exact wr_ok nd ((h2 a ha).2 b hb)
theorem orH {a:Prop} {_inst:Decidable a} {X A B:Prop} (hA:A) (hx:A→¬ a→X) : if a then (if true=true then A else B) else X:=by
 split
 ·exact iteT hA
 ·exact hx hA (by assumption)
theorem mok_of {S:List Sh} (h:ShOk S) : MOk (S.map fun s=>(s.n,s.c)):=by
 have:=h.len
 refine ⟨by rw [List.length_map]; omega,fun x hx=>?_⟩
 obtain ⟨s,hs,rfl⟩:=List.mem_map.mp hx
 have:=h.c9 s hs
 exact ⟨(h.nam s hs).1,(h.nam s hs).2,by show s.c≤10; omega⟩
theorem names_nd {ns:List (List Nat)} {m:Nat} (h:Names ns m) : ns.Nodup:=by
 refine List.pairwise_iff_getElem.mpr fun i j hi hj hij e=>?_
 have l:=h.len
 have e1:∀ (k:Nat) (hk:k < ns.length),nm ns k=ns[k]:=fun k hk=>by unfold nm; rw [List.getD_eq_getElem?_getD,List.getElem?_eq_getElem hk]; rfl
 have:=h.inj i j (by omega) (by omega) (by rw [e1 i hi,e1 j hj,e])
 omega
theorem menu_of {K:PySem.W.Frag} {H:Hp} {sa:Addr} {S:List Sh} (r:Rep K H (.lst (S.map shD)) (.ref sa)) : MnAt K H sa (S.map fun s=>(s.n,s.c)):=by
 obtain ⟨a,vs,e,h1,_,h2⟩:=r.lstO
 cases e
 refine ⟨vs,h1,by rw [h2.len,List.length_map,List.length_map],fun i v hv=>?_⟩
 obtain ⟨d,e1,r1⟩:=h2.getR hv
 rw [List.getElem?_map] at e1
 obtain ⟨s,e2,rfl⟩:=Option.map_eq_some_iff.mp e1
 obtain ⟨a,xs,rfl,st,_,rx⟩:=r1.tupO
 unfold Reps at rx
 obtain ⟨x0,r0,rfl,y0,rx⟩:=rx
 unfold Reps at rx
 obtain ⟨x1,r1,rfl,y1,rx⟩:=rx
 rw [y0.strO,y1.intO] at st
 exact ⟨a,s.n,s.c,r1,rfl,st,by rw [List.getElem?_map,e2]; rfl⟩
theorem at0 {α:Type} {xs:List α} {j:Nat} {v:α} (h:xs[j]? = some v) : atI xs (0+(j:Int))=some v:=by
 rw [Int.zero_add]
 exact atI_nat h
theorem ix0 {l j:Nat} (h:j < l) : ixN l (0+(j:Int))=some j:=by
 rw [Int.zero_add]
 exact ixN_nat h
theorem strNe1:¬ V.str (PySem.Str.ofString "place")=V.str (PySem.Str.ofString "word"):=fun z=>absurd (V.str.inj z) (by decide +kernel)
theorem strNe2:¬ V.str (PySem.Str.ofString "call")=V.str (PySem.Str.ofString "word"):=fun z=>absurd (V.str.inj z) (by decide +kernel)
theorem strNe3:¬ V.str (PySem.Str.ofString "call")=V.str (PySem.Str.ofString "place"):=fun z=>absurd (V.str.inj z) (by decide +kernel)
theorem strNe4:¬ V.str (PySem.Str.ofString "word")=V.str (PySem.Str.ofString "call"):=fun z=>absurd (V.str.inj z) (by decide +kernel)
theorem strNe5:¬ V.str (PySem.Str.ofString "place")=V.str (PySem.Str.ofString "call"):=fun z=>absurd (V.str.inj z) (by decide +kernel)
theorem deep_mem:∀ {l:List DD} {i:Nat} {d:DD},l[i]? = some d→d.deep≤deeps l
 | [],i,d,e=>by simp at e
 | a :: r,0,d,e=>by
  have e:a=d:=Option.some.inj e
  unfold deeps
  rw [e]
  omega
 | a :: r,i+1,d,e=>by
  have:=deep_mem (l:=r) (i:=i) (d:=d) (by simpa using e)
  unfold deeps
  omega
theorem shF_snoc {S:List Sh} {i:Nat} {s:Sh} (x:Str) (h:S[i]? = some s) : shF (S.take (i+1)) x=(shF (S.take i) x).or (if tx s.n=x then some s else none):=by
 unfold shF
 rw [List.take_add_one,h,List.find?_append]
 refine congrArg _ ?_
 show List.find? _ [s]=_
 rw [List.find?_cons]
 by_cases e:tx s.n=x
 ·rw [if_pos e,decide_eq_true e]
 ·rw [if_neg e,decide_eq_false e]; rfl
def FitAt (K:PySem.W.Frag) (H:Hp) (S:List Sh) (x:Str) (ys:List V) : Prop:=ys.length≤S.length∧(shF S x=none→ys=[])∧∀ s,shF S x=some s→∃ v r,ys=v :: r∧Rep K H (shD s) v
theorem FitAt.yes {K:PySem.W.Frag} {H:Hp} {S:List Sh} {i:Nat} {s:Sh} {x:Str} {ys:List V} {v:V} (f:FitAt K H (S.take i) x ys) (h:S[i]? = some s) (e:tx s.n=x) (r:Rep K H (shD s) v) : FitAt K H (S.take (i+1)) x (ys++[v]):=by
 have hi:=(List.getElem?_eq_some_iff.mp h).1
 obtain ⟨f1,f2,f3⟩:=f
 rw [List.length_take] at f1
 refine ⟨by rw [List.length_append,List.length_take,List.length_singleton]; omega,fun z=>?_,fun t z=>?_⟩
 ·rw [shF_snoc x h,if_pos e] at z
  cases hq:shF (S.take i) x with
  | none=>rw [hq] at z; cases z
  | some t=>rw [hq] at z; cases z
 ·rw [shF_snoc x h,if_pos e] at z
  cases hq:shF (S.take i) x with
  | none =>
   rw [hq] at z
   have z:s=t:=Option.some.inj z
   rw [f2 hq,← z]
   exact ⟨v,[],rfl,r⟩
  | some u =>
   rw [hq] at z
   have z:u=t:=Option.some.inj z
   obtain ⟨w,q,h1,h2⟩:=f3 u hq
   rw [h1,← z]
   exact ⟨w,q++[v],rfl,h2⟩
theorem FitAt.no {K:PySem.W.Frag} {H:Hp} {S:List Sh} {i:Nat} {s:Sh} {x:Str} {ys:List V} (f:FitAt K H (S.take i) x ys) (h:S[i]? = some s) (e:¬ tx s.n=x) : FitAt K H (S.take (i+1)) x ys:=by
 obtain ⟨f1,f2,f3⟩:=f
 have he:shF (S.take (i+1)) x=shF (S.take i) x:=by
  rw [shF_snoc x h,if_neg e]
  cases shF (S.take i) x <;> rfl
 rw [List.length_take] at f1
 refine ⟨by rw [List.length_take]; omega,?_,?_⟩
 ·rw [he]; exact f2
 ·rw [he]; exact f3
theorem fold_val (k:Key) : ∀ (kvs m:List (Key × V)),(kvs.map Prod.fst).Nodup→valV (kvs.foldl (fun m kv=>putK m kv.1 kv.2) m) k=match kvs.find? (fun kv=>decide (kv.1=k)) with
  | some kv=>some kv.2
  | none=>valV m k
 | [],m,_=>rfl
 | kv :: r,m,hn=>by
  rw [List.map_cons,List.nodup_cons] at hn
  show valV (r.foldl (fun m kv=>putK m kv.1 kv.2) (putK m kv.1 kv.2)) k=_
  rw [fold_val k r _ hn.2,valV_put,List.find?_cons]
  by_cases e:kv.1=k
  ·have hf:r.find? (fun kv=>decide (kv.1=k))=none:=List.find?_eq_none.mpr fun x hx z=>hn.1 (by
    have z:x.1=k:=of_decide_eq_true z
    rw [e,← z]
    exact List.mem_map.mpr ⟨x,hx,rfl⟩)
   rw [hf,decide_eq_true e]
   show (if k=kv.1 then some kv.2 else _)=some kv.2
   rw [if_pos e.symm]
  ·rw [decide_eq_false e,if_neg (fun z=>e z.symm)]

theorem pl_one {S:List Sh} (h:∀ s ∈ S,∀ y ∈ s.r,0≤y) {M:List (Wd0 × Nat)} {c d k:Nat} {xs:List DD} (hx:∀ x ∈ xs,Nd M c (d+1) x) (hk:plD k ∈ xs) : 1≤(xs.map (szR S k (d+1))).sum:=by
 have:=le_sum (l:=xs.map (szR S k (d+1))) (fun y hy=>by
  obtain ⟨x,hm,rfl⟩:=List.mem_map.mp hy
  exact szR_nn h k (hx x hm)) (szR S k (d+1) (plD k)) (List.mem_map.mpr ⟨_,hk,rfl⟩)
 rw [sz_pl,if_pos rfl] at this
 exact this
theorem rw_getD {f:Nat→Int} {c k:Nat} (h:k≤c) : (rwL f c).getD k 0=f k:=by
 rw [List.getD_eq_getElem?_getD,rwL_get f h]
 rfl
theorem sum_small:∀ {l:List Int},(∀ y ∈ l,y≤12)→l.sum≤12 * (l.length:Int)
 | [],_=>Int.le_refl _
 | y :: r,h=>by
  have h1:=h y List.mem_cons_self
  have h2:=sum_small (l:=r) fun z hz=>h z (List.mem_cons_of_mem _ hz)
  rw [List.sum_cons,List.length_cons]
  omega
theorem cal_zero {S:List Sh} {d:Nat} : ∀ {l:List DD},(∀ x ∈ l,szC S d x=0)→calL S d l=0
 | [],_=>rfl
 | x :: r,h=>by
  have h2:=cal_zero (l:=r) fun z hz=>h z (List.mem_cons_of_mem _ hz)
  unfold calL at h2 ⊢
  rw [List.map_cons,List.sum_cons,h x List.mem_cons_self,h2]
  rfl

theorem lv_mu {M:List (Wd0 × Nat)} {c:Nat} : ∀ {d:Nat} {x:DD},Ns M c d x→x.lv+2 * x.calls≤muD x
 | d+1,x,h=>by
  rcases h.out with ⟨w,rfl⟩ | ⟨k,h1,h2,rfl⟩ | ⟨nm,as,rfl,h1,h2⟩
  ·rw [lv_wd,calls_wd,mu_wd]; exact Nat.le_refl _
  ·rw [lv_pl,calls_pl,mu_pl]; exact Nat.le_refl _
  ·rw [lv_cl,calls_cl,mu_cl]
   have q1:∀ l:List DD,(∀ v ∈ l,Ns M c d v)→lvL l+2 * callsL l≤muL l:=fun l=>by
    induction l with
    | nil=>intro _; rw [lv_nil,calls_nil]; exact Nat.zero_le _
    | cons v r ih =>
     intro hv
     have a1:=ih fun z hz=>hv z (List.mem_cons_of_mem _ hz)
     have a2:=lv_mu (hv v List.mem_cons_self)
     rw [calls_cons,lv_cons,muL_cons]
     omega
   have q2:∀ as:List (List DD),(∀ a ∈ as,∀ v ∈ a,Ns M c d v)→lvL (as.map DD.lst)+2 * callsL (as.map DD.lst)≤muL (as.map DD.lst):=fun as=>by
    induction as with
    | nil=>intro _; rw [List.map_nil,lv_nil,calls_nil]; exact Nat.zero_le _
    | cons a r ih =>
     intro hv
     have a1:=ih fun z hz=>hv z (List.mem_cons_of_mem _ hz)
     have a2:=q1 a (hv a List.mem_cons_self)
     rw [List.map_cons,calls_cons,lv_cons,muL_cons,calls_lst,lv_lst,mu_lst]
     omega
   have:=q2 as h2
   omega
theorem lvL_mu {M:List (Wd0 × Nat)} {c d:Nat} : ∀ {l:List DD},(∀ v ∈ l,Ns M c d v)→lvL l+2 * callsL l≤muL l
 | [],_=>by rw [lv_nil,calls_nil]; exact Nat.zero_le _
 | v :: r,hv=>by
  have a1:=lvL_mu (l:=r) fun z hz=>hv z (List.mem_cons_of_mem _ hz)
  have a2:=lv_mu (hv v List.mem_cons_self)
  rw [calls_cons,lv_cons,muL_cons]
  omega
theorem mu_fl {c:Nat} {M:List (Wd0 × Nat)} {A:List (List DD)} {b:Nat} (hA:∀ a ∈ A,muL a≤b) : ∀ {d:Nat} {y:DD},Ns M c d y→muL (fiD A d y)≤muD y+y.lv * b
 | d+1,y,h=>by
  rcases h.out with ⟨w,rfl⟩ | ⟨k,h1,h2,rfl⟩ | ⟨nm,as,rfl,h1,h2⟩
  ·rw [fi_wd,muL_one]; exact Nat.le_add_right _ _
  ·rw [fi_pl,mu_pl,lv_pl,List.getD_eq_getElem?_getD]
   cases e:A[k - 1]? with
   | none=>show muL []≤_; rw [muL_nil]; exact Nat.zero_le _
   | some a =>
    have:=hA a (List.mem_of_getElem? e)
    show muL a≤_
    omega
  ·rw [fi_cl,muL_one,mu_cl,mu_cl,lv_cl]
   have q1:∀ l:List DD,(∀ v ∈ l,Ns M c d v)→muL (fiL A d l)≤muL l+lvL l * b:=fun l=>by
    induction l with
    | nil=>intro _; show muL []≤_; rw [muL_nil]; exact Nat.zero_le _
    | cons v r ih =>
     intro hv
     have a1:=ih fun z hz=>hv z (List.mem_cons_of_mem _ hz)
     have a2:=mu_fl hA (hv v List.mem_cons_self)
     show muL (fiD A d v++fiL A d r)≤_
     rw [muL_app,muL_cons,lv_cons,Nat.add_mul]
     omega
   have q2:∀ as:List (List DD),(∀ a ∈ as,∀ v ∈ a,Ns M c d v)→muL ((as.map (fiL A d)).map DD.lst)≤muL (as.map DD.lst)+lvL (as.map DD.lst) * b:=fun as=>by
    induction as with
    | nil=>intro _; show muL []≤_; rw [muL_nil]; exact Nat.zero_le _
    | cons a r ih =>
     intro hv
     have a1:=ih fun z hz=>hv z (List.mem_cons_of_mem _ hz)
     have a2:=q1 a (hv a List.mem_cons_self)
     rw [List.map_cons,List.map_cons,List.map_cons,muL_cons,muL_cons,lv_cons,mu_lst,mu_lst,lv_lst,Nat.add_mul]
     omega
   have:=q2 as h2
   omega
theorem muL_fl {c d:Nat} {M:List (Wd0 × Nat)} {A:List (List DD)} {b:Nat} (hA:∀ a ∈ A,muL a≤b) : ∀ {l:List DD},(∀ v ∈ l,Ns M c d v)→muL (fiL A d l)≤muL l+lvL l * b
 | [],_=>by show muL []≤_; rw [muL_nil]; exact Nat.zero_le _
 | v :: r,hv=>by
  have a1:=muL_fl hA (l:=r) fun z hz=>hv z (List.mem_cons_of_mem _ hz)
  have a2:=mu_fl hA (hv v List.mem_cons_self)
  show muL (fiD A d v++fiL A d r)≤_
  rw [muL_app,muL_cons,lv_cons,Nat.add_mul]
  omega
theorem mu_mem {l:List DD} {x:DD} (h:x ∈ l) : muD x≤muL l:=by
 induction l with
 | nil=>cases h
 | cons y r ih =>
  rw [muL_cons]
  rcases List.mem_cons.mp h with rfl | h
  ·omega
  ·have:=ih h
   omega
theorem lv_body {S:List Sh} (h:ShX S) {s:Sh} (hs:s ∈ S) : lvL s.ns≤400:=by
 have e:s.r.sum=dot (fun j=>(s.ns.map (szR S j 12)).sum) (fun _=>1) s.c:=by
  rw [dot_ones fun _ _=>rfl]
  conv=>lhs; rw [h.eqr s hs]
  rfl
 have h4:=h.sum s hs
 rw [e,dot_sum] at h4
 have q1:∀ l:List DD,(∀ v ∈ l,v ∈ s.ns)→(lvL l:Int)≤(l.map fun x=>dot (fun j=>szR S j 12 x) (fun _=>1) s.c).sum:=fun l=>by
  induction l with
  | nil=>intro _; rw [lv_nil]; exact Int.le_refl _
  | cons v r ih =>
   intro hl
   have a1:=ih fun u hu=>hl u (List.mem_cons_of_mem _ hu)
   have a2:=lv_le h (body48 h hs v (hl v List.mem_cons_self)).2
   rw [lv_cons,List.map_cons,List.sum_cons]
   omega
 have:=q1 s.ns fun v hv=>hv
 omega
theorem st_off {S:List Sh} {M:List (Wd0 × Nat)} {c:Nat} : ∀ {d:Nat} {x:DD},Ns M c d x→∀ t:Int,(t < 0∨(x.calls:Int)≤t)→stD S d t x=[x]
 | d+1,x,hx=>by
  intro t ht
  rcases hx.out with ⟨w,rfl⟩ | ⟨k,h1,h2,rfl⟩ | ⟨nm,as,rfl,h1,h2⟩
  ·exact st_wd
  ·exact st_pl
  ·rw [calls_cl] at ht
   have h0:t≠0:=by omega
   rw [st_cl1 h0]
   have q1:∀ (l:List DD) (t:Int),(∀ v ∈ l,Ns M c d v)→(t < 0∨(callsL l:Int)≤t)→stL' (stD S d) t l=l:=fun l=>by
    induction l with
    | nil=>intro t _ _; rfl
    | cons v r ih =>
     intro t hv ht
     rw [calls_cons] at ht
     show stD S d t v++stL' (stD S d) (t - (v.calls:Int)) r=_
     rw [st_off (hv v List.mem_cons_self) t (by omega),ih _ (fun z hz=>hv z (List.mem_cons_of_mem _ hz)) (by omega)]
     rfl
   have q2:∀ (as:List (List DD)) (t:Int),(∀ a ∈ as,∀ v ∈ a,Ns M c d v)→(t < 0∨(callsL (as.map DD.lst) : Int)≤t)→stA' (stD S d) t as=as:=fun as=>by
    induction as with
    | nil=>intro t _ _; rfl
    | cons a r ih =>
     intro t hv ht
     rw [List.map_cons,calls_cons,calls_lst] at ht
     show stL' (stD S d) t a :: stA' (stD S d) (t - (callsL a:Int)) r=_
     rw [q1 a t (hv a List.mem_cons_self) (by omega),ih _ (fun z hz=>hv z (List.mem_cons_of_mem _ hz)) (by omega)]
   rw [q2 as _ h2 (by omega)]
theorem stL_off {S:List Sh} {M:List (Wd0 × Nat)} {c d:Nat} : ∀ {l:List DD} {t:Int},(∀ v ∈ l,Ns M c d v)→(t < 0∨(callsL l:Int)≤t)→stL' (stD S d) t l=l
 | [],t,_,_=>rfl
 | v :: r,t,hv,ht=>by
  rw [calls_cons] at ht
  show stD S d t v++stL' (stD S d) (t - (v.calls:Int)) r=_
  rw [st_off (hv v List.mem_cons_self) t (by omega),stL_off (fun z hz=>hv z (List.mem_cons_of_mem _ hz)) (by omega)]
  rfl
theorem stA_off {S:List Sh} {M:List (Wd0 × Nat)} {c d:Nat} : ∀ {as:List (List DD)} {t:Int},(∀ a ∈ as,∀ v ∈ a,Ns M c d v)→(t < 0∨(callsL (as.map DD.lst) : Int)≤t)→stA' (stD S d) t as=as
 | [],t,_,_=>rfl
 | a :: r,t,hv,ht=>by
  rw [List.map_cons,calls_cons,calls_lst] at ht
  show stL' (stD S d) t a :: stA' (stD S d) (t - (callsL a:Int)) r=_
  rw [stL_off (hv a List.mem_cons_self) (by omega),stA_off (fun z hz=>hv z (List.mem_cons_of_mem _ hz)) (by omega)]
theorem wt_up {M:List (Wd0 × Nat)} {c:Nat} : ∀ {d e:Nat} {x:DD},Ns M c d x→d≤e→wtD e x=wtD d x
 | d+1,e,x,h,he=>by
  obtain ⟨e,rfl⟩ : ∃ k,e=k+1:=⟨e - 1,by omega⟩
  rcases h.out with ⟨w,rfl⟩ | ⟨k,h1,h2,rfl⟩ | ⟨n,as,rfl,h1,h2⟩
  ·rw [wt_wd,wt_wd]
  ·rw [wt_pl,wt_pl]
  ·rw [wt_cl,wt_cl]
   have:as.map (wtL e)=as.map (wtL d):=List.map_congr_left fun a ha=>by
    unfold wtL
    exact congrArg List.flatten (List.map_congr_left fun y hy=>wt_up (h2 a ha y hy) (by omega))
   rw [this]
theorem wtL_up {M:List (Wd0 × Nat)} {c d e:Nat} {xs:List DD} (h:∀ x ∈ xs,Ns M c d x) (he:d≤e) : wtL e xs=wtL d xs:=by
 unfold wtL
 exact congrArg List.flatten (List.map_congr_left fun y hy=>wt_up (h y hy) he)
theorem wt_cl100 {M:List (Wd0 × Nat)} {c d:Nat} {n:Wd0} {as:List (List DD)} (h:∀ a ∈ as,∀ y ∈ a,Ns M c d y) (hd:d≤99) : wtD 100 (clD n as)=(91 :: n) :: (barJoin (as.map (wtL 100))++[endW]):=by
 rw [wt_cl (d:=99)]
 have:as.map (wtL 99)=as.map (wtL 100):=List.map_congr_left fun a ha=>(wtL_up (h a ha) hd).trans (wtL_up (h a ha) (Nat.le_trans hd (by decide))).symm
 rw [this]
def isO (w:Wd0) : Bool:=w.head? == some 91
def opens (l:List Wd0) : Nat:=(l.filter isO).length
theorem opens_app (l m:List Wd0) : opens (l++m)=opens l+opens m:=by unfold opens; rw [List.filter_append,List.length_append]
theorem opens_cons (w:Wd0) (l:List Wd0) : opens (w :: l)=(if isO w=true then 1 else 0)+opens l:=by
 unfold opens
 rw [List.filter_cons]
 split
 ·rw [List.length_cons]; omega
 ·omega
def Own (w:Wd0) : Prop:=∃ c r,w=c :: r∧c≠36∧c≠91∧w≠barW∧w≠endW∧w.length≤1000
theorem own_pl {w:Wd0} (h:PlW w) : Own w:=by
 cases w with
 | nil=>exact absurd rfl h.1.1
 | cons c r =>
  have q:=h.2 c List.mem_cons_self
  exact ⟨c,r,rfl,q.1,q.2.1,fun e=>q.2.2.2 (by unfold barW at e; injection e),fun e=>q.2.2.1 (by unfold endW at e; injection e),Nat.le_trans h.1.len (by decide)⟩
def No (M:List (Wd0 × Nat)) (c:Nat) : Nat→DD→Prop
 | 0,_=>False
 | d+1,x=>(∃ w,Own w∧x=wdD w)∨(∃ k,1≤k∧k≤c∧x=plD k)∨∃ n as,x=clD n as∧(n,as.length) ∈ M∧∀ a ∈ as,∀ y ∈ a,No M c d y
theorem No.out {M:List (Wd0 × Nat)} {c d:Nat} {x:DD} (h:No M c (d+1) x) : (∃ w,Own w∧x=wdD w)∨(∃ k,1≤k∧k≤c∧x=plD k)∨∃ n as,x=clD n as∧(n,as.length) ∈ M∧∀ a ∈ as,∀ y ∈ a,No M c d y:=h
theorem No.ns {M:List (Wd0 × Nat)} {c:Nat} : ∀ {d:Nat} {x:DD},No M c d x→Ns M c d x
 | d+1,x,h=>by
  rcases h.out with ⟨w,_,rfl⟩ | ⟨k,h1,h2,rfl⟩ | ⟨n,as,rfl,h1,h2⟩
  ·exact .inl ⟨w,rfl⟩
  ·exact .inr (.inl ⟨k,h1,h2,rfl⟩)
  ·exact .inr (.inr ⟨n,as,rfl,h1,fun a ha y hy=>No.ns (h2 a ha y hy)⟩)
theorem No.up {M M':List (Wd0 × Nat)} {c:Nat} (hM:∀ x ∈ M,x ∈ M') : ∀ {d d':Nat} {x:DD},d≤d'→No M c d x→No M' c d' x
 | d+1,d',x,hd,h=>by
  obtain ⟨e,rfl⟩ : ∃ e,d' = e+1:=⟨d' - 1,by omega⟩
  rcases h.out with ⟨w,hw,rfl⟩ | ⟨k,h1,h2,rfl⟩ | ⟨n,as,rfl,h1,h2⟩
  ·exact .inl ⟨w,hw,rfl⟩
  ·exact .inr (.inl ⟨k,h1,h2,rfl⟩)
  ·exact .inr (.inr ⟨n,as,rfl,hM _ h1,fun a ha y hy=>No.up hM (by omega) (h2 a ha y hy)⟩)
theorem No.low {M:List (Wd0 × Nat)} {c:Nat} : ∀ {d:Nat} {x:DD},No M c d x→No M c (x.calls+1) x
 | d+1,x,h=>by
  rcases h.out with ⟨w,hw,rfl⟩ | ⟨k,h1,h2,rfl⟩ | ⟨n,as,rfl,h1,h2⟩
  ·exact .inl ⟨w,hw,rfl⟩
  ·exact .inr (.inl ⟨k,h1,h2,rfl⟩)
  ·refine .inr (.inr ⟨n,as,rfl,h1,fun a ha y hy=>(No.low (h2 a ha y hy)).up (fun _ h=>h) ?_⟩)
   have q:=lv_mem (List.mem_map.mpr ⟨a,ha,rfl⟩ : DD.lst a ∈ as.map DD.lst)
   rw [calls_lst] at q
   have q2:=lv_mem hy
   rw [calls_cl]
   omega
theorem no_of {M:List (Wd0 × Nat)} {c:Nat} : ∀ {d:Nat} {x:DD},Nd M c d x→Wf PlW d x→No M c d x
 | d+1,x,h,hw=>by
  rcases h.out with ⟨w,rfl⟩ | ⟨k,h1,h2,rfl⟩ | ⟨n,as,rfl,h1,h2⟩
  ·rcases hw.out with ⟨w',hp,e⟩ | ⟨k,e⟩ | ⟨n,as,e,_⟩
   ·rw [wd_inj e]; exact .inl ⟨w',own_pl hp,rfl⟩
   ·exact absurd e wd_ne_pl
   ·exact absurd e.symm cl_ne_wd
  ·exact .inr (.inl ⟨k,h1,h2,rfl⟩)
  ·rcases hw.out with ⟨w',hp,e⟩ | ⟨k,e⟩ | ⟨n',as',e,_,hw2⟩
   ·exact absurd e cl_ne_wd
   ·exact absurd e cl_ne_pl
   ·rw [← clD_inj e] at hw2
    exact .inr (.inr ⟨n,as,rfl,h1,fun a ha y hy=>no_of ((h2 a ha).2 y hy) (hw2 a ha y hy)⟩)
theorem fi_no {M M':List (Wd0 × Nat)} {c c' e:Nat} {A:List (List DD)} (hM:∀ x ∈ M,x ∈ M') (hA:∀ a ∈ A,∀ x ∈ a,No M' c' e x) : ∀ {d:Nat} {y:DD},No M c d y→∀ z ∈ fiD A d y,No M' c' (d+e) z
 | d+1,y,h=>by
  intro z hz
  rcases h.out with ⟨w,hw,rfl⟩ | ⟨k,h1,h2,rfl⟩ | ⟨n,as,rfl,h1,h2⟩
  ·rw [fi_wd] at hz
   rw [List.mem_singleton.mp hz,show d+1+e=(d+e)+1 by omega]
   exact .inl ⟨w,hw,rfl⟩
  ·rw [fi_pl] at hz
   obtain ⟨a,ha,hz⟩:=getD_mem hz
   exact (hA a ha z hz).up (fun _ h=>h) (by omega)
  ·rw [fi_cl] at hz
   rw [List.mem_singleton.mp hz,show d+1+e=(d+e)+1 by omega]
   refine .inr (.inr ⟨n,_,rfl,by rw [List.length_map]; exact hM _ h1,fun b hb u hu=>?_⟩)
   obtain ⟨a,ha,rfl⟩:=List.mem_map.mp hb
   obtain ⟨v,hv,hu⟩:=fiL_mem hu
   exact fi_no hM hA (h2 a ha v hv) u hu
section
variable {S:List Sh} (h:ShX S) (hn:∀ s ∈ S,∀ y ∈ s.ns,No (menuS S) s.c 12 y)
include h hn
theorem st_no {c:Nat} : ∀ {d:Nat} {x:DD},No (menuS S) c d x→∀ t,∀ z ∈ stD S d t x,No (menuS S) c (d+12) z
 | d+1,x,hx=>by
  intro t z hz
  rcases hx.out with ⟨w,hw,rfl⟩ | ⟨k,h1,h2,rfl⟩ | ⟨nm,as,rfl,h1,h2⟩
  ·rw [st_wd] at hz
   rw [List.mem_singleton.mp hz]
   exact hx.up (fun _ h=>h) (by omega)
  ·rw [st_pl] at hz
   rw [List.mem_singleton.mp hz]
   exact hx.up (fun _ h=>h) (by omega)
  ·obtain ⟨j,s,_,_,hs,e1,e2,hF⟩:=call_of (i:=S.length) h.nd (by rw [List.take_of_length_le (Nat.le_refl _)]; exact h1)
   by_cases ht:t=0
   ·subst ht
    rw [st_cl0 hF] at hz
    obtain ⟨y,hy,hz⟩:=fiL_mem hz
    exact (fi_no (fun _ h=>h) h2 (hn s hs y hy) z hz).up (fun _ h=>h) (by omega)
   ·rw [st_cl1 ht] at hz
    rw [List.mem_singleton.mp hz,show d+1+12=(d+12)+1 by omega]
    refine .inr (.inr ⟨nm,_,rfl,by rw [stA_len]; exact h1,fun b hb u hu=>?_⟩)
    obtain ⟨a,ha,v,rfl⟩:=stA_mem hb
    obtain ⟨y,hy,v2,hu⟩:=stL_mem hu
    exact st_no (h2 a ha y hy) v2 u hu
end
theorem opens_bj:∀ ws:List (List Wd0),opens (barJoin ws)=(ws.map opens).sum
 | []=>rfl
 | [w]=>by show opens w=opens w+0; rfl
 | w :: y :: r=>by
  show opens (w++barW :: barJoin (y :: r))=opens w+((y :: r).map opens).sum
  rw [opens_app,opens_cons,opens_bj (y :: r),if_neg (by decide)]
  omega
theorem opens_wt {M:List (Wd0 × Nat)} {c:Nat} : ∀ {d:Nat} {x:DD},d≤100→No M c d x→opens (wtD 100 x)=x.calls
 | d+1,x,hd,h=>by
  rcases h.out with ⟨w,⟨c0,r,rfl,h36,h91,_⟩,rfl⟩ | ⟨k,h1,h2,rfl⟩ | ⟨n,as,rfl,h1,h2⟩
  ·rw [wt_wd,calls_wd,opens_cons,if_neg (by show ¬ ((some c0 == some 91)=true); simpa using h91)]
   rfl
  ·rw [wt_pl,calls_pl,opens_cons,if_neg (show ¬ isO (placeW k)=true from Bool.false_ne_true)]
   rfl
  ·rw [wt_cl100 (fun a ha y hy=>(h2 a ha y hy).ns) (by omega),calls_cl,opens_cons,if_pos (by rfl),opens_app,opens_bj]
   have q1:∀ l:List DD,(∀ v ∈ l,No M c d v)→opens (wtL 100 l)=callsL l:=fun l=>by
    induction l with
    | nil=>intro _; rw [calls_nil]; rfl
    | cons v r ih =>
     intro hv
     rw [wtL_cons,opens_app,calls_cons,opens_wt (by omega) (hv v List.mem_cons_self),ih fun z hz=>hv z (List.mem_cons_of_mem _ hz)]
   have q2:∀ as:List (List DD),(∀ a ∈ as,∀ v ∈ a,No M c d v)→((as.map (wtL 100)).map opens).sum=callsL (as.map DD.lst):=fun as=>by
    induction as with
    | nil=>intro _; show 0=callsL []; rw [calls_nil]
    | cons a r ih =>
     intro hv
     rw [List.map_cons,List.map_cons,List.sum_cons,List.map_cons,calls_cons,calls_lst,q1 a (hv a List.mem_cons_self),ih fun z hz=>hv z (List.mem_cons_of_mem _ hz)]
   rw [q2 as h2]
   show 1+(_+opens [endW])=_
   rw [show opens [endW]=0 from rfl]
   omega
theorem opensL_wt {M:List (Wd0 × Nat)} {c d:Nat} (hd:d≤100) : ∀ {l:List DD},(∀ v ∈ l,No M c d v)→opens (wtL 100 l)=callsL l
 | [],_=>by rw [calls_nil]; rfl
 | v :: r,hv=>by rw [wtL_cons,opens_app,calls_cons,opens_wt hd (hv v List.mem_cons_self),opensL_wt hd fun z hz=>hv z (List.mem_cons_of_mem _ hz)]
def clW (nm:Wd0) (as:List (List DD)) : List Wd0:=(91 :: nm) :: (barJoin (as.map (wtL 100))++[endW])
def Spl (S:List Sh) (c:Nat) (t:Nat) (W W':List Wd0) : Prop:=∃ (pre post:List Wd0) (nm:Wd0) (as:List (List DD)) (s:Sh),shF S (tx nm)=some s∧s.n=nm∧s ∈ S∧as.length=s.c∧(∀ a ∈ as,∀ y ∈ a,No (menuS S) c 60 y)∧W=pre++(clW nm as++post)∧opens pre=t∧W' = pre++(wtL 100 (fiL as 12 s.ns)++post)
theorem Spl.left {S:List Sh} {c t:Nat} {W W':List Wd0} (h:Spl S c t W W') (P:List Wd0) : Spl S c (opens P+t) (P++W) (P++W'):=by
 obtain ⟨pre,post,nm,as,s,h1,h2,h3,h4,h5,rfl,h6,rfl⟩:=h
 exact ⟨P++pre,post,nm,as,s,h1,h2,h3,h4,h5,by rw [List.append_assoc],by rw [opens_app,h6],by rw [List.append_assoc]⟩
theorem Spl.right {S:List Sh} {c t:Nat} {W W':List Wd0} (h:Spl S c t W W') (Q:List Wd0) : Spl S c t (W++Q) (W'++Q):=by
 obtain ⟨pre,post,nm,as,s,h1,h2,h3,h4,h5,rfl,h6,rfl⟩:=h
 exact ⟨pre,post++Q,nm,as,s,h1,h2,h3,h4,h5,by simp only [List.append_assoc],h6,by simp only [List.append_assoc]⟩
theorem split_node {S:List Sh} (h:ShX S) {c:Nat} : ∀ {d:Nat} {x:DD},d≤61→No (menuS S) c d x→∀ t:Nat,t < x.calls→Spl S c t (wtD 100 x) (wtL 100 (stD S d (t:Int) x))
 | d+1,x,hd,hx=>by
  intro t ht
  rcases hx.out with ⟨w,hw,rfl⟩ | ⟨k,h1,h2,rfl⟩ | ⟨nm,as,rfl,h1,h2⟩
  ·rw [calls_wd] at ht; omega
  ·rw [calls_pl] at ht; omega
  ·have h2s:∀ a ∈ as,∀ y ∈ a,Ns (menuS S) c d y:=fun a ha y hy=>(h2 a ha y hy).ns
   rw [calls_cl] at ht
   rw [wt_cl100 h2s (by omega)]
   by_cases h0:t=0
   ·subst h0
    obtain ⟨j,s,_,_,hs,e1,e2,hF⟩:=call_of (i:=S.length) h.nd (by rw [List.take_of_length_le (Nat.le_refl _)]; exact h1)
    rw [show ((0:Nat) : Int)=0 from rfl,st_cl0 hF]
    exact ⟨[],[],nm,as,s,hF,e1,hs,e2.symm,fun a ha y hy=>(h2 a ha y hy).up (fun _ h=>h) (by omega),by rw [List.append_nil]; rfl,rfl,by rw [List.append_nil]; rfl⟩
   ·rw [st_cl1 (by omega)]
    have q1:∀ (l:List DD) (t:Nat),(∀ v ∈ l,No (menuS S) c d v)→t < callsL l→Spl S c t (wtL 100 l) (wtL 100 (stL' (stD S d) (t:Int) l)):=fun l=>by
     induction l with
     | nil=>intro t _ ht; rw [calls_nil] at ht; omega
     | cons v r ih =>
      intro t hv ht
      rw [calls_cons] at ht
      have hv0:=hv v List.mem_cons_self
      have hvr:=fun z hz=>hv z (List.mem_cons_of_mem v hz)
      show Spl S c t (wtL 100 (v :: r)) (wtL 100 (stD S d (t:Int) v++stL' (stD S d) ((t:Int) - (v.calls:Int)) r))
      rw [wtL_cons,wtL_app]
      by_cases hl:t < v.calls
      ·rw [stL_off (fun z hz=>(hvr z hz).ns) (by omega)]
       exact (split_node h (by omega) hv0 t hl).right _
      ·rw [st_off hv0.ns _ (by omega),show ((t:Int) - (v.calls:Int))=((t - v.calls:Nat) : Int) by omega]
       have:=(ih (t - v.calls) hvr (by omega)).left (wtD 100 v)
       rw [opens_wt (by omega) hv0,show v.calls+(t - v.calls)=t by omega] at this
       have e:wtL 100 [v]=wtD 100 v:=by show wtD 100 v++[]=_; exact List.append_nil _
       rw [e]
       exact this
    have q2:∀ (as:List (List DD)) (t:Nat),(∀ a ∈ as,∀ v ∈ a,No (menuS S) c d v)→t < callsL (as.map DD.lst)→Spl S c t (barJoin (as.map (wtL 100))) (barJoin ((stA' (stD S d) (t:Int) as).map (wtL 100))):=fun as=>by
     induction as with
     | nil=>intro t _ ht; rw [List.map_nil,calls_nil] at ht; omega
     | cons a r ih =>
      intro t hv ht
      rw [List.map_cons,calls_cons,calls_lst] at ht
      have hva:=hv a List.mem_cons_self
      have hvr:∀ b ∈ r,∀ v ∈ b,No (menuS S) c d v:=fun b hb=>hv b (List.mem_cons_of_mem _ hb)
      show Spl S c t (barJoin (wtL 100 a :: r.map (wtL 100))) (barJoin (wtL 100 (stL' (stD S d) (t:Int) a) :: (stA' (stD S d) ((t:Int) - (callsL a:Int)) r).map (wtL 100)))
      by_cases hl:t < callsL a
      ·rw [stA_off (fun b hb z hz=>(hvr b hb z hz).ns) (by omega)]
       have q:=q1 a t hva hl
       cases r with
       | nil=>exact q
       | cons b r=>exact q.right (barW :: barJoin ((b :: r).map (wtL 100)))
      ·rw [stL_off (fun z hz=>(hva z hz).ns) (by omega),show ((t:Int) - (callsL a:Int))=((t - callsL a:Nat) : Int) by omega]
       have q:=(ih (t - callsL a) hvr (by omega)).left (wtL 100 a++[barW])
       rw [opens_app,opensL_wt (by omega) hva,show opens [barW]=0 from rfl,show callsL a+0+(t - callsL a)=t by omega,List.append_assoc,List.append_assoc] at q
       cases r with
       | nil=>rw [List.map_nil,calls_nil] at ht; omega
       | cons b r=>exact q
    have q:=q2 as (t - 1) h2 (by omega)
    have hst:∀ b ∈ stA' (stD S d) ((t:Int) - 1) as,∀ y ∈ b,Ns (menuS S) c (d+12) y:=fun b hb u hu=>by
     obtain ⟨a,ha,v,rfl⟩:=stA_mem hb
     obtain ⟨y,hy,v2,hu⟩:=stL_mem hu
     exact st_ns h (h2s a ha y hy) v2 u hu
    have e:wtL 100 [clD nm (stA' (stD S d) ((t:Int) - 1) as)]=(91 :: nm) :: (barJoin ((stA' (stD S d) ((t:Int) - 1) as).map (wtL 100))++[endW]):=by
     show wtD 100 _++[]=_
     rw [List.append_nil,wt_cl100 hst (by omega)]
    rw [e,show ((t:Int) - 1)=((t - 1:Nat) : Int) by omega]
    have:=(q.right [endW]).left [91 :: nm]
    rw [opens_cons,if_pos (by rfl),show opens []=0 from rfl,show 1+0+(t - 1)=t by omega] at this
    exact this
theorem split_list {S:List Sh} (h:ShX S) {c d:Nat} (hd:d≤60) : ∀ {l:List DD} {t:Nat},(∀ v ∈ l,No (menuS S) c d v)→t < callsL l→Spl S c t (wtL 100 l) (wtL 100 (stL S d (t:Int) l))
 | [],t,_,ht=>by rw [calls_nil] at ht; omega
 | v :: r,t,hv,ht=>by
  rw [calls_cons] at ht
  have hv0:=hv v List.mem_cons_self
  have hvr:=fun z hz=>hv z (List.mem_cons_of_mem v hz)
  show Spl S c t (wtL 100 (v :: r)) (wtL 100 (stD S d (t:Int) v++stL S d ((t:Int) - (v.calls:Int)) r))
  rw [wtL_cons,wtL_app]
  by_cases hl:t < v.calls
  ·have e:stL S d ((t:Int) - (v.calls:Int)) r=r:=stL_off (fun z hz=>(hvr z hz).ns) (by omega)
   rw [e]
   exact (split_node h (by omega) hv0 t hl).right _
  ·rw [st_off hv0.ns _ (by omega),show ((t:Int) - (v.calls:Int))=((t - v.calls:Nat) : Int) by omega]
   have:=(split_list h hd (t:=t - v.calls) hvr (by omega)).left (wtD 100 v)
   rw [opens_wt (by omega) hv0,show v.calls+(t - v.calls)=t by omega] at this
   have e:wtL 100 [v]=wtD 100 v:=by show wtD 100 v++[]=_; exact List.append_nil _
   rw [e]
   exact this
def subW (A:List (List Wd0)) : Wd0→List Wd0
 | 36 :: k :: _=>A.getD (k - 49) []
 | w=>[w]
theorem sub_own {A:List (List Wd0)} {c:Nat} {r:List Nat} (h:c≠36) : subW A (c :: r)=[c :: r]:=by
 unfold subW
 split
 ·rename_i e
  injection e with e1 _
  exact absurd e1 h
 ·rfl
theorem sub_pl {A:List (List Wd0)} {k:Nat} (h:1≤k) : subW A (placeW k)=A.getD (k - 1) []:=by
 show A.getD (48+k - 49) []=_
 rw [show 48+k - 49=k - 1 by omega]
theorem fm_app {f:Wd0→List Wd0} (l m:List Wd0) : (l++m).flatMap f=l.flatMap f++m.flatMap f:=List.flatMap_append
theorem fm_bj {A:List (List Wd0)} : ∀ ws:List (List Wd0),(barJoin ws).flatMap (subW A)=barJoin (ws.map fun w=>w.flatMap (subW A))
 | []=>rfl
 | [w]=>rfl
 | w :: y :: r=>by
  show (w++barW :: barJoin (y :: r)).flatMap (subW A)=w.flatMap (subW A)++barW :: barJoin ((y :: r).map fun w=>w.flatMap (subW A))
  rw [fm_app,List.flatMap_cons,fm_bj (y :: r)]
  rfl
theorem fill_wt {M M':List (Wd0 × Nat)} {c c' e:Nat} {A:List (List DD)} (hM:∀ x ∈ M,x ∈ M') (hA:∀ a ∈ A,∀ x ∈ a,No M' c' e x) (he:e≤61) : ∀ {d:Nat} {y:DD},d≤12→No M c d y→wtL 100 (fiD A d y)=(wtD 100 y).flatMap (subW (A.map (wtL 100)))
 | d+1,y,hd,h=>by
  rcases h.out with ⟨w,⟨c0,r,rfl,h36,_⟩,rfl⟩ | ⟨k,h1,h2,rfl⟩ | ⟨n,as,rfl,h1,h2⟩
  ·rw [fi_wd,wt_wd]
   show wtD 100 (wdD (c0 :: r))++[]=_
   rw [List.append_nil,wt_wd,List.flatMap_cons,sub_own h36]
   rfl
  ·rw [fi_pl,wt_pl]
   show _=subW _ (placeW k)++[]
   rw [List.append_nil,sub_pl h1,List.getD_eq_getElem?_getD,List.getD_eq_getElem?_getD,List.getElem?_map]
   cases A[k - 1]? <;> rfl
  ·have hf:∀ b ∈ as.map (fiL A d),∀ y ∈ b,Ns M' c' (d+e) y:=fun b hb u hu=>by
    obtain ⟨a,ha,rfl⟩:=List.mem_map.mp hb
    obtain ⟨v,hv,hu⟩:=fiL_mem hu
    exact (fi_no hM hA (h2 a ha v hv) u hu).ns
   rw [fi_cl]
   show wtD 100 (clD n (as.map (fiL A d)))++[]=_
   rw [List.append_nil,wt_cl100 hf (by omega),wt_cl100 (fun a ha y hy=>(h2 a ha y hy).ns) (by omega),List.flatMap_cons,fm_app,fm_bj,sub_own (by decide),List.map_map,List.map_map]
   have q1:∀ l:List DD,(∀ v ∈ l,No M c d v)→wtL 100 (fiL A d l)=(wtL 100 l).flatMap (subW (A.map (wtL 100))):=fun l=>by
    induction l with
    | nil=>intro _; rfl
    | cons v r ih =>
     intro hv
     show wtL 100 (fiD A d v++fiL A d r)=_
     rw [wtL_app,wtL_cons,fm_app,fill_wt hM hA he (by omega) (hv v List.mem_cons_self),ih fun z hz=>hv z (List.mem_cons_of_mem _ hz)]
   have e:as.map (wtL 100 ∘ fiL A d)=as.map ((fun w=>w.flatMap (subW (A.map (wtL 100)))) ∘ wtL 100):=List.map_congr_left fun a ha=>q1 a (h2 a ha)
   rw [e]
   rfl
theorem fillL_wt {M M':List (Wd0 × Nat)} {c c' e d:Nat} {A:List (List DD)} (hM:∀ x ∈ M,x ∈ M') (hA:∀ a ∈ A,∀ x ∈ a,No M' c' e x) (he:e≤61) (hd:d≤12) : ∀ {l:List DD},(∀ v ∈ l,No M c d v)→wtL 100 (fiL A d l)=(wtL 100 l).flatMap (subW (A.map (wtL 100)))
 | [],_=>rfl
 | v :: r,hv=>by
  show wtL 100 (fiD A d v++fiL A d r)=_
  rw [wtL_app,wtL_cons,fm_app,fill_wt hM hA he hd (hv v List.mem_cons_self),fillL_wt hM hA he hd fun z hz=>hv z (List.mem_cons_of_mem _ hz)]
structure Sc where
 dn:List (List Wd0)
 cu:List Wd0
 k:Nat
def nxS (s:Sc) (w:Wd0) : Sc:=⟨if s.k=0∧w=barW then s.dn++[s.cu] else s.dn,if s.k=0∧w=barW then [] else s.cu++[w],if w=endW then s.k - 1 else if isO w=true then s.k+1 else s.k⟩
def Runs:Sc→List Wd0→Sc→Prop
 | s,[],s'=>s=s'
 | s,w :: l,s'=>¬ (s.k=0∧w=endW)∧Runs (nxS s w) l s'
theorem Runs.app:∀ {l m:List Wd0} {s s1 s2:Sc},Runs s l s1→Runs s1 m s2→Runs s (l++m) s2
 | [],m,s,s1,s2,h1,h2=>by
  have h1:s=s1:=h1
  subst h1
  exact h2
 | w :: l,m,s,s1,s2,h1,h2=>⟨h1.1,Runs.app h1.2 h2⟩
theorem runs_own {s:Sc} {w:Wd0} (h1:w≠barW) (h2:w≠endW) (h3:isO w=false) : Runs s [w] ⟨s.dn,s.cu++[w],s.k⟩:=by
 refine ⟨fun z=>h2 z.2,?_⟩
 show nxS s w=_
 unfold nxS
 rw [if_neg fun z=>h1 z.2,if_neg fun z=>h1 z.2,if_neg h2,if_neg (by rw [h3]; exact Bool.false_ne_true)]
theorem runs_bj {k:Nat} (hk:1≤k) {dn:List (List Wd0)} : ∀ {ws:List (List Wd0)},(∀ w ∈ ws,∀ s:Sc,Runs s w ⟨s.dn,s.cu++w,s.k⟩)→∀ cu,Runs ⟨dn,cu,k⟩ (barJoin ws) ⟨dn,cu++barJoin ws,k⟩
 | [],_,cu=>by show Sc.mk dn cu k=Sc.mk dn (cu++[]) k; rw [List.append_nil]
 | [w],h,cu=>h w List.mem_cons_self ⟨dn,cu,k⟩
 | w :: y :: r,h,cu=>by
  have q1:=h w List.mem_cons_self ⟨dn,cu,k⟩
  have q3:=runs_bj hk (fun z hz=>h z (List.mem_cons_of_mem _ hz)) (dn:=dn) (ws:=y :: r) (cu++w++[barW])
  have q2:Runs ⟨dn,cu++w,k⟩ (barW :: barJoin (y :: r)) ⟨dn,cu++w++[barW]++barJoin (y :: r),k⟩:=by
   refine ⟨fun z=>absurd z.2 (by decide),?_⟩
   have e:nxS ⟨dn,cu++w,k⟩ barW=⟨dn,cu++w++[barW],k⟩:=by
    unfold nxS
    rw [if_neg fun z=>by have:=z.1; simp only at this; omega,if_neg fun z=>by have:=z.1; simp only at this; omega,if_neg (by decide),if_neg (by decide)]
   rw [e]
   exact q3
  have:=q1.app q2
  rw [List.append_assoc,List.append_assoc] at this
  exact this
theorem runs_node {M:List (Wd0 × Nat)} {c:Nat} : ∀ {d:Nat} {x:DD},d≤100→No M c d x→∀ s:Sc,Runs s (wtD 100 x) ⟨s.dn,s.cu++wtD 100 x,s.k⟩
 | d+1,x,hd,h=>by
  intro s
  rcases h.out with ⟨w,⟨c0,r,rfl,h36,h91,hb,he,_⟩,rfl⟩ | ⟨k,h1,h2,rfl⟩ | ⟨n,as,rfl,h1,h2⟩
  ·rw [wt_wd]
   refine runs_own hb he ?_
   show (some c0 == some 91)=false
   simpa using h91
  ·rw [wt_pl]
   exact runs_own (fun e=>by cases e) (fun e=>by cases e) rfl
  ·rw [wt_cl100 (fun a ha y hy=>(h2 a ha y hy).ns) (by omega)]
   have q1:∀ l:List DD,(∀ v ∈ l,No M c d v)→∀ s:Sc,Runs s (wtL 100 l) ⟨s.dn,s.cu++wtL 100 l,s.k⟩:=fun l=>by
    induction l with
    | nil=>intro _ s; show s=Sc.mk s.dn (s.cu++[]) s.k; rw [List.append_nil]
    | cons v r ih =>
     intro hv s
     have a1:=runs_node (by omega) (hv v List.mem_cons_self) s
     have a2:=ih (fun z hz=>hv z (List.mem_cons_of_mem _ hz)) ⟨s.dn,s.cu++wtD 100 v,s.k⟩
     have:=a1.app a2
     rw [List.append_assoc] at this
     exact this
   have q2:=runs_bj (k:=s.k+1) (by omega) (dn:=s.dn) (ws:=as.map (wtL 100)) (fun w hw=>by
    obtain ⟨a,ha,rfl⟩:=List.mem_map.mp hw
    exact q1 a (h2 a ha)) (s.cu++[91 :: n])
   refine ⟨fun z=>absurd z.2 (by unfold endW; intro e; injection e with e _; exact absurd e (by decide)),?_⟩
   have nb:(91 :: n:Wd0)≠barW:=by unfold barW; intro e; injection e with e _; exact absurd e (by decide)
   have ne:(91 :: n:Wd0)≠endW:=by unfold endW; intro e; injection e with e _; exact absurd e (by decide)
   have e:nxS s (91 :: n)=⟨s.dn,s.cu++[91 :: n],s.k+1⟩:=by
    unfold nxS
    rw [if_neg fun z=>nb z.2,if_neg fun z=>nb z.2,if_neg ne,if_pos (by rfl)]
   rw [e]
   refine q2.app ⟨fun z=>by have:=z.1; simp only at this; omega,?_⟩
   show nxS _ endW=_
   unfold nxS
   rw [if_neg fun z=>absurd z.2 (by decide),if_neg fun z=>absurd z.2 (by decide),if_pos rfl]
   simp
theorem runsL {M:List (Wd0 × Nat)} {c d:Nat} (hd:d≤100) : ∀ {l:List DD},(∀ v ∈ l,No M c d v)→∀ s:Sc,Runs s (wtL 100 l) ⟨s.dn,s.cu++wtL 100 l,s.k⟩
 | [],_,s=>by show s=Sc.mk s.dn (s.cu++[]) s.k; rw [List.append_nil]
 | v :: r,hv,s=>by
  have:=(runs_node hd (hv v List.mem_cons_self) s).app (runsL hd (l:=r) (fun z hz=>hv z (List.mem_cons_of_mem _ hz)) ⟨s.dn,s.cu++wtD 100 v,s.k⟩)
  rw [List.append_assoc] at this
  exact this
def argW (ws:List (List Wd0)) : List (List Wd0):=if ws=[] then [[]] else ws
theorem runs_top:∀ {ws:List (List Wd0)},(∀ w ∈ ws,∀ s:Sc,Runs s w ⟨s.dn,s.cu++w,s.k⟩)→∀ dn,∃ s',Runs ⟨dn,[],0⟩ (barJoin ws) s'∧s'.k=0∧s'.dn++[s'.cu]=dn++argW ws
 | [],_,dn=>⟨⟨dn,[],0⟩,rfl,rfl,rfl⟩
 | [w],h,dn=>⟨_,h w List.mem_cons_self ⟨dn,[],0⟩,rfl,rfl⟩
 | w :: y :: r,h,dn=>by
  obtain ⟨s',h1,h2,h3⟩:=runs_top (ws:=y :: r) (fun z hz=>h z (List.mem_cons_of_mem _ hz)) (dn++[w])
  have q1:=h w List.mem_cons_self ⟨dn,[],0⟩
  have q2:Runs ⟨dn,[]++w,0⟩ (barW :: barJoin (y :: r)) s':=by
   refine ⟨fun z=>absurd z.2 (by decide),?_⟩
   have e:nxS ⟨dn,[]++w,0⟩ barW=⟨dn++[w],[],0⟩:=by
    unfold nxS
    rw [if_pos ⟨rfl,rfl⟩,if_pos ⟨rfl,rfl⟩,if_neg (by decide),if_neg (by decide)]
    rfl
   rw [e]
   exact h1
  refine ⟨s',q1.app q2,h2,?_⟩
  rw [h3,List.append_assoc]
  rfl

theorem mu_st {S:List Sh} (h:ShX S) (hm:∀ s ∈ S,muL s.ns≤780) {c:Nat} : ∀ {d:Nat} {x:DD},Ns (menuS S) c d x→muD x≤300→∀ t:Int,muL (stD S d t x)≤muD x+121000
 | d+1,x,hx,hl=>by
  intro t
  rcases hx.out with ⟨w,rfl⟩ | ⟨k,h1,h2,rfl⟩ | ⟨nm,as,rfl,h1,h2⟩
  ·rw [st_wd,muL_one]; exact Nat.le_add_right _ _
  ·rw [st_pl,muL_one]; exact Nat.le_add_right _ _
  ·obtain ⟨j,s,_,_,hs,e1,e2,hF⟩:=call_of (i:=S.length) h.nd (by rw [List.take_of_length_le (Nat.le_refl _)]; exact h1)
   rw [mu_cl] at hl ⊢
   by_cases ht:t=0
   ·subst ht
    rw [st_cl0 hF]
    have hA:∀ a ∈ as,muL a≤300:=fun a ha=>by
     have q:=mu_mem (List.mem_map.mpr ⟨a,ha,rfl⟩ : DD.lst a ∈ as.map DD.lst)
     rw [mu_lst] at q
     omega
    have q:=muL_fl hA (l:=s.ns) fun v hv=>(body48 h hs v hv).2
    have h5:=lv_body h hs
    have h6:=hm s hs
    have:lvL s.ns * 300≤400 * 300:=Nat.mul_le_mul_right 300 h5
    omega
   ·rw [st_cl1 ht,muL_one,mu_cl]
    have q1:∀ (l:List DD) (t:Int),(∀ v ∈ l,Ns (menuS S) c d v∧muD v≤300)→muL (stL' (stD S d) t l)≤muL l+121000:=fun l=>by
     induction l with
     | nil=>intro t _; show muL []≤_; rw [muL_nil]; exact Nat.zero_le _
     | cons v r ih =>
      intro t hv
      have hvr:=fun z hz=>hv z (List.mem_cons_of_mem v hz)
      show muL (stD S d t v++stL' (stD S d) (t - (v.calls:Int)) r)≤_
      rw [muL_app,muL_cons]
      by_cases z:t < (v.calls:Int)
      ·have a2:=mu_st h hm (hv v List.mem_cons_self).1 (hv v List.mem_cons_self).2 t
       rw [stL_off (fun z hz=>(hvr z hz).1) (.inl (by omega))]
       omega
      ·have a1:=ih (t - (v.calls:Int)) hvr
       rw [st_off (hv v List.mem_cons_self).1 t (.inr (by omega)),muL_one]
       omega
    have q2:∀ (as:List (List DD)) (t:Int),(∀ a ∈ as,∀ v ∈ a,Ns (menuS S) c d v∧muD v≤300)→muL ((stA' (stD S d) t as).map DD.lst)≤muL (as.map DD.lst)+121000:=fun as=>by
     induction as with
     | nil=>intro t _; show muL []≤_; rw [muL_nil]; exact Nat.zero_le _
     | cons a r ih =>
      intro t hv
      have hvr:=fun z hz=>hv z (List.mem_cons_of_mem a hz)
      show muL (DD.lst (stL' (stD S d) t a) :: (stA' (stD S d) (t - (callsL a:Int)) r).map DD.lst)≤_
      rw [muL_cons,mu_lst,List.map_cons,muL_cons,mu_lst]
      by_cases z:t < (callsL a:Int)
      ·have a2:=q1 a t (hv a List.mem_cons_self)
       rw [stA_off (fun b hb z hz=>(hvr b hb z hz).1) (.inl (by omega))]
       omega
      ·have a1:=ih (t - (callsL a:Int)) hvr
       rw [stL_off (fun z hz=>(hv a List.mem_cons_self z hz).1) (.inr (by omega))]
       omega
    have:=q2 as (t - 1) fun a ha v hv=>⟨h2 a ha v hv,by
     have q:=mu_mem (List.mem_map.mpr ⟨a,ha,rfl⟩ : DD.lst a ∈ as.map DD.lst)
     rw [mu_lst] at q
     have:=mu_mem hv
     omega⟩
    omega
theorem muL_st {S:List Sh} (h:ShX S) (hm:∀ s ∈ S,muL s.ns≤780) {c d:Nat} : ∀ {l:List DD} {t:Int},(∀ v ∈ l,Ns (menuS S) c d v∧muD v≤300)→muL (stL S d t l)≤muL l+121000
 | [],t,_=>by show muL []≤_; rw [muL_nil]; exact Nat.zero_le _
 | v :: r,t,hv=>by
  have hvr:=fun z hz=>hv z (List.mem_cons_of_mem v hz)
  show muL (stD S d t v++stL S d (t - (v.calls:Int)) r)≤_
  rw [muL_app,muL_cons]
  by_cases z:t < (v.calls:Int)
  ·have a2:=mu_st h hm (hv v List.mem_cons_self).1 (hv v List.mem_cons_self).2 t
   have e:stL S d (t - (v.calls:Int)) r=r:=stL_off (fun z hz=>(hvr z hz).1) (.inl (by omega))
   rw [e]
   omega
  ·have a1:=muL_st h hm (l:=r) (t:=t - (v.calls:Int)) hvr
   rw [st_off (hv v List.mem_cons_self).1 t (.inr (by omega)),muL_one]
   omega
theorem wt_ge {M:List (Wd0 × Nat)} {c:Nat} : ∀ {d:Nat} {x:DD},d≤100→Ns M c d x→x.lv+2 * x.calls≤(wtD 100 x).length
 | d+1,x,hd,h=>by
  rcases h.out with ⟨w,rfl⟩ | ⟨k,h1,h2,rfl⟩ | ⟨nm,as,rfl,h1,h2⟩
  ·rw [lv_wd,calls_wd,wt_wd]; exact Nat.le_refl _
  ·rw [lv_pl,calls_pl,wt_pl]; exact Nat.le_refl _
  ·rw [lv_cl,calls_cl,wt_cl100 h2 (by omega),List.length_cons,List.length_append,List.length_singleton]
   have q1:∀ l:List DD,(∀ v ∈ l,Ns M c d v)→lvL l+2 * callsL l≤(wtL 100 l).length:=fun l=>by
    induction l with
    | nil=>intro _; rw [lv_nil,calls_nil]; exact Nat.zero_le _
    | cons v r ih =>
     intro hv
     have a1:=ih fun z hz=>hv z (List.mem_cons_of_mem _ hz)
     have a2:=wt_ge (by omega) (hv v List.mem_cons_self)
     rw [calls_cons,lv_cons,wtL_cons,List.length_append]
     omega
   have q2:∀ as:List (List DD),(∀ a ∈ as,∀ v ∈ a,Ns M c d v)→lvL (as.map DD.lst)+2 * callsL (as.map DD.lst)≤(barJoin (as.map (wtL 100))).length:=fun as=>by
    induction as with
    | nil=>intro _; rw [List.map_nil,lv_nil,calls_nil]; exact Nat.zero_le _
    | cons a r ih =>
     intro hv
     have a1:=ih fun z hz=>hv z (List.mem_cons_of_mem _ hz)
     have a2:=q1 a (hv a List.mem_cons_self)
     rw [List.map_cons,calls_cons,lv_cons,calls_lst,lv_lst]
     cases r with
     | nil =>
      rw [List.map_nil,lv_nil,calls_nil]
      show _≤(wtL 100 a).length
      omega
     | cons b r =>
      show _≤(wtL 100 a++barW :: barJoin ((b :: r).map (wtL 100))).length
      rw [List.length_append,List.length_cons]
      omega
   have:=q2 as h2
   omega
theorem wtL_ge {M:List (Wd0 × Nat)} {c d:Nat} (hd:d≤100) : ∀ {l:List DD},(∀ v ∈ l,Ns M c d v)→lvL l+2 * callsL l≤(wtL 100 l).length
 | [],_=>by rw [lv_nil,calls_nil]; exact Nat.zero_le _
 | v :: r,hv=>by
  have a1:=wtL_ge hd (l:=r) fun z hz=>hv z (List.mem_cons_of_mem _ hz)
  have a2:=wt_ge hd (hv v List.mem_cons_self)
  rw [calls_cons,lv_cons,wtL_cons,List.length_append]
  omega

theorem mu_wt {M:List (Wd0 × Nat)} {c:Nat} : ∀ {d:Nat} {x:DD},d≤100→Ns M c d x→muD x≤(wtD 100 x).length+x.calls
 | d+1,x,hd,h=>by
  rcases h.out with ⟨w,rfl⟩ | ⟨k,h1,h2,rfl⟩ | ⟨nm,as,rfl,h1,h2⟩
  ·rw [mu_wd,calls_wd,wt_wd]; exact Nat.le_refl _
  ·rw [mu_pl,calls_pl,wt_pl]; exact Nat.le_refl _
  ·rw [mu_cl,calls_cl,wt_cl100 h2 (by omega),List.length_cons,List.length_append,List.length_singleton]
   have q1:∀ l:List DD,(∀ v ∈ l,Ns M c d v)→muL l≤(wtL 100 l).length+callsL l:=fun l=>by
    induction l with
    | nil=>intro _; rw [muL_nil]; exact Nat.zero_le _
    | cons v r ih =>
     intro hv
     have a1:=ih fun z hz=>hv z (List.mem_cons_of_mem _ hz)
     have a2:=mu_wt (by omega) (hv v List.mem_cons_self)
     rw [calls_cons,muL_cons,wtL_cons,List.length_append]
     omega
   have q2:∀ as:List (List DD),(∀ a ∈ as,∀ v ∈ a,Ns M c d v)→muL (as.map DD.lst)≤(barJoin (as.map (wtL 100))).length+1+callsL (as.map DD.lst):=fun as=>by
    induction as with
    | nil=>intro _; rw [List.map_nil,muL_nil]; exact Nat.zero_le _
    | cons a r ih =>
     intro hv
     have a1:=ih fun z hz=>hv z (List.mem_cons_of_mem _ hz)
     have a2:=q1 a (hv a List.mem_cons_self)
     rw [List.map_cons,calls_cons,muL_cons,calls_lst,mu_lst]
     cases r with
     | nil =>
      rw [List.map_nil,muL_nil,calls_nil]
      show _≤(wtL 100 a).length+1+_
      omega
     | cons b r =>
      show _≤(wtL 100 a++barW :: barJoin ((b :: r).map (wtL 100))).length+1+_
      rw [List.length_append,List.length_cons]
      omega
   have:=q2 as h2
   omega
theorem muL_wt {M:List (Wd0 × Nat)} {c d:Nat} (hd:d≤100) : ∀ {l:List DD},(∀ v ∈ l,Ns M c d v)→muL l≤(wtL 100 l).length+callsL l
 | [],_=>by rw [muL_nil]; exact Nat.zero_le _
 | v :: r,hv=>by
  have a1:=muL_wt hd (l:=r) fun z hz=>hv z (List.mem_cons_of_mem _ hz)
  have a2:=mu_wt hd (hv v List.mem_cons_self)
  rw [calls_cons,muL_cons,wtL_cons,List.length_append]
  omega

def Tk (w:Wd0) : Prop:=(∃ c r,w=c :: r)∧w.length≤1000
theorem tk_bj {P:Wd0→Prop} (hb:P barW) : ∀ {ws:List (List Wd0)},(∀ w ∈ ws,∀ v ∈ w,P v)→∀ v ∈ barJoin ws,P v
 | [],_,v,hv=>by cases hv
 | [w],h,v,hv=>h w List.mem_cons_self v hv
 | w :: y :: r,h,v,hv=>by
  rcases List.mem_append.mp (show v ∈ w++barW :: barJoin (y :: r) from hv) with hv | hv
  ·exact h w List.mem_cons_self v hv
  ·rcases List.mem_cons.mp hv with rfl | hv
   ·exact hb
   ·exact tk_bj hb (fun z hz=>h z (List.mem_cons_of_mem _ hz)) v hv
theorem tk_bar:Tk barW:=⟨⟨_,_,rfl⟩,by decide⟩
theorem tk_end:Tk endW:=⟨⟨_,_,rfl⟩,by decide⟩
theorem tk_wt {M:List (Wd0 × Nat)} (h12:∀ m ∈ M,m.1.length≤12) {c:Nat} : ∀ {d:Nat} {x:DD},d≤100→No M c d x→∀ w ∈ wtD 100 x,Tk w
 | d+1,x,hd,h=>by
  intro v hv
  rcases h.out with ⟨w,⟨c0,r,rfl,_,_,_,_,hl⟩,rfl⟩ | ⟨k,h1,h2,rfl⟩ | ⟨n,as,rfl,h1,h2⟩
  ·rw [wt_wd] at hv
   rw [List.mem_singleton.mp hv]
   exact ⟨⟨_,_,rfl⟩,hl⟩
  ·rw [wt_pl] at hv
   rw [List.mem_singleton.mp hv]
   exact ⟨⟨_,_,rfl⟩,by show 2≤1000; decide⟩
  ·rw [wt_cl100 (fun a ha y hy=>(h2 a ha y hy).ns) (by omega)] at hv
   rcases List.mem_cons.mp hv with rfl | hv
   ·exact ⟨⟨_,_,rfl⟩,by have:n.length≤12:=h12 _ h1; rw [List.length_cons]; omega⟩
   ·rcases List.mem_append.mp hv with hv | hv
    ·refine tk_bj tk_bar (fun w hw u hu=>?_) v hv
     obtain ⟨a,ha,rfl⟩:=List.mem_map.mp hw
     unfold wtL at hu
     obtain ⟨l,hl,hu⟩:=List.mem_flatten.mp hu
     obtain ⟨y,hy,rfl⟩:=List.mem_map.mp hl
     exact tk_wt h12 (by omega) (h2 a ha y hy) u hu
    ·rw [List.mem_singleton.mp hv]; exact tk_end
theorem tkL {M:List (Wd0 × Nat)} (h12:∀ m ∈ M,m.1.length≤12) {c d:Nat} (hd:d≤100) {l:List DD} (h:∀ v ∈ l,No M c d v) : ∀ w ∈ wtL 100 l,Tk w:=fun w hw=>by
 unfold wtL at hw
 obtain ⟨q,hq,hw⟩:=List.mem_flatten.mp hw
 obtain ⟨y,hy,rfl⟩:=List.mem_map.mp hq
 exact tk_wt h12 hd (h y hy) w hw
theorem chr_eq {c k:Nat} {z:Str} (h:z=tx [k]) : decide (V.str ⟨#[c]⟩=V.str z)=decide (c=k):=by
 have e:(⟨#[c]⟩ : Str)=tx [c]:=rfl
 rw [h,e]
 by_cases q:c=k
 ·rw [q,decide_eq_true rfl,decide_eq_true rfl]
 ·rw [decide_eq_false q,decide_eq_false fun z=>q (by have:=tx_inj (V.str.inj z); injection this)]
theorem tok_eq {w k:Wd0} {z:Str} (h:z=tx k) : decide (V.str (tx w)=V.str z)=decide (w=k):=by
 rw [h]
 by_cases q:w=k
 ·rw [q,decide_eq_true rfl,decide_eq_true rfl]
 ·rw [decide_eq_false q,decide_eq_false fun z=>q (tx_inj (V.str.inj z))]
theorem cX91:(PySem.Str.ofString "[")=tx [91]:=by decide +kernel
theorem cX93:(PySem.Str.ofString "]")=tx endW:=by decide +kernel
theorem cX124:(PySem.Str.ofString "|")=tx barW:=by decide +kernel
theorem cX36:(PySem.Str.ofString "$")=tx [36]:=by decide +kernel
theorem at_tok {l:List Wd0} {i:Nat} {w:Wd0} (h:l[i]? = some w) : atI ((l.map tx).map V.str) (i:Int)=some (V.str (tx w)):=atI_nat (by rw [List.getElem?_map,List.getElem?_map,h]; rfl)
theorem at_chr {c:Nat} {r:List Nat} : atI (tx (c :: r)).cps.toList 0=some c:=by
 show atI (unT (tx (c :: r))) 0=some c
 rw [unT_tx]
 exact atI_nat (j:=0) rfl
def AtL (G:Hp) (bs:List Addr) (ws:List (List Wd0)) : Prop:=bs.length=ws.length∧∀ (i:Nat) b w,bs[i]? = some b→ws[i]? = some w→G b=some (.lst ((w.map tx).map V.str))
theorem AtL.keep {G G2:Hp} {bs:List Addr} {ws:List (List Wd0)} (h:AtL G bs ws) (u:Same G G2) : AtL G2 bs ws:=⟨h.1,fun i b w e1 e2=>u _ _ (h.2 i b w e1 e2)⟩
theorem AtL.split {G:Hp} {bs:List Addr} {dn:List (List Wd0)} {cu:List Wd0} (h:AtL G bs (dn++[cu])) : ∃ b0 b,bs=b0++[b]∧b0.length=dn.length∧G b=some (.lst ((cu.map tx).map V.str))∧∀ (i:Nat) b w,b0[i]? = some b→dn[i]? = some w→G b=some (.lst ((w.map tx).map V.str)):=by
 have hl:=h.1
 rw [List.length_append,List.length_singleton] at hl
 rcases List.eq_nil_or_concat bs with rfl | ⟨b0,b,rfl⟩
 ·simp at hl
 ·rw [List.concat_eq_append,List.length_append,List.length_singleton] at hl
  have hl0:b0.length=dn.length:=by omega
  refine ⟨b0,b,List.concat_eq_append ..,hl0,h.2 dn.length b cu ?_ ?_,fun i b' w e1 e2=>?_⟩
  ·rw [List.concat_eq_append,← hl0,List.getElem?_append_right (Nat.le_refl _),Nat.sub_self]; rfl
  ·rw [List.getElem?_append_right (Nat.le_refl _),Nat.sub_self]; rfl
  ·have h1:=(List.getElem?_eq_some_iff.mp e1).1
   have h2:=(List.getElem?_eq_some_iff.mp e2).1
   exact h.2 i b' w (by rw [List.concat_eq_append,List.getElem?_append_left h1]; exact e1) (by rw [List.getElem?_append_left h2]; exact e2)

theorem iteOr {b1:Bool} {X Y T2:Prop} (hx:X) (h2:b1=false→X→T2) : if b1=true then (if true=true then X else Y) else T2:=by
 cases b1 with
 | true=>rw [if_pos rfl,if_pos rfl]; exact hx
 | false=>rw [if_neg Bool.false_ne_true]; exact h2 rfl hx
theorem AtL.push {G:Hp} {b0:List Addr} {b:Addr} {dn:List (List Wd0)} {cu:List Wd0} {w:Wd0} (h:AtL G (b0++[b]) (dn++[cu])) (nd:(b0++[b]).Nodup) : AtL (upd G b (.lst ((cu.map tx).map V.str++[V.str (tx w)]))) (b0++[b]) (dn++[cu++[w]]):=by
 have hl:=h.1
 simp only [List.length_append,List.length_singleton] at hl
 refine ⟨by simp only [List.length_append,List.length_singleton]; omega,fun i b' w' e1 e2=>?_⟩
 by_cases hi:i < b0.length
 ·have hb:b'≠b:=fun e=>by
   rw [List.getElem?_append_left hi] at e1
   have:=List.mem_of_getElem? e1
   rw [e] at this
   exact absurd rfl ((List.nodup_append.mp nd).2.2 b this b List.mem_cons_self)
  rw [upd_ne hb]
  rw [List.getElem?_append_left (by omega)] at e2
  exact h.2 i b' w' e1 (by rw [List.getElem?_append_left (by omega)]; exact e2)
 ·have h1:=(List.getElem?_eq_some_iff.mp e1).1
  rw [List.length_append,List.length_singleton] at h1
  have e0:i=b0.length:=by omega
  subst e0
  rw [List.getElem?_append_right (Nat.le_refl _),Nat.sub_self] at e1
  rw [show b0.length=dn.length by omega,List.getElem?_append_right (Nat.le_refl _),Nat.sub_self] at e2
  have e1:b=b':=Option.some.inj e1
  have e2:cu++[w]=w':=Option.some.inj e2
  rw [← e1,← e2,upd_same,List.map_append,List.map_append]
  rfl
theorem AtL.more {G G2:Hp} {bs:List Addr} {ws:List (List Wd0)} {p:Addr} (h:AtL G bs ws) (u:∀ b ∈ bs,∀ o,G b=some o→G2 b=some o) (hp:G2 p=some (.lst [])) : AtL G2 (bs++[p]) (ws++[[]]):=by
 have hl:=h.1
 refine ⟨by simp only [List.length_append,List.length_singleton]; omega,fun i b' w' e1 e2=>?_⟩
 by_cases hi:i < bs.length
 ·rw [List.getElem?_append_left hi] at e1
  rw [List.getElem?_append_left (by omega)] at e2
  exact u b' (List.mem_of_getElem? e1) _ (h.2 i b' w' e1 e2)
 ·have h1:=(List.getElem?_eq_some_iff.mp e1).1
  rw [List.length_append,List.length_singleton] at h1
  have e0:i=bs.length:=by omega
  subst e0
  rw [List.getElem?_append_right (Nat.le_refl _),Nat.sub_self] at e1
  rw [hl,List.getElem?_append_right (Nat.le_refl _),Nat.sub_self] at e2
  have e1:p=b':=Option.some.inj e1
  have e2:[]=w':=Option.some.inj e2
  rw [← e1,← e2]
  exact hp

def TB (c:Nat) (w:Wd0) : Prop:=(∃ j,1≤j∧j≤c∧w=placeW j)∨∃ ch r,w=ch :: r∧ch≠36
theorem tb_wt {M:List (Wd0 × Nat)} {c:Nat} : ∀ {d:Nat} {x:DD},d≤100→No M c d x→∀ w ∈ wtD 100 x,TB c w
 | d+1,x,hd,h=>by
  intro v hv
  rcases h.out with ⟨w,⟨c0,r,rfl,h36,_⟩,rfl⟩ | ⟨k,h1,h2,rfl⟩ | ⟨n,as,rfl,h1,h2⟩
  ·rw [wt_wd] at hv
   rw [List.mem_singleton.mp hv]
   exact .inr ⟨c0,r,rfl,h36⟩
  ·rw [wt_pl] at hv
   rw [List.mem_singleton.mp hv]
   exact .inl ⟨k,h1,h2,rfl⟩
  ·rw [wt_cl100 (fun a ha y hy=>(h2 a ha y hy).ns) (by omega)] at hv
   rcases List.mem_cons.mp hv with rfl | hv
   ·exact .inr ⟨_,_,rfl,by decide⟩
   ·rcases List.mem_append.mp hv with hv | hv
    ·refine tk_bj (.inr ⟨_,_,rfl,by decide⟩) (fun w hw u hu=>?_) v hv
     obtain ⟨a,ha,rfl⟩:=List.mem_map.mp hw
     unfold wtL at hu
     obtain ⟨l,hl,hu⟩:=List.mem_flatten.mp hu
     obtain ⟨y,hy,rfl⟩:=List.mem_map.mp hl
     exact tb_wt (by omega) (h2 a ha y hy) u hu
    ·rw [List.mem_singleton.mp hv]; exact .inr ⟨_,_,rfl,by decide⟩
theorem find_figX:∀ j:Nat,j < 10→Txt.find (PySem.Str.ofString "0123456789") ⟨#[48+j]⟩=(j:Int):=by decide +kernel
theorem br_app (n:Wd0) : (PySem.Str.ofString "[")++tx n=tx (91 :: n):=by rw [cX91,tx_app]; rfl
theorem fm_len {f:Wd0→List Wd0} (l:List Wd0) (k:Nat) : ((l.take k).flatMap f).length≤(l.flatMap f).length:=by
 conv=>rhs; rw [← List.take_append_drop k l]
 rw [fm_app,List.length_append]
 omega
theorem sh_out {K:PySem.W.Frag} {H:Hp} {s:Sh} {v:V} (h:Rep K H (shD s) v) : ∃ a nv rv,v = .ref a∧SqT K H a [.str (tx s.n),.int (s.c:Int),nv,rv,.int s.k]∧Rep K H (.lst s.ns) nv∧Rep K H (.lst (s.r.map DD.int)) rv:=by
 obtain ⟨a,zs,rfl,st,_,rz⟩:=h.tupO
 unfold Reps at rz
 obtain ⟨z0,r0,rfl,y0,rz⟩:=rz
 unfold Reps at rz
 obtain ⟨z1,r1,rfl,y1,rz⟩:=rz
 obtain ⟨z2,z3,z4,rfl,y2,y3,y4⟩:=Reps.three rz
 rw [y0.strO,y1.intO,y4.intO] at st
 exact ⟨a,z2,z3,rfl,st,y2,y3⟩
theorem sh_no {S:List Sh} (h:ShOk S) : ∀ s ∈ S,∀ y ∈ s.ns,No (menuS S) s.c 12 y:=fun s hs y hy=>by
 obtain ⟨j,hj⟩:=List.getElem?_of_mem hs
 exact (no_of (h.x.ord j s hj y hy) (h.wf s hs y hy)).up menuS_take (Nat.le_refl _)

theorem erG_sub {H G G5:Hp} (s:Same H G) : Same (erG G G5 []) (erG H G5 []):=fun b o h=>erG_get (s.free (erG_of h).1.2) (by simp) (erG_of h).2
theorem flat_strX (l:List Wd0) : ((l.map tx).map V.str).all flatV=true:=List.all_eq_true.mpr fun x hx=>by
 obtain ⟨i,_,rfl⟩:=List.mem_map.mp hx
 rfl
theorem m10_of {S:List Sh} (h:ShOk S) : ∀ m ∈ menuS S,m.2≤10:=fun m hm=>((mok_of h).2 m hm).2.2
theorem sh_deep {S:List Sh} (h:ShOk S) : (DD.lst (S.map shD)).deep≤42:=by
 have:deeps (S.map shD)≤41:=deeps_le fun x hx=>by
  obtain ⟨s,hs,rfl⟩:=List.mem_map.mp hx
  obtain ⟨_,M,hM⟩:=h.nod s hs
  have h1:deeps s.ns≤36:=deeps_le fun x hx=>(hM x hx).deep
  have h2:deeps (s.r.map DD.int)≤0:=deeps_le fun x hx=>by
   obtain ⟨i,_,rfl⟩:=List.mem_map.mp hx
   exact Nat.le_refl _
  simp [shD,DD.deep,deeps]
  omega
 simp [DD.deep]
 omega
theorem nd_deep {M:List (Wd0 × Nat)} {c d:Nat} {xs:List DD} (h:∀ x ∈ xs,Nd M c d x) (hd:d≤48) : (DD.lst xs).deep≤150:=by
 have:=deeps_le (k:=144) (l:=xs) fun x hx=>Nat.le_trans (h x hx).deep (by omega)
 simp [DD.deep]
 omega
theorem step15 {S:List Sh} (h:ShOk S) {c:Nat} {xs:List DD} (hx:∀ x ∈ xs,No (menuS S) c 36 x) (hm:muL xs≤300) (t:Int) : (∀ z ∈ stL S 36 t xs,No (menuS S) c 48 z)∧(∀ z ∈ stL S 36 t xs,Nd (menuS S) c 48 z)∧muL (stL S 36 t xs)≤121300∧(stL S 36 t xs).length≤121300∧callsL (stL S 36 t xs)≤60650∧(wtL 100 (stL S 36 t xs)).length≤121300:=by
 have hz:∀ z ∈ stL S 36 t xs,No (menuS S) c 48 z:=fun z hz=>by
  obtain ⟨x,hm,u,hu⟩:=stL_mem hz
  exact st_no h.x (sh_no h) (hx x hm) u z hu
 have hmu:=muL_st h.x h.mu (t:=t) (d:=36) (c:=c) (l:=xs) fun v hv=>⟨(hx v hv).ns,by have:=mu_mem hv; omega⟩
 have hlv:=lvL_mu fun z hm=>(hz z hm).ns
 have hl:=len_lv fun z hm=>(hz z hm).ns
 have hnd:∀ z ∈ stL S 36 t xs,Nd (menuS S) c 48 z:=fun z hm=>(hz z hm).ns.nd (by have:=lv_mem hm; omega)
 refine ⟨hz,hnd,by omega,by omega,by omega,?_⟩
 have:=wtL_len hnd
 rw [wtL_up (e:=100) (fun z hm=>(hz z hm).ns) (by decide)]
 omega
theorem cut_per {m per:Nat} {ns:List Int} : (cutL ns (some (1+(m:Int) * (per:Int))) (some (1+((m:Int)+1) * (per:Int)))).length≤per:=by
 have e1:(1+(m:Int) * (per:Int))=((1+m * per:Nat) : Int):=by rw [Int.natCast_add,Int.natCast_mul]; rfl
 have e2:(1+((m:Int)+1) * (per:Int))=((1+m * per+per:Nat) : Int):=by rw [Int.add_mul,Int.one_mul,Int.natCast_add,Int.natCast_add,Int.natCast_mul]; omega
 unfold cutL
 rw [e1,e2,HT.sIx_nat,HT.sIx_nat,List.length_take,List.length_drop]
 omega
theorem pick4 (n:Nat) (h:n < 4) : ∃ c:Nat,[V.int 0,V.int 0,V.int 1,V.int 3][n]? = some (V.int (c:Int))∧c≤3:=by
 match n,h with
 | 0,_=>exact ⟨0,rfl,by decide⟩
 | 1,_=>exact ⟨0,rfl,by decide⟩
 | 2,_=>exact ⟨1,rfl,by decide⟩
 | 3,_=>exact ⟨3,rfl,by decide⟩
theorem strNe6:¬ V.str (PySem.Str.ofString "word")=V.str (PySem.Str.ofString "place"):=fun z=>absurd (V.str.inj z) (by decide +kernel)

def ln (H:Hp) (b:Addr) : Nat:=match H b with
 | some (.lst o)=>o.length
 | _=>0
theorem ln_of {H:Hp} {b:Addr} {o:List V} (h:H b=some (.lst o)) : ln H b=o.length:=by unfold ln; rw [h]
end K15
namespace K15
open PySem PySem.Spec L2 Tl

noncomputable abbrev s_l_lists:Stmt:=top 22
noncomputable abbrev s_l_apart:Stmt:=top 23
noncomputable abbrev s_l_cell_at:Stmt:=top 10
noncomputable abbrev s_l_copy:Stmt:=top 12
noncomputable abbrev s_l_draw:Stmt:=top 11
noncomputable abbrev s_l_ends:Stmt:=top 24
noncomputable abbrev s_l_written:Stmt:=top 20
noncomputable abbrev s_l_exchanged:Stmt:=top 25
noncomputable abbrev s_l_end_argument:Stmt:=top 15
noncomputable abbrev s_l_word_by:Stmt:=top 14
noncomputable abbrev s_l_nodes:Stmt:=top 16
noncomputable abbrev s_l_names:Stmt:=top 13
noncomputable abbrev s_l_size:Stmt:=top 17
noncomputable abbrev s_l_short:Stmt:=top 18
noncomputable abbrev s_l_shorts:Stmt:=top 19
noncomputable abbrev s_l_sound:Stmt:=top 21
noncomputable abbrev s_by_name:Stmt:=top 5
noncomputable abbrev s_calls_in:Stmt:=top 2
noncomputable abbrev s_arguments_stepped:Stmt:=top 7
noncomputable abbrev s_copied:Stmt:=top 1
noncomputable abbrev s_filled:Stmt:=top 8
noncomputable abbrev s_stepped:Stmt:=top 6
noncomputable abbrev s_one_step:Stmt:=top 4
noncomputable abbrev s_law:Stmt:=top 26
set_option genInjectivity false in
structure Adr where
 f_l_lists:Addr
 fd_l_lists:FuncData
 f_l_apart:Addr
 fd_l_apart:FuncData
 f_l_cell_at:Addr
 fd_l_cell_at:FuncData
 f_l_copy:Addr
 fd_l_copy:FuncData
 f_l_draw:Addr
 fd_l_draw:FuncData
 f_l_ends:Addr
 fd_l_ends:FuncData
 f_l_written:Addr
 fd_l_written:FuncData
 f_l_exchanged:Addr
 fd_l_exchanged:FuncData
 f_l_end_argument:Addr
 fd_l_end_argument:FuncData
 f_l_word_by:Addr
 fd_l_word_by:FuncData
 f_l_nodes:Addr
 fd_l_nodes:FuncData
 f_l_names:Addr
 fd_l_names:FuncData
 f_l_size:Addr
 fd_l_size:FuncData
 f_l_short:Addr
 fd_l_short:FuncData
 f_l_shorts:Addr
 fd_l_shorts:FuncData
 f_l_sound:Addr
 fd_l_sound:FuncData
 f_by_name:Addr
 fd_by_name:FuncData
 f_calls_in:Addr
 fd_calls_in:FuncData
 f_arguments_stepped:Addr
 fd_arguments_stepped:FuncData
 f_copied:Addr
 fd_copied:FuncData
 f_filled:Addr
 fd_filled:FuncData
 f_stepped:Addr
 fd_stepped:FuncData
 f_one_step:Addr
 fd_one_step:FuncData
 f_law:Addr
 fd_law:FuncData
structure Txt (P:Program) (w:World) (K:PySem.W.Frag) (mg:Str→Option Value) (a:Adr) : Prop where
 d_l_lists:DefOk K mg "_law_lists" s_l_lists ["nodes"] a.f_l_lists a.fd_l_lists
 d_l_apart:DefOk K mg "_law_apart" s_l_apart ["nodes"] a.f_l_apart a.fd_l_apart
 d_l_cell_at:DefOk K mg "_law_cell_at" s_l_cell_at ["script","k"] a.f_l_cell_at a.fd_l_cell_at
 d_l_copy:DefOk K mg "_law_copy" s_l_copy ["thing"] a.f_l_copy a.fd_l_copy
 d_l_draw:DefOk K mg "_law_draw" s_l_draw ["cell","k","many"] a.f_l_draw a.fd_l_draw
 d_l_ends:DefOk K mg "_law_ends" s_l_ends ["words","at"] a.f_l_ends a.fd_l_ends
 d_l_written:DefOk K mg "_law_written" s_l_written ["nodes"] a.f_l_written a.fd_l_written
 d_l_exchanged:DefOk K mg "_law_exchanged" s_l_exchanged ["shorts","words","at"] a.f_l_exchanged a.fd_l_exchanged
 d_l_end_argument:DefOk K mg "_law_end_argument" s_l_end_argument ["frames"] a.f_l_end_argument a.fd_l_end_argument
 d_l_word_by:DefOk K mg "_law_word_by" s_l_word_by ["cell"] a.f_l_word_by a.fd_l_word_by
 d_l_nodes:DefOk K mg "_law_nodes" s_l_nodes ["cells","shorts","count"] a.f_l_nodes a.fd_l_nodes
 d_l_names:DefOk K mg "_law_names" s_l_names ["cell","many"] a.f_l_names a.fd_l_names
 d_l_size:DefOk K mg "_law_size" s_l_size ["shorts","nodes","count"] a.f_l_size a.fd_l_size
 d_l_short:DefOk K mg "_law_short" s_l_short ["shorts","name","count","nodes"] a.f_l_short a.fd_l_short
 d_l_shorts:DefOk K mg "_law_shorts" s_l_shorts ["script","many","per"] a.f_l_shorts a.fd_l_shorts
 d_l_sound:DefOk K mg "_law_sound" s_l_sound ["shorts","nodes","count"] a.f_l_sound a.fd_l_sound
 d_by_name:DefOk K mg "by_name" s_by_name ["shorts"] a.f_by_name a.fd_by_name
 d_calls_in:DefOk K mg "calls_in" s_calls_in ["nodes"] a.f_calls_in a.fd_calls_in
 d_arguments_stepped:DefOk K mg "arguments_stepped" s_arguments_stepped ["named","arguments","at"] a.f_arguments_stepped a.fd_arguments_stepped
 d_copied:DefOk K mg "copied" s_copied ["nodes"] a.f_copied a.fd_copied
 d_filled:DefOk K mg "filled" s_filled ["nodes","arguments"] a.f_filled a.fd_filled
 d_stepped:DefOk K mg "stepped" s_stepped ["named","nodes","at"] a.f_stepped a.fd_stepped
 d_one_step:DefOk K mg "one_step" s_one_step ["shorts","nodes","at"] a.f_one_step a.fd_one_step
 d_law:DefOk K mg "law" s_law ["script"] a.f_law a.fd_law
 z_bool:mg "bool" = none
 z_dict:mg "dict" = none
 z_int:mg "int" = none
 z_isinstance:mg "isinstance" = none
 z_len:mg "len" = none
 z_list:mg "list" = none
 z_range:mg "range" = none
 z_str:mg "str" = none
 z_sum:mg "sum" = none
 z_tuple:mg "tuple" = none
section
variable {P:Program} {w:World} {K:PySem.W.Frag} {mg:Str→Option Value} {base:Heap} {a:Adr}


theorem sc_l_lists:FnScope ["nodes","found","node","argument"] ["nodes"] (defScope s_l_lists):=⟨rfl,rfl,rfl,by decide +kernel,rfl,by decide +kernel,by decide +kernel⟩
def sp_ls (K:PySem.W.Frag) (n:Nat) : Sp:=fun vs H Q _=>∃ (na:Addr) (vs0:List V) (xs:List DD) (l:List Addr) (d:Nat),vs=[.ref na]∧d < n∧H na=some (.lst vs0)∧Cat (ApN K H d) xs vs0 l∧l.length≤900000∧∀ p H',H p=none→Same H H'→H' p=some (.lst ((na :: l).map V.ref))→Q (.ref p) H'
theorem ok_l_lists_n (T:Txt P w K mg a) : ∀ n:Nat,FnOk P w K mg base CX0 (n+4) a.f_l_lists a.fd_l_lists ["nodes"] (sp_ls K n)
 | 0=>⟨fun vs H Q E h=>(by obtain ⟨na,vs0,xs,l,d,_,h1,_⟩:=h; omega),fun A outer s H args us vs Q E _ _ _ _ h=>(by obtain ⟨na,vs0,xs,l,d,_,h1,_⟩:=h; omega)⟩
 | n+1=>by
  have g_l_lists:=ok_l_lists_n T n
  have d_l_lists:=T.d_l_lists

  refine T.d_l_lists.fn.ok sc_l_lists (fun vs H Q E h=>?_) (fun cdv A outer s H vs Q E hr h=>?_)
  ·obtain ⟨na,vs0,xs,l,d,rfl,_⟩:=h
   rfl
  obtain ⟨na,vs0,xs,l,d,rfl,hd,hna,aw,fl,q⟩:=h
  have hu:=Nat.lt_of_succ_lt (hu_of hr)
  refine ⟨_,(pss_cons (ps_set (i:=1) sc_l_lists.nd rfl (Or.inl rfl) (pe_lst (pa_cons (pv 0) pa_nil)))
   (pss_cons (ps_for PassesOwn.never rfl (pi_list (pv 0)) (pg_name (i:=2) sc_l_lists.nd rfl (Or.inl rfl)) (pss_one (ps_if (pt_cmpR op_eq (pe_ix ix_tup (pv 2) pe_int (fun _ _=>rfl)) pe_str (nomark _)) (pss_cons (ps_expr (pe_bm PySem.F.plainAttrs_list PySem.F.slot_list_append PySem.F.type_list_append mt_append (pv 1) (pa_cons (pe_ix ix_tup (pv 2) pe_int (fun _ _=>rfl)) pa_nil)))
   (pss_one (ps_for PassesOwn.never rfl (pi_list (pe_ix ix_tup (pv 2) pe_int (fun _ _=>rfl))) (pg_name (i:=3) sc_l_lists.nd rfl (Or.inl rfl)) (pss_one (ps_set (i:=1) sc_l_lists.nd rfl (Or.inl rfl) (pe_op op_cat (pv 1) (pe_callD d_l_lists g_l_lists hr rfl (pa_cons (pv 3) pa_nil)))))))) pss_nil)))
   (pss_one (ps_ret (pv 1))))),?_⟩
  refine ⟨_,rfl,le1,fun p1 hp1=>?_⟩
  have s1:=same_new hp1 (.lst [V.ref na])
  have k1:upd H p1 (.lst [V.ref na]) p1=some (.lst [V.ref na]):=upd_same
  generalize upd H p1 (.lst [V.ref na])=H1 at s1 k1 ⊢
  refine ⟨_,rfl,na,rfl,⟨_,SqL.of (s1 _ _ hna)⟩,for_list (K:=K) (a:=na) (xs:=vs0) (fun k σ G=>∃ (pf:Addr) (v2 v3:Option V) (lk lr:List Addr),σ=[some (.ref na),some (.ref pf),v2,v3]∧l=lk++lr∧Cat (ApN K H d) (xs.drop k) (vs0.drop k) lr∧Same H G∧H pf=none∧G pf=some (.lst ((na :: lk).map V.ref))) ⟨p1,none,none,[],l,rfl,rfl,aw,s1,hp1,k1⟩ ?_ ?_ ?_⟩
  ·rintro k σ G _ ⟨_,_,_,_,_,_,_,_,s,_⟩
   exact SqL.of (s _ _ hna)
  ·rintro k y σ G hy ⟨pf,v2,v3,lk,lr,rfl,el,cr,s2,hpf,k2⟩
   obtain ⟨x0,l1,l2,e2,er,h2,cn⟩:=cr.next hy
   have ll:=congrArg List.length el
   have lr1:=congrArg List.length er
   rw [List.length_append] at ll lr1
   match d,h2 with
   | d+1,h2 =>
   rcases h2.out with ⟨h1,rfl,h3⟩ | ⟨nm,as,t,b,ys,l',rfl,rfl,h1,h3,rfl,h5,h6⟩
   ·have elk:l=lk++l2:=by rw [el,er]; rfl
    rcases h3 with ⟨w',rfl⟩ | ⟨j,rfl⟩
    ·obtain ⟨ta,zs,rfl,st,_,rz⟩:=h1.tupO
     obtain ⟨z0,z1,rfl,y0,y1⟩:=Reps.two rz
     rw [y0.strO] at st
     refine ⟨_,rfl,_,_,_,_,rfl,rfl,s2.tup st,rfl,rfl,_,rfl,?_⟩
     rw [decide_eq_false strNe4]
     refine iteF ?_
     exact ⟨pf,_,_,lk,l2,rfl,elk,cn,s2,hpf,k2⟩
    ·obtain ⟨ta,zs,rfl,st,_,rz⟩:=h1.tupO
     obtain ⟨z0,z1,rfl,y0,y1⟩:=Reps.two rz
     rw [y0.strO] at st
     refine ⟨_,rfl,_,_,_,_,rfl,rfl,s2.tup st,rfl,rfl,_,rfl,?_⟩
     rw [decide_eq_false strNe5]
     refine iteF ?_
     exact ⟨pf,_,_,lk,l2,rfl,elk,cn,s2,hpf,k2⟩
   ·have hb:=SqT.of (K:=K) (s2 _ _ h1)
    rw [List.length_cons] at lr1
    refine ⟨_,rfl,_,_,_,_,rfl,rfl,hb,rfl,rfl,_,rfl,?_⟩
    rw [decide_eq_true rfl]
    refine iteT ?_
    refine ⟨_,rfl,.inl ⟨rfl,_,SqL.of k2⟩,_,rfl,_,_,_,_,rfl,rfl,hb,rfl,pf,_,_,rfl,rfl,k2,small (by rw [List.length_map,List.length_cons]; omega),?_⟩
    have s3:Same H (upd G pf (.lst ((na :: lk).map V.ref++[V.ref b]))):=s2.put hpf
    have k3:upd G pf (.lst ((na :: lk).map V.ref++[V.ref b])) pf=some (.lst ((na :: (lk++[b])).map V.ref)):=by rw [upd_same]; simp
    generalize upd G pf (.lst ((na :: lk).map V.ref++[V.ref b]))=G3 at s3 k3 ⊢
    refine ⟨_,rfl,_,_,_,_,rfl,rfl,SqT.of (K:=K) (s3 _ _ h1),rfl,b,rfl,⟨_,SqL.of (s3 _ _ h3)⟩,for_list (K:=K) (a:=b) (xs:=ys) (fun j σ G=>∃ (pf:Addr) (v3:Option V) (mk mr:List Addr),σ=[some (.ref na),some (.ref pf),some (.ref t),v3]∧l' = mk++mr∧Cat (ApG H (ApN K H d)) (as.drop j) (ys.drop j) mr∧Same H G∧H pf=none∧G pf=some (.lst ((na :: (lk++b :: mk)).map V.ref))) ⟨pf,v3,[],l',rfl,rfl,h6,s3,hpf,k3⟩ (fun j σ G _ g=>by obtain ⟨_,_,_,_,_,_,_,s,_⟩:=g; exact SqL.of (s _ _ h3)) ?_ ?_⟩
    ·rintro j y σ G hy ⟨pf,v3,mk,mr,rfl,em,cm,s4,hpf4,k4⟩
     obtain ⟨aj,m1,m2,e4,em2,h7,cm2⟩:=cm.next hy
     obtain ⟨al,vs1,l1',rfl,hv1,rfl,h8,h9⟩:=h7
     have ml:=congrArg List.length em
     have mr1:=congrArg List.length em2
     rw [List.length_append] at ml mr1
     rw [List.length_cons] at mr1
     refine ⟨_,rfl,_,rfl,al,vs1,aj,l1',d,rfl,by omega,s4 _ _ hv1,h9.mono s4,by omega,fun p2 G2 hp2 s5 k5=>?_⟩
     refine ⟨_,_,_,_,rfl,rfl,s5 _ _ k4,k5,Nat.le_of_lt (small (by simp only [List.length_map,List.length_cons,List.length_append]; omega)),fun p3 hp3=>?_⟩
     have s45:=s4.trans s5
     refine ⟨p3,_,mk++(al :: l1'),m2,rfl,by rw [em,em2,List.append_assoc],cm2,s45.trans (same_new hp3 _),s45.free hp3,?_⟩
     rw [upd_same,← List.map_append]
     simp
    ·rintro σ G ⟨pf,v3,mk,mr,rfl,em,cm,s4,hpf4,k4⟩
     have hl6:=h6.len
     rw [List.drop_of_length_le (Nat.le_refl _)] at cm
     have mz:mr=[]:=by
      match as.drop ys.length,cm with
      | [],cm=>exact cm.2
      | z :: _,cm=>obtain ⟨_,_,_,_,z,_⟩:=cm; cases z
     rw [mz,List.append_nil] at em
     exact ⟨pf,_,_,lk++b :: l',l2,rfl,by rw [el,er,List.append_assoc],cn,s4,hpf4,by rw [em]; exact k4⟩
  ·rintro σ G ⟨pf,v2,v3,lk,lr,rfl,el,cr,s2,hpf,k2⟩
   rw [List.drop_of_length_le (Nat.le_refl _)] at cr
   have mz:lr=[]:=by
    match xs.drop vs0.length,cr with
    | [],cr=>exact cr.2
    | z :: _,cr=>obtain ⟨_,_,_,_,z,_⟩:=cr; cases z
   rw [mz,List.append_nil] at el
   exact ⟨_,rfl,q pf G hpf s2 (by rw [el]; exact k2)⟩
theorem ok_l_lists (T:Txt P w K mg a) : FnOk P w K mg base CX0 70 a.f_l_lists a.fd_l_lists ["nodes"] (sp_ls K (70 - 4)):=ok_l_lists_n T (70 - 4)
def sp_l_apart (K:PySem.W.Frag) : Sp:=fun vs H Q _=>∃ (na:Addr) (vs0:List V) (xs:List DD) (l:List Addr) (d:Nat),vs=[.ref na]∧d≤60∧H na=some (.lst vs0)∧Cat (ApN K H d) xs vs0 l∧l.length≤800000∧(na :: l).Nodup∧(∀ b ∈ na :: l,∃ o,H b=some (.lst o)∧o.length≤400000)∧∀ H',(∀ b o,b ∉ na :: l→H b=some o→H' b=some o)→Q (.bl true) H'
theorem sc_l_apart:FnScope ["nodes","lists","sizes","one"] ["nodes"] (defScope s_l_apart):=⟨rfl,rfl,rfl,by decide +kernel,rfl,by decide +kernel,by decide +kernel⟩
theorem ok_l_apart (T:Txt P w K mg a) : FnOk P w K mg base CX0 71 a.f_l_apart a.fd_l_apart ["nodes"] (sp_l_apart K):=by
 have g_l_lists:=ok_l_lists (P:=P) (w:=w) (base:=base) T
 have d_l_lists:=T.d_l_lists
 have z_len:=T.z_len
 refine T.d_l_apart.fn.ok sc_l_apart (fun vs H Q E h=>?_) (fun cdv A outer s H vs Q E hr h=>?_)
 ·obtain ⟨na,vs0,xs,l,d,rfl,_⟩:=h
  rfl
 obtain ⟨na,vs0,xs,l,d,rfl,hd20,hna,aw,fl,nd,hs,q⟩:=h
 have hu:=Nat.lt_of_succ_lt (hu_of hr)
 refine ⟨_,(pss_cons (ps_set (i:=1) sc_l_apart.nd rfl (Or.inl rfl) (pe_callD d_l_lists g_l_lists (hr.mono (by decide)) rfl (pa_cons (pv 0) pa_nil)))
   (pss_cons (ps_lc (k:=2) rfl (lcok (caps:=[]) (js:=[]) (cap:=trivial)) (pi_list (pv 1)) (fun _ _ _ _=>pts_nil) (fun _ _ _ _=>(pe_callB (r:=rLen K) call_len_seq rfl z_len PySem.boot_len (pa_cons (pv 0) pa_nil))) sc_l_apart.nd rfl rfl)
   (pss_cons (ps_for PassesOwn.never rfl (pi_list (pv 1)) (pg_name (i:=3) sc_l_apart.nd rfl (Or.inl rfl)) (pss_one (ps_expr (pe_bm PySem.F.plainAttrs_list PySem.F.slot_list_append PySem.F.type_list_append mt_append (pv 3) (pa_cons pe_int pa_nil)))))
   (pss_one (ps_ret (pe_cmpR (op_eqL hu) (pe_lc rfl (lcok (caps:=[]) (js:=[]) (cap:=trivial)) (pi_list (pv 1)) (fun _ _ _ _=>pts_nil) (fun _ _ _ _=>(pe_callB (r:=rLen K) call_len_seq rfl z_len PySem.boot_len (pa_cons (pv 0) pa_nil)))) (pe_lc rfl (lcok (caps:=[]) (js:=[]) (cap:=trivial)) (pi_list (pv 2)) (fun _ _ _ _=>pts_nil) (fun _ _ _ _=>(pe_op op_add (pv 0) pe_int))) (nomark _))))))),?_⟩
 refine ⟨_,rfl,na,vs0,xs,l,d,rfl,by omega,hna,aw,by omega,fun pl H1 hpl s1 k1=>?_⟩
 have al0:(na :: l).length≤800001:=by rw [List.length_cons]; omega
 generalize na :: l=as at nd hs k1 al0 q
 have h1s:∀ b ∈ as,∃ o,H1 b=some (.lst o)∧o.length≤400000:=fun b hb=>by obtain ⟨o,o1,o2⟩:=hs b hb; exact ⟨o,s1 _ _ o1,o2⟩
 have npl:pl ∉ as:=fun z=>by obtain ⟨o,o1,_⟩:=hs pl z; rw [hpl] at o1; cases o1
 refine ⟨_,rfl,pl,rfl,⟨_,SqL.of k1⟩,lc_list (K:=K) (a:=pl) (xs:=as.map V.ref) (fun i ys G'=>G' = H1∧ys=((as.take i).map fun b=>V.int (ln H1 b:Nat))) ⟨rfl,rfl⟩ (fun i ys G' _ g=>by rw [g.1]; exact SqL.of k1) ?_ ?_ ?_⟩
 ·rintro i ys G' hi ⟨_,rfl⟩
  rw [List.length_map] at hi ⊢
  rw [List.length_take]
  exact small (by omega)
 ·rintro i y ys G' hy ⟨eG,rfl⟩
  rw [eG]
  rw [List.getElem?_map] at hy
  obtain ⟨b,e1,rfl⟩:=Option.map_eq_some_iff.mp hy
  obtain ⟨o,o1,_⟩:=h1s b (List.mem_of_getElem? e1)
  refine yes_go ?_
  refine ⟨_,rfl,b,_,rfl,.inl (SqL.of o1),rfl,?_⟩
  rw [List.take_add_one,e1,List.map_append,← ln_of o1]
  rfl

 rintro ys G' ⟨eG,rfl⟩ pq hpq
 rw [eG] at hpq ⊢
 clear eG G'
 have et:as.take (as.map V.ref).length=as:=by rw [List.length_map,List.take_of_length_le (Nat.le_refl _)]
 rw [et]
 have s2:=same_new hpq (.lst (as.map fun b=>V.int (ln H1 b:Nat)))
 have k2:upd H1 pq (.lst (as.map fun b=>V.int (ln H1 b:Nat))) pq=some (.lst (as.map fun b=>V.int (ln H1 b:Nat))):=upd_same
 generalize upd H1 pq (.lst (as.map fun b=>V.int (ln H1 b:Nat)))=H2 at s2 k2 ⊢
 have h2s:∀ b ∈ as,∃ o,H2 b=some (.lst o)∧o.length≤400000∧ln H1 b=o.length:=fun b hb=>by obtain ⟨o,o1,o2⟩:=h1s b hb; exact ⟨o,s2 _ _ o1,o2,ln_of o1⟩
 have nps:pq ∉ as:=fun z=>by obtain ⟨o,o1,_⟩:=h1s pq z; rw [hpq] at o1; cases o1
 have kpl2:=s2 _ _ k1
 refine ⟨_,rfl,pl,rfl,⟨_,SqL.of kpl2⟩,for_list (K:=K) (a:=pl) (xs:=as.map V.ref) (fun k σ G=>∃ v3:Option V,σ=[some (.ref na),some (.ref pl),some (.ref pq),v3]∧(∀ b o,b ∉ as→H2 b=some o→G b=some o)∧∀ (j:Nat) b o,as[j]? = some b→H2 b=some (.lst o)→G b=some (.lst (if j < k then o++[V.int 0] else o))) ⟨none,rfl,fun b o _ h=>h,fun j b o _ h=>by rw [if_neg (by omega)]; exact h⟩ (fun k σ G _ g=>by obtain ⟨_,_,g,_⟩:=g; exact SqL.of (g pl _ npl kpl2)) ?_ ?_⟩
 ·rintro k y σ G hy ⟨v3,rfl,g1,g2⟩
  rw [List.getElem?_map] at hy
  obtain ⟨b,e1,rfl⟩:=Option.map_eq_some_iff.mp hy
  have hbm:b ∈ as:=List.mem_of_getElem? e1
  obtain ⟨o,o1,o2,_⟩:=h2s b hbm
  have gb:=g2 k b o e1 o1
  rw [if_neg (Nat.lt_irrefl _)] at gb
  refine ⟨_,rfl,.inl ⟨rfl,_,SqL.of gb⟩,b,_,_,rfl,rfl,gb,small1000 (by omega),?_⟩
  refine ⟨_,rfl,fun b' o' nb h'=>?_,fun j b' o' ej h'=>?_⟩
  ·rw [upd_ne (show b'≠b from fun e=>nb (by rw [e]; exact hbm))]
   exact g1 b' o' nb h'
  ·by_cases ejk:j=k
   ·subst ejk
    have e5:b=b':=Option.some.inj (e1.symm.trans ej)
    subst e5
    have e6:o=o':=HO.lst.inj (Option.some.inj (o1.symm.trans h'))
    subst e6
    rw [upd_same,if_pos (by omega)]
   ·have nb:b'≠b:=fun e=>ejk ((List.getElem?_inj (List.getElem?_eq_some_iff.mp ej).1 nd).mp (by rw [ej,e1,e]))
    rw [upd_ne nb,g2 j b' o' ej h']
    by_cases hjk:j < k
    ·rw [if_pos hjk,if_pos (by omega)]
    ·rw [if_neg hjk,if_neg (by omega)]
 ·rintro σ G ⟨v3,rfl,g1,g2⟩
  rw [List.length_map] at g2
  have gs':∀ b ∈ as,∃ o,G b=some (.lst o)∧o.length=ln H1 b+1:=fun b hb=>by
   obtain ⟨j,hj⟩:=List.getElem?_of_mem hb
   have hjl:=(List.getElem?_eq_some_iff.mp hj).1
   obtain ⟨o,o1,_,o3⟩:=h2s b hb
   have:=g2 j b o hj o1
   rw [if_pos hjl] at this
   exact ⟨_,this,by rw [List.length_append,o3]; rfl⟩
  have kplG:=g1 pl _ npl kpl2
  have kpqG:=g1 pq _ nps k2
  refine ⟨_,rfl,pl,rfl,⟨_,SqL.of kplG⟩,lc_list (K:=K) (a:=pl) (xs:=as.map V.ref) (fun i ys G'=>G' = G∧ys=((as.take i).map fun b=>V.int (ln G b:Nat))) ⟨rfl,rfl⟩ (fun i ys G' _ g=>by rw [g.1]; exact SqL.of kplG) ?_ ?_ ?_⟩
  ·rintro i ys G' hi ⟨_,rfl⟩
   rw [List.length_map] at hi ⊢
   rw [List.length_take]
   exact small (by omega)
  ·rintro i y ys G' hy ⟨eG,rfl⟩
   rw [eG]
   rw [List.getElem?_map] at hy
   obtain ⟨b,e1,rfl⟩:=Option.map_eq_some_iff.mp hy
   obtain ⟨o,o1,_⟩:=gs' b (List.mem_of_getElem? e1)
   refine yes_go ?_
   refine ⟨_,rfl,b,_,rfl,.inl (SqL.of o1),rfl,?_⟩
   rw [List.take_add_one,e1,List.map_append,← ln_of o1]
   rfl

  rintro ys G' ⟨eG,rfl⟩ pr hpr
  rw [eG] at hpr ⊢
  clear eG G'
  rw [et]
  have s5:=same_new hpr (.lst (as.map fun b=>V.int (ln G b:Nat)))
  have k5:upd G pr (.lst (as.map fun b=>V.int (ln G b:Nat))) pr=some (.lst (as.map fun b=>V.int (ln G b:Nat))):=upd_same
  have elN:(as.map fun b=>V.int (ln G b:Nat))=as.map fun b=>V.int ((ln H1 b+1:Nat) : Int):=List.map_congr_left fun b hb=>by
   obtain ⟨o,o1,o2⟩:=gs' b hb
   rw [ln_of o1,o2]
  rw [elN] at s5 k5 ⊢
  generalize upd G pr (.lst (as.map fun b=>V.int ((ln H1 b+1:Nat) : Int)))=G5 at s5 k5 ⊢
  have kpq5:=s5 _ _ kpqG
  refine ⟨_,rfl,pq,rfl,⟨_,SqL.of kpq5⟩,lc_list (K:=K) (a:=pq) (xs:=as.map fun b=>V.int (ln H1 b:Nat)) (fun i ys G'=>G' = G5∧ys=((as.take i).map fun b=>V.int ((ln H1 b+1:Nat) : Int))) ⟨rfl,rfl⟩ (fun i ys G' _ g=>by rw [g.1]; exact SqL.of kpq5) ?_ ?_ ?_⟩
  ·rintro i ys G' hi ⟨_,rfl⟩
   rw [List.length_map] at hi ⊢
   rw [List.length_take]
   exact small (by omega)
  ·rintro i y ys G' hy ⟨eG,rfl⟩
   rw [eG]
   rw [List.getElem?_map] at hy
   obtain ⟨b,e1,rfl⟩:=Option.map_eq_some_iff.mp hy
   refine yes_go ?_
   refine ⟨_,rfl,_,_,rfl,rfl,rfl,?_⟩
   rw [List.take_add_one,e1,List.map_append]
   show _=_++[V.int ((ln H1 b+1:Nat) : Int)]
   rfl
  rintro ys G' ⟨eG,rfl⟩ pu hpu
  rw [eG] at hpu ⊢
  clear eG G'
  have et2:as.take (as.map fun b=>V.int (ln H1 b:Nat)).length=as:=by rw [List.length_map,List.take_of_length_le (Nat.le_refl _)]
  rw [et2]
  have s6:=same_new hpu (.lst (as.map fun b=>V.int ((ln H1 b+1:Nat) : Int)))
  have flt:(as.map fun b=>V.int ((ln H1 b+1:Nat) : Int)).all flatV=true:=by
   refine List.all_eq_true.mpr fun x hx=>?_
   obtain ⟨b,_,rfl⟩:=List.mem_map.mp hx
   rfl
  refine ⟨_,_,_,_,rfl,rfl,SqL.of (s6 _ _ k5),SqL.of upd_same,flt,flt,?_⟩
  show Q (.bl (eqVs _ _)) _
  rw [eqVs_refl flt]
  exact q _ fun b o nb hb=>s6 _ _ (s5 _ _ (g1 b o nb (s2 _ _ (s1 _ _ hb))))
def sp_l_cell_at (K:PySem.W.Frag) : Sp:=fun vs H Q _=>∃ (b:Addr) (ns:List Int) (k:Nat),vs=[.ref b,.int (k:Int)]∧SqL K H b (ns.map V.int)∧Q (.int (ns.getD k 0)) H
theorem sc_l_cell_at:FnScope ["script","k"] ["script","k"] (defScope s_l_cell_at):=⟨rfl,rfl,rfl,by decide +kernel,rfl,by decide +kernel,by decide +kernel⟩
theorem ok_l_cell_at (T:Txt P w K mg a) : FnOk P w K mg base CX0 1 a.f_l_cell_at a.fd_l_cell_at ["script","k"] (sp_l_cell_at K):=by
 have z_len:=T.z_len
 refine T.d_l_cell_at.fn.ok sc_l_cell_at (fun vs H Q E h=>?_) (fun cdv A outer s H vs Q E hr h=>?_)
 ·obtain ⟨b,ns,k,rfl,_⟩:=h
  rfl
 obtain ⟨b,ns,k,rfl,hS,q⟩:=h
 have hu:=Nat.lt_of_succ_lt (hu_of hr)
 refine ⟨_,(pss_cons (ps_if (pt_cmpR op_lt (pv 1) (pe_callB call_len_seq rfl z_len PySem.boot_len (pa_cons (pv 0) pa_nil)) (nomark _)) (pss_one (ps_ret (pe_ix ix_list (pv 0) (pv 1) (fun _ _=>rfl)))) pss_nil)
   (pss_one (ps_ret pe_int))),?_⟩
 refine ⟨_,rfl,_,rfl,_,_,rfl,.inl hS,_,_,rfl,rfl,_,rfl,?_⟩
 refine ite2 (fun c=>?_) (fun c=>?_)
 ·have hk:k < ns.length:=by
   have:=of_decide_eq_true c
   rw [List.length_map] at this
   omega
  refine ⟨_,rfl,_,rfl,_,_,_,_,rfl,rfl,hS,atI_nat (j:=k) (v:=.int (ns.getD k 0)) ?_,q⟩
  rw [List.getElem?_map,List.getElem?_eq_getElem hk,List.getD_eq_getElem?_getD,List.getElem?_eq_getElem hk]
  rfl
 ·have hk:ns.length≤k:=by
   refine Nat.le_of_not_lt fun hk=>c (decide_eq_true ?_)
   rw [List.length_map]
   omega
  have e:ns.getD k 0=0:=by rw [List.getD_eq_getElem?_getD,List.getElem?_eq_none hk]; rfl
  rw [e] at q
  exact q

theorem sc_l_copy:FnScope ["thing"] ["thing"] (defScope s_l_copy):=⟨rfl,rfl,rfl,by decide +kernel,rfl,by decide +kernel,by decide +kernel⟩
def sp_cp (K:PySem.W.Frag) (n:Nat) : Sp:=fun vs H Q _=>∃ (d:DD) (v:V),vs=[v]∧d.deep < n∧Rep K H d v∧∀ v' H',Same H H'→Rep K (erG H H' []) d v'→Q v' H'
theorem ok_l_copy_n (T:Txt P w K mg a) : ∀ n:Nat,FnOk P w K mg base CX0 (n+4) a.f_l_copy a.fd_l_copy ["thing"] (sp_cp K n)
 | 0=>⟨fun vs H Q E h=>(by obtain ⟨d,v,_,h1,_⟩:=h; omega),fun A outer s H args us vs Q E _ _ _ _ h=>(by obtain ⟨d,v,_,h1,_⟩:=h; omega)⟩
 | n+1=>by
  have g_l_copy:=ok_l_copy_n T n
  have d_l_copy:=T.d_l_copy
  have z_isinstance:=T.z_isinstance
  have z_list:=T.z_list
  have z_tuple:=T.z_tuple

  refine T.d_l_copy.fn.ok sc_l_copy (fun vs H Q E h=>?_) (fun cdv A outer s H vs Q E hr h=>?_)
  ·obtain ⟨d,v,rfl,_⟩:=h
   rfl
  obtain ⟨d,v,rfl,hd,rv,q⟩:=h
  have hu:=Nat.lt_of_succ_lt (hu_of hr)
  refine ⟨_,(pss_cons (ps_if (pt_val (pe_callB call_isi rfl z_isinstance PyProof.Rows.boot_isinstance (pa_cons (pv 0) (pa_cons (pe_bltn (v:=.ty "list") rfl z_list PyProof.Rows.boot_list rfl) pa_nil))) (fun _=>rfl)) (pss_one (ps_ret (pe_lc rfl (lcok (caps:=[]) (js:=[]) (cap:=trivial)) (pi_list (pv 0)) (fun _ _ _ _=>pts_nil) (fun _ _ _ _=>(pe_callD d_l_copy g_l_copy hr rfl (pa_cons (pv 0) pa_nil)))))) pss_nil)
   (pss_cons (ps_if (pt_val (pe_callB call_isi rfl z_isinstance PyProof.Rows.boot_isinstance (pa_cons (pv 0) (pa_cons (pe_bltn (v:=.ty "tuple") rfl z_tuple PyProof.Rows.boot_tuple rfl) pa_nil))) (fun _=>rfl)) (pss_one (ps_ret (pe_callTy call_tuple_of rfl z_tuple PyProof.Rows.boot_tuple (pa_cons (pe_lc rfl (lcok (caps:=[]) (js:=[]) (cap:=trivial)) (pi_tup (pv 0)) (fun _ _ _ _=>pts_nil) (fun _ _ _ _=>(pe_callD d_l_copy g_l_copy hr rfl (pa_cons (pv 0) pa_nil)))) pa_nil)))) pss_nil)
   (pss_one (ps_ret (pv 0))))),?_⟩
  cases d with
  | bl b =>
   refine ⟨_,rfl,_,"list",false,rfl,by decide,rv.isi "list",_,rfl,?_⟩
   refine iteF ?_
   refine ⟨_,rfl,_,"tuple",false,rfl,by decide,rv.isi "tuple",_,rfl,?_⟩
   refine iteF ?_
   exact ⟨_,rfl,q _ _ (Same.refl _) (by unfold Rep at rv ⊢; exact rv)⟩
  | int b =>
   refine ⟨_,rfl,_,"list",false,rfl,by decide,rv.isi "list",_,rfl,?_⟩
   refine iteF ?_
   refine ⟨_,rfl,_,"tuple",false,rfl,by decide,rv.isi "tuple",_,rfl,?_⟩
   refine iteF ?_
   exact ⟨_,rfl,q _ _ (Same.refl _) (by unfold Rep at rv ⊢; exact rv)⟩
  | str b =>
   refine ⟨_,rfl,_,"list",false,rfl,by decide,rv.isi "list",_,rfl,?_⟩
   refine iteF ?_
   refine ⟨_,rfl,_,"tuple",false,rfl,by decide,rv.isi "tuple",_,rfl,?_⟩
   refine iteF ?_
   exact ⟨_,rfl,q _ _ (Same.refl _) (by unfold Rep at rv ⊢; exact rv)⟩
  | lst l =>
   obtain ⟨aa,xs,rfl,sx,hl,rx⟩:=rv.lstO
   have xl:=rx.len
   unfold DD.deep at hd
   refine ⟨_,rfl,_,"list",true,rfl,by decide,rv.isi "list",_,rfl,?_⟩
   refine iteT ?_
   refine ⟨_,rfl,aa,rfl,⟨_,sx⟩,lc_list (K:=K) (a:=aa) (xs:=xs) (fun i ys G=>Same H G∧Reps K (erG H G []) (l.take i) ys) ⟨Same.refl _,Reps.nil⟩ (fun i ys G _ z=>z.1.seq sx) ?_ ?_ ?_⟩
   ·rintro i ys G hi ⟨_,r2⟩
    rw [r2.len,List.length_take]
    exact small1000 (by omega)
   ·rintro i y ys G hy ⟨s1,r2⟩
    obtain ⟨d,e,r3⟩:=rx.getR hy
    have hdd:=deep_mem e
    refine yes_go ?_
    refine ⟨_,rfl,d,y,rfl,by omega,r3.mono s1,fun v' G' s2 r4=>⟨s1.trans s2,?_⟩⟩
    rw [List.take_add_one,e]
    exact (r2.mono (erG_up s2)).snoc (r4.mono (erG_sub s1))
   ·rintro ys G ⟨s1,r2⟩ p hp
    rw [xl,List.take_of_length_le (Nat.le_refl _)] at r2
    have g2:=same_new hp (.lst ys)
    exact q _ _ (s1.trans g2) (rep_lst (SqL.of (erG_get (s1.free hp) (by simp) upd_same)) hl (r2.mono (erG_up g2)))
  | tup l =>
   obtain ⟨aa,xs,rfl,sx,hl,rx⟩:=rv.tupO
   have xl:=rx.len
   unfold DD.deep at hd
   refine ⟨_,rfl,_,"list",false,rfl,by decide,rv.isi "list",_,rfl,?_⟩
   refine iteF ?_
   refine ⟨_,rfl,_,"tuple",true,rfl,by decide,rv.isi "tuple",_,rfl,?_⟩
   refine iteT ?_
   refine ⟨_,rfl,aa,rfl,⟨_,sx⟩,lc_tupl (K:=K) (a:=aa) (xs:=xs) (fun i ys G=>Same H G∧Reps K (erG H G []) (l.take i) ys) ⟨Same.refl _,Reps.nil⟩ (fun i ys G _ z=>z.1.tup sx) ?_ ?_ ?_⟩
   ·rintro i ys G hi ⟨_,r2⟩
    rw [r2.len,List.length_take]
    exact small1000 (by omega)
   ·rintro i y ys G hy ⟨s1,r2⟩
    obtain ⟨d,e,r3⟩:=rx.getR hy
    have hdd:=deep_mem e
    refine yes_go ?_
    refine ⟨_,rfl,d,y,rfl,by omega,r3.mono s1,fun v' G' s2 r4=>⟨s1.trans s2,?_⟩⟩
    rw [List.take_add_one,e]
    exact (r2.mono (erG_up s2)).snoc (r4.mono (erG_sub s1))
   ·rintro ys G ⟨s1,r2⟩ p hp
    rw [xl,List.take_of_length_le (Nat.le_refl _)] at r2
    have g2:=same_new hp (.lst ys)
    refine ⟨p,ys,rfl,.inl ⟨SqL.of upd_same,fun p3 hp3=>?_⟩⟩
    have g3:=same_new hp3 (.tup ys)
    exact q _ _ ((s1.trans g2).trans g3) (rep_tup (SqT.of (erG_get ((s1.trans g2).free hp3) (by simp) upd_same)) hl ((r2.mono (erG_up g2)).mono (erG_up g3)))
theorem ok_l_copy (T:Txt P w K mg a) : FnOk P w K mg base CX0 200 a.f_l_copy a.fd_l_copy ["thing"] (sp_cp K (200 - 4)):=ok_l_copy_n T (200 - 4)
def draw (c k m:Int) : Int:=(c+1) * (48271+7919 * k * k) % 2147483647 * ((c+1) * (48271+7919 * k * k) % 2147483647) % 2147483629 / 7 % m
theorem draw_in (c k:Int) {m:Int} (h:0 < m) : 0≤draw c k m∧draw c k m < m:=⟨Int.emod_nonneg _ (by omega),Int.emod_lt_of_pos _ h⟩
theorem sq_in {k:Int} (h0:0≤k) (h1:k≤100000) : 0≤7919 * k * k∧7919 * k * k≤79190000000000:=by
 have a:=Int.mul_nonneg h0 h0
 have b:k * k≤100000 * 100000:=Int.mul_le_mul h1 h1 h0 (by decide)
 rw [Int.mul_assoc]
 omega
theorem draw_nat (c k:Int) {m:Nat} (h:0 < m) : ∃ d:Nat,draw c k (m:Int)=(d:Int)∧d < m:=by
 have b:=draw_in c k (show (0:Int) < (m:Int) by omega)
 obtain ⟨d,hd⟩:=Int.eq_ofNat_of_zero_le b.1
 exact ⟨d,hd,by omega⟩

def sp_l_draw:Sp:=fun vs H Q _=>∃ c k m:Int,vs=[.int c,.int k,.int m]∧(0≤k∧k≤100000)∧0 < m∧Q (.int (draw c k m)) H
theorem sc_l_draw:FnScope ["cell","k","many","number"] ["cell","k","many"] (defScope s_l_draw):=⟨rfl,rfl,rfl,by decide +kernel,rfl,by decide +kernel,by decide +kernel⟩
theorem ok_l_draw (T:Txt P w K mg a) : FnOk P w K mg base CX0 1 a.f_l_draw a.fd_l_draw ["cell","k","many"] sp_l_draw:=by
 refine T.d_l_draw.fn.ok sc_l_draw (fun vs H Q E h=>?_) (fun cdv A outer s H vs Q E hr h=>?_)
 ·obtain ⟨c,k,m,rfl,_⟩:=h
  rfl
 obtain ⟨c,k,m,rfl,⟨h0,h1⟩,hm,q⟩:=h
 have hu:=Nat.lt_of_succ_lt (hu_of hr)
 refine ⟨_,(pss_cons (ps_set (i:=3) sc_l_draw.nd rfl (Or.inl rfl) (pe_op op_mod (pe_op op_mul (pe_op op_add (pv 0) pe_int) (pe_op op_add pe_int (pe_op op_mul (pe_op op_mul pe_int (pv 1)) (pv 1)))) pe_int))
   (pss_one (ps_ret (pe_op op_mod (pe_op op_fdiv (pe_op op_mod (pe_op op_mul (pv 3) (pv 3)) pe_int) pe_int) (pv 2))))),?_⟩
 have sq:=sq_in h0 h1
 refine ⟨_,rfl,_,_,rfl,rfl,_,rfl,_,_,rfl,rfl,.inl ⟨by decide,by decide⟩,_,rfl,_,_,rfl,rfl,.inr ⟨by omega,by omega⟩,_,_,rfl,rfl,_,_,rfl,rfl,.inr ⟨by omega,by omega⟩,_,_,rfl,rfl,(by decide:(0:Int) < 2147483647),?_⟩
 refine ⟨_,rfl,_,rfl,_,_,rfl,rfl,.inl ⟨by omega,by omega⟩,_,_,rfl,rfl,(by decide:(0:Int) < 2147483629),_,_,rfl,rfl,⟨by decide,by decide⟩,_,rfl,_,_,rfl,rfl,hm,?_⟩
 exact q
def sp_ends (K:PySem.W.Frag) : Sp:=fun vs H Q _=>∃ (wa:Addr) (pre post:List Wd0) (nm:Wd0) (as:List (List DD)) (t c:Nat) (M:List (Wd0 × Nat)),vs=[.ref wa,.int (t:Int)]∧SqL K H wa (((pre++(clW nm as++post)).map tx).map V.str)∧opens pre=t∧(∀ w ∈ pre++(clW nm as++post),Tk w)∧(∀ a ∈ as,∀ y ∈ a,No M c 60 y)∧(pre++(clW nm as++post)).length≤200000 ∧
  ∀ p pa bs H',Same H H'→H' p=some (.tup [.int (pre.length:Int),.int ((pre.length+1+(barJoin (as.map (wtL 100))).length:Nat) : Int),.ref pa])→H' pa=some (.lst (bs.map V.ref))→AtL H' bs (argW (as.map (wtL 100)))→Q (.ref p) H'
theorem sc_l_ends:FnScope ["words","at","start","arguments","deep","end"] ["words","at"] (defScope s_l_ends):=⟨rfl,rfl,rfl,by decide +kernel,rfl,by decide +kernel,by decide +kernel⟩
theorem ok_l_ends (T:Txt P w K mg a) : FnOk P w K mg base CX0 1 a.f_l_ends a.fd_l_ends ["words","at"] (sp_ends K):=by
 refine T.d_l_ends.fn.ok sc_l_ends (fun vs H Q E h=>?_) (fun cdv A outer s H vs Q E hr h=>?_)
 ·obtain ⟨wa,pre,post,nm,as,t,c,M,rfl,_⟩:=h
  rfl
 obtain ⟨wa,pre,post,nm,as,t,c,M,rfl,hW,hop,tkA,hno,hlen,q⟩:=h
 have hu:=Nat.lt_of_succ_lt (hu_of hr)
 refine ⟨_,(pss_cons (ps_set (i:=2) sc_l_ends.nd rfl (Or.inl rfl) pe_int)
   (pss_cons (ps_while PassesOwn.never (PW.pt (pw_or (pt_cmpR op_ne (pe_ix ix_str (pe_ix ix_list (pv 0) (pv 2) (fun _ _=>rfl)) pe_int (fun _ _=>rfl)) pe_str (nomark _)) (pw_or1 (pt_cmpR op_gt (pv 1) pe_int (nomark _))))) (pss_cons (ps_if (pt_cmpR op_eq (pe_ix ix_str (pe_ix ix_list (pv 0) (pv 2) (fun _ _=>rfl)) pe_int (fun _ _=>rfl)) pe_str (nomark _)) (pss_one (ps_set (i:=1) sc_l_ends.nd rfl (Or.inl rfl) (pe_op op_sub (pv 1) pe_int))) pss_nil)
   (pss_one (ps_set (i:=2) sc_l_ends.nd rfl (Or.inl rfl) (pe_op op_add (pv 2) pe_int)))))
   (pss_cons (ps_set (i:=3) sc_l_ends.nd rfl (Or.inl rfl) (pe_lst (pa_cons (pe_lst pa_nil) pa_nil)))
   (pss_cons (ps_set (i:=4) sc_l_ends.nd rfl (Or.inl rfl) pe_int)
   (pss_cons (ps_set (i:=5) sc_l_ends.nd rfl (Or.inl rfl) (pe_op op_add (pv 2) pe_int))
   (pss_cons (ps_while PassesOwn.never (PW.pt (pw_or (pt_cmpR op_gt (pv 4) pe_int (nomark _)) (pw_or1 (pt_cmpR op_ne (pe_ix ix_list (pv 0) (pv 5) (fun _ _=>rfl)) pe_str (nomark _))))) (pss_cons (ps_if (PW.pt (pw_and (pt_cmpR op_eq (pv 4) pe_int (nomark _)) (pw_and1 (pt_cmpR op_eq (pe_ix ix_list (pv 0) (pv 5) (fun _ _=>rfl)) pe_str (nomark _))))) (pss_one (ps_expr (pe_bm PySem.F.plainAttrs_list PySem.F.slot_list_append PySem.F.type_list_append mt_append (pv 3) (pa_cons (pe_lst pa_nil) pa_nil)))) (pss_one (ps_expr (pe_bm PySem.F.plainAttrs_list PySem.F.slot_list_append PySem.F.type_list_append mt_append (pe_ix ix_list (pv 3) (pe_un un_neg pe_int) (fun _ _=>rfl)) (pa_cons (pe_ix ix_list (pv 0) (pv 5) (fun _ _=>rfl)) pa_nil)))))
   (pss_cons (ps_if (pt_cmpR op_eq (pe_ix ix_str (pe_ix ix_list (pv 0) (pv 5) (fun _ _=>rfl)) pe_int (fun _ _=>rfl)) pe_str (nomark _)) (pss_one (ps_set (i:=4) sc_l_ends.nd rfl (Or.inl rfl) (pe_op op_add (pv 4) pe_int))) pss_nil)
   (pss_cons (ps_if (pt_cmpR op_eq (pe_ix ix_list (pv 0) (pv 5) (fun _ _=>rfl)) pe_str (nomark _)) (pss_one (ps_set (i:=4) sc_l_ends.nd rfl (Or.inl rfl) (pe_op op_sub (pv 4) pe_int))) pss_nil)
   (pss_one (ps_set (i:=5) sc_l_ends.nd rfl (Or.inl rfl) (pe_op op_add (pv 5) pe_int)))))))
   (pss_one (ps_ret (pe_tup (pa_cons (pv 2) (pa_cons (pv 5) (pa_cons (pv 3) pa_nil)))))))))))),?_⟩
 generalize hWd:pre++(clW nm as++post)=W at hW tkA hlen
 generalize hB:barJoin (as.map (wtL 100))=B at q
 have hcl:clW nm as=(91 :: nm) :: (B++[endW]):=by rw [← hB]; rfl
 have atP:∀ i,i < pre.length→W[i]? = pre[i]?:=fun i h=>by rw [← hWd,List.getElem?_append_left h]
 have at0:W[pre.length]? = some (91 :: nm):=by rw [← hWd,List.getElem?_append_right (Nat.le_refl _),Nat.sub_self,hcl]; rfl
 have atB:∀ i,i < B.length→W[pre.length+1+i]? = B[i]?:=fun i h=>by
  rw [← hWd,List.getElem?_append_right (by omega),hcl,show pre.length+1+i - pre.length=i+1 by omega]
  show (B++[endW]++post)[i]? = _
  rw [List.append_assoc,List.getElem?_append_left h]
 have atE:W[pre.length+1+B.length]? = some endW:=by
  rw [← hWd,List.getElem?_append_right (by omega),hcl,show pre.length+1+B.length - pre.length=B.length+1 by omega]
  show (B++[endW]++post)[B.length]? = _
  rw [List.append_assoc,List.getElem?_append_right (Nat.le_refl _),Nat.sub_self]
  rfl
 have hWl:W.length=pre.length+(B.length+2+post.length):=by rw [← hWd,List.length_append,List.length_append,hcl,List.length_cons,List.length_append,List.length_singleton]
 have tln:∀ {w:Wd0},w ∈ W→(tx w).length≤sizeLine:=fun hw=>Nat.le_of_lt (small (by rw [tx_len]; have:=(tkA _ hw).2; omega))
 refine ⟨fun n σ G=>∃ i:Nat,σ=[some (.ref wa),some (.int ((t:Int) - (opens (pre.take i) : Int))),some (.int (i:Int)),none,none,none]∧G=H∧i≤pre.length∧n=pre.length - i,⟨pre.length,0,by rw [List.take_zero,show opens []=0 from rfl]; exact congrArg (fun z=>[some (V.ref wa),some (V.int z),some (V.int 0),none,none,none]) (by omega),rfl,Nat.zero_le _,rfl⟩,?_⟩
 rintro n σ G ⟨i,rfl,rfl,hi,hn⟩
 by_cases hlt:i < pre.length
 ·have ei:=List.getElem?_eq_getElem hlt
  generalize pre[i]'hlt=w at ei
  have eW:W[i]? = some w:=(atP i hlt).trans ei
  have mW:=List.mem_of_getElem? eW
  obtain ⟨⟨ch,r,rfl⟩,_⟩:=tkA w mW
  have eop:opens (pre.take (i+1))=opens (pre.take i)+(if isO (ch :: r)=true then 1 else 0):=by
   rw [List.take_add_one,ei,opens_app]
   show _+opens [ch :: r]=_
   rw [opens_cons]
   rfl
  have ele:opens (pre.take (i+1))≤t:=by
   rw [← hop]
   conv=>rhs; rw [← List.take_append_drop (i+1) pre]
   rw [opens_app]
   omega
  refine ⟨_,rfl,_,rfl,_,_,_,_,rfl,rfl,hW,at_tok eW,_,_,_,rfl,rfl,tln mW,at_chr,rfl,_,rfl,?_⟩
  rw [chr_eq cX91]
  by_cases h91:ch=91
  ·rw [decide_eq_true h91]
   refine iteF ?_
   rw [if_pos (by rw [h91]; rfl)] at eop
   refine ⟨_,rfl,_,_,rfl,rfl,_,rfl,?_⟩
   rw [decide_eq_true (by omega)]
   refine iteT ?_
   refine ⟨fun σ' G'=>∃ m,m < n∧∃ i:Nat,σ' = [some (.ref wa),some (.int ((t:Int) - (opens (pre.take i) : Int))),some (.int (i:Int)),none,none,none]∧G' = G∧i≤pre.length∧m=pre.length - i,fun _ _ h=>h,?_⟩
   refine ⟨_,rfl,_,rfl,_,_,_,_,rfl,rfl,hW,at_tok eW,_,_,_,rfl,rfl,tln mW,at_chr,rfl,_,rfl,?_⟩
   rw [chr_eq cX91,decide_eq_true h91]
   refine iteT ?_
   refine ⟨_,rfl,_,_,rfl,rfl,?_⟩
   refine ⟨_,rfl,_,_,rfl,rfl,?_⟩
   refine ⟨pre.length - (i+1),by omega,i+1,?_,rfl,hlt,rfl⟩
   rw [eop]
   exact congrArg (fun z=>[some (V.ref wa),some (V.int z),some (V.int (((i+1:Nat)) : Int)),none,none,none]) (by omega)
  ·rw [decide_eq_false h91]
   refine iteT (iteT ?_)
   rw [if_neg (by show ¬ ((some ch == some 91)=true); simpa using h91)] at eop
   refine ⟨fun σ' G'=>∃ m,m < n∧∃ i:Nat,σ' = [some (.ref wa),some (.int ((t:Int) - (opens (pre.take i) : Int))),some (.int (i:Int)),none,none,none]∧G' = G∧i≤pre.length∧m=pre.length - i,fun _ _ h=>h,?_⟩
   refine ⟨_,rfl,_,rfl,_,_,_,_,rfl,rfl,hW,at_tok eW,_,_,_,rfl,rfl,tln mW,at_chr,rfl,_,rfl,?_⟩
   rw [chr_eq cX91,decide_eq_false h91]
   refine iteF ?_
   refine ⟨_,rfl,_,_,rfl,rfl,?_⟩
   refine ⟨pre.length - (i+1),by omega,i+1,?_,rfl,hlt,rfl⟩
   rw [eop]
   exact congrArg (fun z=>[some (V.ref wa),some (V.int z),some (V.int (((i+1:Nat)) : Int)),none,none,none]) (by omega)
 have hie:i=pre.length:=by omega
 subst hie
 have m0:=List.mem_of_getElem? at0
 refine ⟨_,rfl,_,rfl,_,_,_,_,rfl,rfl,hW,at_tok at0,_,_,_,rfl,rfl,tln m0,at_chr,rfl,_,rfl,?_⟩
 rw [chr_eq cX91,decide_eq_true rfl]
 refine iteF ?_
 refine ⟨_,rfl,_,_,rfl,rfl,_,rfl,?_⟩
 rw [decide_eq_false (by rw [List.take_of_length_le (Nat.le_refl _),hop]; omega)]
 refine iteF ?_
 generalize (t:Int) - (opens (pre.take pre.length) : Int)=atv
 refine ⟨small (by simp),fun p1 hp1=>?_⟩
 have g1:=same_new hp1 (.lst [])
 have k1:upd G p1 (.lst []) p1=some (.lst []):=upd_same
 generalize upd G p1 (.lst [])=G1 at g1 k1 ⊢
 refine ⟨le1,fun p2 hp2=>?_⟩
 have g2:=same_new hp2 (.lst [V.ref p1])
 have k2:upd G1 p2 (.lst [V.ref p1]) p2=some (.lst [V.ref p1]):=upd_same
 have n12:p1≠p2:=ne_of_none k1 hp2
 have k12:=g2 _ _ k1
 generalize upd G1 p2 (.lst [V.ref p1])=G2 at g2 k2 k12 ⊢
 dsimp only [gName]
 refine ⟨_,rfl,_,_,rfl,rfl,?_⟩
 obtain ⟨s',hrun,hk',hargs⟩:=runs_top (ws:=as.map (wtL 100)) (fun w hw=>by
  obtain ⟨a,ha,rfl⟩:=List.mem_map.mp hw
  exact runsL (by decide) (hno a ha)) []
 rw [hB] at hrun
 refine ⟨fun n σ F=>∃ (i:Nat) (s:Sc) (bs:List Addr),σ=[some (.ref wa),some (.int atv),some (.int (pre.length:Int)),some (.ref p2),some (.int (s.k:Int)),some (.int ((pre.length+1+i:Nat) : Int))]∧Same G F∧i≤B.length∧n=B.length - i∧Runs s (B.drop i) s'∧F p2=some (.lst (bs.map V.ref))∧bs.Nodup∧(∀ b ∈ bs,G b=none∧b≠p2)∧AtL F bs (s.dn++[s.cu])∧s.cu.length≤i∧bs.length≤i+1,⟨B.length,0,⟨[],[],0⟩,[p1],rfl,g1.trans g2,Nat.zero_le _,rfl,hrun,k2,by simp,fun b hb=>by rw [List.mem_singleton.mp hb]; exact ⟨hp1,n12⟩,⟨rfl,fun i b w e1 e2=>?_⟩,Nat.le_refl _,Nat.le_refl _⟩,?_⟩
 ·have hi0:i=0:=by have:=(List.getElem?_eq_some_iff.mp e1).1; simp at this; exact this
  subst hi0
  have e1:p1=b:=Option.some.inj e1
  have e2:[]=w:=Option.some.inj e2
  rw [← e1,← e2]
  exact k12
 have fp2:=g1.free hp2
 rintro n σ F ⟨i,s,bs,rfl,sF,hi,hn,hR,kA,nd,hnew,hA,hcu,hbl⟩
 have hWF:=sF.seq hW
 by_cases hlt:i < B.length
 ·have ei:=List.getElem?_eq_getElem hlt
  rw [List.drop_eq_getElem_cons hlt] at hR
  generalize B[i]'hlt=w at ei hR
  have eW:W[pre.length+1+i]? = some w:=(atB i hlt).trans ei
  have mW:=List.mem_of_getElem? eW
  obtain ⟨⟨ch,r,rfl⟩,_⟩:=tkA w mW
  obtain ⟨hns,hR⟩:=hR
  refine ⟨_,rfl,_,_,rfl,rfl,_,rfl,?_⟩
  refine iteOr ?_ (fun hb hx=>?_)
  rotate_left
  ·have hk0:s.k=0:=by have:=of_decide_eq_false hb; omega
   have hwe:(ch :: r:Wd0)≠endW:=fun z=>hns ⟨hk0,z⟩
   refine ⟨_,rfl,_,rfl,_,_,_,_,rfl,rfl,hWF,at_tok eW,rfl,_,rfl,?_⟩
   rw [tok_eq cX93,decide_eq_false hwe]
   exact iteT hx
  refine ⟨fun σ F=>∃ m,m < n∧∃ (i:Nat) (s:Sc) (bs:List Addr),σ=[some (.ref wa),some (.int atv),some (.int (pre.length:Int)),some (.ref p2),some (.int (s.k:Int)),some (.int ((pre.length+1+i:Nat) : Int))]∧Same G F∧i≤B.length∧m=B.length - i∧Runs s (B.drop i) s'∧F p2=some (.lst (bs.map V.ref))∧bs.Nodup∧(∀ b ∈ bs,G b=none∧b≠p2)∧AtL F bs (s.dn++[s.cu])∧s.cu.length≤i∧bs.length≤i+1,fun _ _ h=>h,?_⟩
  refine cut_seq (fun σ' F'=>∃ bs':List Addr,σ' = [some (.ref wa),some (.int atv),some (.int (pre.length:Int)),some (.ref p2),some (.int (s.k:Int)),some (.int ((pre.length+1+i:Nat) : Int))]∧Same G F'∧F' p2=some (.lst (bs'.map V.ref))∧bs'.Nodup∧(∀ b ∈ bs',G b=none∧b≠p2)∧AtL F' bs' ((nxS s (ch :: r)).dn++[(nxS s (ch :: r)).cu])∧bs'.length≤i+2) ?_ (fun key=>?_)
  ·rintro σ' F' ⟨bs',rfl,sF',kA',nd',hnew',hA',hbl'⟩
   have hWF':=sF'.seq hW
   have lcu:(nxS s (ch :: r)).cu.length≤i+1:=by
    unfold nxS
    split
    ·exact Nat.zero_le _
    ·show (s.cu++[ch :: r]).length≤_; rw [List.length_append,List.length_singleton]; omega
   have fin:∀ kv:Int,((nxS s (ch :: r)).k:Int)=kv→∃ m,m < n∧∃ (j:Nat) (s:Sc) (bs:List Addr),[some (V.ref wa),some (V.int atv),some (V.int (pre.length:Int)),some (V.ref p2),some (V.int kv),some (V.int (((pre.length+1+i:Nat) : Int)+1))]=[some (.ref wa),some (.int atv),some (.int (pre.length:Int)),some (.ref p2),some (.int (s.k:Int)),some (.int ((pre.length+1+j:Nat) : Int))]∧Same G F'∧j≤B.length∧m=B.length - j∧Runs s (B.drop j) s'∧F' p2=some (.lst (bs.map V.ref))∧bs.Nodup∧(∀ b ∈ bs,G b=none∧b≠p2)∧AtL F' bs (s.dn++[s.cu])∧s.cu.length≤j∧bs.length≤j+1:=fun kv hkv=>by
    subst hkv
    exact ⟨B.length - (i+1),by omega,i+1,nxS s (ch :: r),bs',rfl,sF',hlt,rfl,hR,kA',nd',hnew',hA',lcu,by omega⟩
   refine ⟨_,rfl,_,rfl,_,_,_,_,rfl,rfl,hWF',at_tok eW,_,_,_,rfl,rfl,tln mW,at_chr,rfl,_,rfl,?_⟩
   rw [chr_eq cX91]
   by_cases h91:ch=91
   ·rw [decide_eq_true h91]
    refine iteT ?_
    refine ⟨_,rfl,_,_,rfl,rfl,?_⟩
    have hwe:(ch :: r:Wd0)≠endW:=fun z=>by rw [h91] at z; unfold endW at z; injection z with z _; exact absurd z (by decide)
    refine ⟨_,rfl,_,rfl,_,_,_,_,rfl,rfl,hWF',at_tok eW,rfl,_,rfl,?_⟩
    rw [tok_eq cX93,decide_eq_false hwe]
    refine iteF ?_
    refine ⟨_,rfl,_,_,rfl,rfl,?_⟩
    refine fin _ ?_
    show ((if (ch :: r:Wd0)=endW then s.k - 1 else if isO (ch :: r)=true then s.k+1 else s.k:Nat) : Int)=_
    rw [if_neg hwe,if_pos (by rw [h91]; rfl)]
    omega
   ·rw [decide_eq_false h91]
    refine iteF ?_
    have hno':¬ isO (ch :: r)=true:=by show ¬ ((some ch == some 91)=true); simpa using h91
    refine ⟨_,rfl,_,rfl,_,_,_,_,rfl,rfl,hWF',at_tok eW,rfl,_,rfl,?_⟩
    rw [tok_eq cX93]
    by_cases hwe:(ch :: r:Wd0)=endW
    ·rw [decide_eq_true hwe]
     refine iteT ?_
     refine ⟨_,rfl,_,_,rfl,rfl,?_⟩
     refine ⟨_,rfl,_,_,rfl,rfl,?_⟩
     refine fin _ ?_
     have hk1:s.k≠0:=fun z=>hns ⟨z,hwe⟩
     show ((if (ch :: r:Wd0)=endW then s.k - 1 else if isO (ch :: r)=true then s.k+1 else s.k:Nat) : Int)=_
     rw [if_pos hwe]
     omega
    ·rw [decide_eq_false hwe]
     refine iteF ?_
     refine ⟨_,rfl,_,_,rfl,rfl,?_⟩
     refine fin _ ?_
     show ((if (ch :: r:Wd0)=endW then s.k - 1 else if isO (ch :: r)=true then s.k+1 else s.k:Nat) : Int)=_
     rw [if_neg hwe,if_neg hno']
  obtain ⟨b0,b,rfl,b0l,kb,hb0⟩:=hA.split
  have hbm:b ∈ b0++[b]:=List.mem_append.mpr (.inr List.mem_cons_self)
  refine ⟨_,rfl,rfl,_,rfl,?_⟩
  by_cases hk0:s.k=0
  ·rw [decide_eq_true (by rw [hk0]; rfl)]
   refine iteT ?_
   refine ⟨_,rfl,_,rfl,_,_,_,_,rfl,rfl,hWF,at_tok eW,rfl,_,rfl,?_⟩
   rw [tok_eq cX124]
   by_cases hbar:(ch :: r:Wd0)=barW
   ·rw [decide_eq_true hbar]
    refine iteT ?_
    refine ⟨_,rfl,.inl ⟨rfl,_,SqL.of kA⟩,small (by simp),fun p3 hp3=>?_⟩
    have g3:=same_new hp3 (.lst [])
    have k3:upd F p3 (.lst []) p3=some (.lst []):=upd_same
    have np3:p3≠p2:=Ne.symm (ne_of_none kA hp3)
    have nb3:∀ x ∈ b0++[b],∃ o,F x=some o:=fun x hx=>by
     obtain ⟨j,hj⟩:=List.getElem?_of_mem hx
     have hj2:=(List.getElem?_eq_some_iff.mp hj).1
     rw [hA.1] at hj2
     exact ⟨_,hA.2 j x _ hj (List.getElem?_eq_getElem hj2)⟩
    generalize upd F p3 (.lst [])=F3 at g3 k3 ⊢
    refine ⟨_,_,_,rfl,rfl,g3 _ _ kA,small (by rw [List.length_map]; omega),?_⟩
    refine key _ _ ⟨b0++[b]++[p3],rfl,(sF.trans g3).put fp2,by rw [upd_same,List.map_append (l₂:=[p3])]; rfl,?_,fun x hx=>?_,?_,by simp only [List.length_append,List.length_singleton] at hbl ⊢; omega⟩
    ·refine List.nodup_append.mpr ⟨nd,by simp,fun x hx y hy e=>?_⟩
     rw [List.mem_singleton.mp hy] at e
     obtain ⟨o,ho⟩:=nb3 x hx
     rw [e,hp3] at ho
     cases ho
    ·rcases List.mem_append.mp hx with hx | hx
     ·exact hnew x hx
     ·rw [List.mem_singleton.mp hx]; exact ⟨sF.free hp3,np3⟩
    ·have e1:(nxS s (ch :: r)).dn++[(nxS s (ch :: r)).cu]=s.dn++[s.cu]++[[]]:=by
      unfold nxS
      rw [if_pos ⟨hk0,hbar⟩,if_pos ⟨hk0,hbar⟩]
     rw [e1]
     exact hA.more (fun x hx o ho=>by rw [upd_ne (hnew x hx).2]; exact g3 _ _ ho) (by rw [upd_ne np3]; exact k3)
   ·rw [decide_eq_false hbar]
    refine iteF ?_
    have hnb:¬ (s.k=0∧(ch :: r:Wd0)=barW):=fun z=>hbar z.2
    refine ⟨_,rfl,_,rfl,p2,_,_,V.ref b,rfl,rfl,SqL.of kA,by rw [List.map_append]; exact atI_last _ _,.inl ⟨rfl,_,SqL.of kb⟩,_,rfl,_,rfl,_,_,_,_,rfl,rfl,hWF,at_tok eW,_,_,_,rfl,rfl,kb,small (by rw [List.length_map,List.length_map]; omega),?_⟩
    refine key _ _ ⟨b0++[b],rfl,sF.put (hnew b hbm).1,by rw [upd_ne (Ne.symm (hnew b hbm).2)]; exact kA,nd,hnew,?_,by omega⟩
    have e1:(nxS s (ch :: r)).dn++[(nxS s (ch :: r)).cu]=s.dn++[s.cu++[ch :: r]]:=by
     unfold nxS
     rw [if_neg hnb,if_neg hnb]
    rw [e1]
    exact hA.push nd
  ·rw [decide_eq_false (fun z=>hk0 (by have:=V.int.inj z; omega))]
   refine iteF (iteF ?_)
   have hnb:¬ (s.k=0∧(ch :: r:Wd0)=barW):=fun z=>hk0 z.1
   refine ⟨_,rfl,_,rfl,p2,_,_,V.ref b,rfl,rfl,SqL.of kA,by rw [List.map_append]; exact atI_last _ _,.inl ⟨rfl,_,SqL.of kb⟩,_,rfl,_,rfl,_,_,_,_,rfl,rfl,hWF,at_tok eW,_,_,_,rfl,rfl,kb,small (by rw [List.length_map,List.length_map]; omega),?_⟩
   refine key _ _ ⟨b0++[b],rfl,sF.put (hnew b hbm).1,by rw [upd_ne (Ne.symm (hnew b hbm).2)]; exact kA,nd,hnew,?_,by omega⟩
   have e1:(nxS s (ch :: r)).dn++[(nxS s (ch :: r)).cu]=s.dn++[s.cu++[ch :: r]]:=by
    unfold nxS
    rw [if_neg hnb,if_neg hnb]
   rw [e1]
   exact hA.push nd
 have hie:i=B.length:=by omega
 subst hie
 rw [List.drop_of_length_le (Nat.le_refl _)] at hR
 have hR:s=s':=hR
 subst hR
 refine ⟨_,rfl,_,_,rfl,rfl,_,rfl,?_⟩
 rw [hk',decide_eq_false (by decide)]
 refine iteF ?_
 refine ⟨_,rfl,_,rfl,_,_,_,_,rfl,rfl,hWF,at_tok atE,rfl,_,rfl,?_⟩
 rw [tok_eq cX93,decide_eq_true rfl]
 refine iteF ?_
 refine ⟨_,rfl,_,rfl,_,rfl,le3,fun p hp=>?_⟩
 have gp:=same_new hp (.tup [V.int (pre.length:Int),V.int ((pre.length+1+B.length:Nat) : Int),V.ref p2])
 refine q p p2 bs _ (sF.trans gp) upd_same (gp _ _ kA) ?_
 rw [hargs] at hA
 exact hA.keep gp

theorem sc_l_written:FnScope ["nodes","words","node","k"] ["nodes"] (defScope s_l_written):=⟨rfl,rfl,rfl,by decide +kernel,rfl,by decide +kernel,by decide +kernel⟩
theorem bj_take {wss:List (List Wd0)} {k:Nat} {x:List Wd0} (h:wss[k]? = some x) : barJoin (wss.take (k+1))=(if k=0 then [] else barJoin (wss.take k)++[barW])++x:=by
 rw [List.take_add_one,h]
 show barJoin (wss.take k++[x])=_
 rw [barJoin_snoc]
 by_cases e:k=0
 ·rw [if_pos e,e]
  rfl
 ·rw [if_neg e,bj_bar]
  intro z
  have:=congrArg List.length z
  have hk:=(List.getElem?_eq_some_iff.mp h).1
  rw [List.length_take,List.length_nil] at this
  omega
theorem bj_le (wss:List (List Wd0)) (d:Nat) : ∀ k,k+d=wss.length→(barJoin (wss.take k)).length+(if k=0∨k=wss.length then 0 else 1)≤(barJoin wss).length:=by
 induction d with
 | zero =>
  intro k h
  rw [List.take_of_length_le (by omega),if_pos (.inr (by omega))]
  exact Nat.le_refl _
 | succ d ih =>
  intro k h
  have hk:wss[k]? = some wss[k]:=List.getElem?_eq_getElem (by omega)
  have h1:=ih (k+1) (by omega)
  rw [bj_take hk,List.length_append] at h1
  by_cases e:k=0
  ·rw [e]
   show 0+_≤_
   rw [if_pos (.inl rfl)]
   exact Nat.zero_le _
  ·rw [if_neg e,List.length_append,List.length_singleton] at h1
   split
   ·omega
   ·omega
theorem at_fig10:∀ k:Nat,k < 10→atI (PySem.Str.ofString "0123456789").cps.toList (k:Int)=some (48+k):=by decide +kernel
theorem wtL_take {d:Nat} (xs:List DD) (k:Nat) : (wtL d (xs.take k)).length≤(wtL d xs).length:=by
 conv=>rhs; rw [← List.take_append_drop k xs]
 rw [wtL_app,List.length_append]
 omega
def sp_wtn (K:PySem.W.Frag) (n:Nat) : Sp:=fun vs H Q _=>∃ (xv:V) (xs:List DD) (M:List (Wd0 × Nat)) (c d:Nat),vs=[xv]∧d < n∧c≤9∧Rep K H (.lst xs) xv∧(∀ x ∈ xs,Nd M c d x)∧(∀ m ∈ M,m.1.length≤12)∧(wtL d xs).length≤400000∧∀ p H',H p=none→Same H H'→H' p=some (.lst (((wtL d xs).map tx).map V.str))→Q (.ref p) H'
theorem ok_l_written_n (T:Txt P w K mg a) : ∀ n:Nat,FnOk P w K mg base CX0 (n+4) a.f_l_written a.fd_l_written ["nodes"] (sp_wtn K n)
 | 0=>⟨fun vs H Q E h=>(by obtain ⟨xv,xs,M,c,d,_,h1,_⟩:=h; omega),fun A outer s H args us vs Q E _ _ _ _ h=>(by obtain ⟨xv,xs,M,c,d,_,h1,_⟩:=h; omega)⟩
 | n+1=>by
  have g_l_written:=ok_l_written_n T n
  have d_l_written:=T.d_l_written
  have z_len:=T.z_len
  have z_range:=T.z_range

  refine T.d_l_written.fn.ok sc_l_written (fun vs H Q E h=>?_) (fun cdv A outer s H vs Q E hr h=>?_)
  ·obtain ⟨xv,xs,M,c,d,rfl,_⟩:=h
   rfl
  obtain ⟨xv,xs,M,c,d,rfl,hd,c9,rx,ndx,m12,l900,q⟩:=h
  have hu:=Nat.lt_of_succ_lt (hu_of hr)
  refine ⟨_,(pss_cons (ps_set (i:=1) sc_l_written.nd rfl (Or.inl rfl) (pe_lst pa_nil))
   (pss_cons (ps_for PassesOwn.never rfl (pi_list (pv 0)) (pg_name (i:=2) sc_l_written.nd rfl (Or.inl rfl)) (pss_one (ps_if (pt_cmpR op_eq (pe_ix ix_tup (pv 2) pe_int (fun _ _=>rfl)) pe_str (nomark _)) (pss_one (ps_expr (pe_bm PySem.F.plainAttrs_list PySem.F.slot_list_append PySem.F.type_list_append mt_append (pv 1) (pa_cons (pe_ix ix_tup (pv 2) pe_int (fun _ _=>rfl)) pa_nil)))) (pss_one (ps_if (pt_cmpR op_eq (pe_ix ix_tup (pv 2) pe_int (fun _ _=>rfl)) pe_str (nomark _)) (pss_one (ps_expr (pe_bm PySem.F.plainAttrs_list PySem.F.slot_list_append PySem.F.type_list_append mt_append (pv 1) (pa_cons (pe_op op_add_str pe_str (pe_ix ix_str pe_str (pe_ix ix_tup (pv 2) pe_int (fun _ _=>rfl)) (fun _ _=>rfl))) pa_nil)))) (pss_cons (ps_expr (pe_bm PySem.F.plainAttrs_list PySem.F.slot_list_append PySem.F.type_list_append mt_append (pv 1) (pa_cons (pe_op op_add_str pe_str (pe_ix ix_tup (pv 2) pe_int (fun _ _=>rfl))) pa_nil)))
   (pss_cons (ps_for PassesOwn.never rfl (pi_range1 rfl z_range (pa_cons (pe_callB call_len_seq rfl z_len PySem.boot_len (pa_cons (pe_ix ix_tup (pv 2) pe_int (fun _ _=>rfl)) pa_nil)) pa_nil)) (pg_name (i:=3) sc_l_written.nd rfl (Or.inl rfl)) (pss_cons (ps_if (pt_cmpR op_gt (pv 3) pe_int (nomark _)) (pss_one (ps_expr (pe_bm PySem.F.plainAttrs_list PySem.F.slot_list_append PySem.F.type_list_append mt_append (pv 1) (pa_cons pe_str pa_nil)))) pss_nil)
   (pss_one (ps_set (i:=1) sc_l_written.nd rfl (Or.inl rfl) (pe_op op_cat (pv 1) (pe_callD d_l_written g_l_written hr rfl (pa_cons (pe_ix ix_list (pe_ix ix_tup (pv 2) pe_int (fun _ _=>rfl)) (pv 3) (fun _ _=>rfl)) pa_nil)))))))
   (pss_one (ps_expr (pe_bm PySem.F.plainAttrs_list PySem.F.slot_list_append PySem.F.type_list_append mt_append (pv 1) (pa_cons pe_str pa_nil)))))))))))
   (pss_one (ps_ret (pv 1))))),?_⟩
  obtain ⟨xa,vs0,rfl,sx,_,rxs⟩:=rx.lstO
  have xl:=rxs.len
  refine ⟨small (by simp),fun p1 hp1=>?_⟩
  have g1:=same_new hp1 (.lst [])
  have k1:upd H p1 (.lst []) p1=some (.lst []):=upd_same
  generalize upd H p1 (.lst [])=H1 at g1 k1 ⊢
  refine ⟨_,rfl,xa,rfl,⟨_,g1.seq sx⟩,for_list (K:=K) (a:=xa) (xs:=vs0) (fun k σ G=>∃ (pw:Addr) (v2 v3:Option V),σ=[some (.ref xa),some (.ref pw),v2,v3]∧Same H G∧H pw=none∧G pw=some (.lst (((wtL d (xs.take k)).map tx).map V.str))) ⟨p1,none,none,rfl,g1,hp1,k1⟩ (fun k σ G _ z=>by obtain ⟨_,_,_,_,s1,_⟩:=z; exact s1.seq sx) ?_ ?_⟩
  ·rintro k y σ G hy ⟨pw,v2,v3,rfl,s1,hpw,kw⟩
   obtain ⟨x0,e0,r0⟩:=rxs.getR hy
   have nd0:=ndx x0 (List.mem_of_getElem? e0)
   have es:=wtL_snoc (d:=d) e0
   have lk0:=wtL_take (d:=d) xs k
   have lk1:=wtL_take (d:=d) xs (k+1)
   rw [es,List.length_append] at lk1
   obtain ⟨e,rfl⟩:=nd0.pos
   rcases nd0.out with ⟨w',rfl⟩ | ⟨pk,hp1',hp2',rfl⟩ | ⟨nm',as,rfl,hM,has⟩
   ·obtain ⟨ta,zs,rfl,st,_,rz⟩:=r0.tupO
    obtain ⟨z0,z1,rfl,y0,y1⟩:=Reps.two rz
    rw [y0.strO,y1.strO] at st
    have st1:=s1.tup st
    refine ⟨_,rfl,_,_,_,_,rfl,rfl,st1,rfl,rfl,_,rfl,?_⟩
    rw [decide_eq_true rfl]
    refine iteT ?_
    refine ⟨_,rfl,.inl ⟨rfl,_,SqL.of kw⟩,_,rfl,_,_,_,_,rfl,rfl,st1,rfl,_,_,_,rfl,rfl,kw,small1000 (by rw [List.length_map,List.length_map]; omega),?_⟩
    refine ⟨pw,_,_,rfl,s1.put hpw,hpw,?_⟩
    rw [upd_same,es,wt_wd,List.map_append,List.map_append]
    rfl
   ·obtain ⟨ta,zs,rfl,st,_,rz⟩:=r0.tupO
    obtain ⟨z0,z1,rfl,y0,y1⟩:=Reps.two rz
    rw [y0.strO,y1.intO] at st
    have st1:=s1.tup st
    refine ⟨_,rfl,_,_,_,_,rfl,rfl,st1,rfl,rfl,_,rfl,?_⟩
    rw [decide_eq_false strNe1]
    refine iteF ?_
    refine ⟨_,rfl,_,_,_,_,rfl,rfl,st1,rfl,rfl,_,rfl,?_⟩
    rw [decide_eq_true rfl]
    refine iteT ?_
    have e36:(PySem.Str.ofString "$")++tx [48+pk]=tx (placeW pk):=by rw [c36,tx_app]; rfl
    refine ⟨_,rfl,.inl ⟨rfl,_,SqL.of kw⟩,_,rfl,_,_,_,_,rfl,rfl,st1,rfl,_,_,48+pk,rfl,rfl,small (by decide),at_fig10 pk (by omega),_,_,rfl,rfl,small (by rw [c36,tx_len]; show 1+1≤1000000; decide),_,_,_,rfl,rfl,kw,small1000 (by rw [List.length_map,List.length_map]; omega),?_⟩
    refine ⟨pw,_,_,rfl,s1.put hpw,hpw,?_⟩
    rw [upd_same,es,wt_pl,List.map_append,List.map_append]
    exact congrArg (fun z=>some (HO.lst (_++[V.str z]))) e36
   ·obtain ⟨ta,zs,rfl,st,_,rz⟩:=r0.tupO
    obtain ⟨z0,z1,z2,rfl,y0,y1,y2⟩:=Reps.three rz
    rw [y0.strO,y1.strO] at st
    obtain ⟨la,ys,rfl,sl,a1000,rl⟩:=y2.lstO
    rw [List.length_map] at a1000
    have yl:=rl.len
    rw [List.length_map] at yl
    have st1:=s1.tup st
    refine ⟨_,rfl,_,_,_,_,rfl,rfl,st1,rfl,rfl,_,rfl,?_⟩
    rw [decide_eq_false strNe2]
    refine iteF ?_
    refine ⟨_,rfl,_,_,_,_,rfl,rfl,st1,rfl,rfl,_,rfl,?_⟩
    rw [decide_eq_false strNe3]
    refine iteF ?_
    have n12:nm'.length≤12:=m12 _ hM
    obtain ⟨wss,ews⟩ : ∃ wss,wss=as.map (wtL e):=⟨_,rfl⟩
    have wsl:wss.length=as.length:=by rw [ews,List.length_map]
    rw [wt_cl,← ews] at es lk1
    rw [List.length_cons,List.length_append,List.length_singleton] at lk1
    refine ⟨_,rfl,.inl ⟨rfl,_,SqL.of kw⟩,_,rfl,_,_,_,_,rfl,rfl,st1,rfl,_,_,rfl,rfl,small (by rw [c91,tx_len,tx_len]; simp; omega),_,_,_,rfl,rfl,kw,small1000 (by rw [List.length_map,List.length_map]; omega),?_⟩
    have e91:(((wtL (e+1) (xs.take k)).map tx).map V.str)++[V.str (PySem.Str.ofString "["++tx nm')]=(((wtL (e+1) (xs.take k)++(91 :: nm') :: barJoin (wss.take 0)).map tx).map V.str):=by
     rw [c91,tx_app,List.map_append,List.map_append]
     rfl
    rw [e91]
    have s2:Same H (upd G pw (.lst (((wtL (e+1) (xs.take k)++(91 :: nm') :: barJoin (wss.take 0)).map tx).map V.str))):=s1.put hpw
    have k2:upd G pw (.lst (((wtL (e+1) (xs.take k)++(91 :: nm') :: barJoin (wss.take 0)).map tx).map V.str)) pw=some (.lst (((wtL (e+1) (xs.take k)++(91 :: nm') :: barJoin (wss.take 0)).map tx).map V.str)):=upd_same
    generalize upd G pw (.lst (((wtL (e+1) (xs.take k)++(91 :: nm') :: barJoin (wss.take 0)).map tx).map V.str))=G2 at s2 k2 ⊢
    refine ⟨_,rfl,_,_,_,_,rfl,rfl,s2.tup st,rfl,_,_,rfl,.inl (s2.seq sl),_,rfl,by omega,by omega,for_range (fun m σ G=>∃ (pw:Addr) (v3:Option V),σ=[some (.ref xa),some (.ref pw),some (.ref ta),v3]∧Same H G∧H pw=none∧G pw=some (.lst (((wtL (e+1) (xs.take k)++(91 :: nm') :: barJoin (wss.take m)).map tx).map V.str))) ⟨pw,v3,rfl,s2,hpw,k2⟩ ?_ ?_⟩
    ·rintro m σ G hm ⟨pw,v3,rfl,s3,hpw,kw⟩
     have hm2:m < as.length:=by omega
     have eaj:as[m]? = some as[m]:=List.getElem?_eq_getElem hm2
     have ewj:wss[m]? = some (wtL e as[m]):=by rw [ews,List.getElem?_map,eaj]; rfl
     have b1:=bj_le wss (wss.length - m) m (by omega)
     have b2:=bj_le wss (wss.length - (m+1)) (m+1) (by omega)
     have eb:=bj_take ewj
     obtain ⟨yv,ey,ry⟩:=rl.get (i:=m) (d:=.lst as[m]) (by rw [List.getElem?_map,eaj]; rfl)
     refine cut_seq (fun σ' G'=>σ' = [some (.ref xa),some (.ref pw),some (.ref ta),some (.int (0+(m:Int)))]∧Same H G'∧G' pw=some (.lst (((wtL (e+1) (xs.take k)++(91 :: nm') :: (if m=0 then [] else barJoin (wss.take m)++[barW])).map tx).map V.str))) ?_ (fun key=>?_)
     ·rintro σ' G4 ⟨rfl,s4,k4⟩
      have lx:(wtL e as[m]).length≤400000:=by
       rw [eb,List.length_append] at b2
       omega
      refine ⟨_,rfl,_,rfl,_,_,_,_,rfl,rfl,s4.tup st,rfl,_,rfl,_,_,_,_,rfl,rfl,s4.seq sl,at0 ey,yv,as[m],M,c,e,rfl,by omega,c9,ry.mono s4,(has as[m] (List.mem_of_getElem? eaj)).2,m12,lx,fun p5 G5 hp5 s5 k5=>?_⟩
      refine ⟨_,_,_,_,rfl,rfl,s5 _ _ k4,k5,small2 (by
       rw [eb,List.length_append] at b2
       simp only [List.length_map,List.length_append,List.length_cons]
       omega),fun p6 hp6=>?_⟩
      have s45:=s4.trans s5
      refine ⟨p6,_,rfl,s45.trans (same_new hp6 _),s45.free hp6,?_⟩
      rw [upd_same,eb]
      simp
     ·refine ⟨_,rfl,_,_,rfl,rfl,_,rfl,?_⟩
      refine ite2 (fun c1=>?_) (fun c1=>?_)
      ·have c1:(0:Int) < 0+(m:Int):=of_decide_eq_true c1
       have hm0:m≠0:=by omega
       rw [if_neg (by omega)] at b1
       refine ⟨_,rfl,.inl ⟨rfl,_,SqL.of kw⟩,_,_,_,rfl,rfl,kw,small1000 (by simp only [List.length_map,List.length_append,List.length_cons]; omega),?_⟩
       refine key _ _ ⟨rfl,s3.put hpw,?_⟩
       rw [upd_same,if_neg hm0,cBar]
       simp
      ·have c1:¬ (0:Int) < 0+(m:Int):=fun z=>c1 (decide_eq_true z)
       have hm0:m=0:=by omega
       subst hm0
       exact key _ _ ⟨rfl,s3,kw⟩
    ·rintro σ G ⟨pw,v3,rfl,s3,hpw,kw⟩
     rw [show ((ys.length:Nat) : Int).toNat=wss.length by omega,List.take_of_length_le (Nat.le_refl _)] at kw
     refine ⟨_,rfl,.inl ⟨rfl,_,SqL.of kw⟩,_,_,_,rfl,rfl,kw,small1000 (by simp only [List.length_map,List.length_append,List.length_cons]; omega),?_⟩
     refine ⟨pw,_,_,rfl,s3.put hpw,hpw,?_⟩
     rw [upd_same,es,cEnd]
     simp
  ·rintro σ G ⟨pw,v2,v3,rfl,s1,hpw,kw⟩
   rw [xl,List.take_of_length_le (Nat.le_refl _)] at kw
   exact ⟨_,rfl,q pw G hpw s1 kw⟩
theorem ok_l_written (T:Txt P w K mg a) : FnOk P w K mg base CX0 70 a.f_l_written a.fd_l_written ["nodes"] (sp_wtn K (70 - 4)):=ok_l_written_n T (70 - 4)
def sp_exch (K:PySem.W.Frag) : Sp:=fun vs H Q _=>∃ (sa wa:Addr) (t c:Nat) (S:List Sh) (W W':List Wd0),vs=[.ref sa,.ref wa,.int (t:Int)]∧Rep K H (.lst (S.map shD)) (.ref sa)∧ShOk S∧SqL K H wa ((W.map tx).map V.str)∧Spl S c t W W'∧(∀ w ∈ W,Tk w)∧W.length≤200000∧W'.length≤200000∧∀ p H',Same H H'→H p=none→H' p=some (.lst ((W'.map tx).map V.str))→Q (.ref p) H'
theorem sc_l_exchanged:FnScope ["shorts","words","at","start","end","arguments","short","put","word"] ["shorts","words","at"] (defScope s_l_exchanged):=⟨rfl,rfl,rfl,by decide +kernel,rfl,by decide +kernel,by decide +kernel⟩
theorem ok_l_exchanged (T:Txt P w K mg a) : FnOk P w K mg base CX0 71 a.f_l_exchanged a.fd_l_exchanged ["shorts","words","at"] (sp_exch K):=by
 have g_l_ends:=ok_l_ends (P:=P) (w:=w) (base:=base) T
 have d_l_ends:=T.d_l_ends
 have g_l_written:=ok_l_written (P:=P) (w:=w) (base:=base) T
 have d_l_written:=T.d_l_written
 refine T.d_l_exchanged.fn.ok sc_l_exchanged (fun vs H Q E h=>?_) (fun cdv A outer s H vs Q E hr h=>?_)
 ·obtain ⟨sa,wa,t,c,S,W,W',rfl,_⟩:=h
  rfl
 obtain ⟨sa,wa,t,c,S,W,W',rfl,rS,sok,hW,hsp,tkA,hlen,hlen2,q⟩:=h
 have hu:=Nat.lt_of_succ_lt (hu_of hr)
 refine ⟨_,(pss_cons (ps_asg (pe_callD d_l_ends g_l_ends (hr.mono (by decide)) rfl (pa_cons (pv 1) (pa_cons (pv 2) pa_nil))) (pg_tup rfl (pgs_cons (pg_name (i:=3) sc_l_exchanged.nd rfl (Or.inr rfl)) (pgs_cons (pg_name (i:=4) sc_l_exchanged.nd rfl (Or.inl rfl)) (pgs_cons (pg_name (i:=5) sc_l_exchanged.nd rfl (Or.inl rfl)) pgs_nil)))))
   (pss_cons (ps_set (i:=6) sc_l_exchanged.nd rfl (Or.inl rfl) (pe_ix ix_list (pe_lc rfl (lcok (caps:=["words","start"]) (js:=[1,3]) (cap:=⟨⟨rfl,.inl rfl,rfl,.inl rfl⟩,⟨⟨rfl,.inl rfl,rfl,.inl rfl⟩,trivial⟩⟩)) (pi_list (pv 0)) (fun _ _ _ _=>(pts_one (pt_cmpR op_eq (pe_op op_add_str pe_str (pe_ix (r:=rIxT K) ix_tup (pv 0) pe_int (fun _ _=>rfl))) (pe_ix (r:=rIxL K) ix_list (pv 1) (pv 2) (fun _ _=>rfl)) (nomark _)))) (fun _ _ _ _=>(pv 0))) pe_int (fun _ _=>rfl)))
   (pss_cons (ps_set (i:=7) sc_l_exchanged.nd rfl (Or.inl rfl) (pe_lst pa_nil))
   (pss_cons (ps_for PassesOwn.never rfl (pi_list (pe_callD d_l_written g_l_written (hr.mono (by decide)) rfl (pa_cons (pe_ix ix_tup (pv 6) pe_int (fun _ _=>rfl)) pa_nil))) (pg_name (i:=8) sc_l_exchanged.nd rfl (Or.inl rfl)) (pss_one (ps_if (pt_cmpR op_eq (pe_ix ix_str (pv 8) pe_int (fun _ _=>rfl)) pe_str (nomark _)) (pss_one (ps_set (i:=7) sc_l_exchanged.nd rfl (Or.inl rfl) (pe_op op_cat (pv 7) (pe_ix ix_list (pv 5) (pe_op op_sub (pe_bm PySem.F.plainAttrs_str PySem.F.slot_str_find PySem.F.type_str_find mt_find pe_str (pa_cons (pe_ix ix_str (pv 8) pe_int (fun _ _=>rfl)) pa_nil)) pe_int) (fun _ _=>rfl))))) (pss_one (ps_expr (pe_bm PySem.F.plainAttrs_list PySem.F.slot_list_append PySem.F.type_list_append mt_append (pv 7) (pa_cons (pv 8) pa_nil)))))))
   (pss_one (ps_ret (pe_op op_cat (pe_op op_cat (pe_slice sl_list (pv 1) po_none (po_some (pv 3))) (pv 7)) (pe_slice sl_list (pv 1) (po_some (pe_op op_add (pv 4) pe_int)) po_none)))))))),?_⟩
 obtain ⟨pre,post,nm,as,s,hF,hsn,hs,hal,hno,rfl,hop,rfl⟩:=hsp
 obtain ⟨sa',us,e,ssa,_,rus⟩:=rS.lstO
 cases e
 have ul:=rus.len
 rw [List.length_map] at ul
 have sl4:=sok.len
 obtain ⟨k0,hk0⟩:=List.getElem?_of_mem hs
 have k0l:=(List.getElem?_eq_some_iff.mp hk0).1
 obtain ⟨sv,esv,rsv⟩:=rus.get (i:=k0) (d:=shD s) (by rw [List.getElem?_map,hk0]; rfl)
 refine ⟨_,rfl,_,rfl,wa,pre,post,nm,as,t,c,menuS S,rfl,hW,hop,tkA,hno,hlen,fun p1 pa bs H1 s1 kp1 kpa hA=>?_⟩
 generalize hB:barJoin (as.map (wtL 100))=B at kp1
 have hcl:clW nm as=(91 :: nm) :: (B++[endW]):=by rw [← hB]; rfl
 refine ⟨p1,_,rfl,SqT.of kp1,rfl,_,_,rfl,_,_,rfl,_,_,rfl,rfl,?_⟩
 dsimp only [gName]
 have at0:(pre++(clW nm as++post))[pre.length]? = some (91 :: nm):=by rw [List.getElem?_append_right (Nat.le_refl _),Nat.sub_self,hcl]; rfl
 have hW1:=s1.seq hW
 refine ⟨_,rfl,sa,rfl,⟨_,s1.seq ssa⟩,lc_list (K:=K) (a:=sa) (xs:=us) (fun i ys G'=>G' = H1∧ys=if k0 < i then [sv] else []) ⟨rfl,rfl⟩ (fun i ys G' _ z=>by rw [z.1]; exact s1.seq ssa) ?_ ?_ ?_⟩
 ·rintro i ys G' hi ⟨_,rfl⟩
  split
  ·exact small (by simp)
  ·exact small (by simp)
 ·rintro i y ys G' hy ⟨eG,rfl⟩
  rw [eG]
  obtain ⟨dd,e1,r1⟩:=rus.getR hy
  rw [List.getElem?_map] at e1
  obtain ⟨si,e2,rfl⟩:=Option.map_eq_some_iff.mp e1
  obtain ⟨ai,nvi,rvi,rfl,sti,_,_⟩:=sh_out r1
  have nl:=(sok.nam si (List.mem_of_getElem? e2)).1
  refine ⟨_,rfl,_,_,_,_,rfl,rfl,s1.tup sti,rfl,_,_,rfl,rfl,small (by rw [cX91,tx_len,tx_len]; show 1+_≤_; omega),_,rfl,_,rfl,_,_,_,_,rfl,rfl,hW1,at_tok at0,rfl,_,rfl,?_⟩
  rw [br_app]
  by_cases hi:i=k0
  ·subst hi
   rw [hk0] at e2
   have e3:=Option.some.inj e2
   subst e3
   rw [decide_eq_true (by rw [hsn])]
   refine iteT ?_
   rw [esv] at hy
   have e4:=Option.some.inj hy
   refine ⟨_,rfl,rfl,?_⟩
   rw [if_neg (Nat.lt_irrefl _),if_pos (Nat.lt_succ_self _),e4]
   rfl
  ·have hne:¬ V.str (tx (91 :: si.n))=V.str (tx (91 :: nm)):=fun z=>by
    have:=tx_inj (V.str.inj z)
    injection this with _ this
    have hi1:i < (S.map Sh.n).length:=by rw [List.length_map]; exact (List.getElem?_eq_some_iff.mp e2).1
    exact hi ((List.getElem?_inj hi1 sok.nd).mp (by rw [List.getElem?_map,List.getElem?_map,e2,hk0]; show some si.n=some s.n; rw [this,hsn]))
   rw [decide_eq_false hne]
   refine iteF ⟨rfl,?_⟩
   by_cases h2:k0 < i
   ·rw [if_pos h2,if_pos (by omega)]
   ·rw [if_neg h2,if_neg (by omega)]
 rintro ys G' ⟨eG,rfl⟩ pf hpf
 rw [eG] at hpf ⊢
 clear eG G'
 rw [if_pos (by omega)]
 have gf:=same_new hpf (.lst [sv])
 have kf:upd H1 pf (.lst [sv]) pf=some (.lst [sv]):=upd_same
 generalize upd H1 pf (.lst [sv])=H2 at gf kf ⊢
 refine ⟨_,_,_,_,rfl,rfl,SqL.of kf,atI_nat (j:=0) rfl,?_⟩
 dsimp only [gName]
 obtain ⟨ea,nv,rv,rfl,st,rnv,_⟩:=sh_out rsv
 have s2:=s1.trans gf
 refine ⟨small (by simp),fun p3 hp3=>?_⟩
 have g3:=same_new hp3 (.lst [])
 have k3:upd H2 p3 (.lst []) p3=some (.lst []):=upd_same
 generalize upd H2 p3 (.lst [])=H3 at g3 k3 ⊢
 have s3:=s2.trans g3
 have c9:=sok.c9 s hs
 have bno:=sh_no sok s hs
 have ndb:∀ y ∈ s.ns,Nd (menuS S) s.c 12 y:=fun y hy=>(sok.x.ord k0 s hk0 y hy).up menuS_take (Nat.le_refl _) (Nat.le_refl _)
 have m12:∀ m ∈ menuS S,m.1.length≤12:=fun m hm=>((mok_of sok).2 m hm).1
 have wl:(wtL 12 s.ns).length≤780:=Nat.le_trans (wtL_len ndb) (sok.mu s hs)
 have e12:wtL 100 s.ns=wtL 12 s.ns:=wtL_up (fun y hy=>(bno y hy).ns) (by decide)
 have efl:wtL 100 (fiL as 12 s.ns)=(wtL 12 s.ns).flatMap (subW (as.map (wtL 100))):=by
  rw [fillL_wt (e:=60) (c':=c) (M:=menuS S) (M':=menuS S) (fun _ h=>h) hno (by decide) (Nat.le_refl _) bno,e12]
 rw [efl] at hlen2 q
 have tbA:∀ w ∈ wtL 12 s.ns,TB s.c w∧Tk w:=fun w hw=>by
  rw [← e12] at hw
  refine ⟨?_,tkL m12 (by decide) bno w hw⟩
  unfold wtL at hw
  obtain ⟨l,hl,hw⟩:=List.mem_flatten.mp hw
  obtain ⟨y,hy,rfl⟩:=List.mem_map.mp hl
  exact tb_wt (by decide) (bno y hy) w hw
 refine ⟨_,rfl,_,_,_,_,rfl,rfl,s3.tup st,atI_nat (j:=2) rfl,nv,s.ns,menuS S,s.c,12,rfl,by decide,c9,rnv.mono s3,ndb,m12,by omega,fun pw H4 fpw s4 kw=>?_⟩
 generalize wtL 12 s.ns=T0 at wl tbA kw hlen2 q
 generalize hA0:as.map (wtL 100)=A at hA hlen2 q hB
 have hAl:A.length=s.c:=by rw [← hA0,List.length_map,hal]
 have ll:∀ k,((T0.take k).flatMap (subW A)).length≤200000:=fun k=>by
  have:=fm_len (f:=subW A) T0 k
  rw [List.length_append,List.length_append] at hlen2
  omega
 have k34:=s4 _ _ k3
 have h2p3:=hp3
 refine ⟨pw,rfl,⟨_,SqL.of kw⟩,for_list (K:=K) (a:=pw) (xs:=(T0.map tx).map V.str) (fun k σ G=>∃ (pp:Addr) (v8:Option V),σ=[some (.ref sa),some (.ref wa),some (.int (t:Int)),some (.int (pre.length:Int)),some (.int ((pre.length+1+B.length:Nat) : Int)),some (.ref pa),some (.ref ea),some (.ref pp),v8]∧Same H2 G∧G pw=some (.lst ((T0.map tx).map V.str))∧H2 pp=none∧pp≠pw∧G pp=some (.lst ((((T0.take k).flatMap (subW A)).map tx).map V.str))) ⟨p3,none,rfl,g3.trans s4,kw,hp3,ne_of_none k3 fpw,k34⟩ (fun k σ G _ z=>by obtain ⟨_,_,_,_,u,_⟩:=z; exact SqL.of u) ?_ ?_⟩
 ·rintro k y σ G hy ⟨pp,v8,rfl,sG,kwG,hpp,npw,kpp⟩
  rw [List.getElem?_map,List.getElem?_map] at hy
  obtain ⟨z,hz,rfl⟩:=Option.map_eq_some_iff.mp hy
  obtain ⟨w,hw,rfl⟩:=Option.map_eq_some_iff.mp hz
  obtain ⟨htb,⟨ch,r,ew⟩,hwl⟩:=tbA w (List.mem_of_getElem? hw)
  have lk1:=ll (k+1)
  have lk0:=ll k
  have etk:(T0.take (k+1)).flatMap (subW A)=(T0.take k).flatMap (subW A)++subW A w:=by
   rw [List.take_add_one,hw,fm_app]
   show _++(subW A w++[])=_
   rw [List.append_nil]
  subst ew
  refine ⟨_,rfl,_,_,_,rfl,rfl,Nat.le_of_lt (small (by rw [tx_len]; omega)),at_chr,rfl,_,rfl,?_⟩
  rw [chr_eq cX36]
  rcases htb with ⟨j,j1,j2,ej⟩ | ⟨ch',r',ej,h36⟩
  ·have e36:ch=36:=by unfold placeW at ej; injection ej
   have er:r=[48+j]:=by unfold placeW at ej; injection ej
   rw [decide_eq_true e36]
   refine iteT ?_
   rw [ej,sub_pl j1] at etk
   have hAne:A≠[]:=fun e=>by rw [e] at hAl; simp at hAl; omega
   have eaw:argW A=A:=if_neg hAne
   rw [eaw] at hA
   have hj:j - 1 < bs.length:=by rw [hA.1]; omega
   have eb:=List.getElem?_eq_getElem hj
   generalize bs[j - 1]'hj=b at eb
   have ea:A[j - 1]? = some (A.getD (j - 1) []):=by
    rw [List.getD_eq_getElem?_getD,List.getElem?_eq_getElem (by omega)]
    rfl
   have kb:=hA.2 (j - 1) b _ eb ea
   have kbG:=(gf.trans sG) _ _ kb
   have kpaG:=(gf.trans sG) _ _ kpa
   refine ⟨_,rfl,_,rfl,rfl,_,rfl,_,_,48+j,rfl,rfl,Nat.le_of_lt (small (by rw [tx_len]; omega)),?_,_,_,rfl,rfl,_,_,rfl,rfl,_,_,_,_,rfl,rfl,SqL.of kpaG,?_,_,_,_,_,rfl,rfl,kpp,kbG,?_,fun p5 hp5=>?_⟩
   ·show atI (unT (tx (ch :: r))) 1=some (48+j)
    rw [unT_tx,er]
    exact atI_nat (j:=1) rfl
   ·rw [find_figX j (by omega),show ((j:Int) - 1)=((j - 1:Nat) : Int) by omega]
    exact atI_nat (by rw [List.getElem?_map,eb]; rfl)
   ·rw [List.length_map,List.length_map,List.length_map,List.length_map]
    rw [etk,List.length_append] at lk1
    exact Nat.le_of_lt (small (by omega))
   ·have g5:=same_new hp5 (.lst ((((T0.take k).flatMap (subW A)).map tx).map V.str++((A.getD (j - 1) []).map tx).map V.str))
    refine ⟨p5,_,rfl,sG.trans g5,g5 _ _ kwG,sG.free hp5,Ne.symm (ne_of_none kwG hp5),?_⟩
    rw [upd_same,etk,List.map_append,List.map_append]
  ·have e36:¬ ch=36:=by injection ej with e _; rw [e]; exact h36
   rw [decide_eq_false e36]
   refine iteF ?_
   rw [sub_own e36] at etk
   refine ⟨_,rfl,.inl ⟨rfl,_,SqL.of kpp⟩,_,rfl,_,_,_,rfl,rfl,kpp,small (by rw [List.length_map,List.length_map]; omega),?_⟩
   refine ⟨pp,_,rfl,sG.put hpp,by rw [upd_ne (Ne.symm npw)]; exact kwG,hpp,npw,?_⟩
   rw [upd_same,etk,List.map_append,List.map_append]
   rfl
 ·rintro σ G ⟨pp,v8,rfl,sG,kwG,hpp,npw,kpp⟩
  rw [List.length_map,List.length_map,List.take_of_length_le (Nat.le_refl _)] at kpp
  have hWG:=(s2.trans sG).seq hW
  have lT:=ll T0.length
  rw [List.take_of_length_le (Nat.le_refl _)] at lT
  refine ⟨_,rfl,_,rfl,_,rfl,_,_,rfl,hWG,fun p5 hp5=>?_⟩
  rw [cutV_to (by rw [List.length_map,List.length_map,List.length_append]; omega),← List.map_take,← List.map_take,List.take_left']
  rotate_left
  ·rfl
  have g5:=same_new hp5 (.lst ((pre.map tx).map V.str))
  have k5:upd G p5 (.lst ((pre.map tx).map V.str)) p5=some (.lst ((pre.map tx).map V.str)):=upd_same
  generalize upd G p5 (.lst ((pre.map tx).map V.str))=G5 at g5 k5 ⊢
  refine ⟨_,rfl,_,_,_,_,rfl,rfl,k5,g5 _ _ kpp,by simp only [List.length_map]; simp only [List.length_append] at hlen; exact Nat.le_of_lt (small (by omega)),fun p6 hp6=>?_⟩
  have g6:=same_new hp6 (.lst ((pre.map tx).map V.str++((T0.flatMap (subW A)).map tx).map V.str))
  have k6:upd G5 p6 (.lst ((pre.map tx).map V.str++((T0.flatMap (subW A)).map tx).map V.str)) p6=some (.lst ((pre.map tx).map V.str++((T0.flatMap (subW A)).map tx).map V.str)):=upd_same
  generalize upd G5 p6 (.lst ((pre.map tx).map V.str++((T0.flatMap (subW A)).map tx).map V.str))=G6 at g6 k6 ⊢
  have g56:=g5.trans g6
  have hWl:(pre++(clW nm as++post)).length=pre.length+(B.length+2+post.length):=by rw [List.length_append,List.length_append,hcl,List.length_cons,List.length_append,List.length_singleton]
  refine ⟨_,rfl,_,rfl,_,_,rfl,rfl,_,rfl,_,_,rfl,g56.seq hWG,fun p7 hp7=>?_⟩
  have edr:(pre++(clW nm as++post)).drop (pre.length+1+B.length+1)=post:=by
   rw [← List.append_assoc,List.drop_left']
   rw [List.length_append,hcl,List.length_cons,List.length_append,List.length_singleton]
   omega
  rw [show (((pre.length+1+B.length:Nat) : Int)+1)=((pre.length+1+B.length+1:Nat) : Int) by omega,cutV_from (by rw [List.length_map,List.length_map,hWl]; omega),← List.map_drop,← List.map_drop,edr]
  have g7:=same_new hp7 (.lst ((post.map tx).map V.str))
  have k7:upd G6 p7 (.lst ((post.map tx).map V.str)) p7=some (.lst ((post.map tx).map V.str)):=upd_same
  generalize upd G6 p7 (.lst ((post.map tx).map V.str))=G7 at g7 k7 ⊢
  refine ⟨_,_,_,_,rfl,rfl,g7 _ _ k6,k7,by simp only [List.length_append,List.length_map] at hlen2 ⊢; exact Nat.le_of_lt (small (by omega)),fun p8 hp8=>?_⟩
  have g8:=same_new hp8 (.lst (((pre.map tx).map V.str++((T0.flatMap (subW A)).map tx).map V.str)++(post.map tx).map V.str))
  refine q p8 _ ((s2.trans sG).trans (g56.trans (g7.trans g8))) (((s2.trans sG).trans (g56.trans g7)).free hp8) ?_
  rw [upd_same]
  simp only [List.map_append,List.append_assoc]
theorem pl111:PlW [111]:=⟨⟨by simp,by simp,fun c h=>by rw [List.mem_singleton.mp h]; decide⟩,fun c h=>by rw [List.mem_singleton.mp h]; decide⟩

def sp_l_end (K:PySem.W.Frag) : Sp:=fun vs H Q _=>∃ (H0:Hp) (pf:Addr) (g h:Gf) (r:List Gf) (M:List (Wd0 × Nat)) (c k:Nat),vs=[.ref pf]∧FrS K H0 H pf (g :: h :: r)∧GfOk M c k (g :: h :: r)∧r.length≤10∧MOk M∧k≤90∧GfW PlW (g :: h :: r) ∧
  ∀ H' gs',FrS K H0 H' pf gs'→gs'≠[]→GfOk M c k gs'→gs'.length≤r.length+2→toGo gs' < toGo (g :: h :: r)→tmu gs'≤tmu (g :: h :: r)→GfW PlW gs'→Q .non H'
theorem sc_l_end_argument:FnScope ["frames","name","done","nodes","many"] ["frames"] (defScope s_l_end_argument):=⟨rfl,rfl,rfl,by decide +kernel,rfl,by decide +kernel,by decide +kernel⟩
theorem ok_l_end_argument (T:Txt P w K mg a) : FnOk P w K mg base CX0 1 a.f_l_end_argument a.fd_l_end_argument ["frames"] (sp_l_end K):=by
 have z_len:=T.z_len
 refine T.d_l_end_argument.fn.ok sc_l_end_argument (fun vs H Q E h=>?_) (fun cdv A outer s H vs Q E hr h=>?_)
 ·obtain ⟨H0,pf,g,h,r,M,c,k,rfl,_⟩:=h
  rfl
 obtain ⟨H0,pf,g,h,r,M,c,k,rfl,S,ok,rl,mok,k90,gw,q⟩:=h
 have hu:=Nat.lt_of_succ_lt (hu_of hr)
 refine ⟨_,(pss_cons (ps_asg (pe_bm0 PySem.F.plainAttrs_list PySem.F.slot_list_pop PySem.F.type_list_pop mt_pop (pv 0)) (pg_tup rfl (pgs_cons (pg_name (i:=1) sc_l_end_argument.nd rfl (Or.inl rfl)) (pgs_cons (pg_name (i:=2) sc_l_end_argument.nd rfl (Or.inl rfl)) (pgs_cons (pg_name (i:=3) sc_l_end_argument.nd rfl (Or.inl rfl)) (pgs_cons (pg_name (i:=4) sc_l_end_argument.nd rfl (Or.inl rfl)) pgs_nil))))))
   (pss_cons (ps_if (PW.pt (pw_and (pt_cmpR (op_eqNil hu) (pv 3) (pe_lst pa_nil) (nomark _)) (pw_and1 (pt_cmpR op_eq (pv 4) pe_int (nomark _))))) (pss_one (ps_set (i:=3) sc_l_end_argument.nd rfl (Or.inl rfl) (pe_lst (pa_cons (pe_tup (pa_cons pe_str (pa_cons pe_str pa_nil))) pa_nil)))) pss_nil)
   (pss_cons (ps_set (i:=2) sc_l_end_argument.nd rfl (Or.inl rfl) (pe_op op_cat (pv 2) (pe_lst (pa_cons (pv 3) pa_nil))))
   (pss_one (ps_if (pt_cmpR op_lt (pe_callB call_len_seq rfl z_len PySem.boot_len (pa_cons (pv 2) pa_nil)) (pv 4) (nomark _)) (pss_one (ps_expr (pe_bm PySem.F.plainAttrs_list PySem.F.slot_list_append PySem.F.type_list_append mt_append (pv 0) (pa_cons (pe_tup (pa_cons (pv 1) (pa_cons (pv 2) (pa_cons (pe_lst pa_nil) (pa_cons (pv 4) pa_nil))))) pa_nil)))) (pss_one (ps_expr (pe_bm PySem.F.plainAttrs_list PySem.F.slot_list_append PySem.F.type_list_append mt_append (pe_ix ix_tup (pe_ix ix_list (pv 0) (pe_un un_neg pe_int) (fun _ _=>rfl)) pe_int (fun _ _=>rfl)) (pa_cons (pe_tup (pa_cons pe_str (pa_cons (pv 1) (pa_cons (pv 2) pa_nil)))) pa_nil))))))))),?_⟩
 have etop:((g :: h :: r).map fun g=>V.ref g.t).reverse=((h :: r).map fun g=>V.ref g.t).reverse++[V.ref g.t]:=by rw [List.map_cons,List.reverse_cons]
 have stop:=S.top
 rw [etop] at stop
 obtain ⟨o1,o2,o3,o4,o5,o6,o7⟩:=ok
 obtain ⟨w2,w3,w5,w6,w7⟩:=gw
 obtain ⟨o3a,o3b,o3c⟩:=o3 (by simp)
 have mk:=mok.2 _ o3b
 have g2:toGo (g :: h :: r)=(g.m - g.ds.length)+toGo (h :: r):=rfl
 refine ⟨_,rfl,.inl ⟨rfl,_,SqL.of stop⟩,pf,_,V.ref g.t,rfl,rfl,stop,by simp,?_⟩
 rw [List.dropLast_concat]
 obtain ⟨S1,q1⟩:=S.pop
 generalize upd H pf (.lst ((h :: r).map fun g=>V.ref g.t).reverse)=G1 at S1 q1 ⊢
 have tg:=(erG_of q1.tup).2
 have dg:=q1.dl
 refine ⟨g.t,_,rfl,SqT.of tg,rfl,_,_,rfl,_,_,rfl,_,_,rfl,_,_,rfl,rfl,?_⟩
 dsimp only [gName]
 refine cut_seq (fun σ' G'=>∃ (nn:Addr) (a':List DD),σ' = [some (.ref pf),some (.str (tx g.n)),some (.ref g.D),some (.ref nn),some (.int (g.m:Int))]∧Same G1 G'∧Rep K (erG H0 G' (opF pf (h :: r))) (.lst a') (.ref nn)∧a'.length≤90∧(∀ y ∈ a',Nd M c (12 - (h :: r).length) y)∧(muL a'≤muL g.xs+(if g.m=1 then 1 else 0))∧(g.m=1→a'≠[])∧∀ y ∈ a',Wf PlW (12 - (h :: r).length) y) ?_ (fun key=>?_)
 ·rintro σ' G2 ⟨nn,a',rfl,s2,rn,al,an,am,ae,aw⟩
  have S2:=S1.ext s2
  have u2:=S1.up s2
  have dg2:=u2 _ _ dg
  have dr2:=q1.dr.mono u2
  have dl:=dr2.len
  rw [List.length_map] at dl
  refine ⟨_,rfl,_,rfl,le1,fun p1 hp1=>?_⟩
  have g3:=same_new hp1 (.lst [V.ref nn])
  refine ⟨_,_,_,_,rfl,rfl,g3 _ _ (erG_of dg2).2,upd_same,small (by simp; omega),fun p2 hp2=>?_⟩
  have s3:=g3.trans (same_new hp2 (.lst (g.Dv++[V.ref nn])))
  have k3:upd (upd G2 p1 (.lst [V.ref nn])) p2 (.lst (g.Dv++[V.ref nn])) p2=some (.lst (g.Dv++[V.ref nn])):=upd_same
  have fp2:=g3.free hp2
  generalize upd (upd G2 p1 (.lst [V.ref nn])) p2 (.lst (g.Dv++[V.ref nn]))=G3 at s3 k3 ⊢
  have S3:=S2.ext s3
  have u3:=S2.up s3
  have r3:Reps K (erG H0 G3 (opF pf (h :: r))) ((g.ds++[a']).map DD.lst) (g.Dv++[V.ref nn]):=by
   rw [List.map_append]
   exact (dr2.mono u3).snoc (rn.mono u3)
  have k3e:=S2.get fp2 k3
  dsimp only [gName]
  refine ⟨_,rfl,_,_,rfl,.inl (SqL.of k3),_,rfl,_,_,rfl,rfl,_,rfl,?_⟩
  refine ite2 (fun c0=>?_) (fun c0=>?_)
  ·have c0:=of_decide_eq_true c0
   rw [List.length_append,List.length_singleton] at c0
   refine ⟨_,rfl,.inl ⟨rfl,_,SqL.of S3.top⟩,_,rfl,_,rfl,small (by simp),fun N hN=>?_⟩
   have g4:=same_new hN (.lst [])
   have k4:upd G3 N (.lst []) N=some (.lst []):=upd_same
   generalize upd G3 N (.lst [])=G4 at g4 k4 ⊢
   refine ⟨_,rfl,le4,fun t ht=>?_⟩
   have g5:=same_new ht (.tup [V.str (tx g.n),V.ref p2,V.ref N,V.int (g.m:Int)])
   have k5:upd G4 t (.tup [V.str (tx g.n),V.ref p2,V.ref N,V.int (g.m:Int)]) t=some (.tup [V.str (tx g.n),V.ref p2,V.ref N,V.int (g.m:Int)]):=upd_same
   have tN:t≠N:=Ne.symm (ne_of_none k4 ht)
   generalize upd G4 t (.tup [V.str (tx g.n),V.ref p2,V.ref N,V.int (g.m:Int)])=G5 at g5 k5 ⊢
   have s5:=g4.trans g5
   refine ⟨pf,_,_,rfl,rfl,s5 _ _ S3.top,small1000 (by simp; omega),?_⟩
   have nPN:N≠pf:=Ne.symm (ne_of_none S3.top hN)
   have nPt:t≠pf:=Ne.symm (ne_of_none (g4 _ _ S3.top) ht)
   have fpf:=S.fresh pf List.mem_cons_self
   refine q _ (⟨t,p2,N,g.n,g.m,g.Dv++[V.ref nn],g.ds++[a'],[],[]⟩ :: h :: r) (S3.open (fun b o hb=>by rw [upd_ne (ne_of_none hb fpf)]; exact s5 _ _ (S3.same b o hb)) (fun b o nb hb=>by rw [upd_ne nb]; exact s5 _ _ hb) k3e r3 hN (g4.free ht) (S3.same.free hN) tN (by rw [upd_ne nPt]; exact k5) (by rw [upd_ne nPN]; exact g5 _ _ k4) upd_same) (by simp) ⟨by simp only [List.length_nil]; omega,fun x hx=>(by cases hx),fun _=>⟨?_,o3b,fun b hb=>?_⟩,o4,o5,o6,o7⟩ (by simp) ?_ ?_ ⟨fun x hx=>(by cases hx),fun b hb=>?_,w5,w6,w7⟩
   ·simp only [List.length_append,List.length_singleton]
    omega
   ·rcases List.mem_append.mp hb with hb | hb
    ·exact o3c b hb
    ·rw [List.mem_singleton.mp hb]
     exact ⟨al,an⟩
   ·show (g.m - (g.ds++[a']).length)+toGo (h :: r) < _
    rw [g2,List.length_append,List.length_singleton]
    omega
   ·show muL []+muL ((g.ds++[a']).map DD.lst)+(3+(g.m - (g.ds++[a']).length))+tmu (h :: r)≤muL g.xs+muL (g.ds.map DD.lst)+(3+(g.m - g.ds.length))+tmu (h :: r)
    rw [List.map_append,muL_app,List.length_append,List.length_singleton]
    show muL []+(_+muL [DD.lst a'])+_+_≤_
    rw [muL_one,mu_lst,muL_nil]
    rw [if_neg (by omega)] at am
    omega
   ·rcases List.mem_append.mp hb with hb | hb
    ·exact w3 b hb
    ·rw [List.mem_singleton.mp hb]
     exact aw
  ·have c0:¬ (((g.Dv++[V.ref nn]).length:Nat) : Int) < (g.m:Int):=fun z=>c0 (decide_eq_true z)
   rw [List.length_append,List.length_singleton] at c0
   have hm:g.ds.length+1=g.m:=by omega
   have hlast:((h :: r).map fun g=>V.ref g.t).reverse=(r.map fun g=>V.ref g.t).reverse++[V.ref h.t]:=by rw [List.map_cons,List.reverse_cons]
   have qh:=S3.fr h List.mem_cons_self
   have th:=(erG_of qh.tup).2
   have hvl:=qh.nr.len
   refine ⟨_,rfl,_,rfl,pf,_,_,V.ref h.t,rfl,rfl,SqL.of S3.top,by rw [hlast]; exact atI_last _ _,h.t,_,_,V.ref h.N,rfl,rfl,SqT.of th,rfl,.inl ⟨rfl,_,SqL.of qh.hN⟩,_,rfl,_,rfl,le3,fun p hp=>?_⟩
   have g4:=same_new hp (.tup [V.str (PySem.Str.ofString "call"),V.str (tx g.n),V.ref p2])
   have k4:upd G3 p (.tup [V.str (PySem.Str.ofString "call"),V.str (tx g.n),V.ref p2]) p=some (.tup [V.str (PySem.Str.ofString "call"),V.str (tx g.n),V.ref p2]):=upd_same
   have np:=hp
   generalize upd G3 p (.tup [V.str (PySem.Str.ofString "call"),V.str (tx g.n),V.ref p2])=G4 at g4 k4 ⊢
   have S4:=S3.ext g4
   have u4:=S3.up g4
   refine ⟨_,_,_,rfl,rfl,(S4.fr h List.mem_cons_self).hN,small1000 (by omega),?_⟩
   have lds:((g.ds++[a']).map DD.lst).length≤500000:=by
    rw [List.length_map,List.length_append,List.length_singleton]
    omega
   have rc:Rep K (erG H0 G4 (opF pf (h :: r))) (clD g.n (g.ds++[a'])) (.ref p):=rep_tup (SqT.of (S3.get np k4)) (by simp) (Reps.cons (rep_str _) (Reps.cons (rep_str _) (Reps.cons (rep_lst (SqL.of (u4 _ _ k3e)) lds (r3.mono u4)) Reps.nil)))
   refine q _ _ (S4.push rc) (by simp) ⟨?_,fun x hx=>?_,o6,GfOk.up (by omega) o7⟩ (by simp) ?_ ?_ ⟨fun x hx=>?_,w6,w7⟩
   ·simp only [List.length_append,List.length_singleton]
    omega
   ·rcases List.mem_append.mp hx with hx | hx
    ·exact o5 x hx
    ·rw [List.mem_singleton.mp hx,show 12 - r.length=(12 - (h :: r).length)+1 by rw [List.length_cons]; omega]
     refine .inr (.inr ⟨g.n,g.ds++[a'],rfl,?_,fun b hb=>?_⟩)
     ·rw [List.length_append,List.length_singleton,hm]
      exact o3b
     ·rcases List.mem_append.mp hb with hb | hb
      ·exact ⟨by have:=(o3c b hb).1; omega,(o3c b hb).2⟩
      ·rw [List.mem_singleton.mp hb]
       exact ⟨by omega,an⟩
   ·have e1:toGo ({ h with vs:=h.vs++[V.ref p],xs:=h.xs++[clD g.n (g.ds++[a'])] } :: r)=toGo (h :: r):=by cases r <;> rfl
    rw [e1,g2]
    omega
   ·rw [tmu_push,mu_cl,List.map_append,muL_app]
    have e3:muL ([a'].map DD.lst)=1+muL a':=by show muL [DD.lst a']=_; rw [muL_one,mu_lst]
    show _≤muL g.xs+muL (g.ds.map DD.lst)+(3+(g.m - g.ds.length))+tmu (h :: r)
    rw [e3]
    have:(if g.m=1 then 1 else 0)≤1:=by split <;> omega
    omega
   ·rcases List.mem_append.mp hx with hx | hx
    ·exact w5 x hx
    ·rw [List.mem_singleton.mp hx,show 12 - r.length=(12 - (h :: r).length)+1 by rw [List.length_cons]; omega]
     refine .inr (.inr ⟨g.n,g.ds++[a'],rfl,fun a ea=>?_,fun b hb=>?_⟩)
     ·have l1:=congrArg List.length ea
      rw [List.length_append,List.length_singleton,List.length_singleton] at l1
      have l0:g.ds=[]:=List.length_eq_zero_iff.mp (by omega)
      rw [l0] at ea
      have ea:a' = a:=by simpa using ea
      rw [← ea]
      exact ae (by omega)
     ·rcases List.mem_append.mp hb with hb | hb
      ·exact w3 b hb
      ·rw [List.mem_singleton.mp hb]
       exact aw
 ·have ng:=erG_of q1.hN
  refine ⟨_,rfl,small (by simp),fun p6 hp6=>?_⟩
  have g6:=same_new hp6 (.lst [])
  have k6:upd G1 p6 (.lst []) p6=some (.lst []):=upd_same
  generalize upd G1 p6 (.lst [])=G6 at g6 k6 ⊢
  have u6:=S1.up g6
  have S6:=S1.ext g6
  have rN:Rep K (erG H0 G6 (opF pf (h :: r))) (.lst g.xs) (.ref g.N):=rep_lst (SqL.of (u6 _ _ q1.hN)) (by omega) (q1.nr.mono u6)
  refine ⟨_,_,_,rfl,rfl,SqL.of (g6 _ _ ng.2),SqL.of k6,_,rfl,?_⟩
  refine ite2 (fun c1=>?_) (fun c1=>?_)
  ·refine ⟨_,rfl,rfl,_,rfl,?_⟩
   refine ite2 (fun c2=>?_) (fun c2=>?_)
   ·refine ⟨le2,fun p7 hp7=>?_⟩
    have g7:=same_new hp7 (.tup [V.str (PySem.Str.ofString "word"),V.str (PySem.Str.ofString "o")])
    have k7:upd G6 p7 (.tup [V.str (PySem.Str.ofString "word"),V.str (PySem.Str.ofString "o")]) p7=some (.tup [V.str (PySem.Str.ofString "word"),V.str (PySem.Str.ofString "o")]):=upd_same
    have n7:=hp7
    generalize upd G6 p7 (.tup [V.str (PySem.Str.ofString "word"),V.str (PySem.Str.ofString "o")])=G7 at g7 k7 ⊢
    have S7:=S6.ext g7
    refine ⟨le1,fun p8 hp8=>?_⟩
    have n8:=hp8
    have g8:=same_new hp8 (.lst [V.ref p7])
    have u8:=S7.up g8
    refine key _ _ ⟨p8,[wdD [111]],rfl,(g6.trans g7).trans g8,rep_lst (SqL.of (S7.get n8 upd_same)) (by simp) (Reps.cons ?_ Reps.nil),by simp,fun y hy=>?_,by rw [muL_one,mu_wd,if_pos (by have:=V.int.inj (of_decide_eq_true c2); omega)]; omega,fun _=>(by simp),fun y hy=>?_⟩
    ·unfold wdD
     rw [← cOw]
     exact rep_tup (SqT.of (u8 _ _ (S6.get n7 k7))) (by simp) (Reps.cons (rep_str _) (Reps.cons (rep_str _) Reps.nil))
    ·rw [List.mem_singleton.mp hy,List.length_cons,show 12 - (r.length+1)=(11 - r.length)+0 by omega]
     obtain ⟨e,he⟩ : ∃ e,11 - r.length+0=e+1:=⟨10 - r.length,by omega⟩
     rw [he]
     exact .inl ⟨_,rfl⟩
    ·rw [List.mem_singleton.mp hy,List.length_cons,show 12 - (r.length+1)=(11 - r.length)+0 by omega]
     obtain ⟨e,he⟩ : ∃ e,11 - r.length+0=e+1:=⟨10 - r.length,by omega⟩
     rw [he]
     exact .inl ⟨_,pl111,rfl⟩
   ·exact key _ _ ⟨g.N,g.xs,rfl,g6,rN,by omega,o2,by omega,fun e=>absurd (decide_eq_true (by rw [e]; rfl)) c2,w2⟩
  ·exact iteF (key _ _ ⟨g.N,g.xs,rfl,g6,rN,by omega,o2,by omega,fun _ e=>c1 (by have:=q1.nr.len; rw [e] at this; rw [List.length_eq_zero_iff.mp this]; rfl),w2⟩)
theorem al_ok:∀ k:Nat,k < 89→alW.getD k 0 < 127∧alW.getD k 0≠36∧alW.getD k 0≠91∧alW.getD k 0≠93∧alW.getD k 0≠124:=by decide +kernel

def sp_l_word_by:Sp:=fun vs H Q _=>∃ c:Int,vs=[.int c]∧∀ w H',Same H H'→PlW w→Q (.str (tx w)) H'
theorem sc_l_word_by:FnScope ["cell","some"] ["cell"] (defScope s_l_word_by):=⟨rfl,rfl,rfl,by decide +kernel,rfl,by decide +kernel,by decide +kernel⟩
theorem ok_l_word_by (T:Txt P w K mg a) : FnOk P w K mg base CX0 2 a.f_l_word_by a.fd_l_word_by ["cell"] sp_l_word_by:=by
 have g_l_draw:=ok_l_draw (P:=P) (w:=w) (base:=base) T
 have d_l_draw:=T.d_l_draw
 have z_range:=T.z_range
 refine T.d_l_word_by.fn.ok sc_l_word_by (fun vs H Q E h=>?_) (fun cdv A outer s H vs Q E hr h=>?_)
 ·obtain ⟨c,rfl,_⟩:=h
  rfl
 obtain ⟨c,rfl,q⟩:=h
 have hu:=Nat.lt_of_succ_lt (hu_of hr)
 refine ⟨_,(pss_cons (ps_set (i:=1) sc_l_word_by.nd rfl (Or.inr rfl) pe_str)
   (pss_one (ps_ret (pe_bm PySem.F.plainAttrs_str PySem.F.slot_str_join PySem.F.type_str_join mt_join pe_str (pa_cons (pe_lc rfl (lcok (caps:=["cell","some"]) (js:=[0,1]) (cap:=⟨⟨rfl,.inl rfl,rfl,.inl rfl⟩,⟨⟨rfl,.inl rfl,rfl,.inl rfl⟩,trivial⟩⟩)) (pi_range1 rfl z_range (pa_cons (pe_op op_add pe_int (pe_callD d_l_draw g_l_draw (hr.mono (by decide)) rfl (pa_cons (pv 0) (pa_cons pe_int (pa_cons pe_int pa_nil))))) pa_nil)) (fun _ _ _ _=>pts_nil) (fun _ _ _ _=>(pe_ix ix_str (pv 2) (pe_callD d_l_draw g_l_draw (hr.mono (by decide)) rfl (pa_cons (pv 1) (pa_cons (pe_op op_add pe_int (pv 0)) (pa_cons pe_int pa_nil)))) (fun _ _=>rfl)))) pa_nil))))),?_⟩
 generalize hS:(PySem.Str.ofString "!\"#&'()*+,-./0123456789:;<=>?@ABCDEFGHIJKLMNOPQRSTUVWXYZ\\^_`abcdefghijklmnopqrstuvwxyz{}~")=S
 have hat:∀ k:Nat,k < 89→atI S.cps.toList (k:Int)=some (alW.getD k 0):=hS ▸ at_alW
 have hSl:S.length≤sizeLine:=hS ▸ small (by decide +kernel)
 obtain ⟨n9,e9,h9⟩:=draw_nat c 5 (show 0 < 4 by decide)
 have e9:draw c 5 4=(n9:Int):=e9
 refine ⟨rfl,_,rfl,c,5,4,rfl,⟨by decide,by decide⟩,by decide,?_⟩
 rw [e9]
 refine ⟨_,_,rfl,rfl,_,rfl,by omega,by omega,lc_range (fun i ys G=>G=H∧∃ bs:List Nat,bs.length=i∧(∀ b ∈ bs,b < 127∧b≠36∧b≠91∧b≠93∧b≠124)∧ys=(bs.map fun d=>tx [d]).map V.str) ⟨rfl,[],rfl,fun b hb=>(by cases hb),rfl⟩ ?_ ?_ ?_⟩
 ·rintro i ys G hi ⟨_,bs,hl,_,rfl⟩
  rw [List.length_map,List.length_map,hl]
  exact small1000 (by omega)
 ·rintro i ys G hi ⟨eG,bs,hl,hbs,rfl⟩
  rw [eG]
  have hi2:i < 5:=by omega
  refine yes_go ?_
  obtain ⟨d,e,hd⟩:=draw_nat c (10+(0+(i:Int))) (show 0 < 89 by decide)
  have e:draw c (10+(0+(i:Int))) 89=(d:Int):=e
  refine ⟨_,rfl,_,rfl,_,rfl,_,_,rfl,rfl,c,_,89,rfl,⟨by omega,by omega⟩,by decide,_,_,alW.getD d 0,rfl,rfl,hSl,by rw [e]; exact hat d hd,rfl,bs++[alW.getD d 0],by simp [hl],fun b hb=>?_,by simp⟩
  rcases List.mem_append.mp hb with hb | hb
  ·exact hbs b hb
  ·rw [List.mem_singleton.mp hb]; exact al_ok d hd
 rintro ys G ⟨eG,bs,hbl,hbs,rfl⟩ p hp
 rw [eG] at hp ⊢
 refine ⟨_,_,_,rfl,rfl,SqL.of upd_same,by decide,by simp only [sum_one,List.length_map]; omega,?_⟩
 rw [ej1]
 exact q _ _ (same_new hp _) ⟨⟨fun e=>(by rw [e] at hbl; simp at hbl; omega),by omega,fun b hb=>(hbs b hb).1⟩,fun b hb=>(hbs b hb).2⟩
def sp_l_nodes (K:PySem.W.Frag) : Sp:=fun vs H Q _=>∃ (ca ma:Addr) (ns:List Int) (M:List (Wd0 × Nat)) (c:Nat),vs=[.ref ca,.ref ma,.int (c:Int)]∧SqL K H ca (ns.map V.int)∧ns.length≤63∧MnAt K H ma M∧MOk M∧c≤9∧(∀ x ∈ M,x.2≤9) ∧
  ∀ p H' xs,Same H H'→H p=none→(∃ vs,H' p=some (.lst vs)∧Reps K (erG H H' []) xs vs)→xs.length≤70→(∀ x ∈ xs,Nd M c 12 x)→muL xs≤12 * ns.length→(∀ x ∈ xs,Wf PlW 12 x)→Q (.ref p) H'
theorem sc_l_nodes:FnScope ["cells","shorts","count","frames","cell","way","short"] ["cells","shorts","count"] (defScope s_l_nodes):=⟨rfl,rfl,rfl,by decide +kernel,rfl,by decide +kernel,by decide +kernel⟩
theorem ok_l_nodes (T:Txt P w K mg a) : FnOk P w K mg base CX0 3 a.f_l_nodes a.fd_l_nodes ["cells","shorts","count"] (sp_l_nodes K):=by
 have g_l_draw:=ok_l_draw (P:=P) (w:=w) (base:=base) T
 have d_l_draw:=T.d_l_draw
 have g_l_end_argument:=ok_l_end_argument (P:=P) (w:=w) (base:=base) T
 have d_l_end_argument:=T.d_l_end_argument
 have g_l_word_by:=ok_l_word_by (P:=P) (w:=w) (base:=base) T
 have d_l_word_by:=T.d_l_word_by
 have z_len:=T.z_len
 refine T.d_l_nodes.fn.ok sc_l_nodes (fun vs H Q E h=>?_) (fun cdv A outer s H vs Q E hr h=>?_)
 ·obtain ⟨ca,ma,ns,M,c,rfl,_⟩:=h
  rfl
 obtain ⟨ca,ma,ns,M,c,rfl,hC,h63,hM,mok,hc,m9,q⟩:=h
 have hu:=Nat.lt_of_succ_lt (hu_of hr)
 refine ⟨_,(pss_cons (ps_set (i:=3) sc_l_nodes.nd rfl (Or.inl rfl) (pe_lst (pa_cons (pe_tup (pa_cons pe_str (pa_cons (pe_lst pa_nil) (pa_cons (pe_lst pa_nil) (pa_cons pe_int pa_nil))))) pa_nil)))
   (pss_cons (ps_for PassesOwn.never rfl (pi_list (pv 0)) (pg_name (i:=4) sc_l_nodes.nd rfl (Or.inl rfl)) (pss_cons (ps_set (i:=5) sc_l_nodes.nd rfl (Or.inl rfl) (pe_callD d_l_draw g_l_draw (hr.mono (by decide)) rfl (pa_cons (pv 4) (pa_cons pe_int (pa_cons pe_int pa_nil)))))
   (pss_one (ps_if (PW.pt (pw_and (pt_cmpR op_lt (pv 5) pe_int (nomark _)) (pw_and (pt_cmpR (op_neNil hu) (pv 1) (pe_lst pa_nil) (nomark _)) (pw_and1 (pt_cmpR op_lt (pe_callB call_len_seq rfl z_len PySem.boot_len (pa_cons (pv 3) pa_nil)) pe_int (nomark _)))))) (pss_cons (ps_set (i:=6) sc_l_nodes.nd rfl (Or.inl rfl) (pe_ix ix_list (pv 1) (pe_callD d_l_draw g_l_draw (hr.mono (by decide)) rfl (pa_cons (pv 4) (pa_cons pe_int (pa_cons (pe_callB call_len_seq rfl z_len PySem.boot_len (pa_cons (pv 1) pa_nil)) pa_nil)))) (fun _ _=>rfl)))
   (pss_one (ps_if (pt_cmpR op_eq (pe_ix ix_tup (pv 6) pe_int (fun _ _=>rfl)) pe_int (nomark _)) (pss_one (ps_expr (pe_bm PySem.F.plainAttrs_list PySem.F.slot_list_append PySem.F.type_list_append mt_append (pe_ix ix_tup (pe_ix ix_list (pv 3) (pe_un un_neg pe_int) (fun _ _=>rfl)) pe_int (fun _ _=>rfl)) (pa_cons (pe_tup (pa_cons pe_str (pa_cons (pe_ix ix_tup (pv 6) pe_int (fun _ _=>rfl)) (pa_cons (pe_lst pa_nil) pa_nil)))) pa_nil)))) (pss_one (ps_expr (pe_bm PySem.F.plainAttrs_list PySem.F.slot_list_append PySem.F.type_list_append mt_append (pv 3) (pa_cons (pe_tup (pa_cons (pe_ix ix_tup (pv 6) pe_int (fun _ _=>rfl)) (pa_cons (pe_lst pa_nil) (pa_cons (pe_lst pa_nil) (pa_cons (pe_ix ix_tup (pv 6) pe_int (fun _ _=>rfl)) pa_nil))))) pa_nil))))))) (pss_one (ps_if (PW.pt (pw_and (pt_cmpR op_eq (pv 5) pe_int (nomark _)) (pw_and1 (pt_cmpR op_gt (pe_callB call_len_seq rfl z_len PySem.boot_len (pa_cons (pv 3) pa_nil)) pe_int (nomark _))))) (pss_one (ps_expr (pe_callD d_l_end_argument g_l_end_argument (hr.mono (by decide)) rfl (pa_cons (pv 3) pa_nil)))) (pss_one (ps_if (PW.pt (pw_and (pt_cmpR op_lt (pv 5) pe_int (nomark _)) (pw_and1 (pt_cmpR op_gt (pv 2) pe_int (nomark _))))) (pss_one (ps_expr (pe_bm PySem.F.plainAttrs_list PySem.F.slot_list_append PySem.F.type_list_append mt_append (pe_ix ix_tup (pe_ix ix_list (pv 3) (pe_un un_neg pe_int) (fun _ _=>rfl)) pe_int (fun _ _=>rfl)) (pa_cons (pe_tup (pa_cons pe_str (pa_cons (pe_op op_add pe_int (pe_callD d_l_draw g_l_draw (hr.mono (by decide)) rfl (pa_cons (pv 4) (pa_cons pe_int (pa_cons (pv 2) pa_nil))))) pa_nil))) pa_nil)))) (pss_one (ps_expr (pe_bm PySem.F.plainAttrs_list PySem.F.slot_list_append PySem.F.type_list_append mt_append (pe_ix ix_tup (pe_ix ix_list (pv 3) (pe_un un_neg pe_int) (fun _ _=>rfl)) pe_int (fun _ _=>rfl)) (pa_cons (pe_tup (pa_cons pe_str (pa_cons (pe_callD d_l_word_by g_l_word_by (hr.mono (by decide)) rfl (pa_cons (pv 4) pa_nil)) pa_nil))) pa_nil))))))))))))
   (pss_cons (ps_while PassesOwn.never (pt_cmpR op_gt (pe_callB call_len_seq rfl z_len PySem.boot_len (pa_cons (pv 3) pa_nil)) pe_int (nomark _)) (pss_one (ps_expr (pe_callD d_l_end_argument g_l_end_argument (hr.mono (by decide)) rfl (pa_cons (pv 3) pa_nil)))))
   (pss_one (ps_ret (pe_ix ix_tup (pe_ix ix_list (pv 3) pe_int (fun _ _=>rfl)) pe_int (fun _ _=>rfl))))))),?_⟩
 obtain ⟨ms,sma,mlen,hms⟩:=hM
 refine ⟨small (by simp),fun D hD=>?_⟩
 have g2:=same_new hD (.lst [])
 have k2:upd H D (.lst []) D=some (.lst []):=upd_same
 generalize upd H D (.lst [])=G2 at g2 k2 ⊢
 refine ⟨small (by simp),fun N hN=>?_⟩
 have g3:=same_new hN (.lst [])
 have k3:upd G2 N (.lst []) N=some (.lst []):=upd_same
 generalize upd G2 N (.lst [])=G3 at g3 k3 ⊢
 refine ⟨le4,fun t ht=>?_⟩
 rw [cNil]
 have g4:=same_new ht (.tup [V.str (tx []),V.ref D,V.ref N,V.int 0])
 have k4:upd G3 t (.tup [V.str (tx []),V.ref D,V.ref N,V.int 0]) t=some (.tup [V.str (tx []),V.ref D,V.ref N,V.int 0]):=upd_same
 generalize upd G3 t (.tup [V.str (tx []),V.ref D,V.ref N,V.int 0])=G4 at g4 k4 ⊢
 refine ⟨le1,fun pf hpf=>?_⟩
 have g5:=same_new hpf (.lst [V.ref t])
 have k5:upd G4 pf (.lst [V.ref t]) pf=some (.lst [V.ref t]):=upd_same
 generalize upd G4 pf (.lst [V.ref t])=G5 at g5 k5 ⊢
 have t13:=g2.trans g3
 have t14:=t13.trans g4
 have t15:=t14.trans g5
 have n4:=g4 _ _ k3
 have d4:=(g3.trans g4) _ _ k2
 have S0:FrS K H G5 pf [⟨t,D,N,[],0,[],[],[],[]⟩]:=FrS.zero t15 (t14.free hpf) (g2.free hN) (t13.free ht) hD (Ne.symm (ne_of_none n4 hpf)) k5 (g5 _ _ n4) (g5 _ _ k4) (g5 _ _ d4) (ne_of_none d4 hpf) (ne_of_none k2 hN)
 refine ⟨_,rfl,ca,rfl,⟨_,t15.seq hC⟩,for_list (K:=K) (a:=ca) (xs:=ns.map V.int) (fun k σ G=>∃ (v4 v5 v6:Option V) (gs:List Gf),σ=[some (.ref ca),some (.ref ma),some (.int (c:Int)),some (.ref pf),v4,v5,v6]∧FrS K H G pf gs∧gs≠[]∧gs.length≤12∧GfOk M c (k+1) gs∧tmu gs≤12 * k∧GfW PlW gs) ⟨none,none,none,_,rfl,S0,by simp,by simp,⟨by simp,fun x hx=>(by cases hx),fun z=>absurd rfl z,trivial⟩,(by show muL []≤0; rw [muL_nil]; exact Nat.le_refl _),fun x hx=>(by cases hx),fun a ha=>(by cases ha),trivial⟩ (fun k σ G _ z=>by obtain ⟨_,_,_,_,_,S,_⟩:=z; exact S.same.seq hC) ?_ ?_⟩
 ·rintro k y σ G hy ⟨v4,v5,v6,gs,rfl,S,hg,gl,ok,tok,gw⟩
  have hk63:k < 63:=by have:=(List.getElem?_eq_some_iff.mp hy).1; rw [List.length_map] at this; omega
  obtain ⟨z,rfl,_⟩:=get_int hy
  obtain ⟨g,r,rfl⟩ : ∃ g r,gs=g :: r:=by cases gs with | nil=>exact absurd rfl hg | cons g r=>exact ⟨g,r,rfl⟩
  have elen:((g :: r).map fun g=>V.ref g.t).reverse.length=r.length+1:=by simp
  have rl11:r.length≤11:=by simpa using gl
  have e12:12 - r.length=(11 - r.length)+1:=by omega
  have hlast:((g :: r).map fun g=>V.ref g.t).reverse=(r.map fun g=>V.ref g.t).reverse++[V.ref g.t]:=by rw [List.map_cons,List.reverse_cons]
  have ok':=ok
  obtain ⟨o1,o2,o3,o4⟩:=ok'
  have gw':=gw
  obtain ⟨gwa,gwb,gwc⟩:=gw'
  have gvl:=fun (G:Hp) (S:FrS K H G pf (g :: r))=>(S.fr g List.mem_cons_self).nr.len
  refine ⟨_,rfl,z,1,9,rfl,⟨by decide,by decide⟩,by decide,?_⟩
  dsimp only [gName]
  refine ⟨_,rfl,_,_,rfl,rfl,_,rfl,?_⟩
  refine andH (fun G'=>FrS K H G' pf (g :: r)) S (fun G S=>?_) (fun key=>?_)
  rotate_left
  ·refine ⟨_,rfl,small (by simp),fun p5 hp5=>?_⟩
   have S5:=S.ext (same_new hp5 (.lst []))
   have k5':upd G p5 (.lst []) p5=some (.lst []):=upd_same
   generalize upd G p5 (.lst [])=G5 at S5 k5' ⊢
   refine ⟨_,_,ms,rfl,rfl,S5.same.seq sma,SqL.of k5',_,rfl,?_⟩
   by_cases em:ms=[]
   ·rw [em]
    exact iteF (iteF (key _ S5))
   rw [show ms.isEmpty=false by cases ms with | nil=>exact absurd rfl em | cons a b=>rfl]
   refine iteT ?_
   have mpos:0 < ms.length:=List.length_pos_iff.mpr em
   refine ⟨_,rfl,pf,_,rfl,.inl (SqL.of S5.top),_,_,rfl,rfl,_,rfl,?_⟩
   refine ite2 (fun c0=>?_) (fun _=>key _ S5)
   have c0:=of_decide_eq_true c0
   rw [elen] at c0
   obtain ⟨mi,emi,hmi⟩:=draw_nat z 2 mpos
   obtain ⟨av,en,em2,rest,ev,stm,eM⟩:=hms mi ms[mi] (List.getElem?_eq_getElem hmi)
   have mo:=mok.2 _ (List.mem_of_getElem? eM)
   refine ⟨_,rfl,_,rfl,_,rfl,_,_,rfl,.inl (S5.same.seq sma),z,2,(ms.length:Int),rfl,⟨by decide,by decide⟩,by omega,_,_,_,_,rfl,rfl,S5.same.seq sma,by rw [emi]; exact atI_nat (by rw [List.getElem?_eq_getElem hmi,ev]),?_⟩
   dsimp only [gName]
   have stm5:=S5.same.tup stm
   refine ⟨_,rfl,_,_,_,_,rfl,rfl,stm5,atI_nat (j:=1) rfl,rfl,_,rfl,?_⟩
   refine ite2 (fun c1=>?_) (fun c1=>?_)
   ·have c1:=V.int.inj (of_decide_eq_true c1)
    have hm0:em2=0:=by omega
    subst hm0
    have qg:=S5.fr g List.mem_cons_self
    have tg:=(erG_of qg.tup).2
    have gv:=gvl _ S5
    refine ⟨_,rfl,_,rfl,pf,_,_,V.ref g.t,rfl,rfl,SqL.of S5.top,by rw [hlast]; exact atI_last _ _,g.t,_,_,V.ref g.N,rfl,rfl,SqT.of tg,rfl,.inl ⟨rfl,_,SqL.of qg.hN⟩,_,rfl,_,_,_,_,rfl,rfl,stm5,atI_nat (j:=0) rfl,small (by simp),fun p6 hp6=>?_⟩
    have n6:=hp6
    have g6:=same_new hp6 (.lst [])
    have k6:upd G5 p6 (.lst []) p6=some (.lst []):=upd_same
    generalize upd G5 p6 (.lst [])=G1 at g6 k6 ⊢
    have S1:=S5.ext g6
    have k6e:=S5.get n6 k6
    refine ⟨le3,fun p hp=>?_⟩
    have g4:=same_new hp (.tup [V.str (PySem.Str.ofString "call"),V.str (tx en),V.ref p6])
    have k4:upd G1 p (.tup [V.str (PySem.Str.ofString "call"),V.str (tx en),V.ref p6]) p=some (.tup [V.str (PySem.Str.ofString "call"),V.str (tx en),V.ref p6]):=upd_same
    have np:=hp
    generalize upd G1 p (.tup [V.str (PySem.Str.ofString "call"),V.str (tx en),V.ref p6])=G4 at g4 k4 ⊢
    have S4:=S1.ext g4
    have u4:=S1.up g4
    refine ⟨_,_,_,rfl,rfl,(S4.fr g List.mem_cons_self).hN,small1000 (by omega),?_⟩
    refine ⟨_,_,_,_,rfl,S4.push (x:=clD en []) (rep_tup (SqT.of (S1.get np k4)) (by simp) (Reps.cons (rep_str _) (Reps.cons (rep_str _) (Reps.cons (rep_lst (SqL.of (u4 _ _ k6e)) (by simp) Reps.nil) Reps.nil)))),by simp,by simpa using gl,⟨by simp only [List.length_append,List.length_singleton]; omega,fun x hx=>?_,o3,GfOk.up (by omega) o4⟩,(by have:=tmu_push (g:=g) (r:=r) (vs:=g.vs++[V.ref p]) (clD en []); rw [mu_cl,show muL ([].map DD.lst)=0 by show muL []=0; rw [muL_nil]] at this; omega),fun x hx=>(List.mem_append.mp hx).elim (gwa x) (fun hx=>(by rw [List.mem_singleton.mp hx,e12]; exact (show Wf PlW (_+1) (clD en []) from .inr (.inr ⟨en,[],rfl,fun a ea=>(by cases ea),fun a ha=>(by cases ha)⟩)))),gwb,gwc⟩
    rcases List.mem_append.mp hx with hx | hx
    ·exact o2 x hx
    ·rw [List.mem_singleton.mp hx,e12]
     exact .inr (.inr ⟨en,[],rfl,List.mem_of_getElem? eM,fun a ha=>(by cases ha)⟩)
   ·have c1:¬ (em2:Int)=0:=fun z=>c1 (decide_eq_true (by rw [z]))
    refine ⟨_,rfl,.inl ⟨rfl,_,SqL.of S5.top⟩,_,rfl,_,_,_,_,rfl,rfl,stm5,atI_nat (j:=0) rfl,small (by simp),fun D' hD'=>?_⟩
    have nD:=hD'
    have g6:=same_new hD' (.lst [])
    have k6:upd G5 D' (.lst []) D' = some (.lst []):=upd_same
    generalize upd G5 D' (.lst [])=G6 at g6 k6 ⊢
    have S6:=S5.ext g6
    have k6e:=S5.get nD k6
    refine ⟨small (by simp),fun N' hN'=>?_⟩
    have g7:=same_new hN' (.lst [])
    have k7:upd G6 N' (.lst []) N' = some (.lst []):=upd_same
    generalize upd G6 N' (.lst [])=G7 at g7 k7 ⊢
    have s57:=S5.same.trans (g6.trans g7)
    refine ⟨_,rfl,_,_,_,_,rfl,rfl,s57.tup stm,atI_nat (j:=1) rfl,le4,fun t' ht'=>?_⟩
    have g8:=same_new ht' (.tup [V.str (tx en),V.ref D',V.ref N',V.int (em2:Int)])
    have k8:upd G7 t' (.tup [V.str (tx en),V.ref D',V.ref N',V.int (em2:Int)]) t' = some (.tup [V.str (tx en),V.ref D',V.ref N',V.int (em2:Int)]):=upd_same
    have tN:t'≠N':=Ne.symm (ne_of_none k7 ht')
    generalize upd G7 t' (.tup [V.str (tx en),V.ref D',V.ref N',V.int (em2:Int)])=G8 at g8 k8 ⊢
    have s68:=g7.trans g8
    refine ⟨pf,_,_,rfl,rfl,s68 _ _ S6.top,small1000 (by rw [elen]; omega),?_⟩
    have nPN:N'≠pf:=Ne.symm (ne_of_none S6.top hN')
    have nPt:t'≠pf:=Ne.symm (ne_of_none (g7 _ _ S6.top) ht')
    have fpf:=S.fresh pf List.mem_cons_self
    refine ⟨_,_,_,_,rfl,S6.open (ds:=[]) (Dv:=[]) (fun b o hb=>by rw [upd_ne (ne_of_none hb fpf)]; exact s68 _ _ (S6.same b o hb)) (fun b o nb hb=>by rw [upd_ne nb]; exact s68 _ _ hb) k6e Reps.nil hN' (g7.free ht') (S6.same.free hN') tN (by rw [upd_ne nPt]; exact k8) (by rw [upd_ne nPN]; exact g8 _ _ k7) upd_same,by simp,by simp; omega,⟨by simp,fun x hx=>(by cases hx),fun _=>⟨?_,List.mem_of_getElem? eM,fun a ha=>(by cases ha)⟩,ok⟩,(by have e9:em2≤9:=m9 _ (List.mem_of_getElem? eM); show muL []+muL []+(3+(em2 - 0))+tmu (g :: r)≤12 * (k+1); rw [muL_nil]; omega),fun x hx=>(by cases hx),fun a ha=>(by cases ha),gw⟩
    show 0 < em2
    omega
  refine ⟨_,rfl,rfl,_,rfl,?_⟩
  refine andH (fun G'=>FrS K H G' pf (g :: r)) S (fun G S=>?_) (fun key=>?_)
  rotate_left
  ·refine ⟨_,rfl,pf,_,rfl,.inl (SqL.of S.top),_,_,rfl,rfl,_,rfl,?_⟩
   refine ite2 (fun c0=>?_) (fun _=>key _ S)
   have c0:=of_decide_eq_true c0
   rw [elen] at c0
   cases r with
   | nil=>simp at c0
   | cons h r =>
    refine ⟨_,rfl,H,pf,g,h,r,M,c,k+1,rfl,S,ok,by simp at rl11; omega,mok,by omega,gw,fun G' gs' S' n' ok' l' _ tl' gw'=>?_⟩
    exact ⟨_,_,_,gs',rfl,S',n',by simp at rl11; omega,GfOk.up (by omega) ok',by omega,gw'⟩
  refine ⟨_,rfl,_,_,rfl,rfl,_,rfl,?_⟩
  refine andH (fun G'=>FrS K H G' pf (g :: r)) S (fun G S=>?_) (fun key=>?_)
  rotate_left
  ·refine ⟨_,rfl,_,_,rfl,rfl,_,rfl,?_⟩
   refine ite2 (fun c0=>?_) (fun _=>key _ S)
   have c0:(0:Int) < (c:Int):=of_decide_eq_true c0
   obtain ⟨pk,epk,hpk⟩:=draw_nat z 3 (show 0 < c by omega)
   have qg:=S.fr g List.mem_cons_self
   have tg:=(erG_of qg.tup).2
   have gv:=gvl _ S
   have e1:1+draw z 3 (c:Int)=((1+pk:Nat) : Int):=by rw [epk]; omega
   refine ⟨_,rfl,_,rfl,pf,_,_,V.ref g.t,rfl,rfl,SqL.of S.top,by rw [hlast]; exact atI_last _ _,g.t,_,_,V.ref g.N,rfl,rfl,SqT.of tg,rfl,.inl ⟨rfl,_,SqL.of qg.hN⟩,_,rfl,_,rfl,z,3,(c:Int),rfl,⟨by decide,by decide⟩,by omega,_,_,rfl,rfl,le2,fun p hp=>?_⟩
   have g4:=same_new hp (.tup [V.str (PySem.Str.ofString "place"),V.int (1+draw z 3 (c:Int))])
   have k4:upd G p (.tup [V.str (PySem.Str.ofString "place"),V.int (1+draw z 3 (c:Int))]) p=some (.tup [V.str (PySem.Str.ofString "place"),V.int (1+draw z 3 (c:Int))]):=upd_same
   have np:=hp
   generalize upd G p (.tup [V.str (PySem.Str.ofString "place"),V.int (1+draw z 3 (c:Int))])=G4 at g4 k4 ⊢
   have S4:=S.ext g4
   have u4:=S.up g4
   refine ⟨_,_,_,rfl,rfl,(S4.fr g List.mem_cons_self).hN,small1000 (by omega),?_⟩
   refine ⟨_,_,_,_,rfl,S4.push (x:=plD (1+pk)) (rep_tup (SqT.of (S.get np k4)) (by simp) (by rw [← e1]; exact Reps.cons (rep_str _) (Reps.cons (rep_int _) Reps.nil))),by simp,by simpa using gl,⟨by simp only [List.length_append,List.length_singleton]; omega,fun x hx=>?_,o3,GfOk.up (by omega) o4⟩,(by have:=tmu_push (g:=g) (r:=r) (vs:=g.vs++[V.ref p]) (plD (1+pk)); rw [mu_pl] at this; omega),fun x hx=>(List.mem_append.mp hx).elim (gwa x) (fun hx=>(by rw [List.mem_singleton.mp hx,e12]; exact (show Wf PlW (_+1) (plD (1+pk)) from .inr (.inl ⟨_,rfl⟩)))),gwb,gwc⟩
   rcases List.mem_append.mp hx with hx | hx
   ·exact o2 x hx
   ·rw [List.mem_singleton.mp hx,e12]
    exact .inr (.inl ⟨1+pk,by omega,by omega,rfl⟩)
  have qg:=S.fr g List.mem_cons_self
  have tg:=(erG_of qg.tup).2
  have gv:=gvl _ S
  refine ⟨_,rfl,_,rfl,pf,_,_,V.ref g.t,rfl,rfl,SqL.of S.top,by rw [hlast]; exact atI_last _ _,g.t,_,_,V.ref g.N,rfl,rfl,SqT.of tg,rfl,.inl ⟨rfl,_,SqL.of qg.hN⟩,_,rfl,z,rfl,fun w G1 s1 w4=>⟨le2,fun p hp=>?_⟩⟩
  have S1:=S.ext s1
  have g4:=same_new hp (.tup [V.str (PySem.Str.ofString "word"),V.str (tx w)])
  have k4:upd G1 p (.tup [V.str (PySem.Str.ofString "word"),V.str (tx w)]) p=some (.tup [V.str (PySem.Str.ofString "word"),V.str (tx w)]):=upd_same
  have np:=hp
  generalize upd G1 p (.tup [V.str (PySem.Str.ofString "word"),V.str (tx w)])=G4 at g4 k4 ⊢
  have S4:=S1.ext g4
  have u4:=S1.up g4
  refine ⟨_,_,_,rfl,rfl,(S4.fr g List.mem_cons_self).hN,small1000 (by omega),?_⟩
  refine ⟨_,_,_,_,rfl,S4.push (x:=wdD w) (rep_tup (SqT.of (S1.get np k4)) (by simp) (Reps.cons (rep_str _) (Reps.cons (rep_str _) Reps.nil))),by simp,by simpa using gl,⟨by simp only [List.length_append,List.length_singleton]; omega,fun x hx=>?_,o3,GfOk.up (by omega) o4⟩,(by have:=tmu_push (g:=g) (r:=r) (vs:=g.vs++[V.ref p]) (wdD w); rw [mu_wd] at this; omega),fun x hx=>(List.mem_append.mp hx).elim (gwa x) (fun hx=>(by rw [List.mem_singleton.mp hx,e12]; exact (show Wf PlW (_+1) (wdD w) from .inl ⟨w,w4,rfl⟩))),gwb,gwc⟩
  rcases List.mem_append.mp hx with hx | hx
  ·exact o2 x hx
  ·rw [List.mem_singleton.mp hx,e12]
   exact .inl ⟨w,rfl⟩
 ·rintro σ G ⟨v4,v5,v6,gs,rfl,S,hg,gl,ok,tok,gw⟩
  rw [List.length_map] at ok tok
  refine ⟨fun n σ G=>∃ (v4 v5 v6:Option V) (gs:List Gf),σ=[some (.ref ca),some (.ref ma),some (.int (c:Int)),some (.ref pf),v4,v5,v6]∧FrS K H G pf gs∧gs≠[]∧gs.length≤12∧GfOk M c (ns.length+1) gs∧toGo gs=n∧tmu gs≤12 * ns.length∧GfW PlW gs,⟨toGo gs,v4,v5,v6,gs,rfl,S,hg,gl,ok,rfl,tok,gw⟩,?_⟩
  rintro n σ G ⟨v4,v5,v6,gs,rfl,S,hg,gl,ok,hn,tok,gw⟩
  have elen:(gs.map fun g=>V.ref g.t).reverse.length=gs.length:=by simp
  refine ⟨_,rfl,pf,_,rfl,.inl (SqL.of S.top),_,_,rfl,rfl,_,rfl,?_⟩
  refine ite2 (fun c0=>?_) (fun c0=>?_)
  ·have c0:=of_decide_eq_true c0
   rw [elen] at c0
   refine ⟨fun σ' G'=>∃ m,m < n∧∃ (v4 v5 v6:Option V) (gs:List Gf),σ' = [some (.ref ca),some (.ref ma),some (.int (c:Int)),some (.ref pf),v4,v5,v6]∧FrS K H G' pf gs∧gs≠[]∧gs.length≤12∧GfOk M c (ns.length+1) gs∧toGo gs=m∧tmu gs≤12 * ns.length∧GfW PlW gs,fun _ _ h=>h,?_⟩
   match gs,S,gl,ok,hn,c0,tok,gw with
   | [g],_,_,_,_,c0,_,_=>simp at c0
   | g :: h :: r,S,gl,ok,hn,c0,tok,gw =>
    refine ⟨_,rfl,H,pf,g,h,r,M,c,ns.length+1,rfl,S,ok,by simp at gl; omega,mok,by omega,gw,fun G' gs' S' n' ok' l' tl tl' gw'=>?_⟩
    exact ⟨toGo gs',by omega,v4,v5,v6,gs',rfl,S',n',by simp at gl; omega,ok',rfl,by omega,gw'⟩
  ·obtain ⟨g,rfl⟩ : ∃ g,gs=[g]:=by
    have h2:¬ 1 < gs.length:=fun z=>c0 (decide_eq_true (by rw [elen]; omega))
    match gs,hg,h2 with
    | [g],_,_=>exact ⟨g,rfl⟩
    | _ :: _ :: _,_,h2=>exact absurd (by simp) h2
   have qg:=S.fr g List.mem_cons_self
   have tg:=(erG_of qg.tup).2
   obtain ⟨o1,o2,_,_⟩:=ok
   refine ⟨_,rfl,pf,_,_,V.ref g.t,rfl,rfl,SqL.of S.top,rfl,g.t,_,_,V.ref g.N,rfl,rfl,SqT.of tg,rfl,?_⟩
   exact q g.N G g.xs S.same (S.fresh g.N (by unfold opF; simp)) ⟨_,qg.hN,qg.nr.mono erG_nil⟩ (by omega) o2 tok gw.1
def sp_l_names:Sp:=fun vs H Q _=>∃ (c:Int) (m:Nat),vs=[.int c,.int (m:Int)]∧1≤m∧m≤12∧∀ p H' ns,H p=none→Same H H'→Names ns m→H' p=some (.lst ((ns.map tx).map V.str))→Q (.ref p) H'
theorem sc_l_names:FnScope ["cell","many","some","base","names","signs","size","at","j","name","k","here"] ["cell","many"] (defScope s_l_names):=⟨rfl,rfl,rfl,by decide +kernel,rfl,by decide +kernel,by decide +kernel⟩
theorem ok_l_names (T:Txt P w K mg a) : FnOk P w K mg base CX0 2 a.f_l_names a.fd_l_names ["cell","many"] sp_l_names:=by
 have g_l_draw:=ok_l_draw (P:=P) (w:=w) (base:=base) T
 have d_l_draw:=T.d_l_draw
 have z_int:=T.z_int
 have z_range:=T.z_range
 refine T.d_l_names.fn.ok sc_l_names (fun vs H Q E h=>?_) (fun cdv A outer s H vs Q E hr h=>?_)
 ·obtain ⟨c,m,rfl,_⟩:=h
  rfl
 obtain ⟨c,m,rfl,hm1,hm2,q⟩:=h
 have hu:=Nat.lt_of_succ_lt (hu_of hr)
 refine ⟨_,(pss_cons (ps_set (i:=2) sc_l_names.nd rfl (Or.inr rfl) pe_str)
   (pss_cons (ps_lc (k:=3) rfl (lcok (caps:=["cell"]) (js:=[0]) (cap:=⟨⟨rfl,.inl rfl,rfl,.inl rfl⟩,trivial⟩)) (pi_range1 rfl z_range (pa_cons pe_int pa_nil)) (fun _ _ _ _=>pts_nil) (fun _ _ _ _=>(pe_callD d_l_draw g_l_draw (hr.mono (by decide)) rfl (pa_cons (pv 1) (pa_cons (pe_op op_add pe_int (pv 0)) (pa_cons (pe_op op_add pe_int (pe_op op_mul pe_int (pe_callTy call_int1 rfl z_int PyProof.Rows.boot_int (pa_cons (pe_cmpR op_gt (pv 0) pe_int (nomark _)) pa_nil)))) pa_nil))))) sc_l_names.nd rfl rfl)
   (pss_cons (ps_set (i:=4) sc_l_names.nd rfl (Or.inl rfl) (pe_lst pa_nil))
   (pss_cons (ps_if (pt_cmpR op_eq (pe_callD d_l_draw g_l_draw (hr.mono (by decide)) rfl (pa_cons (pv 0) (pa_cons pe_int (pa_cons pe_int pa_nil)))) pe_int (nomark _)) (pss_cons (ps_set (i:=5) sc_l_names.nd rfl (Or.inr rfl) (pe_bm PySem.F.plainAttrs_str PySem.F.slot_str_join PySem.F.type_str_join mt_join pe_str (pa_cons (pe_lc rfl (lcok (caps:=["some"]) (js:=[2]) (cap:=⟨⟨rfl,.inl rfl,rfl,.inl rfl⟩,trivial⟩)) (pi_list (pv 3)) (fun _ _ _ _=>pts_nil) (fun _ _ _ _=>(pe_ix ix_str (pv 1) (pv 0) (fun _ _=>rfl)))) pa_nil)))
   (pss_one (ps_ret (pe_lc rfl (lcok (caps:=["signs"]) (js:=[5]) (cap:=⟨⟨rfl,.inl rfl,rfl,.inl rfl⟩,trivial⟩)) (pi_range1 rfl z_range (pa_cons (pv 1) pa_nil)) (fun _ _ _ _=>pts_nil) (fun _ _ _ _=>(pe_slice sl_str (pv 1) po_none (po_some (pe_op op_add (pv 0) pe_int)))))))) pss_nil)
   (pss_cons (ps_set (i:=6) sc_l_names.nd rfl (Or.inl rfl) (pe_op op_add pe_int (pe_callD d_l_draw g_l_draw (hr.mono (by decide)) rfl (pa_cons (pv 0) (pa_cons pe_int (pa_cons pe_int pa_nil))))))
   (pss_cons (ps_set (i:=7) sc_l_names.nd rfl (Or.inl rfl) (pe_callD d_l_draw g_l_draw (hr.mono (by decide)) rfl (pa_cons (pv 0) (pa_cons pe_int (pa_cons (pv 6) pa_nil)))))
   (pss_cons (ps_for PassesOwn.never rfl (pi_range1 rfl z_range (pa_cons (pv 1) pa_nil)) (pg_name (i:=8) sc_l_names.nd rfl (Or.inl rfl)) (pss_cons (ps_set (i:=9) sc_l_names.nd rfl (Or.inl rfl) pe_str)
   (pss_cons (ps_for PassesOwn.never rfl (pi_range1 rfl z_range (pa_cons (pv 6) pa_nil)) (pg_name (i:=10) sc_l_names.nd rfl (Or.inl rfl)) (pss_cons (ps_set (i:=11) sc_l_names.nd rfl (Or.inl rfl) (pe_op op_add (pe_ix ix_list (pv 3) (pv 10) (fun _ _=>rfl)) (pe_op op_mul (pv 8) (pe_callTy call_int1 rfl z_int PyProof.Rows.boot_int (pa_cons (pe_cmpR op_eq (pv 10) (pv 7) (nomark _)) pa_nil)))))
   (pss_one (ps_set (i:=9) sc_l_names.nd rfl (Or.inl rfl) (pe_op op_add_str (pv 9) (pe_ix ix_str (pv 2) (pe_op op_mod (pv 11) (pe_op op_add pe_int (pe_op op_mul pe_int (pe_callTy call_int1 rfl z_int PyProof.Rows.boot_int (pa_cons (pe_cmpR op_gt (pv 10) pe_int (nomark _)) pa_nil))))) (fun _ _=>rfl)))))))
   (pss_one (ps_expr (pe_bm PySem.F.plainAttrs_list PySem.F.slot_list_append PySem.F.type_list_append mt_append (pv 4) (pa_cons (pv 9) pa_nil)))))))
   (pss_one (ps_ret (pv 4)))))))))),?_⟩
 generalize hS:(PySem.Str.ofString "abcdefghijklmnopqrstuvwxyz0123456789")=S
 have hat:∀ k:Nat,k < 36→atI S.cps.toList (k:Int)=some (al k):=hS ▸ at_both
 have hSl:S.length≤sizeLine:=hS ▸ small (by decide +kernel)
 refine ⟨_,rfl,by decide,by decide,lc_range (fun i ys H2=>H2=H∧∃ bs:List Nat,bs.length=i∧(∀ k b,bs[k]? = some b→b < (if 0 < k then 36 else 26))∧ys=bs.map fun (b:Nat)=>V.int (b:Int)) ⟨rfl,[],rfl,fun k b h=>by simp at h,rfl⟩ ?_ ?_ ?_⟩
 ·rintro i ys H2 hi ⟨rfl,bs,hl,_,rfl⟩
  rw [List.length_map,hl]
  exact Nat.lt_of_lt_of_le (show i < 1000 by simp at hi; omega) (small (by decide))
 ·rintro i ys H2 hi ⟨rfl,bs,hl,hb,rfl⟩
  have hi2:i < 12:=by simpa using hi
  refine yes_go ?_
  refine ⟨_,rfl,_,rfl,_,_,rfl,rfl,_,rfl,_,_,rfl,rfl,.inr ⟨_,rfl,_,_,rfl,rfl,.inl ⟨by decide,by decide⟩,_,_,rfl,rfl,?_⟩⟩
  generalize hm:(26:Int)+10 * (if decide ((0:Int) < 0+(i:Int))=true then 1 else 0)=M
  have hM:M=((if 0 < i then 36 else 26:Nat) : Int):=by
   rw [← hm]
   by_cases h0:0 < i
   ·rw [if_pos (decide_eq_true (by omega)),if_pos h0]; rfl
   ·rw [if_neg (fun z=>h0 (by have:=of_decide_eq_true z; omega)),if_neg h0]; rfl
  obtain ⟨d,e,hd⟩:=draw_nat c (60+(0+(i:Int))) (show 0 < (if 0 < i then 36 else 26:Nat) by split <;> omega)
  refine ⟨c,60+(0+(i:Int)),M,congrArg (fun z=>[V.int c,V.int (60+(0+(i:Int))),V.int z]) hm,⟨by omega,by omega⟩,by rw [hM]; split <;> omega,rfl,bs++[d],by simp [hl],fun k b h=>?_,?_⟩
  ·by_cases hk:k < bs.length
   ·rw [List.getElem?_append_left hk] at h
    exact hb k b h
   ·rw [List.getElem?_append_right (by omega)] at h
    have hk2:k - bs.length=0:=by
     have:=(List.getElem?_eq_some_iff.mp h).1
     simp at this
     omega
    rw [hk2] at h
    have:d=b:=by simpa using h
    have hki:k=i:=by omega
    rw [← this,hki]
    exact hd
  ·rw [hM,e,List.map_append]
   rfl
 rintro ys H2 ⟨rfl,bs,hbl,hb,rfl⟩ pb hpb
 have hbl:bs.length=12:=by simpa using hbl
 have g1:=same_new hpb (.lst (bs.map fun (b:Nat)=>V.int (b:Int)))
 have hpb1:upd H2 pb (.lst (bs.map fun (b:Nat)=>V.int (b:Int))) pb=some (.lst (bs.map fun (b:Nat)=>V.int (b:Int))):=upd_same
 refine ⟨small (by simp),fun pn hpn=>?_⟩
 have g2:=g1.trans (same_new hpn (.lst []))
 have hpb2:=same_new hpn (.lst []) pb _ hpb1
 have hpn2:upd (upd H2 pb (.lst (bs.map fun (b:Nat)=>V.int (b:Int)))) pn (.lst []) pn=some (.lst []):=upd_same
 have hpn0:H2 pn=none:=g1.free hpn
 generalize upd (upd H2 pb (.lst (bs.map fun (b:Nat)=>V.int (b:Int)))) pn (.lst [])=H3 at g2 hpb2 hpn2 ⊢
 have hb36:∀ b ∈ bs,b < 36:=fun b hm=>by
  obtain ⟨k,hk,e⟩:=List.getElem_of_mem hm
  have:=hb k b (by rw [List.getElem?_eq_getElem hk,e])
  split at this <;> omega
 refine ⟨_,rfl,c,58,2,rfl,⟨by decide,by decide⟩,by decide,rfl,_,rfl,?_⟩
 refine ite2 (fun _=>?_) (fun _=>?_)
 ·-- beginnings of one another
  refine ⟨rfl,_,rfl,pb,rfl,⟨_,SqL.of hpb2⟩,lc_list (K:=K) (a:=pb) (xs:=bs.map fun (b:Nat)=>V.int (b:Int)) (fun i ys H4=>H4=H3∧ys=((bs.take i).map al).map fun d=>V.str (tx [d])) ⟨rfl,rfl⟩ ?_ ?_ ?_ ?_⟩
  ·rintro i ys H4 _ ⟨rfl,_⟩
   exact SqL.of hpb2
  ·rintro i ys H4 hi ⟨rfl,rfl⟩
   rw [List.length_map,List.length_map,List.length_take]
   exact Nat.lt_of_le_of_lt (show _≤12 by omega) (small1000 (by omega))
  ·rintro i x ys H4 hx ⟨rfl,rfl⟩
   obtain ⟨b,hb',rfl⟩:=get_map hx
   refine yes_go ?_
   refine ⟨_,rfl,_,rfl,_,_,al b,rfl,rfl,hSl,hat b (hb36 b (List.mem_of_getElem? hb')),rfl,?_⟩
   rw [List.take_add_one,hb']
   simp
  rintro ys H4 ⟨rfl,rfl⟩ pj hpj
  rw [List.length_map,List.take_of_length_le (Nat.le_refl _)]
  have g3:=g2.trans (same_new hpj (.lst ((bs.map al).map fun d=>V.str (tx [d]))))
  refine ⟨_,pj,(bs.map al).map (fun d=>tx [d]),rfl,rfl,SqL.of (by rw [upd_same,List.map_map (f:=fun d=>tx [d])]; rfl),by decide,by rw [sum_one,List.length_map,List.length_map,List.length_map]; omega,?_⟩
  have ej:Txt.join (PySem.Str.ofString "") ((bs.map al).map fun d=>tx [d])=tx (bs.map al):=by
   have:=join_tx [] ((bs.map al).map fun d=>[d])
   rw [List.map_map,join_one] at this
   rw [ce]
   exact this
  rw [ej]
  generalize upd H4 pj (.lst ((bs.map al).map fun d=>V.str (tx [d])))=H5 at g3 ⊢
  refine ⟨_,rfl,_,rfl,by omega,by omega,lc_range (fun i ys H6=>H6=H5∧ys=(((List.range i).map fun j=>(bs.map al).take (j+1)).map tx).map V.str) ⟨rfl,rfl⟩ ?_ ?_ ?_⟩
  ·rintro i ys H6 hi ⟨rfl,rfl⟩
   rw [List.length_map,List.length_map,List.length_map,List.length_range]
   exact Nat.lt_of_lt_of_le (show i < 1000 by simp at hi; omega) (small (by decide))
  ·rintro i ys H6 hi ⟨rfl,rfl⟩
   refine yes_go ?_
   refine ⟨_,rfl,_,rfl,_,_,rfl,rfl,_,rfl,_,rfl,small (by rw [tx_len,List.length_map]; omega),rfl,?_⟩
   rw [show (0:Int)+(i:Int)+1=((i+1:Nat) : Int) by omega,slice_tx,cut_to,List.range_succ,List.map_append,List.map_append,List.map_append]
   rfl
  ·rintro ys H6 ⟨rfl,rfl⟩ p hp
   have em:(m:Int).toNat=m:=by omega
   rw [em]
   refine q p _ ((List.range m).map fun j=>(bs.map al).take (j+1)) (g3.free hp) (g3.trans (same_new hp _)) ⟨by simp,fun i hi=>?_,fun i j hi hj e=>?_⟩ upd_same
   ·rw [nm_map hi,← List.map_take]
    refine Ix.name ⟨?_,by rw [List.length_take]; omega,fun b hb'=>?_,fun b hb'=>hb36 b (List.mem_of_mem_take hb')⟩
    ·intro e
     have:=congrArg List.length e
     rw [List.length_take,hbl,List.length_nil] at this
     omega
    ·rw [List.head?_take] at hb'
     simp at hb'
     have:=hb 0 b (by rw [← List.head?_eq_getElem?]; exact hb')
     simpa using this
   ·rw [nm_map hi,nm_map hj] at e
    have:=congrArg List.length e
    rw [List.length_take,List.length_take,List.length_map,hbl] at this
    omega
 ·-- unlike at one place
  obtain ⟨s0,es,hs0⟩:=draw_nat c 59 (show 0 < 12 by decide)
  refine ⟨_,rfl,c,59,12,rfl,⟨by decide,by decide⟩,by decide,_,_,rfl,rfl,?_⟩
  obtain ⟨size,hsz⟩ : ∃ size:Nat,size=1+s0:=⟨_,rfl⟩
  have esz:(1:Int)+draw c 59 12=(size:Int):=by rw [show draw c 59 12=(s0:Int) from es]; omega
  obtain ⟨at',ea,ha'⟩:=draw_nat c 57 (show 0 < size by omega)
  refine ⟨_,rfl,_,rfl,c,57,(size:Int),congrArg (fun z=>[V.int c,V.int 57,V.int z]) esz,⟨by decide,by decide⟩,by omega,?_⟩
  rw [ea]
  refine ⟨_,rfl,_,rfl,by omega,by omega,for_range (fun j σ H4=>∃ v1 v2 v3 v4:Option V,σ=[some (.int c),some (.int (m:Int)),some (.str S),some (.ref pb),some (.ref pn),none,some (.int (size:Int)),some (.int (at':Int)),v1,v2,v3,v4]∧H4=upd H3 pn (.lst ((((List.range j).map fun i=>(xsB bs size at' i).map al).map tx).map V.str))) ?_ ?_ ?_⟩
  ·refine ⟨none,none,none,none,?_,?_⟩
   ·show [some (V.int c),some (V.int (m:Int)),some (V.str S),some (V.ref pb),some (V.ref pn),none,some (V.int (1+draw c 59 12)),some (V.int (at':Int)),none,none,none,none]=_
    rw [esz]
   ·funext b
    unfold upd
    split
    ·rename_i h; rw [h]; exact hpn2
    ·rfl
  ·rintro j σ H4 hj ⟨v1,v2,v3,v4,rfl,rfl⟩
   have hj2:j < m:=by omega
   have hpb4:upd H3 pn (.lst ((((List.range j).map fun i=>(xsB bs size at' i).map al).map tx).map V.str)) pb=some (.lst (bs.map fun (b:Nat)=>V.int (b:Int))):=by
    rw [upd_ne (ne_of hpb2 hpn2 (by
     intro z
     have z2:=congrArg List.length (HO.lst.inj z)
     rw [List.length_map,hbl] at z2
     simp at z2))]
    exact hpb2
   refine ⟨_,rfl,_,rfl,by omega,by omega,for_range (fun k σ H5=>∃ v3 v4:Option V,σ=[some (.int c),some (.int (m:Int)),some (.str S),some (.ref pb),some (.ref pn),none,some (.int (size:Int)),some (.int (at':Int)),some (.int (0+(j:Int))),some (.str (tx (((xsB bs size at' j).take k).map al))),v3,v4]∧H5=upd H3 pn (.lst ((((List.range j).map fun i=>(xsB bs size at' i).map al).map tx).map V.str))) ?_ ?_ ?_⟩
   ·exact ⟨v3,v4,by rw [ce]; rfl,rfl⟩
   ·rintro k σ H5 hk ⟨v3,v4,rfl,rfl⟩
    have hk2:k < size:=by omega
    have hk3:k < bs.length:=by omega
    have hbk:bs[k]? = some (bs.getD k 0):=by rw [List.getD_eq_getElem?_getD,List.getElem?_eq_getElem hk3]; rfl
    have hx:=xsB_get bs size at' j k hk2
    refine ⟨_,rfl,_,rfl,_,_,_,V.int ((bs.getD k 0:Nat) : Int),rfl,rfl,SqL.of hpb4,?_,_,rfl,_,rfl,_,rfl,rfl,.inr ⟨_,rfl,_,_,rfl,rfl,.inl ⟨by omega,by omega⟩,_,_,rfl,rfl,?_⟩⟩
    ·rw [Int.zero_add]
     refine atI_nat ?_
     rw [List.getElem?_map,hbk]
     rfl
    refine ⟨_,rfl,_,rfl,_,rfl,_,rfl,_,_,rfl,rfl,.inr ⟨_,rfl,_,_,rfl,rfl,.inl ⟨by decide,by decide⟩,_,_,rfl,rfl,_,_,rfl,rfl,?_,?_⟩⟩
    ·show (0:Int) < 26+10 * (if decide ((0:Int) < 0+(k:Int))=true then 1 else 0)
     split <;> omega
    generalize hh:((bs.getD k 0:Nat) : Int)+(0+(j:Int)) * (if decide (V.int (0+(k:Int))=V.int (at':Int))=true then 1 else 0)=hv
    generalize hm:(26:Int)+10 * (if decide ((0:Int) < 0+(k:Int))=true then 1 else 0)=M
    have hM:M=((if 0 < k then 36 else 26:Nat) : Int):=by
     rw [← hm]
     by_cases h0:0 < k
     ·rw [if_pos (decide_eq_true (by omega)),if_pos h0]; rfl
     ·rw [if_neg (fun z=>h0 (by have:=of_decide_eq_true z; omega)),if_neg h0]; rfl
    have hV:hv=((bs.getD k 0+(if k=at' then j else 0) : Nat) : Int):=by
     rw [← hh]
     by_cases h0:k=at'
     ·rw [if_pos (decide_eq_true (by rw [h0,Int.zero_add])),if_pos h0]; omega
     ·rw [if_neg (fun z=>h0 (by have:=V.int.inj (of_decide_eq_true z); omega)),if_neg h0]; omega
    have hR:hv % M=(((bs.getD k 0+(if k=at' then j else 0)) % (if 0 < k then 36 else 26) : Nat) : Int):=by
     rw [hV,hM]
     exact (Int.natCast_emod _ _).symm
    generalize hx9:(bs.getD k 0+(if k=at' then j else 0)) % (if 0 < k then 36 else 26)=x9 at hR hx
    have h36:x9 < 36:=by
     rw [← hx9]
     exact md _ _
    refine ⟨_,_,al x9,rfl,rfl,hSl,?_,_,_,rfl,rfl,?_,?_⟩
    ·show atI S.cps.toList (hv % M)=_
     rw [hR]
     exact hat x9 h36
    ·rw [tx_len,List.length_map,List.length_take]
     show _+1≤sizeLine
     exact small (by omega)
    ·have e9:(tx (((xsB bs size at' j).take k).map al)++(⟨#[al x9]⟩ : Str))=tx (((xsB bs size at' j).take (k+1)).map al):=by
      rw [show (⟨#[al x9]⟩ : Str)=tx [al x9] from rfl,tx_app,List.take_add_one,hx]
      simp
     rw [e9]
     exact ⟨_,_,rfl,rfl⟩
   ·rintro σ H5 ⟨v3,v4,rfl,rfl⟩
    have em:(size:Int).toNat=size:=by omega
    have hl:(xsB bs size at' j).length=size:=by unfold xsB; simp
    rw [em,List.take_of_length_le (by omega)]
    refine ⟨_,rfl,.inl ⟨rfl,_,SqL.of upd_same⟩,_,rfl,_,_,_,rfl,rfl,upd_same,?_,?_⟩
    ·rw [List.length_map,List.length_map,List.length_map,List.length_range]
     exact small1000 (by omega)
    ·refine ⟨_,_,_,_,rfl,?_⟩
     rw [upd_upd,List.range_succ]
     simp
  ·rintro σ H4 ⟨v1,v2,v3,v4,rfl,rfl⟩
   have em:(m:Int).toNat=m:=by omega
   rw [em]
   refine ⟨_,rfl,q pn _ ((List.range m).map fun i=>(xsB bs size at' i).map al) hpn0 (fun b o hb'=>?_) ⟨by simp,fun i hi=>?_,fun i j hi hj e=>?_⟩ upd_same⟩
   ·rw [upd_ne (ne_of_none hb' hpn0)]
    exact g2 b o hb'
   ·rw [nm_map hi]
    exact (xsB_ix (by omega) (by omega)).name
   ·rw [nm_map hi,nm_map hj] at e
    exact xsB_inj ha' (by omega) (by omega) e

theorem sc_l_size:FnScope ["shorts","nodes","count","row","calls","node","short","inner","j","times","k"] ["shorts","nodes","count"] (defScope s_l_size):=⟨rfl,rfl,rfl,by decide +kernel,rfl,by decide +kernel,by decide +kernel⟩
def sp_sz (K:PySem.W.Frag) (n:Nat) : Sp:=fun vs H Q _=>∃ (sv xv:V) (c d:Nat) (S:List Sh) (xs:List DD) (M:List (Wd0 × Nat)),vs=[sv,xv,.int (c:Int)]∧d < n∧c≤9∧Rep K H (.lst (S.map shD)) sv∧ShOk S∧Rep K H (.lst xs) xv∧(∀ x ∈ xs,Nd M c d x)∧(∀ m ∈ M,m.2≤10)∧wrL S d xs=0 ∧
  ∀ p r H',Same H H'→H r=none→H' p=some (.tup [.ref r,.int (calL S d xs)])→H' r=some (.lst ((rowL S c d xs).map V.int))→Q (.ref p) H'
theorem ok_l_size_n (T:Txt P w K mg a) : ∀ n:Nat,FnOk P w K mg base CX0 (n+4) a.f_l_size a.fd_l_size ["shorts","nodes","count"] (sp_sz K n)
 | 0=>⟨fun vs H Q E h=>(by obtain ⟨sv,xv,c,d,S,xs,M,_,h1,_⟩:=h; omega),fun A outer s H args us vs Q E _ _ _ _ h=>(by obtain ⟨sv,xv,c,d,S,xs,M,_,h1,_⟩:=h; omega)⟩
 | n+1=>by
  have g_l_size:=ok_l_size_n T n
  have d_l_size:=T.d_l_size
  have z_len:=T.z_len
  have z_range:=T.z_range
  have z_sum:=T.z_sum

  refine T.d_l_size.fn.ok sc_l_size (fun vs H Q E h=>?_) (fun cdv A outer s H vs Q E hr h=>?_)
  ·obtain ⟨sv,xv,c,d,S,xs,M,rfl,_⟩:=h
   rfl
  obtain ⟨sv,xv,c,d,S,xs,M,rfl,hd,hc,rS,sok,rx,ndx,mok,w0,q⟩:=h
  have hu:=Nat.lt_of_succ_lt (hu_of hr)
  refine ⟨_,(pss_cons (ps_set (i:=3) sc_l_size.nd rfl (Or.inl rfl) (pe_op op_rep (pe_lst (pa_cons pe_int pa_nil)) (pe_op op_add (pv 2) pe_int)))
   (pss_cons (ps_set (i:=4) sc_l_size.nd rfl (Or.inl rfl) pe_int)
   (pss_cons (ps_for PassesOwn.never rfl (pi_list (pv 1)) (pg_name (i:=5) sc_l_size.nd rfl (Or.inr rfl)) (pss_one (ps_if (pt_cmpR op_eq (pe_ix ix_tup (pv 5) pe_int (fun _ _=>rfl)) pe_str (nomark _)) (pss_one (ps_asg (pe_op op_add (pe_ix ix_list (pv 3) pe_int (fun _ _=>rfl)) pe_int) (pg_sub (pv 3) pe_int set_list))) (pss_one (ps_if (pt_cmpR op_eq (pe_ix ix_tup (pv 5) pe_int (fun _ _=>rfl)) pe_str (nomark _)) (pss_one (ps_asg (pe_op op_add (pe_ix ix_list (pv 3) (pe_ix ix_tup (pv 5) pe_int (fun _ _=>rfl)) (fun _ _=>rfl)) pe_int) (pg_sub (pv 3) (pe_ix ix_tup (pv 5) pe_int (fun _ _=>rfl)) set_list))) (pss_cons (ps_set (i:=6) sc_l_size.nd rfl (Or.inl rfl) (pe_ix ix_list (pe_lc rfl (lcok (caps:=["node"]) (js:=[5]) (cap:=⟨⟨rfl,.inl rfl,rfl,.inl rfl⟩,trivial⟩)) (pi_list (pv 0)) (fun _ _ _ _=>(pts_one (pt_cmpR op_eq (pe_ix (r:=rIxT K) ix_tup (pv 0) pe_int (fun _ _=>rfl)) (pe_ix (r:=rIxT K) ix_tup (pv 1) pe_int (fun _ _=>rfl)) (nomark _)))) (fun _ _ _ _=>(pv 0))) pe_int (fun _ _=>rfl)))
   (pss_cons (ps_lc (k:=7) rfl (lcok (caps:=["shorts","count"]) (js:=[0,2]) (cap:=⟨⟨rfl,.inl rfl,rfl,.inl rfl⟩,⟨⟨rfl,.inl rfl,rfl,.inl rfl⟩,trivial⟩⟩)) (pi_list (pe_ix ix_tup (pv 5) pe_int (fun _ _=>rfl))) (fun _ _ _ _=>pts_nil) (fun _ _ _ _=>(pe_callD d_l_size g_l_size hr rfl (pa_cons (pv 1) (pa_cons (pv 0) (pa_cons (pv 2) pa_nil))))) sc_l_size.nd rfl rfl)
   (pss_cons (ps_set (i:=4) sc_l_size.nd rfl (Or.inl rfl) (pe_op op_add (pe_op op_add (pe_op op_add (pv 4) pe_int) (pe_ix ix_tup (pv 6) pe_int (fun _ _=>rfl))) (pe_callB (call_sum rfl) rfl z_sum PyProof.Rows.boot_sum (pa_cons (pe_lc rfl (lcok (caps:=[]) (js:=[]) (cap:=trivial)) (pi_list (pv 7)) (fun _ _ _ _=>pts_nil) (fun _ _ _ _=>(pe_ix (r:=rIxT K) ix_tup (pv 0) pe_int (fun _ _=>rfl)))) pa_nil))))
   (pss_cons (ps_asg (pe_op op_add (pe_ix ix_list (pv 3) pe_int (fun _ _=>rfl)) (pe_ix ix_list (pe_ix ix_tup (pv 6) pe_int (fun _ _=>rfl)) pe_int (fun _ _=>rfl))) (pg_sub (pv 3) pe_int set_list))
   (pss_one (ps_for PassesOwn.never rfl (pi_range1 rfl z_range (pa_cons (pe_callB call_len_seq rfl z_len PySem.boot_len (pa_cons (pv 7) pa_nil)) pa_nil)) (pg_name (i:=8) sc_l_size.nd rfl (Or.inl rfl)) (pss_cons (ps_set (i:=9) sc_l_size.nd rfl (Or.inl rfl) (pe_ix ix_list (pe_ix ix_tup (pv 6) pe_int (fun _ _=>rfl)) (pe_op op_add (pv 8) pe_int) (fun _ _=>rfl)))
   (pss_one (ps_for PassesOwn.never rfl (pi_range1 rfl z_range (pa_cons (pe_op op_add (pv 2) pe_int) pa_nil)) (pg_name (i:=10) sc_l_size.nd rfl (Or.inl rfl)) (pss_one (ps_asg (pe_op op_add (pe_ix ix_list (pv 3) (pv 10) (fun _ _=>rfl)) (pe_op op_mul (pv 9) (pe_ix ix_list (pe_ix ix_tup (pe_ix ix_list (pv 7) (pv 8) (fun _ _=>rfl)) pe_int (fun _ _=>rfl)) (pv 10) (fun _ _=>rfl)))) (pg_sub (pv 3) (pv 10) set_list)))))))))))))))))
   (pss_one (ps_ret (pe_tup (pa_cons (pv 3) (pa_cons (pv 4) pa_nil)))))))),?_⟩
  obtain ⟨sa,us,rfl,ssa,_,rus⟩:=rS.lstO
  have ul:=rus.len
  rw [List.length_map] at ul
  have sl4:=sok.len
  obtain ⟨xa,vs0,rfl,sx,_,rxs⟩:=rx.lstO
  have xl:=rxs.len
  have hwA:=fstN_mem w0
  refine ⟨le1,fun p1 hp1=>?_⟩
  have g1:=same_new hp1 (.lst [V.int 0])
  refine ⟨_,rfl,_,_,rfl,rfl,_,_,_,rfl,rfl,upd_same,by omega,by omega,small (by simp; omega),fun ra hra=>?_⟩
  have fra:=g1.free hra
  have g2:=g1.trans (same_new hra (.lst (List.replicate ((c:Int)+1).toNat [V.int 0]).flatten))
  have kra:upd (upd H p1 (.lst [V.int 0])) ra (.lst (List.replicate ((c:Int)+1).toNat [V.int 0]).flatten) ra=some (.lst ((rowL S c d (xs.take 0)).map V.int)):=by
   rw [upd_same,zero_row]
   rfl
  generalize upd (upd H p1 (.lst [V.int 0])) ra (.lst (List.replicate ((c:Int)+1).toNat [V.int 0]).flatten)=H2 at g2 kra ⊢
  refine ⟨_,rfl,xa,rfl,⟨_,g2.seq sx⟩,for_list (K:=K) (a:=xa) (xs:=vs0) (fun k σ G=>∃ (v5 v6 v7 v8 v9 v10:Option V),σ=[some (.ref sa),some (.ref xa),some (.int (c:Int)),some (.ref ra),some (.int (calL S d (xs.take k))),v5,v6,v7,v8,v9,v10]∧Same H G∧H ra=none∧G ra=some (.lst ((rowL S c d (xs.take k)).map V.int))) ⟨none,none,none,none,none,none,rfl,g2,fra,kra⟩ (fun k σ G _ z=>by obtain ⟨_,_,_,_,_,_,_,s1,_⟩:=z; exact s1.seq sx) ?_ ?_⟩
  ·rintro k y σ G hy ⟨v5,v6,v7,v8,v9,v10,rfl,s1,fra,kra⟩
   obtain ⟨x0,e0,r0⟩:=rxs.getR hy
   have nd0:=ndx x0 (List.mem_of_getElem? e0)
   have hw0:=hwA _ (List.mem_map.mpr ⟨x0,List.mem_of_getElem? e0,rfl⟩)
   obtain ⟨e,rfl⟩:=nd0.pos
   rcases nd0.out with ⟨w',rfl⟩ | ⟨pk,hp1,hp2,rfl⟩ | ⟨nm',as,rfl,hM,has⟩
   ·obtain ⟨ta,zs,rfl,st,_,rz⟩:=r0.tupO
    obtain ⟨z0,z1,rfl,y0,y1⟩:=Reps.two rz
    rw [y0.strO,y1.strO] at st
    refine ⟨_,rfl,_,_,_,_,rfl,rfl,s1.tup st,rfl,rfl,_,rfl,?_⟩
    rw [decide_eq_true rfl]
    refine iteT ?_
    refine ⟨_,rfl,_,_,_,_,rfl,rfl,SqL.of kra,rwL_at _ (Nat.zero_le _),_,_,rfl,rfl,_,rfl,_,_,_,_,rfl,rfl,kra,ixN_nat (j:=0) (by rw [List.length_map]; unfold rowL; rw [rwL_len]; omega),?_⟩
    have ec:calL S (e+1) (xs.take (k+1))=calL S (e+1) (xs.take k):=by unfold calL; rw [sum_snoc _ e0,sc_wd]; omega
    refine ⟨some (.ref ta),v6,v7,v8,v9,v10,by rw [ec]; rfl,s1.put fra,fra,?_⟩
    rw [upd_same]
    unfold rowL
    rw [rwL_set _ _ (Nat.zero_le _)]
    exact congrArg (fun z=>some (HO.lst (z.map V.int))) (row_word e0)
   ·obtain ⟨ta,zs,rfl,st,_,rz⟩:=r0.tupO
    obtain ⟨z0,z1,rfl,y0,y1⟩:=Reps.two rz
    rw [y0.strO,y1.intO] at st
    have st1:=s1.tup st
    refine ⟨_,rfl,_,_,_,_,rfl,rfl,st1,rfl,rfl,_,rfl,?_⟩
    rw [decide_eq_false strNe1]
    refine iteF ?_
    refine ⟨_,rfl,_,_,_,_,rfl,rfl,st1,rfl,rfl,_,rfl,?_⟩
    rw [decide_eq_true rfl]
    refine iteT ?_
    refine ⟨_,rfl,_,rfl,_,_,_,_,rfl,rfl,st1,rfl,_,_,_,_,rfl,rfl,SqL.of kra,rwL_at _ hp2,_,_,rfl,rfl,_,rfl,_,rfl,_,_,_,_,rfl,rfl,st1,rfl,_,_,_,_,rfl,rfl,kra,ixN_nat (by rw [List.length_map]; unfold rowL; rw [rwL_len]; omega),?_⟩
    have ec:calL S (e+1) (xs.take (k+1))=calL S (e+1) (xs.take k):=by unfold calL; rw [sum_snoc _ e0,sc_pl]; omega
    refine ⟨some (.ref ta),v6,v7,v8,v9,v10,by rw [ec]; rfl,s1.put fra,fra,?_⟩
    rw [upd_same]
    unfold rowL
    rw [rwL_set _ _ hp2]
    exact congrArg (fun z=>some (HO.lst (z.map V.int))) (row_place e0)
   ·obtain ⟨ta,zs,rfl,st,_,rz⟩:=r0.tupO
    obtain ⟨z0,z1,z2,rfl,y0,y1,y2⟩:=Reps.three rz
    rw [y0.strO,y1.strO] at st
    obtain ⟨la,ys,rfl,sl,_,rl⟩:=y2.lstO
    have yl:=rl.len
    rw [List.length_map] at yl
    have sg:=s1
    have st1:=s1.tup st
    have stg:=st1
    refine ⟨_,rfl,_,_,_,_,rfl,rfl,st1,rfl,rfl,_,rfl,?_⟩
    rw [decide_eq_false strNe2]
    refine iteF ?_
    refine ⟨_,rfl,_,_,_,_,rfl,rfl,st1,rfl,rfl,_,rfl,?_⟩
    rw [decide_eq_false strNe3]
    refine iteF ?_
    have hal:as.length≤10:=mok _ hM
    refine ⟨_,rfl,sa,rfl,⟨_,sg.seq ssa⟩,lc_list (K:=K) (a:=sa) (xs:=us) (fun i ys G'=>G' = G∧FitAt K H (S.take i) (tx nm') ys) ⟨rfl,by rw [List.take_zero]; exact ⟨Nat.le_refl _,fun _=>rfl,fun s z=>by cases z⟩⟩ (fun i ys G' _ z=>by rw [z.1]; exact sg.seq ssa) ?_ ?_ ?_⟩
    ·rintro i ys G' hi ⟨_,f1,_⟩
     rw [List.length_take] at f1
     exact small1000 (by omega)
    ·rintro i y ys G' hy ⟨eG,fit⟩
     rw [eG]
     obtain ⟨d1,e1,r1⟩:=rus.getR hy
     rw [List.getElem?_map] at e1
     obtain ⟨t,e2,rfl⟩:=Option.map_eq_some_iff.mp e1
     obtain ⟨tb,ws,rfl,st1,_,rw1⟩:=id r1.tupO
     have hw0:ws[0]? = some (V.str (tx t.n)):=by
      obtain ⟨x,h1,h2⟩:=rw1.get (i:=0) (d:=.str (tx t.n)) rfl
      rw [h1,h2.strO]
     refine ⟨_,rfl,_,_,_,_,rfl,rfl,sg.tup st1,atI_nat hw0,_,rfl,_,_,_,_,rfl,rfl,stg,rfl,rfl,_,rfl,?_⟩
     by_cases en:tx t.n=tx nm'
     ·rw [decide_eq_true (by rw [en])]
      refine iteT ?_
      exact ⟨_,rfl,rfl,fit.yes e2 en r1⟩
     ·rw [decide_eq_false (fun z=>en (V.str.inj z))]
      refine iteF ?_
      exact ⟨rfl,fit.no e2 en⟩
    rintro ys_ G' ⟨eG,fit⟩ pf hpf
    rw [eG] at hpf ⊢
    clear eG G'
    rw [ul,List.take_of_length_le (Nat.le_refl _)] at fit
    have gf:=same_new hpf (.lst ys_)
    have kf:upd G pf (.lst ys_) pf=some (.lst ys_):=upd_same
    generalize upd G pf (.lst ys_)=G1 at gf kf ⊢
    cases hF:shF S (tx nm') with
    | none=>rw [wr_none hF] at hw0; exact absurd hw0 (by decide)
    | some s =>
    have hl:as.length=s.c:=by
     by_cases z:as.length=s.c
     ·exact z
     ·rw [wr_bad hF z] at hw0; exact absurd hw0 (by decide)
    rw [wr_fit hF hl] at hw0
    have hwB:=fstN_mem hw0
    have hs:=(shF_mem hF).1
    have rl1:=sok.row s hs
    obtain ⟨v,r,rfl,rv⟩:=fit.2.2 s hF
    refine ⟨_,_,_,_,rfl,rfl,SqL.of kf,atI_nat (j:=0) rfl,?_⟩
    obtain ⟨tv,us2,rfl,stv,_,ru⟩:=rv.tupO
    obtain ⟨x3,hu3,r3⟩:=ru.get (i:=3) (d:=.lst (s.r.map DD.int)) rfl
    obtain ⟨ba,bs,rfl,sb,_,rb⟩:=r3.lstO
    have hbs:=rb.intsO
    subst hbs
    obtain ⟨x4,hu4,r4⟩:=ru.get (i:=4) (d:=.int s.k) rfl
    rw [r4.intO] at hu4
    have hb0:atI (s.r.map V.int) 0=some (V.int (s.r.getD 0 0)):=atI_nat (j:=0) (by rw [List.getElem?_map,get_r (by omega)]; rfl)
    have s2:=s1.trans gf
    have kra1:=gf _ _ kra
    dsimp only [gName]
    refine ⟨_,rfl,_,_,_,_,rfl,rfl,s2.tup st,rfl,la,rfl,⟨_,s2.seq sl⟩,lc_list (K:=K) (a:=la) (xs:=ys) (fun i zs G'=>Same G1 G'∧zs.length=i∧∀ (j:Nat) z,zs[j]? = some z→∃ p r aj,as[j]? = some aj∧z = .ref p∧G' p=some (.tup [.ref r,.int (calL S e aj)])∧G' r=some (.lst ((rowL S c e aj).map V.int))∧r≠ra) ⟨Same.refl _,rfl,fun j z ez=>by simp at ez⟩ (fun i zs G' _ z=>(s2.trans z.1).seq sl) ?_ ?_ ?_⟩
    ·rintro i zs G' hi ⟨_,e1,_⟩
     exact small1000 (by omega)
    ·rintro i y zs G' hy ⟨s3,e1,hz⟩
     obtain ⟨dj,ejm,rj⟩:=rl.getR hy
     rw [List.getElem?_map] at ejm
     obtain ⟨aj,ej,rfl⟩:=Option.map_eq_some_iff.mp ejm
     clear ejm
     have s23:=s2.trans s3
     refine yes_go ?_
     refine ⟨_,rfl,_,rfl,_,rfl,_,y,c,e,S,aj,M,rfl,by omega,hc,rS.mono s23,sok,rj.mono s23,(has aj (List.mem_of_getElem? ej)).2,mok,hwB _ (List.mem_map.mpr ⟨aj,List.mem_of_getElem? ej,rfl⟩),fun p r G5 s5 fr kp kr=>⟨s3.trans s5,by rw [List.length_append,e1]; rfl,fun j z ez=>?_⟩⟩
     by_cases hj:j < zs.length
     ·rw [List.getElem?_append_left hj] at ez
      obtain ⟨p',r',aj',h1,h2,h3,h4,h5⟩:=hz j z ez
      exact ⟨p',r',aj',h1,h2,s5 _ _ h3,s5 _ _ h4,h5⟩
     ·rw [List.getElem?_append_right (by omega)] at ez
      have h0:j - zs.length=0:=by
       have:=(List.getElem?_eq_some_iff.mp ez).1
       simp at this
       omega
      rw [h0] at ez
      have hji:j=i:=by omega
      subst hji
      exact ⟨p,r,aj,ej,by simpa using ez.symm,kp,kr,Ne.symm (ne_of_none (s3 _ _ kra1) fr)⟩
    rintro zs G' ⟨s3,e1,hz⟩ pi hpi
    rw [yl] at e1
    have g4:=same_new hpi (.lst zs)
    have k4:upd G' pi (.lst zs) pi=some (.lst zs):=upd_same
    have s4:=s3.trans g4
    have kra4:=s4 _ _ kra1
    have hz4:∀ (j:Nat) z,zs[j]? = some z→∃ p r aj,as[j]? = some aj∧z = .ref p∧upd G' pi (.lst zs) p=some (.tup [.ref r,.int (calL S e aj)])∧upd G' pi (.lst zs) r=some (.lst ((rowL S c e aj).map V.int))∧r≠ra:=fun j z ez=>by
     obtain ⟨p,r,aj,h1,h2,h3,h4,h5⟩:=hz j z ez
     exact ⟨p,r,aj,h1,h2,g4 _ _ h3,g4 _ _ h4,h5⟩
    generalize upd G' pi (.lst zs)=G4 at g4 k4 s4 kra4 hz4 ⊢
    have s24:=s2.trans s4
    refine ⟨_,rfl,_,_,rfl,rfl,_,rfl,_,_,_,_,rfl,rfl,s24.tup stv,atI_nat hu4,_,_,rfl,rfl,_,rfl,pi,rfl,⟨_,SqL.of k4⟩,lc_list (K:=K) (a:=pi) (xs:=zs) (fun i qs G'=>G' = G4∧qs=((as.take i).map (calL S e)).map V.int) ⟨rfl,rfl⟩ (fun i qs G' _ z=>by rw [z.1]; exact SqL.of k4) ?_ ?_ ?_⟩
    ·rintro i qs G' hi ⟨_,rfl⟩
     rw [List.length_map,List.length_map,List.length_take]
     exact small1000 (by omega)
    ·rintro i z qs G' ez ⟨eG,rfl⟩
     rw [eG]
     obtain ⟨p,r,aj,h1,rfl,h3,h4,h5⟩:=hz4 i z ez
     refine yes_go ?_
     refine ⟨_,rfl,_,_,_,_,rfl,rfl,SqT.of h3,rfl,rfl,?_⟩
     rw [List.take_add_one,h1,List.map_append,List.map_append]
     rfl
    rintro qs G' ⟨eG,rfl⟩ pq hpq
    rw [eG] at hpq ⊢
    clear eG G'
    rw [e1,List.take_of_length_le (Nat.le_refl _)]
    have g5:=same_new hpq (.lst ((as.map (calL S e)).map V.int))
    have k5:upd G4 pq (.lst ((as.map (calL S e)).map V.int)) pq=some (.lst ((as.map (calL S e)).map V.int)):=upd_same
    generalize upd G4 pq (.lst ((as.map (calL S e)).map V.int))=G5 at g5 k5 ⊢
    refine ⟨pq,_,rfl,SqL.of k5,_,_,rfl,rfl,?_⟩
    have s25:=s24.trans g5
    have kra5:=g5 _ _ kra4
    have ec:calL S (e+1) (xs.take (k+1))=calL S (e+1) (xs.take k)+1+s.k+(as.map (calL S e)).sum:=by
     show ((xs.take (k+1)).map (szC S (e+1))).sum=((xs.take k).map (szC S (e+1))).sum+1+s.k+_
     rw [sum_snoc _ e0,sc_cl hF]
     omega
    dsimp only [gName]
    rw [← ec]
    refine ⟨_,rfl,_,_,_,_,rfl,rfl,SqL.of kra5,rwL_at _ (Nat.zero_le _),_,rfl,_,_,_,_,rfl,rfl,s25.tup stv,atI_nat hu3,_,_,_,_,rfl,rfl,s25.seq sb,hb0,_,_,rfl,rfl,_,rfl,_,_,_,_,rfl,rfl,kra5,ixN_nat (j:=0) (by rw [List.length_map]; unfold rowL; rw [rwL_len]; omega),?_⟩
    unfold rowL
    rw [rwL_set _ _ (Nat.zero_le _)]
    obtain ⟨G6,eG6⟩ : ∃ G6,G6=upd G5 ra (.lst ((rwL (fun i=>if i=0 then ((xs.take k).map (szR S 0 (e+1))).sum+s.r.getD 0 0 else ((xs.take k).map (szR S i (e+1))).sum) c).map V.int)):=⟨_,rfl⟩
    rw [← eG6]
    have kp6:∀ b o,b≠ra→G5 b=some o→G6 b=some o:=fun b o nb hb=>by rw [eG6,upd_ne nb]; exact hb
    have k6:G6 ra=some (.lst ((rwL (fun i=>if i=0 then ((xs.take k).map (szR S 0 (e+1))).sum+s.r.getD 0 0 else ((xs.take k).map (szR S i (e+1))).sum) c).map V.int)):=by rw [eG6,upd_same]
    clear eG6
    generalize hfq:(fun i=>if i=0 then ((xs.take k).map (szR S 0 (e+1))).sum+s.r.getD 0 0 else ((xs.take k).map (szR S i (e+1))).sum)=FQ at k6
    have npi:pi≠ra:=Ne.symm (ne_of_none (s3 _ _ kra1) hpi)
    have kpi:=g5 _ _ k4
    have AT:∀ {G:Hp},(∀ b o,b≠ra→G5 b=some o→G b=some o)→Same H G:=fun kp b o hb=>kp b o (ne_of_none hb fra) (s25 b o hb)
    refine ⟨_,rfl,_,_,rfl,.inl (SqL.of (kp6 _ _ npi kpi)),_,rfl,by omega,by omega,for_range (fun j σ G=>∃ (v8 v9 v10:Option V),σ=[some (.ref sa),some (.ref xa),some (.int (c:Int)),some (.ref ra),some (.int (calL S (e+1) (xs.take (k+1)))),some (.ref ta),some (.ref tv),some (.ref pi),v8,v9,v10]∧(∀ b o,b≠ra→G5 b=some o→G b=some o)∧G ra=some (.lst ((rwL (fun i=>FQ i+argS s.r 1 ((as.take j).map fun a=>(a.map (szR S i e)).sum)) c).map V.int))) ⟨v8,v9,v10,rfl,kp6,by rw [k6]; exact congrArg (fun z=>some (HO.lst (List.map V.int z))) (rwL_congr fun i _=>by simp [argS])⟩ ?_ ?_⟩
    ·rintro j σ G hj ⟨v8,v9,v10,rfl,kp,kra⟩
     have hj2:j < zs.length:=by omega
     obtain ⟨p,r,aj,h1,h2,h3,h4,h5⟩:=hz4 j _ (List.getElem?_eq_getElem hj2)
     have ezj:zs[j]? = some (V.ref p):=by rw [List.getElem?_eq_getElem hj2,h2]
     have np:p≠ra:=ne_of h3 kra4 (by intro z; cases z)
     have hjr:=get_r (s:=s) (j:=j+1) (by omega)
     have hjb:=sok.r4 s hs _ (List.mem_of_getElem? hjr)
     have sH:=AT kp
     refine ⟨_,rfl,_,_,_,_,rfl,rfl,sH.tup stv,atI_nat hu3,_,rfl,_,_,rfl,rfl,_,_,_,_,rfl,rfl,sH.seq sb,by rw [show (0+(j:Int)+1)=((j+1:Nat) : Int) by omega]; exact atI_nat (by rw [List.getElem?_map,hjr]; rfl),?_⟩
     dsimp only [gName]
     generalize s.r.getD (j+1) 0=t at hjb hjr ⊢
     refine ⟨_,rfl,_,_,rfl,rfl,_,rfl,by omega,by omega,for_range (fun m σ G2=>∃ v10:Option V,σ=[some (.ref sa),some (.ref xa),some (.int (c:Int)),some (.ref ra),some (.int (calL S (e+1) (xs.take (k+1)))),some (.ref ta),some (.ref tv),some (.ref pi),some (.int (0+(j:Int))),some (.int t),v10]∧(∀ b o,b≠ra→G5 b=some o→G2 b=some o)∧G2 ra=some (.lst ((rwL (fun i=>if i < m then FQ i+argS s.r 1 ((as.take j).map fun a=>(a.map (szR S i e)).sum)+t * (aj.map (szR S i e)).sum else FQ i+argS s.r 1 ((as.take j).map fun a=>(a.map (szR S i e)).sum)) c).map V.int))) ⟨v10,rfl,kp,by rw [kra]; exact congrArg (fun z=>some (HO.lst (List.map V.int z))) (rwL_congr fun i _=>by rw [if_neg (by omega)])⟩ ?_ ?_⟩
     ·rintro m σ G2 hm ⟨v10,rfl,kp2,kra2⟩
      have hm2:m≤c:=by omega
      refine ⟨_,rfl,_,rfl,_,_,_,_,rfl,rfl,SqL.of kra2,at0 (by rw [List.getElem?_map,rwL_get _ hm2]; rfl),_,rfl,_,rfl,_,rfl,_,_,_,_,rfl,rfl,SqL.of (kp2 _ _ npi kpi),at0 ezj,_,_,_,_,rfl,rfl,SqT.of (kp2 _ _ np (g5 _ _ h3)),rfl,_,rfl,_,_,_,_,rfl,rfl,SqL.of (kp2 _ _ h5 (g5 _ _ h4)),at0 (by unfold rowL; rw [List.getElem?_map,rwL_get _ hm2]; rfl),_,_,rfl,rfl,.inl ⟨by omega,by omega⟩,_,_,rfl,rfl,_,rfl,_,rfl,_,_,_,_,rfl,rfl,kra2,ix0 (by rw [List.length_map,rwL_len]; omega),?_⟩
      refine ⟨_,rfl,fun b o nb hb=>by rw [upd_ne nb]; exact kp2 b o nb hb,?_⟩
      rw [upd_same,rwL_set _ _ hm2]
      refine congrArg (fun z=>some (HO.lst (List.map V.int z))) (rwL_congr fun i _=>?_)
      by_cases him:i=m
      ·rw [if_pos him,if_neg (by omega),if_pos (by omega),him]
      ·rw [if_neg him]
       by_cases hlt:i < m
       ·rw [if_pos hlt,if_pos (by omega)]
       ·rw [if_neg hlt,if_neg (by omega)]
     ·rintro σ G2 ⟨v10,rfl,kp2,kra2⟩
      refine ⟨_,_,_,rfl,kp2,?_⟩
      rw [kra2]
      refine congrArg (fun z=>some (HO.lst (List.map V.int z))) (rwL_congr fun i hi=>?_)
      rw [if_pos (by omega),List.take_add_one,h1,List.map_append]
      show _=FQ i+argS s.r 1 (_++[(aj.map (szR S i e)).sum])
      rw [argS_snoc,List.length_map,List.length_take,Nat.min_eq_left (by omega),show 1+j=j+1 by omega,List.getD_eq_getElem?_getD,hjr]
      show _=_+(_+t * _)
      omega
    ·rintro σ G ⟨v8,v9,v10,rfl,kp,kra⟩
     have ez:((zs.length:Nat) : Int).toNat=as.length:=by omega
     rw [ez,List.take_of_length_le (Nat.le_refl _)] at kra
     refine ⟨_,_,_,_,_,_,rfl,AT kp,fra,?_⟩
     rw [kra]
     refine congrArg (fun z=>some (HO.lst (List.map V.int z))) (rwL_congr fun i _=>?_)
     rw [sum_snoc _ e0,sz_cl hF,← hfq]
     dsimp only
     by_cases h0:i=0
     ·rw [if_pos h0,if_pos h0,h0]; omega
     ·rw [if_neg h0,if_neg h0]; omega
  ·rintro σ G ⟨v5,v6,v7,v8,v9,v10,rfl,s1,fra,kra⟩
   rw [xl,List.take_of_length_le (Nat.le_refl _)] at kra ⊢
   refine ⟨_,rfl,_,rfl,le2,fun p hp=>?_⟩
   have g3:=same_new hp (.tup [V.ref ra,V.int (calL S d xs)])
   exact q p ra _ (s1.trans g3) fra upd_same (g3 _ _ kra)
theorem ok_l_size (T:Txt P w K mg a) : FnOk P w K mg base CX0 45 a.f_l_size a.fd_l_size ["shorts","nodes","count"] (sp_sz K (45 - 4)):=ok_l_size_n T (45 - 4)
theorem plc {S:List Sh} {c d:Nat} (hd:0 < d) {x:DD} (h:x=wdD [111]∨∃ k,1≤k∧k≤c∧x=plD k) : (∀ M,Nd M c d x)∧wrD S d x=0∧∀ j,szR S j d x≤1:=by
 obtain ⟨e,rfl⟩ : ∃ e,d=e+1:=⟨d - 1,by omega⟩
 rcases h with rfl | ⟨k,h1,h2,rfl⟩
 ·exact ⟨fun M=>.inl ⟨_,rfl⟩,wr_wd,fun j=>by rw [sz_wd]; split <;> omega⟩
 ·exact ⟨fun M=>.inr (.inl ⟨k,h1,h2,rfl⟩),wr_pl,fun j=>by rw [sz_pl]; split <;> omega⟩
def PlL (K:PySem.W.Frag) (H:Hp) (c:Nat) (ys:List V) (xs:List DD) : Prop:=Reps K H xs ys∧∀ x ∈ xs,∃ k,1≤k∧k≤c∧x=plD k
theorem mu_pls {c:Nat} : ∀ {l:List DD},(∀ x ∈ l,∃ k,1≤k∧k≤c∧x=plD k)→muL l=l.length
 | [],_=>by rw [muL_nil]; rfl
 | x :: r,h=>by
  obtain ⟨k,_,_,rfl⟩:=h x List.mem_cons_self
  rw [muL_cons,mu_pl,mu_pls fun y hy=>h y (List.mem_cons_of_mem _ hy),List.length_cons]
  omega

def sp_l_short (K:PySem.W.Frag) : Sp:=fun vs H Q _=>∃ (B:Hp) (sa:Addr) (S:List Sh) (n:Wd0) (c:Nat) (xs:List DD) (na:Addr),vs=[.ref sa,.str (tx n),.int (c:Int),.ref na]∧c≤9∧Rep K H (.lst (S.map shD)) (.ref sa)∧ShOk S∧Same B H∧(∃ vs,H na=some (.lst vs)∧Reps K (erG B H []) xs vs)∧xs.length≤70∧(∀ x ∈ xs,Nd (S.map fun s=>(s.n,s.c)) c 12 x)∧(∀ x ∈ xs,Wf PlW 12 x)∧muL xs≤760 ∧
  ∀ v H' s,Same H H'→Rep K (erG B H' []) (shD s) v→s.n=n→s.c=c→s.r.length=c+1→(∀ y ∈ s.r,0≤y∧y≤400)→s.r=rowL S c 12 s.ns→(∀ k,1≤k→k≤c→1≤s.r.getD k 0)→s.r.sum≤400→(0≤s.k∧s.k≤60)→s.k=calL S 12 s.ns→(∀ x ∈ s.ns,Wf PlW 12 x)→muL s.ns≤780→s.ns.length≤200→(∀ x ∈ s.ns,Nd (S.map fun s=>(s.n,s.c)) c 12 x)→Q v H'
theorem sc_l_short:FnScope ["shorts","name","count","nodes","row","calls"] ["shorts","name","count","nodes"] (defScope s_l_short):=⟨rfl,rfl,rfl,by decide +kernel,rfl,by decide +kernel,by decide +kernel⟩
theorem ok_l_short (T:Txt P w K mg a) : FnOk P w K mg base CX0 46 a.f_l_short a.fd_l_short ["shorts","name","count","nodes"] (sp_l_short K):=by
 have g_l_size:=ok_l_size (P:=P) (w:=w) (base:=base) T
 have d_l_size:=T.d_l_size
 have z_range:=T.z_range
 have z_sum:=T.z_sum
 refine T.d_l_short.fn.ok sc_l_short (fun vs H Q E h=>?_) (fun cdv A outer s H vs Q E hr h=>?_)
 ·obtain ⟨B,sa,S,n,c,xs,na,rfl,_⟩:=h
  rfl
 obtain ⟨B,sa,S,n,c,xs,na,rfl,hc,rS,sok,sB,⟨vsx,hna,rxs⟩,xl70,ndx,wfx,mux,q⟩:=h
 have hu:=Nat.lt_of_succ_lt (hu_of hr)
 refine ⟨_,(pss_cons (ps_asg (pe_callD d_l_size g_l_size (hr.mono (by decide)) rfl (pa_cons (pv 0) (pa_cons (pv 3) (pa_cons (pv 2) pa_nil)))) (pg_tup rfl (pgs_cons (pg_name (i:=4) sc_l_short.nd rfl (Or.inr rfl)) (pgs_cons (pg_name (i:=5) sc_l_short.nd rfl (Or.inl rfl)) pgs_nil))))
   (pss_cons (ps_set (i:=3) sc_l_short.nd rfl (Or.inl rfl) (pe_op op_cat (pv 3) (pe_lc rfl (lcok (caps:=["row"]) (js:=[4]) (cap:=⟨⟨rfl,.inl rfl,rfl,.inl rfl⟩,trivial⟩)) (pi_range2 rfl z_range (pa_cons pe_int (pa_cons (pe_op op_add (pv 2) pe_int) pa_nil))) (fun _ _ _ _=>(pts_one (pt_cmpR op_eq (pe_ix (r:=rIxL K) ix_list (pv 1) (pv 0) (fun _ _=>rfl)) pe_int (nomark _)))) (fun _ _ _ _=>(pe_tup (pa_cons pe_str (pa_cons (pv 0) pa_nil)))))))
   (pss_cons (ps_asg (pe_callD d_l_size g_l_size (hr.mono (by decide)) rfl (pa_cons (pv 0) (pa_cons (pv 3) (pa_cons (pv 2) pa_nil)))) (pg_tup rfl (pgs_cons (pg_name (i:=4) sc_l_short.nd rfl (Or.inr rfl)) (pgs_cons (pg_name (i:=5) sc_l_short.nd rfl (Or.inl rfl)) pgs_nil))))
   (pss_cons (ps_if (PW.pt (pw_or (pt_cmpR op_gt (pe_callB (call_sum rfl) rfl z_sum PyProof.Rows.boot_sum (pa_cons (pv 4) pa_nil)) pe_int (nomark _)) (pw_or1 (pt_cmpR op_gt (pv 5) pe_int (nomark _))))) (pss_cons (ps_set (i:=3) sc_l_short.nd rfl (Or.inl rfl) (pe_op op_cat (pe_lst (pa_cons (pe_tup (pa_cons pe_str (pa_cons pe_str pa_nil))) pa_nil)) (pe_lc rfl (lcok (caps:=[]) (js:=[]) (cap:=trivial)) (pi_range2 rfl z_range (pa_cons pe_int (pa_cons (pe_op op_add (pv 2) pe_int) pa_nil))) (fun _ _ _ _=>pts_nil) (fun _ _ _ _=>(pe_tup (pa_cons pe_str (pa_cons (pv 0) pa_nil)))))))
   (pss_one (ps_asg (pe_callD d_l_size g_l_size (hr.mono (by decide)) rfl (pa_cons (pv 0) (pa_cons (pv 3) (pa_cons (pv 2) pa_nil)))) (pg_tup rfl (pgs_cons (pg_name (i:=4) sc_l_short.nd rfl (Or.inr rfl)) (pgs_cons (pg_name (i:=5) sc_l_short.nd rfl (Or.inl rfl)) pgs_nil)))))) pss_nil)
   (pss_one (ps_ret (pe_tup (pa_cons (pv 1) (pa_cons (pv 2) (pa_cons (pv 3) (pa_cons (pv 4) (pa_cons (pv 5) pa_nil)))))))))))),?_⟩
 have rx:Rep K H (.lst xs) (.ref na):=rep_lst (SqL.of hna) (by omega) (rxs.mono erG_in)
 have nn:∀ s ∈ S,∀ y ∈ s.r,0≤y:=fun s hs y hy=>(sok.r4 s hs y hy).1
 have c10:∀ m ∈ S.map (fun s=>(s.n,s.c)),m.2≤10:=fun m hm=>by
  obtain ⟨s,hs,rfl⟩:=List.mem_map.mp hm
  have:=sok.c9 s hs
  show s.c≤10
  omega
 have wz:∀ {l:List DD},(∀ x ∈ l,Nd (S.map fun s=>(s.n,s.c)) c 12 x)→wrL S 12 l=0:=fun h=>fstN_zero fun y hy=>by
  obtain ⟨x,hx,rfl⟩:=List.mem_map.mp hy
  exact wr_ok sok.nd (h x hx)
 refine ⟨_,rfl,_,rfl,_,rfl,_,_,c,12,S,xs,_,rfl,by decide,hc,rS,sok,rx,ndx,c10,wz ndx,fun p1 r1 H1 s1 fr1 kp1 kr1=>?_⟩
 refine ⟨p1,_,rfl,SqT.of kp1,rfl,_,_,rfl,_,_,rfl,rfl,?_⟩
 dsimp only [gName]
 refine ⟨_,rfl,_,rfl,_,_,rfl,rfl,_,_,rfl,⟨by omega,by omega,by omega,by omega⟩,lc_range (fun i ys G'=>Same H1 G'∧∃ xs',ys.length≤i∧PlL K (erG B G' []) c ys xs'∧∀ k,1≤k→k≤i→(xs.map (szR S k 12)).sum=0→plD k ∈ xs') ⟨Same.refl _,[],Nat.le_refl _,⟨Reps.nil,fun x hx=>(by cases hx)⟩,fun k h1 h2=>by omega⟩ ?_ ?_ ?_⟩
 ·rintro i ys G' hi ⟨_,_,hl,_⟩
  exact small1000 (by omega)
 ·rintro i ys G' hi ⟨s2,xs',hl,⟨r2,p2⟩,pz1⟩
  have hi2:i+1≤c:=by omega
  refine ⟨_,rfl,_,rfl,_,_,_,_,rfl,rfl,SqL.of (s2 _ _ kr1),by rw [show (1+(i:Int))=((i+1:Nat) : Int) by omega]; exact rwL_at _ hi2,rfl,_,rfl,?_⟩
  refine ite2 (fun _=>?_) (fun cz=>⟨s2,xs',by omega,⟨r2,p2⟩,fun k h1 h2 h3=>?_⟩)
  rotate_left
  ·by_cases e:k=i+1
   ·subst e
    exact absurd (decide_eq_true (congrArg V.int h3)) cz
   ·exact pz1 k h1 (by omega) h3
  refine ⟨_,rfl,le2,fun p hp=>?_⟩
  exact ⟨s2.trans (same_new hp _),xs'++[plD (i+1)],by simp; omega,⟨(r2.mono (erG_up (same_new hp _))).snoc (rep_tup (SqT.of (erG_get (((sB.trans s1).trans s2).free hp) (by simp) upd_same)) (by simp) (Reps.cons (rep_str _) (Reps.cons (by rw [show ((i+1:Nat) : Int)=1+(i:Int) by omega]; exact rep_int _) Reps.nil))),fun x hx=>by
   rcases List.mem_append.mp hx with hx | hx
   ·exact p2 x hx
   ·exact ⟨i+1,by omega,hi2,List.mem_singleton.mp hx⟩⟩,fun k h1 h2 h3=>by
   by_cases e:k=i+1
   ·rw [e]; exact List.mem_append.mpr (.inr List.mem_cons_self)
   ·exact List.mem_append.mpr (.inl (pz1 k h1 (by omega) h3))⟩
 rintro ys G' ⟨s2,xs',hl,⟨r2,p2⟩,pz1⟩ pl hpl
 replace hl:ys.length≤c:=by omega
 have yl:=r2.len
 have g3:=same_new hpl (.lst ys)
 have k3:upd G' pl (.lst ys) pl=some (.lst ys):=upd_same
 have r3:=r2.mono (erG_up (H0:=B) (os:=[]) g3)
 generalize upd G' pl (.lst ys)=G3 at g3 k3 r3 ⊢
 have s13:=(s1.trans s2).trans g3
 have vl:=rxs.len
 refine ⟨_,_,_,_,rfl,rfl,s13 _ _ hna,k3,small (by omega),fun p3 hp3=>?_⟩
 have g4:=same_new hp3 (.lst (vsx++ys))
 have s14:=s13.trans g4
 have rx4E:Rep K (erG B (upd G3 p3 (.lst (vsx++ys))) []) (.lst (xs++xs')) (.ref p3):=rep_lst (SqL.of (erG_get ((sB.trans s13).free hp3) (by simp) upd_same)) (by rw [List.length_append]; omega) ((rxs.mono (erG_up s14)).app (r3.mono (erG_up g4)))
 generalize upd G3 p3 (.lst (vsx++ys))=G4 at g4 s14 rx4E ⊢
 have rx4:=rx4E.mono erG_in
 have nd4:∀ x ∈ xs++xs',Nd (S.map fun s=>(s.n,s.c)) c 12 x:=fun x hx=>by
  rcases List.mem_append.mp hx with hx | hx
  ·exact ndx x hx
  ·exact (plc (S:=S) (by decide) (.inr (p2 x hx))).1 _
 dsimp only [gName]
 refine ⟨_,rfl,_,rfl,_,rfl,_,_,c,12,S,_,_,rfl,by decide,hc,rS.mono s14,sok,rx4,nd4,c10,wz nd4,fun p5 r5 G5 s5 fr5 kp5 kr5=>?_⟩
 refine ⟨p5,_,rfl,SqT.of kp5,rfl,_,_,rfl,_,_,rfl,rfl,?_⟩
 dsimp only [gName]
 have s15:=s14.trans s5
 refine cut_seq (fun σ' G'=>∃ (na' r':Addr) (X:List DD) (R:List Int) (k:Int),σ' = [some (.ref sa),some (.str (tx n)),some (.int (c:Int)),some (.ref na'),some (.ref r'),some (.int k)]∧Same H G'∧B r' = none∧Rep K (erG B G' []) (.lst X) (.ref na')∧X.length≤200∧(∀ x ∈ X,Nd (S.map fun s=>(s.n,s.c)) c 12 x)∧G' r' = some (.lst (R.map V.int))∧R.length=c+1∧(∀ y ∈ R,0≤y∧y≤400)∧R=rowL S c 12 X∧(∀ k,1≤k→k≤c→1≤R.getD k 0)∧R.sum≤400∧(0≤k∧k≤60)∧k=calL S 12 X∧(∀ x ∈ X,Wf PlW 12 x)∧muL X≤780) ?_ (fun key=>?_)
 ·rintro σ' G6 ⟨na',r',X,R,k,rfl,s6,fr',rX,Xl,Xn,kR,Rl,Rb,Re,Rp,Rs,Rk,Rc,Rw,Rm⟩
  refine ⟨_,rfl,_,rfl,_,rfl,_,rfl,_,rfl,small (by simp),fun p hp=>?_⟩
  have g7:=same_new hp (.tup [V.str (tx n),V.int (c:Int),V.ref na',V.ref r',V.int k])
  exact q (.ref p) _ ⟨n,c,X,R,k⟩ (s6.trans g7) (rep_tup (SqT.of (erG_get ((sB.trans s6).free hp) (by simp) upd_same)) (by simp) (Reps.cons (rep_str _) (Reps.cons (rep_int _) (Reps.cons (rX.mono (erG_up g7)) (Reps.cons (rep_lst (SqL.of (erG_get fr' (by simp) (g7 _ _ kR))) (by show (R.map DD.int).length≤500000; rw [List.length_map]; omega) (reps_ints R)) (Reps.cons (rep_int _) Reps.nil)))))) rfl rfl Rl Rb Re Rp Rs Rk Rc Rw Rm Xl Xn
 ·have Rn:=row_nn nn nd4
  have go1:(rowL S c 12 (xs++xs')).sum≤400→calL S 12 (xs++xs')≤60→∃ (na' r':Addr) (X:List DD) (R:List Int) (k:Int),[some (V.ref sa),some (.str (tx n)),some (.int (c:Int)),some (.ref p3),some (.ref r5),some (.int (calL S 12 (xs++xs')))]=[some (.ref sa),some (.str (tx n)),some (.int (c:Int)),some (.ref na'),some (.ref r'),some (.int k)]∧Same H G5∧B r' = none∧Rep K (erG B G5 []) (.lst X) (.ref na')∧X.length≤200∧(∀ x ∈ X,Nd (S.map fun s=>(s.n,s.c)) c 12 x)∧G5 r' = some (.lst (R.map V.int))∧R.length=c+1∧(∀ y ∈ R,0≤y∧y≤400)∧R=rowL S c 12 X∧(∀ k,1≤k→k≤c→1≤R.getD k 0)∧R.sum≤400∧(0≤k∧k≤60)∧k=calL S 12 X∧(∀ x ∈ X,Wf PlW 12 x)∧muL X≤780:=fun h4 h6 =>
   ⟨p3,r5,_,_,_,rfl,s15,(sB.trans s14).free fr5,rx4E.mono (erG_up s5),by rw [List.length_append]; omega,nd4,kr5,rwL_len _ _,fun y hy=>⟨Rn y hy,by have:=le_sum Rn y hy; omega⟩,rfl,fun k h1 h2=>by
    unfold rowL
    rw [rw_getD h2,List.map_append,List.sum_append]
    have q1:=sumZ_nn (f:=szR S k 12) (l:=xs) fun x hm=>szR_nn nn k (ndx x hm)
    have nd':∀ x ∈ xs',Nd (S.map fun s=>(s.n,s.c)) c (11+1) x:=fun x hx=>(plc (S:=S) (by decide) (.inr (p2 x hx))).1 _
    have q2:=sumZ_nn (f:=szR S k 12) (l:=xs') fun x hm=>szR_nn nn k (nd' x hm)
    by_cases e:(xs.map (szR S k 12)).sum=0
    ·have:1≤(xs'.map (szR S k 12)).sum:=pl_one (d:=11) nn nd' (pz1 k h1 (by omega) e)
     omega
    ·omega,h4,⟨(calL_le sok.k6 nd4).1,h6⟩,rfl,fun x hx=>(List.mem_append.mp hx).elim (wfx x) (fun hx=>(by obtain ⟨k,_,_,rfl⟩:=p2 x hx; exact (show Wf PlW (11+1) _ from .inr (.inl ⟨k,rfl⟩)))),by rw [muL_app,mu_pls p2]; omega⟩
  refine ⟨_,rfl,r5,_,rfl,SqL.of kr5,_,_,rfl,rfl,_,rfl,?_⟩
  refine orH ?_ (fun fb c1=>?_)
  rotate_left
  ·refine ⟨_,rfl,_,_,rfl,rfl,_,rfl,?_⟩
   refine ite2 (fun _=>fb) (fun c2=>key _ _ (go1 ?_ ?_))
   ·have c1:¬ (400:Int) < (rowL S c 12 (xs++xs')).sum:=fun z=>c1 (decide_eq_true z)
    omega
   ·have c2:¬ (60:Int) < calL S 12 (xs++xs'):=fun z=>c2 (decide_eq_true z)
    omega
  refine ⟨le2,fun pw hpw=>?_⟩
  have h1:=same_new hpw (.tup [V.str (PySem.Str.ofString "word"),V.str (PySem.Str.ofString "o")])
  have j1:upd G5 pw (.tup [V.str (PySem.Str.ofString "word"),V.str (PySem.Str.ofString "o")]) pw=some (.tup [V.str (PySem.Str.ofString "word"),V.str (PySem.Str.ofString "o")]):=upd_same
  generalize upd G5 pw (.tup [V.str (PySem.Str.ofString "word"),V.str (PySem.Str.ofString "o")])=F1 at h1 j1 ⊢
  refine ⟨le1,fun pv hpv=>?_⟩
  have h2:=same_new hpv (.lst [V.ref pw])
  have j2:upd F1 pv (.lst [V.ref pw]) pv=some (.lst [V.ref pw]):=upd_same
  generalize upd F1 pv (.lst [V.ref pw])=F2 at h2 j2 ⊢
  refine ⟨_,rfl,_,_,rfl,rfl,_,_,rfl,⟨by omega,by omega,by omega,by omega⟩,lc_range (fun i ys G'=>Same F2 G'∧∃ xs',ys.length≤i∧PlL K (erG B G' []) c ys xs'∧∀ k,1≤k→k≤i→plD k ∈ xs') ⟨Same.refl _,[],Nat.le_refl _,⟨Reps.nil,fun x hx=>(by cases hx)⟩,fun k h1 h2=>by omega⟩ ?_ ?_ ?_⟩
  ·rintro i ys G' hi ⟨_,_,hl,_⟩
   exact small1000 (by omega)
  ·rintro i ys G' hi ⟨s2,xs',hl,⟨r2,p2⟩,pz1⟩
   refine yes_go ?_
   refine ⟨_,rfl,le2,fun p hp=>?_⟩
   exact ⟨s2.trans (same_new hp _),xs'++[plD (i+1)],by simp; omega,⟨(r2.mono (erG_up (same_new hp _))).snoc (rep_tup (SqT.of (erG_get ((((sB.trans s15).trans (h1.trans h2)).trans s2).free hp) (by simp) upd_same)) (by simp) (Reps.cons (rep_str _) (Reps.cons (by rw [show ((i+1:Nat) : Int)=1+(i:Int) by omega]; exact rep_int _) Reps.nil))),fun x hx=>by
    rcases List.mem_append.mp hx with hx | hx
    ·exact p2 x hx
    ·exact ⟨i+1,by omega,by omega,List.mem_singleton.mp hx⟩⟩,fun k h1 h2=>by
    by_cases e:k=i+1
    ·rw [e]; exact List.mem_append.mpr (.inr List.mem_cons_self)
    ·exact List.mem_append.mpr (.inl (pz1 k h1 (by omega)))⟩
  rintro ys G' ⟨s2,xq,hl,⟨r2,p2⟩,pz2⟩ pl hpl
  replace hl:ys.length≤c:=by omega
  have yl:=r2.len
  have g3:=same_new hpl (.lst ys)
  have k3:upd G' pl (.lst ys) pl=some (.lst ys):=upd_same
  have r3:=r2.mono (erG_up (H0:=B) (os:=[]) g3)
  generalize upd G' pl (.lst ys)=F3 at g3 k3 r3 ⊢
  have h23:=s2.trans g3
  refine ⟨_,_,_,_,rfl,rfl,h23 _ _ j2,k3,small (by simp; omega),fun pn hpn=>?_⟩
  have g4:=same_new hpn (.lst ([V.ref pw]++ys))
  have h24:=h23.trans g4
  have s16:=(s15.trans h1).trans (h2.trans h24)
  have fpw:=(sB.trans s15).free hpw
  have rw4:Rep K (erG B (upd F3 pn (.lst ([V.ref pw]++ys))) []) (wdD [111]) (.ref pw):=by
   unfold wdD
   rw [← cOw]
   exact rep_tup (SqT.of (erG_get fpw (by simp) ((h2.trans h24) _ _ j1))) (by simp) (Reps.cons (rep_str _) (Reps.cons (rep_str _) Reps.nil))
  have rx6E:Rep K (erG B (upd F3 pn (.lst ([V.ref pw]++ys))) []) (.lst (wdD [111] :: xq)) (.ref pn):=rep_lst (SqL.of (erG_get (((sB.trans s15).trans ((h1.trans h2).trans h23)).free hpn) (by simp) upd_same)) (by simp; omega) (Reps.cons rw4 (r3.mono (erG_up g4)))
  generalize upd F3 pn (.lst ([V.ref pw]++ys))=F4 at s16 rx6E ⊢
  have rx6:=rx6E.mono erG_in
  have hpl6:∀ x ∈ wdD [111] :: xq,x=wdD [111]∨∃ k,1≤k∧k≤c∧x=plD k:=fun x hx=>by
   rcases List.mem_cons.mp hx with rfl | hx
   ·exact .inl rfl
   ·exact .inr (p2 x hx)
  have nd6:∀ x ∈ wdD [111] :: xq,Nd (S.map fun s=>(s.n,s.c)) c 12 x:=fun x hx=>(plc (S:=S) (by decide) (hpl6 x hx)).1 _
  dsimp only [gName]
  refine ⟨_,rfl,_,rfl,_,rfl,_,_,c,12,S,_,_,rfl,by decide,hc,rS.mono s16,sok,rx6,nd6,c10,wz nd6,fun p7 r7 F5 s7 fr7 kp7 kr7=>?_⟩
  refine ⟨p7,_,rfl,SqT.of kp7,rfl,_,_,rfl,_,_,rfl,rfl,?_⟩
  have sm:∀ y ∈ rowL S c 12 (wdD [111] :: xq),y≤12:=fun y hy=>by
   unfold rowL rwL at hy
   obtain ⟨j,_,rfl⟩:=List.mem_map.mp hy
   have:=sum_le1 (f:=szR S j 12) (l:=wdD [111] :: xq) fun x hx=>(plc (S:=S) (by decide) (hpl6 x hx)).2.2 j
   rw [List.length_cons] at this
   omega
  have nd6':∀ x ∈ wdD [111] :: xq,Nd (S.map fun s=>(s.n,s.c)) c (11+1) x:=nd6
  have cz:calL S 12 (wdD [111] :: xq)=0:=cal_zero fun x hx=>by
   rcases hpl6 x hx with rfl | ⟨k,_,_,rfl⟩
   ·rfl
   ·rfl
  refine key _ _ ⟨pn,r7,_,_,_,rfl,s16.trans s7,(sB.trans s16).free fr7,rx6E.mono (erG_up s7),by simp; omega,nd6,kr7,rwL_len _ _,fun y hy=>⟨row_nn nn nd6 y hy,by have:=sm y hy; omega⟩,rfl,fun k h1 h2=>?_,?_,by rw [cz]; decide,rfl,fun x hx=>(by rcases hpl6 x hx with rfl | ⟨k,_,_,rfl⟩; exact (show Wf PlW (11+1) _ from .inl ⟨_,pl111,rfl⟩); exact (show Wf PlW (11+1) _ from .inr (.inl ⟨k,rfl⟩))),by rw [muL_cons,mu_wd,mu_pls p2]; omega⟩
  ·unfold rowL
   rw [rw_getD h2]
   exact pl_one (d:=11) nn nd6' (List.mem_cons_of_mem _ (pz2 k h1 (by omega)))
  ·have:=sum_small sm
   have hl9:(rowL S c 12 (wdD [111] :: xq)).length=c+1:=rwL_len _ _
   omega
 
theorem pick8 (n:Nat) (h:n < 8) : ∃ c:Nat,c≤9∧atI [V.int 0,V.int 0,V.int 1,V.int 1,V.int 2,V.int 3,V.int 5,V.int 9] (n:Int)=some (V.int (c:Int)):=by
 match n,h with
 | 0,_=>exact ⟨0,by decide,rfl⟩
 | 1,_=>exact ⟨0,by decide,rfl⟩
 | 2,_=>exact ⟨1,by decide,rfl⟩
 | 3,_=>exact ⟨1,by decide,rfl⟩
 | 4,_=>exact ⟨2,by decide,rfl⟩
 | 5,_=>exact ⟨3,by decide,rfl⟩
 | 6,_=>exact ⟨5,by decide,rfl⟩
 | 7,_=>exact ⟨9,by decide,rfl⟩
theorem cut_len {α:Type} (ns:List α) (lo hi:Option Int) : (cutL ns lo hi).length≤ns.length:=by
 unfold cutL
 rw [List.length_take,List.length_drop]
 omega

def sp_l_shorts (K:PySem.W.Frag) : Sp:=fun vs H Q _=>∃ (sa:Addr) (ns:List Int) (m per:Nat),vs=[.ref sa,.int (m:Int),.int (per:Int)]∧SqL K H sa (ns.map V.int)∧ns.length≤63∧1≤m∧m≤4∧per≤63 ∧
  ∀ p H' S,Same H H'→H p=none→(∃ vs,H' p=some (.lst vs)∧Reps K H' (S.map shD) vs)→ShOk S→S.length=m→Q (.ref p) H'
theorem sc_l_shorts:FnScope ["script","many","per","first","names","shorts","j","cells","count"] ["script","many","per"] (defScope s_l_shorts):=⟨rfl,rfl,rfl,by decide +kernel,rfl,by decide +kernel,by decide +kernel⟩
theorem ok_l_shorts (T:Txt P w K mg a) : FnOk P w K mg base CX0 47 a.f_l_shorts a.fd_l_shorts ["script","many","per"] (sp_l_shorts K):=by
 have g_l_cell_at:=ok_l_cell_at (P:=P) (w:=w) (base:=base) T
 have d_l_cell_at:=T.d_l_cell_at
 have g_l_draw:=ok_l_draw (P:=P) (w:=w) (base:=base) T
 have d_l_draw:=T.d_l_draw
 have g_l_names:=ok_l_names (P:=P) (w:=w) (base:=base) T
 have d_l_names:=T.d_l_names
 have g_l_nodes:=ok_l_nodes (P:=P) (w:=w) (base:=base) T
 have d_l_nodes:=T.d_l_nodes
 have g_l_short:=ok_l_short (P:=P) (w:=w) (base:=base) T
 have d_l_short:=T.d_l_short
 have z_range:=T.z_range
 refine T.d_l_shorts.fn.ok sc_l_shorts (fun vs H Q E h=>?_) (fun cdv A outer s H vs Q E hr h=>?_)
 ·obtain ⟨sa,ns,m,per,rfl,_⟩:=h
  rfl
 obtain ⟨sa,ns,m,per,rfl,hS,h63,hm1,hm4,hper,q⟩:=h
 have hu:=Nat.lt_of_succ_lt (hu_of hr)
 refine ⟨_,(pss_cons (ps_set (i:=3) sc_l_shorts.nd rfl (Or.inl rfl) (pe_callD d_l_cell_at g_l_cell_at (hr.mono (by decide)) rfl (pa_cons (pv 0) (pa_cons pe_int pa_nil))))
   (pss_cons (ps_set (i:=4) sc_l_shorts.nd rfl (Or.inl rfl) (pe_callD d_l_names g_l_names (hr.mono (by decide)) rfl (pa_cons (pv 3) (pa_cons (pv 1) pa_nil))))
   (pss_cons (ps_set (i:=5) sc_l_shorts.nd rfl (Or.inl rfl) (pe_lst pa_nil))
   (pss_cons (ps_for PassesOwn.never rfl (pi_range1 rfl z_range (pa_cons (pv 1) pa_nil)) (pg_name (i:=6) sc_l_shorts.nd rfl (Or.inl rfl)) (pss_cons (ps_set (i:=7) sc_l_shorts.nd rfl (Or.inl rfl) (pe_slice sl_list (pv 0) (po_some (pe_op op_add pe_int (pe_op op_mul (pv 6) (pv 2)))) (po_some (pe_op op_add pe_int (pe_op op_mul (pe_op op_add (pv 6) pe_int) (pv 2))))))
   (pss_cons (@ps_pick _ 8 _ _ _ _ _ _ _ _ _ sc_l_shorts.nd rfl (Or.inl rfl) (CL.int (CL.int (CL.int (CL.int (CL.int (CL.int (CL.int (CL.int CL.nil)))))))) (pe_callD d_l_draw g_l_draw (hr.mono (by decide)) rfl (pa_cons (pv 3) (pa_cons (pe_op op_add pe_int (pv 6)) (pa_cons pe_int pa_nil)))) (fun _ _=>rfl) (by first | exact .inl rfl | exact .inr rfl))
   (pss_cons (ps_if (pt_cmpR op_eq (pe_callD d_l_draw g_l_draw (hr.mono (by decide)) rfl (pa_cons (pv 3) (pa_cons (pe_op op_add pe_int (pv 6)) (pa_cons pe_int pa_nil)))) pe_int (nomark _)) (pss_one (ps_set (i:=7) sc_l_shorts.nd rfl (Or.inl rfl) (pe_lst pa_nil))) pss_nil)
   (pss_one (ps_expr (pe_bm PySem.F.plainAttrs_list PySem.F.slot_list_append PySem.F.type_list_append mt_append (pv 5) (pa_cons (pe_callD d_l_short g_l_short (hr.mono (by decide)) rfl (pa_cons (pv 5) (pa_cons (pe_ix ix_list (pv 4) (pv 6) (fun _ _=>rfl)) (pa_cons (pv 8) (pa_cons (pe_callD d_l_nodes g_l_nodes (hr.mono (by decide)) rfl (pa_cons (pv 7) (pa_cons (pv 5) (pa_cons (pv 8) pa_nil)))) pa_nil))))) pa_nil))))))))
   (pss_one (ps_ret (pv 5))))))),?_⟩
 refine ⟨_,rfl,sa,ns,0,rfl,hS,?_⟩
 generalize ns.getD 0 0=c0
 refine ⟨_,rfl,_,rfl,c0,m,rfl,hm1,by omega,fun pn H1 nms hpn s1 NM kn=>?_⟩
 dsimp only [gName]
 refine ⟨small (by simp),fun pS hpS=>?_⟩
 have g2:=same_new hpS (.lst [])
 have k2:upd H1 pS (.lst []) pS=some (.lst []):=upd_same
 generalize upd H1 pS (.lst [])=H2 at g2 k2 ⊢
 have s2:=s1.trans g2
 have kn2:=g2 _ _ kn
 have fS:=s1.free hpS
 have nSn:pn≠pS:=ne_of_none kn hpS
 refine ⟨_,rfl,_,rfl,by omega,by omega,for_range (fun j σ G=>∃ (v6 v7 v8:Option V) (vs:List V) (S:List Sh),σ=[some (.ref sa),some (.int (m:Int)),some (.int (per:Int)),some (.int c0),some (.ref pn),some (.ref pS),v6,v7,v8]∧Same H G∧G pn=some (.lst ((nms.map tx).map V.str))∧G pS=some (.lst vs)∧Reps K (erG H G [pS]) (S.map shD) vs∧ShOk S∧S.length=j∧S.map Sh.n=nms.take j) ⟨none,none,none,[],[],rfl,s2,kn2,k2,Reps.nil,⟨List.nodup_nil,by simp,(fun s h=>by cases h),(fun s h=>by cases h),(fun s h=>by cases h),(fun s h=>by cases h),(fun s h=>by cases h),⟨List.nodup_nil,by simp,(fun i s h=>by simp at h),(fun s h=>by cases h),(fun s h=>by cases h),(fun s h=>by cases h),(fun s h=>by cases h)⟩,(fun s h=>by cases h),(fun s h=>by cases h),(fun s h=>by cases h),(fun s h=>by cases h),(fun s h=>by cases h)⟩,rfl,rfl⟩ ?_ ?_⟩
 ·rintro j σ G hj ⟨v6,v7,v8,vs,S,rfl,sG,knG,kS,rS,sok,sl,sn⟩
  have hj4:j < m:=by omega
  have nl:=NM.len
  have hjn:j < nms.length:=by omega
  have ejn:nms[j]? = some nms[j]:=List.getElem?_eq_getElem hjn
  have isn:=NM.name j hj4
  have enm:nm nms j=nms[j]:=by unfold nm; rw [List.getD_eq_getElem?_getD,ejn]; rfl
  rw [enm] at isn
  have nlen:=name_len isn
  generalize nms[j]=nj at ejn isn nlen
  refine ⟨_,rfl,_,rfl,_,rfl,_,_,rfl,rfl,.inl ⟨by omega,by omega⟩,_,_,rfl,rfl,_,rfl,_,rfl,_,_,rfl,rfl,_,rfl,_,_,rfl,rfl,.inl ⟨by omega,by omega⟩,_,_,rfl,rfl,_,rfl,_,_,rfl,sG.seq hS,fun p2 hp2=>?_⟩
  rw [cutV_map]
  obtain ⟨cs,ecs,csl⟩ : ∃ cs,cs=cutL ns (some (1+(0+(j:Int)) * (per:Int))) (some (1+((0+(j:Int))+1) * (per:Int)))∧cs.length≤63:=⟨_,rfl,by have:=cut_len ns (some (1+(0+(j:Int)) * (per:Int))) (some (1+((0+(j:Int))+1) * (per:Int))); omega⟩
  rw [← ecs]
  have g3:=same_new hp2 (.lst (cs.map V.int))
  have k3:upd G p2 (.lst (cs.map V.int)) p2=some (.lst (cs.map V.int)):=upd_same
  generalize upd G p2 (.lst (cs.map V.int))=G3 at g3 k3 ⊢
  clear ecs
  dsimp only [gName]
  refine ⟨small (by simp),fun p3 hp3=>?_⟩
  have g4:=same_new hp3 (.lst [V.int 0,V.int 0,V.int 1,V.int 1,V.int 2,V.int 3,V.int 5,V.int 9])
  have k4:upd G3 p3 (.lst [V.int 0,V.int 0,V.int 1,V.int 1,V.int 2,V.int 3,V.int 5,V.int 9]) p3=some (.lst [V.int 0,V.int 0,V.int 1,V.int 1,V.int 2,V.int 3,V.int 5,V.int 9]):=upd_same
  generalize upd G3 p3 (.lst [V.int 0,V.int 0,V.int 1,V.int 1,V.int 2,V.int 3,V.int 5,V.int 9])=G4 at g4 k4 ⊢
  obtain ⟨n8,e8,h8⟩:=draw_nat c0 (30+(0+(j:Int))) (show 0 < 8 by decide)
  have e8:draw c0 (30+(0+(j:Int))) 8=(n8:Int):=e8
  obtain ⟨cc,c9,ecc⟩:=pick8 n8 h8
  refine ⟨_,rfl,_,rfl,_,_,rfl,rfl,c0,_,8,rfl,⟨by omega,by omega⟩,by decide,_,_,_,_,rfl,rfl,SqL.of k4,by rw [e8]; exact ecc,?_⟩
  dsimp only [gName]
  have g34:=g3.trans g4
  refine cut_seq (fun σ' G'=>∃ (ca:Addr) (cs:List Int),σ' = [some (.ref sa),some (.int (m:Int)),some (.int (per:Int)),some (.int c0),some (.ref pn),some (.ref pS),some (.int (0+(j:Int))),some (.ref ca),some (.int (cc:Int))]∧Same G G'∧G' ca=some (.lst (cs.map V.int))∧cs.length≤63) ?_ (fun key=>?_)
  ·rintro σ' G5 ⟨ca,cs,rfl,s5,kca,csl⟩
   have kS5:=s5 _ _ kS
   have rS5:=rS.mono (erG_up (H0:=H) (os:=[pS]) s5)
   have sl4:=sok.len
   have rF:∀ {G':Hp},Same G5 G'→Rep K G' (.lst (S.map shD)) (.ref pS):=fun s=>rep_lst (SqL.of (s _ _ kS5)) (by rw [List.length_map]; omega) ((rS5.mono erG_in).mono s)
   refine ⟨_,rfl,.inl ⟨rfl,_,SqL.of kS5⟩,_,rfl,_,rfl,_,rfl,_,_,_,_,rfl,rfl,SqL.of (s5 _ _ knG),at0 (by rw [List.getElem?_map,List.getElem?_map,ejn]; rfl),_,rfl,_,rfl,_,rfl,_,rfl,ca,pS,cs,_,cc,rfl,SqL.of kca,csl,menu_of (rF (Same.refl _)),mok_of sok,c9,fun x hx=>(by obtain ⟨s,hs,rfl⟩:=List.mem_map.mp hx; exact sok.c9 s hs),fun p6 G6 xs s6 fp6 hvs xl ndx mux wfx=>?_⟩
   refine ⟨G5,pS,S,nj,cc,xs,p6,rfl,c9,rF s6,sok,s6,hvs,xl,ndx,wfx,by omega,fun v G7 sh s7 rv e1 e2 e3 e4 e4a e4b e4c e4d e4e e4f e4g e5 e6=>?_⟩
   have s57:=s6.trans s7
   have kS7:=s57 _ _ kS5
   have vl:=rS5.len
   rw [List.length_map] at vl
   refine ⟨pS,_,_,rfl,rfl,kS7,small1000 (by omega),?_⟩
   have sH5:=sG.trans s5
   have nPn:pn≠pS:=nSn
   refine ⟨_,_,_,vs++[v],S++[sh],rfl,(sH5.trans s57).put fS,by rw [upd_ne nPn]; exact (s5.trans s57) _ _ knG,upd_same,?_,?_,by rw [List.length_append,sl]; rfl,?_⟩
   ·rw [List.map_append]
    refine (rS5.mono (erG_step (fun b o nb _ hb=>by rw [upd_ne (by simpa using nb)]; exact s57 _ _ hb) fun b hb=>.inl hb)).snoc (rv.mono fun b o hb=>?_)
    obtain ⟨⟨_,b0⟩,b1⟩:=erG_of hb
    have nb:b≠pS:=Ne.symm (ne_of_none kS5 b0)
    exact erG_get (sH5.free b0) (by simpa using nb) (by rw [upd_ne nb]; exact b1)
   ·have em:(S++[sh]).map Sh.n=nms.take (j+1):=by rw [List.map_append,sn,List.take_add_one,ejn]; show _++[sh.n]=_; rw [e1]; rfl
    have mem:∀ {P:Sh→Prop},(∀ s ∈ S,P s)→P sh→∀ s ∈ S++[sh],P s:=fun h1 h2 s hs=>by
     rcases List.mem_append.mp hs with hs | hs
     ·exact h1 s hs
     ·rw [List.mem_singleton.mp hs]; exact h2
    exact ⟨by rw [em]; exact (names_nd NM).sublist (List.take_sublist _ _),by rw [List.length_append,List.length_singleton]; omega,mem sok.row (by rw [e3,e2]),mem sok.c9 (by rw [e2]; exact c9),mem sok.nam (by rw [e1]; exact ⟨nlen.1,nlen.2.2⟩),mem sok.r4 e4,mem sok.nod ⟨e5,_,by rw [e2]; exact e6⟩,sok.x.snoc (by rw [em]; exact (names_nd NM).sublist (List.take_sublist _ _)) (by omega) (by rw [e2]; exact e6) (by rw [e2]; exact e4a) (by rw [e2]; exact e4b) (fun y hy=>(e4 y hy).1) e4c,mem sok.k6 e4d,mem sok.isn (by rw [e1]; exact isn),mem (fun t ht=>by obtain ⟨j,hj⟩:=List.getElem?_of_mem ht; rw [calL_app sok.nd fun x hx=>(sok.x.ord j t hj x hx).up menuS_take (Nat.le_refl _) (Nat.le_refl _)]; exact sok.eqk t ht) (by rw [calL_app sok.nd e6]; exact e4e),mem sok.wf e4f,mem sok.mu e4g⟩
   ·rw [List.map_append,sn,List.take_add_one,ejn]
    show _++[sh.n]=_
    rw [e1]
    rfl
  ·refine ⟨_,rfl,_,rfl,_,_,rfl,rfl,c0,_,5,rfl,⟨by omega,by omega⟩,by decide,rfl,_,rfl,?_⟩
   refine ite2 (fun _=>?_) (fun _=>key _ _ ⟨p2,cs,rfl,g34,g4 _ _ k3,csl⟩)
   refine ⟨small (by simp),fun p5 hp5=>?_⟩
   exact key _ _ ⟨p5,[],rfl,g34.trans (same_new hp5 _),upd_same,by simp⟩
 ·rintro σ G ⟨v6,v7,v8,vs,S,rfl,sG,knG,kS,rS,sok,sl,sn⟩
  exact ⟨_,rfl,q pS G S sG fS ⟨vs,kS,rS.mono erG_in⟩ sok (by omega)⟩

theorem sc_l_sound:FnScope ["shorts","nodes","count","node","fit","argument"] ["shorts","nodes","count"] (defScope s_l_sound):=⟨rfl,rfl,rfl,by decide +kernel,rfl,by decide +kernel,by decide +kernel⟩
def sp_snd (K:PySem.W.Frag) (n:Nat) : Sp:=fun vs H Q _=>∃ (sv xv:V) (S:List Sh) (xs:List DD) (c d:Nat),vs=[sv,xv,.int (c:Int)]∧d < n∧Rep K H (.lst (S.map shD)) sv∧(S.map Sh.n).Nodup∧S.length≤100∧Rep K H (.lst xs) xv∧(∀ x ∈ xs,Nd (menuS S) c d x)∧∀ H',Same H H'→Q (.bl true) H'
theorem ok_l_sound_n (T:Txt P w K mg a) : ∀ n:Nat,FnOk P w K mg base CX0 (n+4) a.f_l_sound a.fd_l_sound ["shorts","nodes","count"] (sp_snd K n)
 | 0=>⟨fun vs H Q E h=>(by obtain ⟨sv,xv,S,xs,c,d,_,h1,_⟩:=h; omega),fun A outer s H args us vs Q E _ _ _ _ h=>(by obtain ⟨sv,xv,S,xs,c,d,_,h1,_⟩:=h; omega)⟩
 | n+1=>by
  have g_l_sound:=ok_l_sound_n T n
  have d_l_sound:=T.d_l_sound
  have z_bool:=T.z_bool
  have z_int:=T.z_int
  have z_isinstance:=T.z_isinstance
  have z_len:=T.z_len
  have z_list:=T.z_list
  have z_str:=T.z_str
  have z_tuple:=T.z_tuple

  refine T.d_l_sound.fn.ok sc_l_sound (fun vs H Q E h=>?_) (fun cdv A outer s H vs Q E hr h=>?_)
  ·obtain ⟨sv,xv,S,xs,c,d,rfl,_⟩:=h
   rfl
  obtain ⟨sv,xv,S,xs,c,d,rfl,hd,rS,ndS,sl100,rx,ndx,q⟩:=h
  have hu:=Nat.lt_of_succ_lt (hu_of hr)
  refine ⟨_,(pss_cons (ps_if (pt_not (pt_val (pe_callB call_isi rfl z_isinstance PyProof.Rows.boot_isinstance (pa_cons (pv 1) (pa_cons (pe_bltn (v:=.ty "list") rfl z_list PyProof.Rows.boot_list rfl) pa_nil))) (fun _=>rfl))) (pss_one (ps_ret pe_bl)) pss_nil)
   (pss_cons (ps_for PassesOwn.never rfl (pi_list (pv 1)) (pg_name (i:=3) sc_l_sound.nd rfl (Or.inr rfl)) (pss_cons (ps_if (PW.pt (pw_or (pt_not (pt_val (pe_callB call_isi rfl z_isinstance PyProof.Rows.boot_isinstance (pa_cons (pv 3) (pa_cons (pe_bltn (v:=.ty "tuple") rfl z_tuple PyProof.Rows.boot_tuple rfl) pa_nil))) (fun _=>rfl))) (pw_or1 (pt_cmpR op_lt (pe_callB call_len_seq rfl z_len PySem.boot_len (pa_cons (pv 3) pa_nil)) pe_int (nomark _))))) (pss_one (ps_ret pe_bl)) pss_nil)
   (pss_one (ps_if (pt_cmpR op_eq (pe_ix ix_tup (pv 3) pe_int (fun _ _=>rfl)) pe_str (nomark _)) (pss_cons (ps_lc (k:=4) rfl (lcok (caps:=["node"]) (js:=[3]) (cap:=⟨⟨rfl,.inl rfl,rfl,.inl rfl⟩,trivial⟩)) (pi_list (pv 0)) (fun _ _ _ _=>(pts_one (pt_cmpR op_eq (pe_ix (r:=rIxT K) ix_tup (pv 0) pe_int (fun _ _=>rfl)) (pe_ix (r:=rIxT K) ix_tup (pv 1) pe_int (fun _ _=>rfl)) (nomark _)))) (fun _ _ _ _=>(pv 0)) sc_l_sound.nd rfl rfl)
   (pss_cons (ps_if (PW.pt (pw_or (pt_cmpR op_ne (pe_callB call_len_seq rfl z_len PySem.boot_len (pa_cons (pv 3) pa_nil)) pe_int (nomark _)) (pw_or (pt_cmpR (op_eqNil hu) (pv 4) (pe_lst pa_nil) (nomark _)) (pw_or (pt_not (pt_val (pe_callB call_isi rfl z_isinstance PyProof.Rows.boot_isinstance (pa_cons (pe_ix ix_tup (pv 3) pe_int (fun _ _=>rfl)) (pa_cons (pe_bltn (v:=.ty "list") rfl z_list PyProof.Rows.boot_list rfl) pa_nil))) (fun _=>rfl))) (pw_or1 (pt_cmpR op_ne (pe_callB call_len_seq rfl z_len PySem.boot_len (pa_cons (pe_ix ix_tup (pv 3) pe_int (fun _ _=>rfl)) pa_nil)) (pe_ix ix_tup (pe_ix ix_list (pv 4) pe_int (fun _ _=>rfl)) pe_int (fun _ _=>rfl)) (nomark _))))))) (pss_one (ps_ret pe_bl)) pss_nil)
   (pss_one (ps_for PassesOwn.never rfl (pi_list (pe_ix ix_tup (pv 3) pe_int (fun _ _=>rfl))) (pg_name (i:=5) sc_l_sound.nd rfl (Or.inl rfl)) (pss_one (ps_if (pt_not (pt_val (pe_callD d_l_sound g_l_sound hr rfl (pa_cons (pv 0) (pa_cons (pv 5) (pa_cons (pv 2) pa_nil)))) (fun _=>rfl))) (pss_one (ps_ret pe_bl)) pss_nil)))))) (pss_one (ps_if (pt_cmpR op_eq (pe_ix ix_tup (pv 3) pe_int (fun _ _=>rfl)) pe_str (nomark _)) (pss_cons (ps_if (PW.pt (pw_or (pt_cmpR op_ne (pe_callB call_len_seq rfl z_len PySem.boot_len (pa_cons (pv 3) pa_nil)) pe_int (nomark _)) (pw_or (pt_val (pe_callB call_isi rfl z_isinstance PyProof.Rows.boot_isinstance (pa_cons (pe_ix ix_tup (pv 3) pe_int (fun _ _=>rfl)) (pa_cons (pe_bltn (v:=.ty "bool") rfl z_bool PyProof.Rows.boot_bool rfl) pa_nil))) (fun _=>rfl)) (pw_or1 (pt_not (pt_val (pe_callB call_isi rfl z_isinstance PyProof.Rows.boot_isinstance (pa_cons (pe_ix ix_tup (pv 3) pe_int (fun _ _=>rfl)) (pa_cons (pe_bltn (v:=.ty "int") rfl z_int PyProof.Rows.boot_int rfl) pa_nil))) (fun _=>rfl))))))) (pss_one (ps_ret pe_bl)) pss_nil)
   (pss_one (ps_if (pt_not (pt_chain op_le op_le pe_int (pe_ix ix_tup (pv 3) pe_int (fun _ _=>rfl)) (pv 2))) (pss_one (ps_ret pe_bl)) pss_nil))) (pss_one (ps_if (PW.pt (pw_or (pt_cmpR op_ne (pe_ix ix_tup (pv 3) pe_int (fun _ _=>rfl)) pe_str (nomark _)) (pw_or (pt_cmpR op_ne (pe_callB call_len_seq rfl z_len PySem.boot_len (pa_cons (pv 3) pa_nil)) pe_int (nomark _)) (pw_or1 (pt_not (pt_val (pe_callB call_isi rfl z_isinstance PyProof.Rows.boot_isinstance (pa_cons (pe_ix ix_tup (pv 3) pe_int (fun _ _=>rfl)) (pa_cons (pe_bltn (v:=.ty "str") rfl z_str PyProof.Rows.boot_str rfl) pa_nil))) (fun _=>rfl))))))) (pss_one (ps_ret pe_bl)) pss_nil))))))))
   (pss_one (ps_ret pe_bl)))),?_⟩
  obtain ⟨sa,us,rfl,ssa,_,rus⟩:=rS.lstO
  have ul:=rus.len
  rw [List.length_map] at ul
  have rx':=rx
  obtain ⟨xa,vs0,rfl,sx,_,rxs⟩:=rx'.lstO
  have xl:=rxs.len
  refine ⟨_,rfl,_,"list",true,rfl,by decide,rx.isi "list",_,rfl,?_⟩
  refine iteF ?_
  refine ⟨_,rfl,xa,rfl,⟨_,sx⟩,for_list (K:=K) (a:=xa) (xs:=vs0) (fun k σ G=>∃ (v3 v4 v5:Option V),σ=[some (.ref sa),some (.ref xa),some (.int (c:Int)),v3,v4,v5]∧Same H G) ⟨none,none,none,rfl,Same.refl _⟩ (fun k σ G _ z=>by obtain ⟨_,_,_,_,s1⟩:=z; exact s1.seq sx) ?_ ?_⟩
  ·rintro k y σ G hy ⟨v3,v4,v5,rfl,sg⟩
   obtain ⟨x0,e0,r0⟩:=rxs.getR hy
   have nd0:=ndx x0 (List.mem_of_getElem? e0)
   obtain ⟨e,rfl⟩:=nd0.pos
   rcases nd0.out with ⟨w',rfl⟩ | ⟨pk,hp1,hp2,rfl⟩ | ⟨nm',as,rfl,hM,has⟩
   ·obtain ⟨ta,zs,rfl,st,_,rz⟩:=id r0.tupO
    obtain ⟨z0,z1,rfl,y0,y1⟩:=Reps.two rz
    rw [y0.strO,y1.strO] at st
    have st1:=sg.tup st
    refine ⟨_,rfl,_,"tuple",true,rfl,by decide,(r0.mono sg).isi "tuple",_,rfl,?_⟩
    refine iteF ?_
    refine ⟨_,rfl,_,_,rfl,.inr st1,_,_,rfl,rfl,_,rfl,?_⟩
    refine ite2 (fun z=>absurd (of_decide_eq_true z) (by simp)) (fun _=>?_)
    refine ⟨_,rfl,_,_,_,_,rfl,rfl,st1,rfl,rfl,_,rfl,?_⟩
    rw [decide_eq_false strNe4]
    refine iteF ?_
    refine ⟨_,rfl,_,_,_,_,rfl,rfl,st1,rfl,rfl,_,rfl,?_⟩
    rw [decide_eq_false strNe6]
    refine iteF ?_
    refine ⟨_,rfl,_,_,_,_,rfl,rfl,st1,rfl,rfl,_,rfl,?_⟩
    rw [decide_eq_true rfl]
    refine iteF ?_
    refine ⟨_,rfl,_,_,rfl,.inr st1,rfl,_,rfl,?_⟩
    refine iteF ?_
    refine ⟨_,rfl,_,_,_,_,rfl,rfl,st1,rfl,_,"str",true,rfl,by decide,(rep_str (tx w')).isi "str",_,rfl,?_⟩
    refine iteF ?_
    exact ⟨_,_,_,rfl,sg⟩
   ·obtain ⟨ta,zs,rfl,st,_,rz⟩:=id r0.tupO
    obtain ⟨z0,z1,rfl,y0,y1⟩:=Reps.two rz
    rw [y0.strO,y1.intO] at st
    have st1:=sg.tup st
    refine ⟨_,rfl,_,"tuple",true,rfl,by decide,(r0.mono sg).isi "tuple",_,rfl,?_⟩
    refine iteF ?_
    refine ⟨_,rfl,_,_,rfl,.inr st1,_,_,rfl,rfl,_,rfl,?_⟩
    refine ite2 (fun z=>absurd (of_decide_eq_true z) (by simp)) (fun _=>?_)
    refine ⟨_,rfl,_,_,_,_,rfl,rfl,st1,rfl,rfl,_,rfl,?_⟩
    rw [decide_eq_false strNe5]
    refine iteF ?_
    refine ⟨_,rfl,_,_,_,_,rfl,rfl,st1,rfl,rfl,_,rfl,?_⟩
    rw [decide_eq_true rfl]
    refine iteT ?_
    refine ⟨_,rfl,_,_,rfl,.inr st1,rfl,_,rfl,?_⟩
    refine iteF ?_
    refine ⟨_,rfl,_,_,_,_,rfl,rfl,st1,rfl,_,"bool",false,rfl,by decide,(rep_int (K:=K) (H:=G) (pk:Int)).isi "bool",_,rfl,?_⟩
    refine iteF ?_
    refine ⟨_,rfl,_,_,_,_,rfl,rfl,st1,rfl,_,"int",true,rfl,by decide,(rep_int (K:=K) (H:=G) (pk:Int)).isi "int",_,rfl,?_⟩
    refine iteF ?_
    refine ⟨_,rfl,_,_,_,_,rfl,rfl,st1,rfl,_,_,rfl,rfl,_,rfl,?_⟩
    rw [decide_eq_true (show (1:Int)≤(pk:Int) by omega)]
    refine iteT ?_
    refine ⟨_,rfl,_,_,rfl,rfl,_,rfl,?_⟩
    rw [decide_eq_true (show (pk:Int)≤(c:Int) by omega)]
    refine iteF ?_
    exact ⟨_,_,_,rfl,sg⟩
   ·obtain ⟨ta,zs,rfl,st,_,rz⟩:=id r0.tupO
    obtain ⟨z0,z1,z2,rfl,y0,y1,y2⟩:=Reps.three rz
    rw [y0.strO,y1.strO] at st
    obtain ⟨la,ys,rfl,sl,_,rl⟩:=y2.lstO
    have yl:=rl.len
    rw [List.length_map] at yl
    have st1:=sg.tup st
    have stg:=st1
    refine ⟨_,rfl,_,"tuple",true,rfl,by decide,(r0.mono sg).isi "tuple",_,rfl,?_⟩
    refine iteF ?_
    refine ⟨_,rfl,_,_,rfl,.inr st1,_,_,rfl,rfl,_,rfl,?_⟩
    refine ite2 (fun z=>absurd (of_decide_eq_true z) (by simp)) (fun _=>?_)
    refine ⟨_,rfl,_,_,_,_,rfl,rfl,st1,rfl,rfl,_,rfl,?_⟩
    rw [decide_eq_true rfl]
    refine iteT ?_
    obtain ⟨j,s,hj,ej,hs,en,ec,hF⟩:=call_of (i:=S.length) ndS (by rw [List.take_of_length_le (Nat.le_refl _)]; exact hM)
    refine ⟨_,rfl,sa,rfl,⟨_,sg.seq ssa⟩,lc_list (K:=K) (a:=sa) (xs:=us) (fun i ys G'=>G' = G∧FitAt K H (S.take i) (tx nm') ys) ⟨rfl,by rw [List.take_zero]; exact ⟨Nat.le_refl _,fun _=>rfl,fun s z=>by cases z⟩⟩ (fun i ys G' _ z=>by rw [z.1]; exact sg.seq ssa) ?_ ?_ ?_⟩
    ·rintro i ys G' hi ⟨_,f1,_⟩
     rw [List.length_take] at f1
     exact small1000 (by omega)
    ·rintro i y ys G' hy ⟨eG,fit⟩
     rw [eG]
     obtain ⟨d1,e1,r1⟩:=rus.getR hy
     rw [List.getElem?_map] at e1
     obtain ⟨t,e2,rfl⟩:=Option.map_eq_some_iff.mp e1
     obtain ⟨tb,ws,rfl,st1,_,rw1⟩:=id r1.tupO
     have hw0:ws[0]? = some (V.str (tx t.n)):=by
      obtain ⟨x,h1,h2⟩:=rw1.get (i:=0) (d:=.str (tx t.n)) rfl
      rw [h1,h2.strO]
     refine ⟨_,rfl,_,_,_,_,rfl,rfl,sg.tup st1,atI_nat hw0,_,rfl,_,_,_,_,rfl,rfl,stg,rfl,rfl,_,rfl,?_⟩
     by_cases en:tx t.n=tx nm'
     ·rw [decide_eq_true (by rw [en])]
      refine iteT ?_
      exact ⟨_,rfl,rfl,fit.yes e2 en r1⟩
     ·rw [decide_eq_false (fun z=>en (V.str.inj z))]
      refine iteF ?_
      exact ⟨rfl,fit.no e2 en⟩
    rintro ys_ G' ⟨eG,fit⟩ pf hpf
    rw [eG] at hpf ⊢
    clear eG G'
    rw [ul,List.take_of_length_le (Nat.le_refl _)] at fit
    dsimp only [gName]
    have gf:=same_new hpf (.lst ys_)
    have sgf:=sg.trans gf
    have kf:upd G pf (.lst ys_) pf=some (.lst ys_):=upd_same
    generalize upd G pf (.lst ys_)=G1 at gf sgf kf ⊢
    obtain ⟨v,r,rfl,rv⟩:=fit.2.2 s hF
    refine ⟨_,rfl,_,_,rfl,.inr (sgf.tup st),rfl,_,rfl,?_⟩
    refine iteF ?_
    refine ⟨_,rfl,small (by simp),fun p1 hp1=>?_⟩
    have g1:=same_new hp1 (.lst [])
    have s2:=sgf.trans g1
    have kf2:=g1 _ _ kf
    have k1:upd G1 p1 (.lst []) p1=some (.lst []):=upd_same
    generalize upd G1 p1 (.lst [])=G2 at g1 s2 kf2 k1 ⊢
    refine ⟨_,_,v :: r,rfl,rfl,SqL.of kf2,SqL.of k1,_,rfl,?_⟩
    refine iteF ?_
    refine ⟨_,rfl,_,_,_,_,rfl,rfl,s2.tup st,rfl,_,"list",true,rfl,by decide,(y2.mono s2).isi "list",_,rfl,?_⟩
    refine iteF ?_
    obtain ⟨tv,us2,rfl,stv,_,ru2⟩:=rv.tupO
    have hu1:us2[1]? = some (V.int (s.c:Int)):=by
     obtain ⟨x,h1,h2⟩:=ru2.get (i:=1) (d:=.int (s.c:Int)) rfl
     rw [h1,h2.intO]
    refine ⟨_,rfl,_,_,_,_,rfl,rfl,s2.tup st,rfl,_,_,rfl,.inl (s2.seq sl),_,rfl,_,_,_,_,rfl,rfl,SqL.of kf2,atI_nat (j:=0) rfl,_,_,_,_,rfl,rfl,s2.tup stv,atI_nat hu1,rfl,_,rfl,?_⟩
    rw [decide_eq_true (by rw [yl,ec])]
    refine iteF ?_
    refine ⟨_,rfl,_,_,_,_,rfl,rfl,s2.tup st,rfl,la,rfl,⟨_,s2.seq sl⟩,for_list (K:=K) (a:=la) (xs:=ys) (fun j σ G=>∃ (v5:Option V),σ=[some (.ref sa),some (.ref xa),some (.int (c:Int)),some (.ref ta),some (.ref pf),v5]∧Same H G) ⟨v5,rfl,s2⟩ (fun j σ G _ z=>by obtain ⟨_,_,s3⟩:=z; exact s3.seq sl) ?_ ?_⟩
    ·rintro j y σ G hy ⟨v5,rfl,s3⟩
     obtain ⟨dj,ejm,rj⟩:=rl.getR hy
     rw [List.getElem?_map] at ejm
     obtain ⟨aj,eaj,rfl⟩:=Option.map_eq_some_iff.mp ejm
     clear ejm
     have ham:=List.mem_of_getElem? eaj
     refine ⟨_,rfl,_,rfl,_,rfl,.ref sa,y,S,aj,c,e,rfl,by omega,rS.mono s3,ndS,sl100,rj.mono s3,(has aj ham).2,fun G5 s5=>⟨_,rfl,?_⟩⟩
     refine iteF ?_
     exact ⟨_,rfl,s3.trans s5⟩
    ·rintro σ G ⟨v5,rfl,s3⟩
     exact ⟨_,_,_,rfl,s3⟩
  ·rintro σ G ⟨v3,v4,v5,rfl,sg⟩
   exact q G sg
theorem ok_l_sound (T:Txt P w K mg a) : FnOk P w K mg base CX0 70 a.f_l_sound a.fd_l_sound ["shorts","nodes","count"] (sp_snd K (70 - 4)):=ok_l_sound_n T (70 - 4)
def sp_by_name (K:PySem.W.Frag) : Sp:=fun vs H Q _=>∃ (sv:V) (S:List Sh),vs=[sv]∧Rep K H (.lst (S.map shD)) sv∧(S.map Sh.n).Nodup∧S.length≤100∧∀ p H',Same H H'→NmAt K H' p S→Q (.ref p) H'
theorem sc_by_name:FnScope ["shorts"] ["shorts"] (defScope s_by_name):=⟨rfl,rfl,rfl,by decide +kernel,rfl,by decide +kernel,by decide +kernel⟩
theorem ok_by_name (T:Txt P w K mg a) : FnOk P w K mg base CX0 1 a.f_by_name a.fd_by_name ["shorts"] (sp_by_name K):=by
 have z_dict:=T.z_dict
 refine T.d_by_name.fn.ok sc_by_name (fun vs H Q E h=>?_) (fun cdv A outer s H vs Q E hr h=>?_)
 ·obtain ⟨sv,S,rfl,_⟩:=h
  rfl
 obtain ⟨sv,S,rfl,rs,nd,sl,q⟩:=h
 have hu:=Nat.lt_of_succ_lt (hu_of hr)
 refine ⟨_,(pss_one (ps_ret (pe_callTy (call_dict_pairs rfl) rfl z_dict PyProof.Rows.boot_dict (pa_cons (pe_lc rfl (lcok (caps:=[]) (js:=[]) (cap:=trivial)) (pi_list (pv 0)) (fun _ _ _ _=>pts_nil) (fun _ _ _ _=>(pe_tup (pa_cons (pe_ix (r:=rIxT K) ix_tup (pv 0) pe_int (fun _ _=>rfl)) (pa_cons (pv 0) pa_nil))))) pa_nil)))),?_⟩
 obtain ⟨sa,xs,rfl,sx,_,rx⟩:=rs.lstO
 have xl:=rx.len
 rw [List.length_map] at xl
 refine ⟨_,rfl,sa,rfl,⟨_,sx⟩,lc_list (K:=K) (a:=sa) (xs:=xs) (fun i ys G=>Same H G∧ys.length=i∧∀ (j:Nat) y,ys[j]? = some y→∃ s v b,S[j]? = some s∧xs[j]? = some v∧y=V.ref b∧G b=some (.tup [.str (tx s.n),v])) ⟨Same.refl _,rfl,fun j y e=>by simp at e⟩ (fun i ys G _ z=>z.1.seq sx) ?_ ?_ ?_⟩
 ·rintro i ys G hi ⟨_,e,_⟩
  rw [e]
  exact small1000 (by omega)
 ·rintro i y ys G hy ⟨s1,e,hz⟩
  obtain ⟨d,e1,r1⟩:=rx.getR hy
  rw [List.getElem?_map] at e1
  obtain ⟨t,e2,rfl⟩:=Option.map_eq_some_iff.mp e1
  obtain ⟨ta,zs,rfl,st,_,rz⟩:=r1.tupO
  have hz0:zs[0]? = some (V.str (tx t.n)):=by
   obtain ⟨x,h1,h2⟩:=rz.get (i:=0) (d:=.str (tx t.n)) rfl
   rw [h1,h2.strO]
  refine yes_go ?_
  refine ⟨_,rfl,_,_,_,_,rfl,rfl,s1.tup st,atI_nat hz0,_,rfl,le2,fun p hp=>⟨s1.trans (same_new hp _),by rw [List.length_append,e]; rfl,fun j y ej=>?_⟩⟩
  by_cases hj:j < ys.length
  ·rw [List.getElem?_append_left hj] at ej
   obtain ⟨s,v,b,a1,a2,a3,a4⟩:=hz j y ej
   exact ⟨s,v,b,a1,a2,a3,same_new hp _ _ _ a4⟩
  ·rw [List.getElem?_append_right (by omega)] at ej
   have h0:j - ys.length=0:=by
    have:=(List.getElem?_eq_some_iff.mp ej).1
    simp at this
    omega
   rw [h0] at ej
   have hji:j=i:=by omega
   subst hji
   have ej:V.ref p=y:=by simpa using ej
   exact ⟨t,_,p,e2,hy,ej.symm,upd_same⟩
 ·rintro ys G ⟨s1,e,hz⟩ p hp
  have g2:=same_new hp (.lst ys)
  have kvl:(S.zip xs).length=xs.length:=by rw [List.length_zip]; omega
  refine ⟨p,ys,(S.zip xs).map (fun z=>(.inr (tx z.1.n),z.2)),rfl,SqL.of upd_same,by omega,⟨by rw [List.length_map,kvl,e],fun j y k v ej ek=>?_⟩,fun p2 hp2=>?_⟩
  ·obtain ⟨s,v',b,a1,a2,a3,a4⟩:=hz j y ej
   refine ⟨b,a3,SqT.of ?_⟩
   rw [List.getElem?_map,(List.getElem?_zip_eq_some (z:=(s,v'))).mpr ⟨a1,a2⟩] at ek
   cases ek
   exact g2 _ _ a4
  ·have g3:=same_new hp2 (.dK (laidK ((S.zip xs).map (fun z=>((.inr (tx z.1.n) : Key),z.2)))))
   have s3:=(s1.trans g2).trans g3
   refine q p2 _ s3 ⟨_,upd_same,fun x=>?_⟩
   have ndk:(((S.zip xs).map (fun z=>((.inr (tx z.1.n) : Key),z.2))).map Prod.fst).Nodup:=by
    have e1:((S.zip xs).map (fun z=>((.inr (tx z.1.n) : Key),z.2))).map Prod.fst=((S.zip xs).map Prod.fst).map (fun s=>(.inr (tx s.n) : Key)):=by rw [List.map_map,List.map_map]; rfl
    rw [e1,List.map_fst_zip (by omega),show S.map (fun s=>(.inr (tx s.n) : Key))=(S.map Sh.n).map (fun n=>.inr (tx n)) by rw [List.map_map]; rfl]
    exact List.Pairwise.map _ (fun a b h z=>h (tx_inj (Sum.inr.inj z))) nd
   unfold laidK
   rw [fold_val _ _ _ ndk]
   have key:∀ (S:List Sh) (xs:List V),S.length=xs.length→Reps K H (S.map shD) xs→(shF S x=none→((S.zip xs).map (fun z=>((.inr (tx z.1.n) : Key),z.2))).find? (fun kv=>decide (kv.1 = .inr x))=none)∧∀ s,shF S x=some s→∃ v,((S.zip xs).map (fun z=>((.inr (tx z.1.n) : Key),z.2))).find? (fun kv=>decide (kv.1 = .inr x))=some (.inr x,v)∧Rep K H (shD s) v:=by
    intro S
    induction S with
    | nil=>intro xs _ _; exact ⟨fun _=>rfl,fun s h=>by cases h⟩
    | cons t r ih =>
     intro xs hl hr
     cases xs with
     | nil=>cases hl
     | cons v xs =>
      have hr:Reps K H (shD t :: r.map shD) (v :: xs):=hr
      unfold Reps at hr
      obtain ⟨v0,r0,e0,h1,h2⟩:=hr
      cases e0
      have ih:=ih xs (by simpa using hl) h2
      unfold shF at ih ⊢
      rw [List.zip_cons_cons,List.map_cons,List.find?_cons,List.find?_cons]
      by_cases e:tx t.n=x
      ·rw [decide_eq_true e,decide_eq_true (by rw [e])]
       exact ⟨fun z=>(by cases z),fun s z=>⟨v,by rw [e],by cases z; exact h1⟩⟩
      ·rw [decide_eq_false e,decide_eq_false (fun z=>e (Sum.inr.inj z))]
       exact ih
   have kk:=key S xs xl.symm rx
   refine ⟨fun h=>?_,fun s h=>?_⟩
   ·rw [kk.1 h]
    rfl
   ·obtain ⟨v,h1,h2⟩:=kk.2 s h
    rw [h1]
    exact ⟨v,rfl,h2.mono s3⟩

theorem sc_calls_in:FnScope ["nodes","calls","node"] ["nodes"] (defScope s_calls_in):=⟨rfl,rfl,rfl,by decide +kernel,rfl,by decide +kernel,by decide +kernel⟩
def sp_ci (K:PySem.W.Frag) (n:Nat) : Sp:=fun vs H Q _=>∃ (xv:V) (xs:List DD) (M:List (Wd0 × Nat)) (c d:Nat),vs=[xv]∧d < n∧Rep K H (.lst xs) xv∧(∀ x ∈ xs,Nd M c d x)∧(∀ m ∈ M,m.2≤10)∧∀ H',Same H H'→Q (.int (callsL xs:Int)) H'
theorem ok_calls_in_n (T:Txt P w K mg a) : ∀ n:Nat,FnOk P w K mg base CX0 (n+4) a.f_calls_in a.fd_calls_in ["nodes"] (sp_ci K n)
 | 0=>⟨fun vs H Q E h=>(by obtain ⟨xv,xs,M,c,d,_,h1,_⟩:=h; omega),fun A outer s H args us vs Q E _ _ _ _ h=>(by obtain ⟨xv,xs,M,c,d,_,h1,_⟩:=h; omega)⟩
 | n+1=>by
  have g_calls_in:=ok_calls_in_n T n
  have d_calls_in:=T.d_calls_in
  have z_sum:=T.z_sum

  refine T.d_calls_in.fn.ok sc_calls_in (fun vs H Q E h=>?_) (fun cdv A outer s H vs Q E hr h=>?_)
  ·obtain ⟨xv,xs,M,c,d,rfl,_⟩:=h
   rfl
  obtain ⟨xv,xs,M,c,d,rfl,hd,rx,ndx,m10,q⟩:=h
  have hu:=Nat.lt_of_succ_lt (hu_of hr)
  refine ⟨_,(pss_cons (ps_set (i:=1) sc_calls_in.nd rfl (Or.inl rfl) pe_int)
   (pss_cons (ps_for PassesOwn.never rfl (pi_list (pv 0)) (pg_name (i:=2) sc_calls_in.nd rfl (Or.inl rfl)) (pss_one (ps_if (pt_cmpR op_eq (pe_ix ix_tup (pv 2) pe_int (fun _ _=>rfl)) pe_str (nomark _)) (pss_one (ps_set (i:=1) sc_calls_in.nd rfl (Or.inl rfl) (pe_op op_add (pe_op op_add (pv 1) pe_int) (pe_callB (call_sum rfl) rfl z_sum PyProof.Rows.boot_sum (pa_cons (pe_lc rfl (lcok (caps:=[]) (js:=[]) (cap:=trivial)) (pi_list (pe_ix ix_tup (pv 2) pe_int (fun _ _=>rfl))) (fun _ _ _ _=>pts_nil) (fun _ _ _ _=>(pe_callD d_calls_in g_calls_in hr rfl (pa_cons (pv 0) pa_nil)))) pa_nil))))) pss_nil)))
   (pss_one (ps_ret (pv 1))))),?_⟩
  obtain ⟨xa,vs0,rfl,sx,_,rxs⟩:=rx.lstO
  have xl:=rxs.len
  refine ⟨_,rfl,xa,rfl,⟨_,sx⟩,for_list (K:=K) (a:=xa) (xs:=vs0) (fun k σ G=>∃ v2:Option V,σ=[some (.ref xa),some (.int (callsL (xs.take k) : Int)),v2]∧Same H G) ⟨none,by rw [List.take_zero,calls_nil]; rfl,Same.refl _⟩ (fun k σ G _ z=>by obtain ⟨_,_,s1⟩:=z; exact s1.seq sx) ?_ ?_⟩
  ·rintro k y σ G hy ⟨v2,rfl,s1⟩
   obtain ⟨x0,e0,r0⟩:=rxs.getR hy
   have nd0:=ndx x0 (List.mem_of_getElem? e0)
   have es:=calls_snoc e0
   obtain ⟨e,rfl⟩:=nd0.pos
   rcases nd0.out with ⟨w',rfl⟩ | ⟨pk,hp1,hp2,rfl⟩ | ⟨nm',as,rfl,hM,has⟩
   ·obtain ⟨ta,zs,rfl,st,_,rz⟩:=id r0.tupO
    obtain ⟨z0,z1,rfl,y0,y1⟩:=Reps.two rz
    rw [y0.strO,y1.strO] at st
    refine ⟨_,rfl,_,_,_,_,rfl,rfl,s1.tup st,rfl,rfl,_,rfl,?_⟩
    rw [decide_eq_false strNe4]
    refine iteF ?_
    rw [calls_wd,Nat.add_zero] at es
    exact ⟨_,by rw [es]; rfl,s1⟩
   ·obtain ⟨ta,zs,rfl,st,_,rz⟩:=id r0.tupO
    obtain ⟨z0,z1,rfl,y0,y1⟩:=Reps.two rz
    rw [y0.strO,y1.intO] at st
    refine ⟨_,rfl,_,_,_,_,rfl,rfl,s1.tup st,rfl,rfl,_,rfl,?_⟩
    rw [decide_eq_false strNe5]
    refine iteF ?_
    rw [calls_pl,Nat.add_zero] at es
    exact ⟨_,by rw [es]; rfl,s1⟩
   ·obtain ⟨ta,zs,rfl,st,_,rz⟩:=id r0.tupO
    obtain ⟨z0,z1,z2,rfl,y0,y1,y2⟩:=Reps.three rz
    rw [y0.strO,y1.strO] at st
    obtain ⟨la,ys,rfl,sl,_,rl⟩:=y2.lstO
    have yl:=rl.len
    rw [List.length_map] at yl
    have a10:as.length≤10:=m10 _ hM
    refine ⟨_,rfl,_,_,_,_,rfl,rfl,s1.tup st,rfl,rfl,_,rfl,?_⟩
    rw [decide_eq_true rfl]
    refine iteT ?_
    refine ⟨_,rfl,_,_,rfl,rfl,_,rfl,_,_,_,_,rfl,rfl,s1.tup st,rfl,la,rfl,⟨_,s1.seq sl⟩,lc_list (K:=K) (a:=la) (xs:=ys) (fun j zs G'=>Same G G'∧zs=((as.take j).map fun a=>(callsL a:Int)).map V.int) ⟨Same.refl _,rfl⟩ (fun j zs G' _ z=>(s1.trans z.1).seq sl) ?_ ?_ ?_⟩
    ·rintro j zs G' hj ⟨_,rfl⟩
     rw [List.length_map,List.length_map,List.length_take]
     exact small1000 (by omega)
    ·rintro j y zs G' hy ⟨s2,rfl⟩
     obtain ⟨dj,ejm,rj⟩:=rl.getR hy
     rw [List.getElem?_map] at ejm
     obtain ⟨aj,eaj,rfl⟩:=Option.map_eq_some_iff.mp ejm
     clear ejm
     have ham:=List.mem_of_getElem? eaj
     refine yes_go ?_
     refine ⟨_,rfl,y,aj,M,c,e,rfl,by omega,rj.mono (s1.trans s2),(has aj ham).2,m10,fun G5 s5=>⟨s2.trans s5,?_⟩⟩
     rw [List.take_add_one,eaj,List.map_append,List.map_append]
     rfl
    rintro zs G' ⟨s2,rfl⟩ p hp
    rw [yl,List.take_of_length_le (Nat.le_refl _)]
    have g3:=same_new hp (.lst ((as.map fun a=>(callsL a:Int)).map V.int))
    refine ⟨p,_,rfl,SqL.of upd_same,_,_,rfl,rfl,?_⟩
    refine ⟨some (V.ref ta),?_,(s1.trans s2).trans g3⟩
    rw [es,calls_cl,callsA_sum]
    exact congrArg (fun z=>[some (V.ref xa),some (V.int z),some (V.ref ta)]) (by omega)
  ·rintro σ G ⟨v2,rfl,s1⟩
   rw [xl,List.take_of_length_le (Nat.le_refl _)]
   exact ⟨_,rfl,q G s1⟩
theorem ok_calls_in (T:Txt P w K mg a) : FnOk P w K mg base CX0 60 a.f_calls_in a.fd_calls_in ["nodes"] (sp_ci K (60 - 4)):=ok_calls_in_n T (60 - 4)

theorem sc_arguments_stepped:FnScope ["named","arguments","at","told","argument"] ["named","arguments","at"] (defScope s_arguments_stepped):=⟨rfl,rfl,rfl,by decide +kernel,rfl,by decide +kernel,by decide +kernel⟩
def sp_st (K:PySem.W.Frag) (n:Nat) : Sp:=fun vs H Q _=>∃ (B:Hp) (na:Addr) (xv:V) (t:Int) (S:List Sh) (xs:List DD) (c d D:Nat),vs=[.ref na,xv,.int t]∧d < n∧Same B H∧NmAt K B na S∧ShX S∧(∀ m ∈ menuS S,m.2≤10)∧Rep K B (.lst xs) xv∧(∀ x ∈ xs,Nd (menuS S) c d x)∧d≤41∧lvL xs+callsL xs≤900∧(∀ z ∈ stL S d t xs,Nd (menuS S) c D z)∧D≤100∧(stL S d t xs).length≤400000 ∧
  d+12≤D∧∀ p H' vs,Same H H'→H p=none→H' p=some (.lst vs)→AF K B H H' p D (stL S d t xs) vs→Q (.ref p) H'
def sp_as (K:PySem.W.Frag) (n:Nat) : Sp:=fun vs H Q _=>∃ (B:Hp) (na la:Addr) (t:Int) (S:List Sh) (as:List (List DD)) (c d D:Nat),vs=[.ref na,.ref la,.int t]∧d < n∧Same B H∧NmAt K B na S∧ShX S∧(∀ m ∈ menuS S,m.2≤10)∧Rep K B (.lst (as.map DD.lst)) (.ref la)∧(∀ a ∈ as,∀ x ∈ a,Nd (menuS S) c d x)∧d≤41∧lvL (as.map DD.lst)+callsL (as.map DD.lst)≤900∧as.length≤10∧(∀ b ∈ stA' (stD S d) t as,b.length≤300200∧∀ z ∈ b,Nd (menuS S) c D z)∧D≤100 ∧
  d+12≤D∧∀ p H' vs,Same H H'→H p=none→H' p=some (.lst vs)→AG K B H H' p D (stA' (stD S d) t as) vs→Q (.ref p) H'
theorem ok_arguments_stepped_n (T:Txt P w K mg a) (n:Nat) (g_stepped:FnOk P w K mg base CX0 (2 * n+62) a.f_stepped a.fd_stepped ["named","nodes","at"] (sp_st K n)) : FnOk P w K mg base CX0 (2 * n+63) a.f_arguments_stepped a.fd_arguments_stepped ["named","arguments","at"] (sp_as K n):=by
  have d_stepped:=T.d_stepped
  have g_calls_in:=ok_calls_in (P:=P) (w:=w) (base:=base) T
  have d_calls_in:=T.d_calls_in

  refine T.d_arguments_stepped.fn.ok sc_arguments_stepped (fun vs H Q E h=>?_) (fun cdv A outer s H vs Q E hr h=>?_)
  ·obtain ⟨B,na,la,t,S,as,c,d,D,rfl,_⟩:=h
   rfl
  obtain ⟨B,na,la,t,S,as,c,d,D,rfl,hd,sB,hN,sx0,m10,rA,ndA,d21,lvA,a10,hz,hD,hdD,q⟩:=h
  have hu:=Nat.lt_of_succ_lt (hu_of hr)
  refine ⟨_,(pss_cons (ps_set (i:=3) sc_arguments_stepped.nd rfl (Or.inl rfl) (pe_lst pa_nil))
   (pss_cons (ps_for PassesOwn.never rfl (pi_list (pv 1)) (pg_name (i:=4) sc_arguments_stepped.nd rfl (Or.inl rfl)) (pss_cons (ps_expr (pe_bm PySem.F.plainAttrs_list PySem.F.slot_list_append PySem.F.type_list_append mt_append (pv 3) (pa_cons (pe_callD d_stepped g_stepped (hr.mono (by omega)) rfl (pa_cons (pv 0) (pa_cons (pv 4) (pa_cons (pv 2) pa_nil)))) pa_nil)))
   (pss_one (ps_set (i:=2) sc_arguments_stepped.nd rfl (Or.inl rfl) (pe_op op_sub (pv 2) (pe_callD d_calls_in g_calls_in (hr.mono (by omega)) rfl (pa_cons (pv 4) pa_nil)))))))
   (pss_one (ps_ret (pv 3))))),?_⟩
  obtain ⟨la',ys,ela,slB,_,rl⟩:=rA.lstO
  cases ela
  have yl:=rl.len
  rw [List.length_map] at yl
  have sl:=sB.seq slB
  refine ⟨small (by simp),fun pt hpt=>?_⟩
  have g1:=same_new hpt (.lst [])
  have k1:upd H pt (.lst []) pt=some (.lst []):=upd_same
  generalize upd H pt (.lst [])=H1 at g1 k1 ⊢
  refine ⟨_,rfl,la,rfl,⟨_,g1.seq sl⟩,for_list (K:=K) (a:=la) (xs:=ys) (fun k σ G=>∃ (v4:Option V) (vs:List V),σ=[some (.ref na),some (.ref la),some (.int (t - (callsL ((as.take k).map DD.lst) : Int))),some (.ref pt),v4]∧Same H G∧G pt=some (.lst vs)∧AM K B H G pt D (stA' (stD S d) t (as.take k)) vs) ⟨none,[],by rw [List.take_zero,List.map_nil,calls_nil]; exact congrArg (fun z=>[some (V.ref na),some (V.ref la),some (V.int z),some (V.ref pt),none]) (by omega),g1,k1,AM.nil⟩ (fun k σ G _ z=>by obtain ⟨_,_,_,s1,_⟩:=z; exact s1.seq sl) ?_ ?_⟩
  ·rintro k y σ G hy ⟨v4,vs,rfl,s1,kt,rT⟩
   obtain ⟨dj,ejm,rj⟩:=rl.getR hy
   rw [List.getElem?_map] at ejm
   obtain ⟨aj,eaj,rfl⟩:=Option.map_eq_some_iff.mp ejm
   clear ejm
   have ham:=List.mem_of_getElem? eaj
   have es:=stA_snoc (S:=S) (d:=d) (t:=t) eaj
   have vl:=rT.len
   rw [stA_len,List.length_take] at vl
   have sBG:=sB.trans s1
   have ke:∀ {zs:List V} {G':Hp},Same G G'→∀ b o,b≠pt→G b=some o→(upd G' pt (.lst zs)) b=some o:=fun u b o nb hb=>by rw [upd_ne nb]; exact u _ _ hb
   have stp:∀ {G2:Hp},(∀ b o,b≠pt→G b=some o→G2 b=some o)→Same (mxE B H G [pt]) (mxE B H G2 [pt]):=fun h=>mxE_step sB fun b o nb hb=>h b o (by simpa using nb) hb
   have hzj:=hz (stL S d (t - (callsL ((as.take k).map DD.lst) : Int)) aj) (stA_take as t (k+1) _ (by rw [es]; exact List.mem_append.mpr (.inr List.mem_cons_self)))
   have lvj:lvL aj+callsL aj≤900:=by
    have q2:=lv_mem (List.mem_map.mpr ⟨aj,ham,rfl⟩ : DD.lst aj ∈ as.map DD.lst)
    rw [lv_lst,calls_lst] at q2
    omega
   refine ⟨_,rfl,.inl ⟨rfl,_,SqL.of kt⟩,_,rfl,_,rfl,_,rfl,B,na,y,_,S,aj,c,d,D,rfl,hd,sBG,hN,sx0,m10,rj,ndA aj ham,d21,lvj,hzj.2,hD,by have:=hzj.1; omega,hdD,fun p G5 vs5 s5 fp kp r5=>?_⟩
   refine ⟨_,_,_,rfl,rfl,s5 _ _ kt,small1000 (by omega),?_⟩
   have np:p≠pt:=Ne.symm (ne_of_none kt fp)
   have s6:Same H (upd G5 pt (.lst (vs++[V.ref p]))):=(s1.trans s5).put hpt
   have k6:upd G5 pt (.lst (vs++[V.ref p])) pt=some (.lst (vs++[V.ref p])):=upd_same
   have r6:AM K B H (upd G5 pt (.lst (vs++[V.ref p]))) pt D (stA' (stD S d) t (as.take (k+1))) (vs++[V.ref p]):=by
    rw [es]
    exact rT.snoc sB s1 hpt kt s5 r5 kp (by have:=hzj.1; omega)
   generalize upd G5 pt (.lst (vs++[V.ref p]))=G6 at s6 k6 r6 ⊢
   refine ⟨_,rfl,_,rfl,y,aj,menuS S,c,d,rfl,by omega,rj.mono (sB.trans s6),ndA aj ham,m10,fun G7 s7=>⟨_,_,rfl,rfl,?_⟩⟩
   refine ⟨some y,vs++[V.ref p],?_,s6.trans s7,s7 _ _ k6,r6.keep sB s7⟩
   rw [callsA_snoc eaj]
   exact congrArg (fun z=>[some (V.ref na),some (V.ref la),some (V.int z),some (V.ref pt),some y]) (by omega)
  ·rintro σ G ⟨v4,vs,rfl,s1,kt,rT⟩
   rw [yl,List.take_of_length_le (Nat.le_refl _)] at rT
   have vlf:=rT.len
   rw [stA_len] at vlf
   exact ⟨_,rfl,q pt G vs s1 hpt kt (rT.fin sB hpt kt (by omega))⟩

theorem sc_copied:FnScope ["nodes","told","node"] ["nodes"] (defScope s_copied):=⟨rfl,rfl,rfl,by decide +kernel,rfl,by decide +kernel,by decide +kernel⟩
def sp_cpd (K:PySem.W.Frag) (n:Nat) : Sp:=fun vs H Q _=>∃ (B:Hp) (xv:V) (xs:List DD) (M:List (Wd0 × Nat)) (c d:Nat),vs=[xv]∧d < n∧d≤40∧Same B H∧Rep K B (.lst xs) xv∧(∀ x ∈ xs,Nd M c d x)∧(∀ m ∈ M,m.2≤10)∧lvL xs+callsL xs≤900 ∧
  ∀ p H' vs l,Same H H'→H p=none→H' p=some (.lst vs)→Cat (ApN K (mxE B H H' []) d) xs vs l→NewL H H' (p :: l)→Q (.ref p) H'
theorem ok_copied_n (T:Txt P w K mg a) : ∀ n:Nat,FnOk P w K mg base CX0 (n+4) a.f_copied a.fd_copied ["nodes"] (sp_cpd K n)
 | 0=>⟨fun vs H Q E h=>(by obtain ⟨B,xv,xs,M,c,d,_,h1,_⟩:=h; omega),fun A outer s H args us vs Q E _ _ _ _ h=>(by obtain ⟨B,xv,xs,M,c,d,_,h1,_⟩:=h; omega)⟩
 | n+1=>by
  have g_copied:=ok_copied_n T n
  have d_copied:=T.d_copied

  refine T.d_copied.fn.ok sc_copied (fun vs H Q E h=>?_) (fun cdv A outer s H vs Q E hr h=>?_)
  ·obtain ⟨B,xv,xs,M,c,d,rfl,_⟩:=h
   rfl
  obtain ⟨B,xv,xs,M,c,d,rfl,hd,hd20,sB,rx,ndx,m10,hlv,q⟩:=h
  have xl900:xs.length≤900:=Nat.le_trans (len_lv fun x hx=>(ndx x hx).ns) hlv
  have hu:=Nat.lt_of_succ_lt (hu_of hr)
  refine ⟨_,(pss_cons (ps_set (i:=1) sc_copied.nd rfl (Or.inl rfl) (pe_lst pa_nil))
   (pss_cons (ps_for PassesOwn.never rfl (pi_list (pv 0)) (pg_name (i:=2) sc_copied.nd rfl (Or.inl rfl)) (pss_one (ps_if (pt_cmpR op_eq (pe_ix ix_tup (pv 2) pe_int (fun _ _=>rfl)) pe_str (nomark _)) (pss_one (ps_expr (pe_bm PySem.F.plainAttrs_list PySem.F.slot_list_append PySem.F.type_list_append mt_append (pv 1) (pa_cons (pe_tup (pa_cons pe_str (pa_cons (pe_ix ix_tup (pv 2) pe_int (fun _ _=>rfl)) (pa_cons (pe_lc rfl (lcok (caps:=[]) (js:=[]) (cap:=trivial)) (pi_list (pe_ix ix_tup (pv 2) pe_int (fun _ _=>rfl))) (fun _ _ _ _=>pts_nil) (fun _ _ _ _=>(pe_callD d_copied g_copied hr rfl (pa_cons (pv 0) pa_nil)))) pa_nil)))) pa_nil)))) (pss_one (ps_expr (pe_bm PySem.F.plainAttrs_list PySem.F.slot_list_append PySem.F.type_list_append mt_append (pv 1) (pa_cons (pv 2) pa_nil)))))))
   (pss_one (ps_ret (pv 1))))),?_⟩
  obtain ⟨xa,vs0,rfl,sxB,_,rxs⟩:=rx.lstO
  have xl:=rxs.len
  have sx:=sB.seq sxB
  refine ⟨small (by simp),fun pt hpt=>?_⟩
  have g1:=same_new hpt (.lst [])
  have k1:upd H pt (.lst []) pt=some (.lst []):=upd_same
  generalize upd H pt (.lst [])=H1 at g1 k1 ⊢
  have bpt:∀ b ∈ [pt],B b=none:=fun b hb=>by
   rw [List.mem_singleton.mp hb]
   exact sB.free hpt
  refine ⟨_,rfl,xa,rfl,⟨_,g1.seq sx⟩,for_list (K:=K) (a:=xa) (xs:=vs0) (fun k σ G=>∃ (v2:Option V) (vs:List V) (l:List Addr),σ=[some (.ref xa),some (.ref pt),v2]∧Same H G∧G pt=some (.lst vs)∧Cat (ApN K (mxE B H G [pt]) d) (xs.take k) vs l∧NewL H (erL G [pt]) l) ⟨none,[],[],rfl,g1,k1,Cat.nil,NewL.nil⟩ (fun k σ G _ z=>by obtain ⟨_,_,_,_,s1,_⟩:=z; exact s1.seq sx) ?_ ?_⟩
  ·rintro k y σ G hy ⟨v2,vs,l,rfl,s1,kt,ct,nw⟩
   obtain ⟨x0,e0,r0⟩:=rxs.getR hy
   have hk9:k < 900:=by have:=(List.getElem?_eq_some_iff.mp hy).1; omega
   have nd0:=ndx x0 (List.mem_of_getElem? e0)
   have vl:=ct.len
   rw [List.length_take] at vl
   have sBG:=sB.trans s1
   obtain ⟨e,rfl⟩:=nd0.pos
   have esn:xs.take (k+1)=xs.take k++[x0]:=by rw [List.take_add_one,e0]; rfl
   have stp:∀ {G2:Hp},(∀ b o,b≠pt→G b=some o→G2 b=some o)→Same (mxE B H G [pt]) (mxE B H G2 [pt]):=fun h=>mxE_step sB fun b o nb hb=>h b o (by simpa using nb) hb
   have stn:∀ {G2:Hp},(∀ b o,b≠pt→G b=some o→G2 b=some o)→Same (erL G [pt]) (erL G2 [pt]):=fun h=>erL_step (fun b o nb hb=>h b o (by simpa using nb) hb) fun b hb=>.inl hb
   rcases nd0.out with ⟨w',rfl⟩ | ⟨pk,hp1,hp2,rfl⟩ | ⟨nm',as,rfl,hM,has⟩
   ·obtain ⟨ta,zs,rfl,st,_,rz⟩:=id r0.tupO
    obtain ⟨z0,z1,rfl,y0,y1⟩:=Reps.two rz
    rw [y0.strO,y1.strO] at st
    refine ⟨_,rfl,_,_,_,_,rfl,rfl,sBG.tup st,rfl,rfl,_,rfl,?_⟩
    rw [decide_eq_false strNe4]
    refine iteF ?_
    refine ⟨_,rfl,.inl ⟨rfl,_,SqL.of kt⟩,_,rfl,_,_,_,rfl,rfl,kt,small1000 (by omega),?_⟩
    have ke:∀ b o,b≠pt→G b=some o→(upd G pt (.lst (vs++[V.ref ta]))) b=some o:=fun b o nb hb=>by rw [upd_ne nb]; exact hb
    refine ⟨_,vs++[V.ref ta],l,rfl,s1.put hpt,upd_same,?_,nw.up (stn ke)⟩
    rw [esn]
    have:=(ct.mono (stp ke)).snoc (x:=wdD w') (v:=V.ref ta) (l1:=[]) (.inl ⟨r0.mono (mxE_base sB bpt),rfl,.inl ⟨_,rfl⟩⟩)
    rwa [List.append_nil] at this
   ·obtain ⟨ta,zs,rfl,st,_,rz⟩:=id r0.tupO
    obtain ⟨z0,z1,rfl,y0,y1⟩:=Reps.two rz
    rw [y0.strO,y1.intO] at st
    refine ⟨_,rfl,_,_,_,_,rfl,rfl,sBG.tup st,rfl,rfl,_,rfl,?_⟩
    rw [decide_eq_false strNe5]
    refine iteF ?_
    refine ⟨_,rfl,.inl ⟨rfl,_,SqL.of kt⟩,_,rfl,_,_,_,rfl,rfl,kt,small1000 (by omega),?_⟩
    have ke:∀ b o,b≠pt→G b=some o→(upd G pt (.lst (vs++[V.ref ta]))) b=some o:=fun b o nb hb=>by rw [upd_ne nb]; exact hb
    refine ⟨_,vs++[V.ref ta],l,rfl,s1.put hpt,upd_same,?_,nw.up (stn ke)⟩
    rw [esn]
    have:=(ct.mono (stp ke)).snoc (x:=plD pk) (v:=V.ref ta) (l1:=[]) (.inl ⟨r0.mono (mxE_base sB bpt),rfl,.inr ⟨_,rfl⟩⟩)
    rwa [List.append_nil] at this
   ·obtain ⟨ta,zs,rfl,stB,_,rz⟩:=r0.tupO
    obtain ⟨z0,z1,z2,rfl,y0,y1,y2⟩:=Reps.three rz
    rw [y0.strO,y1.strO] at stB
    obtain ⟨la,ys,rfl,slB,_,rl⟩:=y2.lstO
    have yl:=rl.len
    rw [List.length_map] at yl
    have a10:as.length≤10:=m10 _ hM
    have st:=sBG.tup stB
    have sl:=sBG.seq slB
    refine ⟨_,rfl,_,_,_,_,rfl,rfl,st,rfl,rfl,_,rfl,?_⟩
    rw [decide_eq_true rfl]
    refine iteT ?_
    refine ⟨_,rfl,.inl ⟨rfl,_,SqL.of kt⟩,_,rfl,_,_,_,_,rfl,rfl,st,rfl,_,rfl,_,_,_,_,rfl,rfl,st,rfl,la,rfl,⟨_,sl⟩,lc_list (K:=K) (a:=la) (xs:=ys) (fun j zs G'=>Same G G'∧∃ l2,Cat (ApG (mxE B G G' []) (ApN K (mxE B G G' []) e)) (as.take j) zs l2∧NewL G G' l2) ⟨Same.refl _,[],Cat.nil,NewL.nil⟩ (fun j zs G' _ z=>z.1.seq sl) ?_ ?_ ?_⟩
    ·rintro j zs G' hj ⟨_,l2,c2,_⟩
     rw [c2.len,List.length_take]
     exact small1000 (by omega)
    ·rintro j y zs G' hy ⟨s2,l2,c2,n2⟩
     obtain ⟨dj,ejm,rj⟩:=rl.getR hy
     rw [List.getElem?_map] at ejm
     obtain ⟨aj,eaj,rfl⟩:=Option.map_eq_some_iff.mp ejm
     clear ejm
     have haj:=has aj (List.mem_of_getElem? eaj)
     have lvj:lvL aj+callsL aj≤900:=by
      have q1:=lv_mem (List.mem_of_getElem? e0)
      rw [lv_cl,calls_cl] at q1
      have q2:=lv_mem (List.mem_map.mpr ⟨aj,List.mem_of_getElem? eaj,rfl⟩ : DD.lst aj ∈ as.map DD.lst)
      rw [lv_lst,calls_lst] at q2
      omega
     have lnj:aj.length≤900:=Nat.le_trans (len_lv fun x hx=>(haj.2 x hx).ns) lvj
     refine yes_go ?_
     refine ⟨_,rfl,B,y,aj,M,c,e,rfl,by omega,by omega,sBG.trans s2,rj,haj.2,m10,lvj,fun p G5 vs5 l5 s5 fp kp c5 n5=>⟨s2.trans s5,l2++(p :: l5),?_,n2.app s2 s5 n5⟩⟩
     rw [List.take_add_one,eaj]
     have u1:Same (mxE B G G' []) (mxE B G G5 []):=mxE_step sBG fun b o _ hb=>s5 _ _ hb
     have u2:Same (mxE B G' G5 []) (mxE B G G5 []):=fun b o hb=>by
      obtain ⟨_,h2 | h2⟩:=mxE_of hb
      ·exact mxE_new (s2.free h2.1) (by simp) h2.2
      ·exact mxE_old sBG (by simp) h2
     refine (c2.imp fun a _ y l z=>z.mono u1 fun x _ v l z=>z.mono u1).snoc ⟨p,vs5,l5,rfl,mxE_new (s2.free fp) (by simp) kp,rfl,by omega,c5.mono u2⟩
    rintro zs G' ⟨s2,l2,c2,n2⟩ pb hpb
    rw [yl,List.take_of_length_le (Nat.le_refl _)] at c2
    have zl:=c2.len
    have g3:=same_new hpb (.lst zs)
    have k3:upd G' pb (.lst zs) pb=some (.lst zs):=upd_same
    have n3:=n2.one s2 g3 hpb k3 (by omega)
    have fb:=s2.free hpb
    generalize upd G' pb (.lst zs)=G3 at g3 k3 n3 ⊢
    refine ⟨le3,fun p hp=>?_⟩
    have g4:=same_new hp (.tup [V.str (PySem.Str.ofString "call"),V.str (tx nm'),V.ref pb])
    have k4:upd G3 p (.tup [V.str (PySem.Str.ofString "call"),V.str (tx nm'),V.ref pb]) p=some (.tup [V.str (PySem.Str.ofString "call"),V.str (tx nm'),V.ref pb]):=upd_same
    have fp:=(s2.trans g3).free hp
    have n4:=n3.up g4
    have k34:=g4 _ _ k3
    generalize upd G3 p (.tup [V.str (PySem.Str.ofString "call"),V.str (tx nm'),V.ref pb])=G4 at g4 k4 n4 k34 ⊢
    have s34:=g3.trans g4
    have s24:=s2.trans s34
    refine ⟨_,_,_,rfl,rfl,s24 _ _ kt,small1000 (by omega),?_⟩
    have npb:pb≠pt:=Ne.symm (ne_of_none kt fb)
    have np:p≠pt:=Ne.symm (ne_of_none kt fp)
    have ke:∀ b o,b≠pt→G4 b=some o→(upd G4 pt (.lst (vs++[V.ref p]))) b=some o:=fun b o nb hb=>by rw [upd_ne nb]; exact hb
    have ke0:∀ b o,b≠pt→G b=some o→(upd G4 pt (.lst (vs++[V.ref p]))) b=some o:=fun b o nb hb=>ke b o nb (s24 _ _ hb)
    have kin:Same (mxE B G G' []) (mxE B H (upd G4 pt (.lst (vs++[V.ref p]))) [pt]):=mxE_in sB s1 hpt kt fun b o nb hb=>ke b o nb (s34 _ _ hb)
    refine ⟨_,vs++[V.ref p],l++(pb :: l2),rfl,(s1.trans s24).put hpt,upd_same,?_,?_⟩
    ·rw [esn]
     refine (ct.mono (stp ke0)).snoc (.inr ⟨nm',as,p,pb,zs,l2,rfl,rfl,mxE_new (s1.free fp) (by simpa using np) (ke _ _ np k4),mxE_new (s1.free fb) (by simpa using npb) (ke _ _ npb k34),rfl,a10,c2.imp fun a _ y l z=>z.mono kin fun x _ v l z=>z.mono kin⟩)
    ·refine nw.app (fun b o hb=>erL_get (by simpa using ne_of_none hb hpt) (s1 b o hb)) (stn ke0) ⟨n4.nd,fun b hb=>?_,fun b hb=>?_⟩
     ·unfold erL
      split
      ·rfl
      ·exact n4.new b hb
     ·obtain ⟨o,h1,h2⟩:=n4.at' b hb
      have nb:b≠pt:=Ne.symm (ne_of_none kt (n4.new b hb))
      exact ⟨o,erL_get (by simpa using nb) (ke b _ nb h1),h2⟩
  ·rintro σ G ⟨v2,vs,l,rfl,s1,kt,ct,nw⟩
   rw [xl,List.take_of_length_le (Nat.le_refl _)] at ct
   have vl:=ct.len
   have nfin:NewL H G (pt :: l):=by
    refine ⟨List.nodup_cons.mpr ⟨fun z=>?_,nw.nd⟩,fun b hb=>?_,fun b hb=>?_⟩
    ·obtain ⟨o,h1,_⟩:=nw.at' pt z
     exact (erL_of h1).1 (by simp)
    ·rcases List.mem_cons.mp hb with rfl | hb
     ·exact hpt
     ·exact nw.new b hb
    ·rcases List.mem_cons.mp hb with rfl | hb
     ·exact ⟨_,kt,by omega⟩
     ·obtain ⟨o,h1,h2⟩:=nw.at' b hb
      exact ⟨o,(erL_of h1).2,h2⟩
   exact ⟨_,rfl,q pt G vs l s1 hpt kt (ct.mono (mxE_nil sB)) nfin⟩
theorem ok_copied (T:Txt P w K mg a) : FnOk P w K mg base CX0 46 a.f_copied a.fd_copied ["nodes"] (sp_cpd K (46 - 4)):=ok_copied_n T (46 - 4)

theorem sc_filled:FnScope ["nodes","arguments","told","node"] ["nodes","arguments"] (defScope s_filled):=⟨rfl,rfl,rfl,by decide +kernel,rfl,by decide +kernel,by decide +kernel⟩
def sp_fil (K:PySem.W.Frag) (n:Nat) : Sp:=fun vs H Q _=>∃ (B:Hp) (xv:V) (ga:Addr) (xs:List DD) (A:List (List DD)) (M M2:List (Wd0 × Nat)) (c c2 d e D:Nat),vs=[xv,.ref ga]∧d < n∧Same B H∧Rep K B (.lst xs) xv∧(∀ x ∈ xs,Nd M c d x)∧A.length=c∧Rep K B (.lst (A.map DD.lst)) (.ref ga)∧(∀ a ∈ A,lvL a+callsL a≤900∧∀ x ∈ a,Nd M2 c2 e x)∧e≤40∧(∀ m ∈ M2,m.2≤10)∧(∀ m ∈ M,m.2≤10)∧(∀ z ∈ fiL A d xs,Nd M2 c2 D z)∧D≤100∧(fiL A d xs).length≤400000 ∧
  e+d≤D∧∀ p H' vs,Same H H'→H p=none→H' p=some (.lst vs)→AF K B H H' p D (fiL A d xs) vs→Q (.ref p) H'
theorem ok_filled_n (T:Txt P w K mg a) : ∀ n:Nat,FnOk P w K mg base CX0 (n+46) a.f_filled a.fd_filled ["nodes","arguments"] (sp_fil K n)
 | 0=>⟨fun vs H Q E h=>(by obtain ⟨B,xv,ga,xs,A,M,M2,c,c2,d,e,D,_,h1,_⟩:=h; omega),fun A outer s H args us vs Q E _ _ _ _ h=>(by obtain ⟨B,xv,ga,xs,A,M,M2,c,c2,d,e,D,_,h1,_⟩:=h; omega)⟩
 | n+1=>by
  have g_filled:=ok_filled_n T n
  have d_filled:=T.d_filled
  have g_copied:=ok_copied (P:=P) (w:=w) (base:=base) T
  have d_copied:=T.d_copied

  refine T.d_filled.fn.ok sc_filled (fun vs H Q E h=>?_) (fun cdv A outer s H vs Q E hr h=>?_)
  ·obtain ⟨B,xv,ga,xs,A,M,M2,c,c2,d,e,D,rfl,_⟩:=h
   rfl
  obtain ⟨B,xv,ga,xs,A,M,M2,c,c2,d,e,D,rfl,hd,sB,rx,ndx,hAl,rA,hA,he20,m10,m10b,hz,hD,hlen,heD,q⟩:=h
  have hu:=Nat.lt_of_succ_lt (hu_of hr)
  refine ⟨_,(pss_cons (ps_set (i:=2) sc_filled.nd rfl (Or.inl rfl) (pe_lst pa_nil))
   (pss_cons (ps_for PassesOwn.never rfl (pi_list (pv 0)) (pg_name (i:=3) sc_filled.nd rfl (Or.inl rfl)) (pss_one (ps_if (pt_cmpR op_eq (pe_ix ix_tup (pv 3) pe_int (fun _ _=>rfl)) pe_str (nomark _)) (pss_one (ps_expr (pe_bm PySem.F.plainAttrs_list PySem.F.slot_list_extend PySem.F.type_list_extend mt_extend (pv 2) (pa_cons (pe_callD d_copied g_copied (hr.mono (by omega)) rfl (pa_cons (pe_ix ix_list (pv 1) (pe_op op_sub (pe_ix ix_tup (pv 3) pe_int (fun _ _=>rfl)) pe_int) (fun _ _=>rfl)) pa_nil)) pa_nil)))) (pss_one (ps_if (pt_cmpR op_eq (pe_ix ix_tup (pv 3) pe_int (fun _ _=>rfl)) pe_str (nomark _)) (pss_one (ps_expr (pe_bm PySem.F.plainAttrs_list PySem.F.slot_list_append PySem.F.type_list_append mt_append (pv 2) (pa_cons (pe_tup (pa_cons pe_str (pa_cons (pe_ix ix_tup (pv 3) pe_int (fun _ _=>rfl)) (pa_cons (pe_lc rfl (lcok (caps:=["arguments"]) (js:=[1]) (cap:=⟨⟨rfl,.inl rfl,rfl,.inl rfl⟩,trivial⟩)) (pi_list (pe_ix ix_tup (pv 3) pe_int (fun _ _=>rfl))) (fun _ _ _ _=>pts_nil) (fun _ _ _ _=>(pe_callD d_filled g_filled hr rfl (pa_cons (pv 0) (pa_cons (pv 1) pa_nil))))) pa_nil)))) pa_nil)))) (pss_one (ps_expr (pe_bm PySem.F.plainAttrs_list PySem.F.slot_list_append PySem.F.type_list_append mt_append (pv 2) (pa_cons (pv 3) pa_nil)))))))))
   (pss_one (ps_ret (pv 2))))),?_⟩
  obtain ⟨xa,vs0,rfl,sxB,_,rxs⟩:=rx.lstO
  obtain ⟨ga',gs,ega,sgB,_,rg⟩:=rA.lstO
  cases ega
  have xl:=rxs.len
  have sx:=sB.seq sxB
  have sg:=sB.seq sgB
  refine ⟨small (by simp),fun pt hpt=>?_⟩
  have g1:=same_new hpt (.lst [])
  have k1:upd H pt (.lst []) pt=some (.lst []):=upd_same
  generalize upd H pt (.lst [])=H1 at g1 k1 ⊢
  have bpt:∀ b ∈ [pt],B b=none:=fun b hb=>by
   rw [List.mem_singleton.mp hb]
   exact sB.free hpt
  refine ⟨_,rfl,xa,rfl,⟨_,g1.seq sx⟩,for_list (K:=K) (a:=xa) (xs:=vs0) (fun k σ G=>∃ (v3:Option V) (vs:List V),σ=[some (.ref xa),some (.ref ga),some (.ref pt),v3]∧Same H G∧G pt=some (.lst vs)∧AL K B H G pt D (fiL A d (xs.take k)) vs) ⟨none,[],rfl,g1,k1,AL.nil⟩ (fun k σ G _ z=>by obtain ⟨_,_,_,s1,_⟩:=z; exact s1.seq sx) ?_ ?_⟩
  ·rintro k y σ G hy ⟨v3,vs,rfl,s1,kt,rT⟩
   obtain ⟨x0,e0,r0⟩:=rxs.getR hy
   have hm0:=List.mem_of_getElem? e0
   have nd0:=ndx x0 hm0
   have es:=fiL_snoc (A:=A) (d:=d) e0
   have vl:=rT.len
   have lk0:=fiL_take (A:=A) (d:=d) xs k
   have lk1:=fiL_take (A:=A) (d:=d) xs (k+1)
   rw [es,List.length_append] at lk1
   have sBG:=sB.trans s1
   have hz0:=fun z (h:z ∈ fiD A d x0)=>hz z (fiL_of hm0 h)
   obtain ⟨e',rfl⟩:=nd0.pos
   have ke:∀ {zs:List V} {G':Hp},Same G G'→∀ b o,b≠pt→G b=some o→(upd G' pt (.lst zs)) b=some o:=fun u b o nb hb=>by rw [upd_ne nb]; exact u _ _ hb
   have stp:∀ {G2:Hp},(∀ b o,b≠pt→G b=some o→G2 b=some o)→Same (mxE B H G [pt]) (mxE B H G2 [pt]):=fun h=>mxE_step sB fun b o nb hb=>h b o (by simpa using nb) hb
   rcases nd0.out with ⟨w',rfl⟩ | ⟨pk,hp1,hp2,rfl⟩ | ⟨nm',as,rfl,hM,has⟩
   ·obtain ⟨ta,zs,rfl,st,_,rz⟩:=id r0.tupO
    obtain ⟨z0,z1,rfl,y0,y1⟩:=Reps.two rz
    rw [y0.strO,y1.strO] at st
    refine ⟨_,rfl,_,_,_,_,rfl,rfl,sBG.tup st,rfl,rfl,_,rfl,?_⟩
    rw [decide_eq_false strNe6]
    refine iteF ?_
    refine ⟨_,rfl,_,_,_,_,rfl,rfl,sBG.tup st,rfl,rfl,_,rfl,?_⟩
    rw [decide_eq_false strNe4]
    refine iteF ?_
    refine ⟨_,rfl,.inl ⟨rfl,_,SqL.of kt⟩,_,rfl,_,_,_,rfl,rfl,kt,small1000 (by omega),?_⟩
    refine ⟨_,vs++[V.ref ta],rfl,s1.put hpt,upd_same,?_⟩
    rw [es,fi_wd]
    exact rT.leaf sB hpt (by omega) r0 (.inl ⟨_,rfl⟩)
   ·obtain ⟨ta,zs,rfl,st,_,rz⟩:=id r0.tupO
    obtain ⟨z0,z1,rfl,y0,y1⟩:=Reps.two rz
    rw [y0.strO,y1.intO] at st
    have st1:=sBG.tup st
    refine ⟨_,rfl,_,_,_,_,rfl,rfl,st1,rfl,rfl,_,rfl,?_⟩
    rw [decide_eq_true rfl]
    refine iteT ?_
    have hpa:pk - 1 < A.length:=by omega
    have epa:A[pk - 1]? = some A[pk - 1]:=List.getElem?_eq_getElem hpa
    obtain ⟨gv,egv,rgv⟩:=rg.get (i:=pk - 1) (d:=.lst A[pk - 1]) (by rw [List.getElem?_map,epa]; rfl)
    have hAp:=hA _ (List.mem_of_getElem? epa)
    have eg:A.getD (pk - 1) []=A[pk - 1]:=by rw [List.getD_eq_getElem?_getD,epa]; rfl
    rw [fi_pl,eg] at es lk1
    refine ⟨_,rfl,.inl ⟨rfl,_,SqL.of kt⟩,_,rfl,_,rfl,_,_,_,_,rfl,rfl,st1,rfl,_,_,rfl,rfl,_,_,_,_,rfl,rfl,s1.seq sg,by rw [show (pk:Int) - 1=((pk - 1:Nat) : Int) by omega]; exact atI_nat egv,B,gv,A[pk - 1],M2,c2,e,rfl,by omega,he20,sBG,rgv,hAp.2,m10,hAp.1,fun p G5 vs5 l5 s5 fp kp c5 n5=>?_⟩
    have c5l:=c5.len
    refine ⟨_,_,_,_,rfl,rfl,s5 _ _ kt,kp,small (by omega),?_⟩
    refine ⟨_,vs++vs5,rfl,(s1.trans s5).put hpt,upd_same,?_⟩
    rw [es]
    exact rT.ext sB s1 hpt kt s5 (by omega) ⟨l5,c5,n5⟩
   ·obtain ⟨ta,zs,rfl,st,_,rz⟩:=id r0.tupO
    obtain ⟨z0,z1,z2,rfl,y0,y1,y2⟩:=Reps.three rz
    rw [y0.strO,y1.strO] at st
    obtain ⟨la,ys,rfl,sl,_,rl⟩:=y2.lstO
    have yl:=rl.len
    rw [List.length_map] at yl
    have a10:as.length≤10:=m10b _ hM
    have st1:=sBG.tup st
    have sl1:=sBG.seq sl
    refine ⟨_,rfl,_,_,_,_,rfl,rfl,st1,rfl,rfl,_,rfl,?_⟩
    rw [decide_eq_false strNe3]
    refine iteF ?_
    refine ⟨_,rfl,_,_,_,_,rfl,rfl,st1,rfl,rfl,_,rfl,?_⟩
    rw [decide_eq_true rfl]
    refine iteT ?_
    rw [fi_cl] at es lk1
    have hcl:=cl_nd (hz0 (clD nm' (as.map (fiL A e'))) (by rw [fi_cl]; exact List.mem_cons_self))
    refine ⟨_,rfl,.inl ⟨rfl,_,SqL.of kt⟩,_,rfl,_,_,_,_,rfl,rfl,st1,rfl,_,rfl,_,_,_,_,rfl,rfl,st1,rfl,la,rfl,⟨_,sl1⟩,lc_list (K:=K) (a:=la) (xs:=ys) (fun j zs G'=>Same G G'∧AC K B G G' (D - 1) ((as.take j).map (fiL A e')) zs) ⟨Same.refl _,AC.nil⟩ (fun j zs G' _ z=>z.1.seq sl1) ?_ ?_ ?_⟩
    ·rintro j zs G' hj ⟨_,r2⟩
     rw [r2.len,List.length_map,List.length_take]
     exact small1000 (by omega)
    ·rintro j y zs G' hy ⟨s2,r2⟩
     obtain ⟨dj,ejm,rj⟩:=rl.getR hy
     rw [List.getElem?_map] at ejm
     obtain ⟨aj,eaj,rfl⟩:=Option.map_eq_some_iff.mp ejm
     clear ejm
     have ham:=List.mem_of_getElem? eaj
     have hclj:=hcl (fiL A e' aj) (List.mem_map.mpr ⟨aj,ham,rfl⟩)
     refine yes_go ?_
     refine ⟨_,rfl,_,rfl,B,y,ga,aj,A,M,M2,c,c2,e',e,D - 1,rfl,by omega,sBG.trans s2,rj,(has aj ham).2,hAl,rA,hA,he20,m10,m10b,hclj.2,by omega,by have:=hclj.1; omega,by omega,fun p G5 vs5 s5 fp kp r5=>⟨s2.trans s5,?_⟩⟩
     rw [List.take_add_one,eaj,List.map_append]
     have u1:Same (mxE B G G' []) (mxE B G G5 []):=mxE_step sBG fun b o _ hb=>s5 _ _ hb
     have u2:Same (mxE B G' G5 []) (mxE B G G5 []):=fun b o hb=>by
      obtain ⟨_,h2 | h2⟩:=mxE_of hb
      ·exact mxE_new (s2.free h2.1) (by simp) h2.2
      ·exact mxE_old sBG (by simp) h2
     exact r2.snoc sBG s2 s5 r5 kp (by have:=hclj.1; omega)
    rintro zs G' ⟨s2,r2⟩ pb hpb
    rw [yl,List.take_of_length_le (Nat.le_refl _)] at r2
    have g3:=same_new hpb (.lst zs)
    have k3:upd G' pb (.lst zs) pb=some (.lst zs):=upd_same
    have fb:=s2.free hpb
    have zl:=r2.len
    rw [List.length_map] at zl
    have rg3:=r2.shut sBG s2 hpb (by omega)
    generalize upd G' pb (.lst zs)=G3 at g3 k3 rg3 ⊢
    refine ⟨le3,fun p hp=>?_⟩
    have g4:=same_new hp (.tup [V.str (PySem.Str.ofString "call"),V.str (tx nm'),V.ref pb])
    have k4:upd G3 p (.tup [V.str (PySem.Str.ofString "call"),V.str (tx nm'),V.ref pb]) p=some (.tup [V.str (PySem.Str.ofString "call"),V.str (tx nm'),V.ref pb]):=upd_same
    have fp:=(s2.trans g3).free hp
    have k34:=g4 _ _ k3
    generalize upd G3 p (.tup [V.str (PySem.Str.ofString "call"),V.str (tx nm'),V.ref pb])=G4 at g4 k4 k34 ⊢
    have s34:=g3.trans g4
    have s24:=s2.trans s34
    refine ⟨_,_,_,rfl,rfl,s24 _ _ kt,small1000 (by omega),?_⟩
    have npb:pb≠pt:=Ne.symm (ne_of_none kt fb)
    have np:p≠pt:=Ne.symm (ne_of_none kt fp)
    refine ⟨_,vs++[V.ref p],rfl,(s1.trans s24).put hpt,upd_same,?_⟩
    rw [es]
    obtain ⟨D,rfl⟩ : ∃ z,D=z+1:=⟨D - 1,by omega⟩
    exact rT.call sB s1 hpt kt s24 (rg3.up g4 sBG) k34 fp k4 (by rw [List.length_map]; exact a10)
  ·rintro σ G ⟨v3,vs,rfl,s1,kt,rT⟩
   rw [xl,List.take_of_length_le (Nat.le_refl _)] at rT
   have vlf:=rT.len
   exact ⟨_,rfl,q pt G vs s1 hpt kt (rT.fin sB hpt kt (by omega))⟩
theorem ok_filled (T:Txt P w K mg a) : FnOk P w K mg base CX0 60 a.f_filled a.fd_filled ["nodes","arguments"] (sp_fil K (60 - 46)):=ok_filled_n T (60 - 46)

theorem sc_stepped:FnScope ["named","nodes","at","told","node"] ["named","nodes","at"] (defScope s_stepped):=⟨rfl,rfl,rfl,by decide +kernel,rfl,by decide +kernel,by decide +kernel⟩
theorem ok_stepped_n (T:Txt P w K mg a) : ∀ n:Nat,FnOk P w K mg base CX0 (2 * n+62) a.f_stepped a.fd_stepped ["named","nodes","at"] (sp_st K n)
 | 0=>⟨fun vs H Q E h=>(by obtain ⟨B,na,xv,t,S,xs,c,d,D,_,h1,_⟩:=h; omega),fun A outer s H args us vs Q E _ _ _ _ h=>(by obtain ⟨B,na,xv,t,S,xs,c,d,D,_,h1,_⟩:=h; omega)⟩
 | n+1=>by
  have g_arguments_stepped:=ok_arguments_stepped_n T n (ok_stepped_n T n)
  have d_arguments_stepped:=T.d_arguments_stepped
  have g_filled:=ok_filled (P:=P) (w:=w) (base:=base) T
  have d_filled:=T.d_filled
  have g_calls_in:=ok_calls_in (P:=P) (w:=w) (base:=base) T
  have d_calls_in:=T.d_calls_in
  refine T.d_stepped.fn.ok sc_stepped (fun vs H Q E h=>?_) (fun cdv A outer s H vs Q E hr h=>?_)
  ·obtain ⟨B,na,xv,t,S,xs,c,d,D,rfl,_⟩:=h
   rfl
  obtain ⟨B,na,xv,t,S,xs,c,d,D,rfl,hd,sB,hN,sx0,m10,rx,ndx,d21,lvx,hz,hD,hlen,hdD,q⟩:=h
  have hu:=Nat.lt_of_succ_lt (hu_of hr)
  refine ⟨_,(pss_cons (ps_set (i:=3) sc_stepped.nd rfl (Or.inl rfl) (pe_lst pa_nil))
   (pss_cons (ps_for PassesOwn.never rfl (pi_list (pv 1)) (pg_name (i:=4) sc_stepped.nd rfl (Or.inl rfl)) (pss_cons (ps_if (pt_cmpR op_ne (pe_ix ix_tup (pv 4) pe_int (fun _ _=>rfl)) pe_str (nomark _)) (pss_one (ps_expr (pe_bm PySem.F.plainAttrs_list PySem.F.slot_list_append PySem.F.type_list_append mt_append (pv 3) (pa_cons (pv 4) pa_nil)))) (pss_one (ps_if (pt_cmpR op_eq (pv 2) pe_int (nomark _)) (pss_one (ps_expr (pe_bm PySem.F.plainAttrs_list PySem.F.slot_list_extend PySem.F.type_list_extend mt_extend (pv 3) (pa_cons (pe_callD d_filled g_filled (hr.mono (by omega)) rfl (pa_cons (pe_ix ix_tup (pe_dget (hu_of hr) (pv 0) (pe_ix ix_tup (pv 4) pe_int (fun _ _=>rfl)) (fun _ _=>rfl)) pe_int (fun _ _=>rfl)) (pa_cons (pe_ix ix_tup (pv 4) pe_int (fun _ _=>rfl)) pa_nil))) pa_nil)))) (pss_one (ps_expr (pe_bm PySem.F.plainAttrs_list PySem.F.slot_list_append PySem.F.type_list_append mt_append (pv 3) (pa_cons (pe_tup (pa_cons pe_str (pa_cons (pe_ix ix_tup (pv 4) pe_int (fun _ _=>rfl)) (pa_cons (pe_callD d_arguments_stepped g_arguments_stepped (hr.mono (by omega)) rfl (pa_cons (pv 0) (pa_cons (pe_ix ix_tup (pv 4) pe_int (fun _ _=>rfl)) (pa_cons (pe_op op_sub (pv 2) pe_int) pa_nil)))) pa_nil)))) pa_nil)))))))
   (pss_one (ps_set (i:=2) sc_stepped.nd rfl (Or.inl rfl) (pe_op op_sub (pv 2) (pe_callD d_calls_in g_calls_in (hr.mono (by omega)) rfl (pa_cons (pe_lst (pa_cons (pv 4) pa_nil)) pa_nil)))))))
   (pss_one (ps_ret (pv 3))))),?_⟩
  obtain ⟨xa,vs0,rfl,sxB,_,rxs⟩:=rx.lstO
  have kN:=hN
  obtain ⟨kvs,hkB,hv⟩:=kN
  have xl:=rxs.len
  have sx:=sB.seq sxB
  refine ⟨small (by simp),fun pt hpt=>?_⟩
  have g1:=same_new hpt (.lst [])
  have k1:upd H pt (.lst []) pt=some (.lst []):=upd_same
  generalize upd H pt (.lst [])=H1 at g1 k1 ⊢
  have bpt:∀ b ∈ [pt],B b=none:=fun b hb=>by
   rw [List.mem_singleton.mp hb]
   exact sB.free hpt
  refine ⟨_,rfl,xa,rfl,⟨_,g1.seq sx⟩,for_list (K:=K) (a:=xa) (xs:=vs0) (fun k σ G=>∃ (v4:Option V) (vs:List V),σ=[some (.ref na),some (.ref xa),some (.int (t - (callsL (xs.take k) : Int))),some (.ref pt),v4]∧Same H G∧G pt=some (.lst vs)∧AL K B H G pt D (stL S d t (xs.take k)) vs) ⟨none,[],by rw [List.take_zero,calls_nil]; exact congrArg (fun z=>[some (V.ref na),some (V.ref xa),some (V.int z),some (V.ref pt),none]) (by omega),g1,k1,AL.nil⟩ (fun k σ G _ z=>by obtain ⟨_,_,_,s1,_⟩:=z; exact s1.seq sx) ?_ ?_⟩
  ·rintro k y σ G hy ⟨v4,vs,rfl,s1,kt,rT⟩
   obtain ⟨x0,e0,r0⟩:=rxs.getR hy
   have hm0:=List.mem_of_getElem? e0
   have nd0:=ndx x0 hm0
   have es:=stL_snoc (S:=S) (d:=d) (t:=t) e0
   have vl:=rT.len
   have lk0:=(stL_take (S:=S) (d:=d) xs t k).1
   have lk1:=stL_take (S:=S) (d:=d) xs t (k+1)
   rw [es,List.length_append] at lk1
   have hz0:∀ z ∈ stD S d (t - (callsL (xs.take k) : Int)) x0,Nd (menuS S) c D z:=fun z h=>hz z (lk1.2 z (List.mem_append.mpr (.inr h)))
   replace lk1:=lk1.1
   have sBG:=sB.trans s1
   have lv0:=lv_mem hm0
   have ke:∀ {zs:List V} {G':Hp},Same G G'→∀ b o,b≠pt→G b=some o→(upd G' pt (.lst zs)) b=some o:=fun u b o nb hb=>by rw [upd_ne nb]; exact u _ _ hb
   have stp:∀ {G2:Hp},(∀ b o,b≠pt→G b=some o→G2 b=some o)→Same (mxE B H G [pt]) (mxE B H G2 [pt]):=fun h=>mxE_step sB fun b o nb hb=>h b o (by simpa using nb) hb
   refine cut_seq (fun σ' G'=>∃ (vs:List V),σ' = [some (.ref na),some (.ref xa),some (.int (t - (callsL (xs.take k) : Int))),some (.ref pt),some y]∧Same H G'∧G' pt=some (.lst vs)∧AL K B H G' pt D (stL S d t (xs.take (k+1))) vs) ?_ (fun key=>?_)
   ·rintro σ' G6 ⟨vs',rfl,s6,k6,r6⟩
    refine ⟨_,rfl,_,rfl,le1,fun p2 hp2=>?_⟩
    have g7:=same_new hp2 (.lst [y])
    have k7:upd G6 p2 (.lst [y]) p2=some (.lst [y]):=upd_same
    generalize upd G6 p2 (.lst [y])=G7 at g7 k7 ⊢
    refine ⟨.ref p2,[x0],menuS S,c,d,rfl,by omega,rep_lst (SqL.of k7) (by simp) (Reps.cons (r0.mono ((sB.trans s6).trans g7)) Reps.nil),fun x hx=>(by rw [List.mem_singleton.mp hx]; exact nd0),m10,fun G8 s8=>⟨_,_,rfl,rfl,?_⟩⟩
    have s78:=g7.trans s8
    refine ⟨some y,vs',?_,s6.trans s78,s78 _ _ k6,r6.keep sB s78⟩
    rw [calls_snoc e0,calls_one]
    exact congrArg (fun z=>[some (V.ref na),some (V.ref xa),some (V.int z),some (V.ref pt),some y]) (by omega)
   obtain ⟨e,rfl⟩:=nd0.pos
   rcases nd0.out with ⟨w',rfl⟩ | ⟨pk,hp1,hp2,rfl⟩ | ⟨nm',as,rfl,hM,has⟩
   ·obtain ⟨ta,zs,rfl,st,_,rz⟩:=id r0.tupO
    obtain ⟨z0,z1,rfl,y0,y1⟩:=Reps.two rz
    rw [y0.strO,y1.strO] at st
    refine ⟨_,rfl,_,_,_,_,rfl,rfl,sBG.tup st,rfl,rfl,_,rfl,?_⟩
    rw [decide_eq_false strNe4]
    refine iteT ?_
    refine ⟨_,rfl,.inl ⟨rfl,_,SqL.of kt⟩,_,rfl,_,_,_,rfl,rfl,kt,small1000 (by omega),?_⟩
    refine key _ _ ⟨vs++[V.ref ta],rfl,s1.put hpt,upd_same,?_⟩
    rw [es,st_wd]
    exact rT.leaf sB hpt (by omega) r0 (.inl ⟨_,rfl⟩)
   ·obtain ⟨ta,zs,rfl,st,_,rz⟩:=id r0.tupO
    obtain ⟨z0,z1,rfl,y0,y1⟩:=Reps.two rz
    rw [y0.strO,y1.intO] at st
    refine ⟨_,rfl,_,_,_,_,rfl,rfl,sBG.tup st,rfl,rfl,_,rfl,?_⟩
    rw [decide_eq_false strNe5]
    refine iteT ?_
    refine ⟨_,rfl,.inl ⟨rfl,_,SqL.of kt⟩,_,rfl,_,_,_,rfl,rfl,kt,small1000 (by omega),?_⟩
    refine key _ _ ⟨vs++[V.ref ta],rfl,s1.put hpt,upd_same,?_⟩
    rw [es,st_pl]
    exact rT.leaf sB hpt (by omega) r0 (.inr ⟨_,rfl⟩)
   ·obtain ⟨ta,zs,rfl,st,_,rz⟩:=id r0.tupO
    obtain ⟨z0,z1,z2,rfl,y0,y1,y2⟩:=Reps.three rz
    rw [y0.strO,y1.strO] at st
    obtain ⟨la,ys,rfl,sl,_,rl⟩:=y2.lstO
    have yl:=rl.len
    rw [List.length_map] at yl
    have a10:as.length≤10:=m10 _ hM
    have st1:=sBG.tup st
    rw [lv_cl,calls_cl] at lv0
    refine ⟨_,rfl,_,_,_,_,rfl,rfl,st1,rfl,rfl,_,rfl,?_⟩
    rw [decide_eq_true rfl]
    refine iteF ?_
    obtain ⟨j,s,hj,ej,hs,en,ec,hF⟩:=call_of (i:=S.length) sx0.nd (by rw [List.take_of_length_le (Nat.le_refl _)]; exact hM)
    refine ⟨_,rfl,rfl,_,rfl,?_⟩
    by_cases ht:t - (callsL (xs.take k) : Int)=0
    ·rw [decide_eq_true (by rw [ht])]
     refine iteT ?_
     rw [ht,st_cl0 hF] at es lk1 hz0
     obtain ⟨v,hv1,hv2⟩:=(hv (tx nm')).2 s hF
     obtain ⟨tv,us,rfl,stv,_,ru⟩:=hv2.tupO
     obtain ⟨x2,hu2,rn⟩:=ru.get (i:=2) (d:=.lst s.ns) rfl
     refine ⟨_,rfl,.inl ⟨rfl,_,SqL.of kt⟩,_,rfl,_,rfl,_,_,_,_,rfl,rfl,st1,rfl,na,_,rfl,.inl ⟨kvs,.inr (tx nm'),.inl (sBG _ _ hkB),rfl,hv1.symm⟩,_,_,_,_,rfl,rfl,sBG.tup stv,atI_nat hu2,_,rfl,_,_,_,_,rfl,rfl,st1,rfl,B,x2,la,s.ns,as,menuS S,menuS S,s.c,c,12,e,D,rfl,by decide,sBG,rn,fun x hx=>(sx0.ord j s ej x hx).up menuS_take (Nat.le_refl _) (Nat.le_refl _),ec.symm,y2,fun a ha=>⟨?_,(has a ha).2⟩,by omega,m10,m10,hz0,hD,by omega,by omega,fun p G5 vs5 s5 fp kp r5=>?_⟩
     ·have q2:=lv_mem (List.mem_map.mpr ⟨a,ha,rfl⟩ : DD.lst a ∈ as.map DD.lst)
      rw [lv_lst,calls_lst] at q2
      omega
     have l5:=r5.len
     refine ⟨_,_,_,_,rfl,rfl,s5 _ _ kt,kp,small (by omega),?_⟩
     refine key _ _ ⟨vs++vs5,rfl,(s1.trans s5).put hpt,upd_same,?_⟩
     rw [es]
     exact rT.ext sB s1 hpt kt s5 (Nat.le_refl _) r5
    ·rw [decide_eq_false (fun z=>ht (V.int.inj z))]
     refine iteF ?_
     rw [st_cl1 ht] at es lk1 hz0
     have hcl:=cl_nd (hz0 _ List.mem_cons_self)
     refine ⟨_,rfl,.inl ⟨rfl,_,SqL.of kt⟩,_,rfl,_,_,_,_,rfl,rfl,st1,rfl,_,rfl,_,rfl,_,_,_,_,rfl,rfl,st1,rfl,_,rfl,_,_,rfl,rfl,B,na,la,_,S,as,c,e,D - 1,rfl,by omega,sBG,hN,sx0,m10,y2,fun a ha=>(has a ha).2,by omega,by omega,a10,fun b hb=>⟨by have:=(hcl b hb).1; omega,(hcl b hb).2⟩,by omega,by omega,fun pb G5 vs5 s5 fb kb r5=>⟨le3,fun p hp=>?_⟩⟩
     have g4:=same_new hp (.tup [V.str (PySem.Str.ofString "call"),V.str (tx nm'),V.ref pb])
     have k4:upd G5 p (.tup [V.str (PySem.Str.ofString "call"),V.str (tx nm'),V.ref pb]) p=some (.tup [V.str (PySem.Str.ofString "call"),V.str (tx nm'),V.ref pb]):=upd_same
     have fp:=s5.free hp
     have kb4:=g4 _ _ kb
     generalize upd G5 p (.tup [V.str (PySem.Str.ofString "call"),V.str (tx nm'),V.ref pb])=G4 at g4 k4 kb4 ⊢
     have s54:=s5.trans g4
     have npb:pb≠pt:=Ne.symm (ne_of_none kt fb)
     have np:p≠pt:=Ne.symm (ne_of_none kt fp)
     refine ⟨_,_,_,rfl,rfl,s54 _ _ kt,small1000 (by omega),?_⟩
     refine key _ _ ⟨vs++[V.ref p],rfl,(s1.trans s54).put hpt,upd_same,?_⟩
     rw [es]
     obtain ⟨D,rfl⟩ : ∃ z,D=z+1:=⟨D - 1,by omega⟩
     exact rT.call sB s1 hpt kt s54 (r5.up g4 sBG) kb4 fp k4 (by rw [stA_len]; exact a10)
  ·rintro σ G ⟨v4,vs,rfl,s1,kt,rT⟩
   rw [xl,List.take_of_length_le (Nat.le_refl _)] at rT
   have vlf:=rT.len
   exact ⟨_,rfl,q pt G vs s1 hpt kt (rT.fin sB hpt kt (by omega))⟩
theorem ok_stepped (T:Txt P w K mg a) : FnOk P w K mg base CX0 146 a.f_stepped a.fd_stepped ["named","nodes","at"] (sp_st K 42):=ok_stepped_n T 42
def sp_one (K:PySem.W.Frag) : Sp:=fun vs H Q _=>∃ (sv xv:V) (t:Int) (S:List Sh) (xs:List DD) (c d D:Nat),vs=[sv,xv,.int t]∧Rep K H (.lst (S.map shD)) sv∧ShX S∧(∀ m ∈ menuS S,m.2≤10)∧Rep K H (.lst xs) xv∧(∀ x ∈ xs,Nd (menuS S) c d x)∧d≤41∧lvL xs+callsL xs≤900∧(∀ z ∈ stL S d t xs,Nd (menuS S) c D z)∧D≤100∧(stL S d t xs).length≤400000∧d+12≤D∧∀ p H' vs l,Same H H'→H p=none→H' p=some (.lst vs)→Cat (ApN K H' D) (stL S d t xs) vs l→NewL H H' (p :: l)→Q (.ref p) H'
theorem sc_one_step:FnScope ["shorts","nodes","at"] ["shorts","nodes","at"] (defScope s_one_step):=⟨rfl,rfl,rfl,by decide +kernel,rfl,by decide +kernel,by decide +kernel⟩
theorem ok_one_step (T:Txt P w K mg a) : FnOk P w K mg base CX0 147 a.f_one_step a.fd_one_step ["shorts","nodes","at"] (sp_one K):=by
 have g_by_name:=ok_by_name (P:=P) (w:=w) (base:=base) T
 have d_by_name:=T.d_by_name
 have g_stepped:=ok_stepped (P:=P) (w:=w) (base:=base) T
 have d_stepped:=T.d_stepped
 refine T.d_one_step.fn.ok sc_one_step (fun vs H Q E h=>?_) (fun cdv A outer s H vs Q E hr h=>?_)
 ·obtain ⟨sv,xv,t,S,xs,c,d,D,rfl,_⟩:=h
  rfl
 obtain ⟨sv,xv,t,S,xs,c,d,D,rfl,rS,sx0,m10,rx,ndx,d21,lvx,hz,hD,hlen,hdD,q⟩:=h
 have hu:=Nat.lt_of_succ_lt (hu_of hr)
 refine ⟨_,(pss_one (ps_ret (pe_callD d_stepped g_stepped (hr.mono (by decide)) rfl (pa_cons (pe_callD d_by_name g_by_name (hr.mono (by decide)) rfl (pa_cons (pv 0) pa_nil)) (pa_cons (pv 1) (pa_cons (pv 2) pa_nil)))))),?_⟩
 refine ⟨_,rfl,sv,S,rfl,rS,sx0.nd,by have:=sx0.len; omega,fun pn H1 s1 hN=>?_⟩
 refine ⟨_,rfl,_,rfl,H1,pn,xv,t,S,xs,c,d,D,rfl,by omega,Same.refl _,hN,sx0,m10,rx.mono s1,ndx,d21,lvx,hz,hD,hlen,hdD,fun p H2 vs s2 fp kp r2=>?_⟩
 obtain ⟨l,c2,n2⟩:=r2
 exact q p H2 vs l (s1.trans s2) (s1.free fp) kp (c2.mono (mxE_out (Same.refl _) s2)) ⟨n2.nd,fun b hb=>s1.free (n2.new b hb),n2.at'⟩
theorem sc_law:FnScope ["script","first","many","per","shorts","count","nodes","words","cell","calls","at","handed","found","elder"] ["script"] (defScope s_law):=⟨rfl,rfl,rfl,by decide +kernel,rfl,by decide +kernel,by decide +kernel⟩
theorem ok_law (T:Txt P w K mg a) : FnOk P w K mg base CX0 201 a.f_law a.fd_law ["script"] (sp_law K):=by
 have g_l_apart:=ok_l_apart (P:=P) (w:=w) (base:=base) T
 have d_l_apart:=T.d_l_apart
 have g_l_cell_at:=ok_l_cell_at (P:=P) (w:=w) (base:=base) T
 have d_l_cell_at:=T.d_l_cell_at
 have g_l_copy:=ok_l_copy (P:=P) (w:=w) (base:=base) T
 have d_l_copy:=T.d_l_copy
 have g_l_draw:=ok_l_draw (P:=P) (w:=w) (base:=base) T
 have d_l_draw:=T.d_l_draw
 have g_l_exchanged:=ok_l_exchanged (P:=P) (w:=w) (base:=base) T
 have d_l_exchanged:=T.d_l_exchanged
 have g_l_nodes:=ok_l_nodes (P:=P) (w:=w) (base:=base) T
 have d_l_nodes:=T.d_l_nodes
 have g_l_shorts:=ok_l_shorts (P:=P) (w:=w) (base:=base) T
 have d_l_shorts:=T.d_l_shorts
 have g_l_sound:=ok_l_sound (P:=P) (w:=w) (base:=base) T
 have d_l_sound:=T.d_l_sound
 have g_l_written:=ok_l_written (P:=P) (w:=w) (base:=base) T
 have d_l_written:=T.d_l_written
 have g_one_step:=ok_one_step (P:=P) (w:=w) (base:=base) T
 have d_one_step:=T.d_one_step
 have z_len:=T.z_len
 refine T.d_law.fn.ok sc_law (fun vs H Q E h=>?_) (fun cdv A outer s H vs Q E hr h=>?_)
 ·obtain ⟨a,ns,rfl,_⟩:=h
  rfl
 obtain ⟨sa,ns,rfl,hS,h63,q⟩:=h
 have hu:=Nat.lt_of_succ_lt (hu_of hr)
 refine ⟨_,(pss_cons (ps_set (i:=1) sc_law.nd rfl (Or.inl rfl) (pe_callD d_l_cell_at g_l_cell_at (hr.mono (by decide)) rfl (pa_cons (pv 0) (pa_cons pe_int pa_nil))))
   (pss_cons (ps_set (i:=2) sc_law.nd rfl (Or.inl rfl) (pe_op op_add pe_int (pe_callD d_l_draw g_l_draw (hr.mono (by decide)) rfl (pa_cons (pv 1) (pa_cons pe_int (pa_cons pe_int pa_nil))))))
   (pss_cons (ps_set (i:=3) sc_law.nd rfl (Or.inl rfl) (pe_op op_fdiv (pe_callB call_len_seq rfl z_len PySem.boot_len (pa_cons (pv 0) pa_nil)) (pe_op op_add (pv 2) pe_int)))
   (pss_cons (ps_set (i:=4) sc_law.nd rfl (Or.inl rfl) (pe_callD d_l_shorts g_l_shorts (hr.mono (by decide)) rfl (pa_cons (pv 0) (pa_cons (pv 2) (pa_cons (pv 3) pa_nil)))))
   (pss_cons (ps_set (i:=5) sc_law.nd rfl (Or.inl rfl) (pe_ix ix_list (pe_lst (pa_cons pe_int (pa_cons pe_int (pa_cons pe_int (pa_cons pe_int pa_nil))))) (pe_callD d_l_draw g_l_draw (hr.mono (by decide)) rfl (pa_cons (pv 1) (pa_cons pe_int (pa_cons pe_int pa_nil)))) (fun _ _=>rfl)))
   (pss_cons (ps_set (i:=6) sc_law.nd rfl (Or.inl rfl) (pe_callD d_l_nodes g_l_nodes (hr.mono (by decide)) rfl (pa_cons (pe_slice sl_list (pv 0) (po_some (pe_op op_add pe_int (pe_op op_mul (pv 2) (pv 3)))) (po_some (pe_op op_add pe_int (pe_op op_mul (pe_op op_add (pv 2) pe_int) (pv 3))))) (pa_cons (pv 4) (pa_cons (pv 5) pa_nil)))))
   (pss_cons (ps_set (i:=7) sc_law.nd rfl (Or.inl rfl) (pe_callD d_l_written g_l_written (hr.mono (by decide)) rfl (pa_cons (pv 6) pa_nil)))
   (pss_cons (ps_for PassesOwn.never rfl (pi_list (pe_slice sl_list (pe_slice sl_list (pv 0) (po_some (pe_op op_add pe_int (pe_op op_mul (pe_op op_add (pv 2) pe_int) (pv 3)))) po_none) po_none (po_some pe_int))) (pg_name (i:=8) sc_law.nd rfl (Or.inl rfl)) (pss_cons (ps_set (i:=9) sc_law.nd rfl (Or.inl rfl) (pe_callB call_len_seq rfl z_len PySem.boot_len (pa_cons (pe_lc rfl (lcok (caps:=[]) (js:=[]) (cap:=trivial)) (pi_list (pv 7)) (fun _ _ _ _=>(pts_one (pt_cmpR op_eq (pe_ix ix_str (pv 0) pe_int (fun _ _=>rfl)) pe_str (nomark _)))) (fun _ _ _ _=>(pv 0))) pa_nil)))
   (pss_cons (ps_if (pt_cmpR op_eq (pv 9) pe_int (nomark _)) (pss_one (ps_ret pe_bl)) pss_nil)
   (pss_cons (ps_set (i:=10) sc_law.nd rfl (Or.inl rfl) (pe_callD d_l_draw g_l_draw (hr.mono (by decide)) rfl (pa_cons (pv 8) (pa_cons pe_int (pa_cons (pv 9) pa_nil)))))
   (pss_cons (ps_set (i:=11) sc_law.nd rfl (Or.inl rfl) (pe_lst (pa_cons (pe_callD d_l_copy g_l_copy (hr.mono (by decide)) rfl (pa_cons (pv 4) pa_nil)) (pa_cons (pe_callD d_l_copy g_l_copy (hr.mono (by decide)) rfl (pa_cons (pv 6) pa_nil)) pa_nil))))
   (pss_cons (ps_set (i:=12) sc_law.nd rfl (Or.inl rfl) (pe_callD d_one_step g_one_step (hr.mono (by decide)) rfl (pa_cons (pe_ix ix_list (pv 11) pe_int (fun _ _=>rfl)) (pa_cons (pe_ix ix_list (pv 11) pe_int (fun _ _=>rfl)) (pa_cons (pv 10) pa_nil)))))
   (pss_cons (ps_if (PW.pt (pw_or (pt_not (pt_val (pe_callD d_l_sound g_l_sound (hr.mono (by decide)) rfl (pa_cons (pv 4) (pa_cons (pv 12) (pa_cons (pv 5) pa_nil)))) (fun _=>rfl))) (pw_or1 (pt_cmpR (op_neF (hu190 hr)) (pv 11) (pe_lst (pa_cons (pv 4) (pa_cons (pv 6) pa_nil))) (nomark _))))) (pss_one (ps_ret pe_bl)) pss_nil)
   (pss_cons (ps_set (i:=7) sc_law.nd rfl (Or.inl rfl) (pe_callD d_l_exchanged g_l_exchanged (hr.mono (by decide)) rfl (pa_cons (pv 4) (pa_cons (pv 7) (pa_cons (pv 10) pa_nil)))))
   (pss_cons (ps_if (pt_cmpR (op_neL hu) (pe_callD d_l_written g_l_written (hr.mono (by decide)) rfl (pa_cons (pv 12) pa_nil)) (pv 7) (nomark _)) (pss_one (ps_ret pe_bl)) pss_nil)
   (pss_cons (ps_set (i:=13) sc_law.nd rfl (Or.inl rfl) (pv 6))
   (pss_cons (ps_set (i:=6) sc_law.nd rfl (Or.inl rfl) (pe_callD d_l_copy g_l_copy (hr.mono (by decide)) rfl (pa_cons (pv 12) pa_nil)))
   (pss_cons (ps_if (PW.pt (pw_or (pt_not (pt_val (pe_callD d_l_apart g_l_apart (hr.mono (by decide)) rfl (pa_cons (pv 12) pa_nil)) (fun _=>rfl))) (pw_or1 (pt_cmpR (op_neF (hu190 hr)) (pv 11) (pe_lst (pa_cons (pv 4) (pa_cons (pv 13) pa_nil))) (nomark _))))) (pss_one (ps_ret pe_bl)) pss_nil)
   (pss_one (ps_if (pt_cmpR op_gt (pe_callB call_len_seq rfl z_len PySem.boot_len (pa_cons (pv 7) pa_nil)) pe_int (nomark _)) (pss_one (ps_ret pe_bl)) pss_nil))))))))))))))
   (pss_one (ps_ret pe_bl)))))))))),?_⟩
 refine ⟨_,rfl,sa,ns,0,rfl,hS,?_⟩
 generalize ns.getD 0 0=c0
 obtain ⟨m4,e4,h4⟩:=draw_nat c0 48 (show 0 < 3 by decide)
 have e4:draw c0 48 3=(m4:Int):=e4
 refine ⟨_,rfl,c0,48,3,rfl,⟨by decide,by decide⟩,by decide,_,_,rfl,rfl,?_⟩
 dsimp only [gName]
 have em:1+draw c0 48 3=((1+m4:Nat) : Int):=by rw [e4]; omega
 rw [em]
 obtain ⟨m,hm⟩ : ∃ m,m=1+m4:=⟨_,rfl⟩
 rw [← hm]
 refine ⟨_,rfl,_,_,rfl,.inl hS,_,rfl,_,_,rfl,rfl,_,_,rfl,rfl,⟨by omega,by omega⟩,?_⟩
 dsimp only [gName]
 rw [List.length_map]
 obtain ⟨per,eper,hper⟩ : ∃ per:Nat,(ns.length:Int) / ((m:Int)+2)=(per:Int)∧per≤21:=⟨ns.length / (m+2),by rw [Int.natCast_ediv]; rfl,Nat.le_trans (Nat.div_le_div_left (show 3≤m+2 by omega) (by decide)) (by omega)⟩
 rw [eper]
 refine ⟨_,rfl,_,rfl,_,rfl,sa,ns,m,per,rfl,hS,h63,by omega,by omega,by omega,fun pS H1 S s1 fpS ⟨vsS,kS,rvS⟩ sok sl=>?_⟩
 dsimp only [gName]
 have sl4:=sok.len
 have m10:=m10_of sok
 have mokS:=mok_of sok
 have m12:∀ m ∈ menuS S,m.1.length≤12:=fun m hm=>(mokS.2 m hm).1
 have dS:=sh_deep sok
 have rS:∀ {G:Hp},Same H1 G→Rep K G (.lst (S.map shD)) (.ref pS):=fun s=>rep_lst (SqL.of (s _ _ kS)) (by rw [List.length_map]; omega) (rvS.mono s)
 refine ⟨le4,fun p1 hp1=>?_⟩
 have g1:=same_new hp1 (.lst [V.int 0,V.int 0,V.int 1,V.int 3])
 have k1:upd H1 p1 (.lst [V.int 0,V.int 0,V.int 1,V.int 3]) p1=some (.lst [V.int 0,V.int 0,V.int 1,V.int 3]):=upd_same
 generalize upd H1 p1 (.lst [V.int 0,V.int 0,V.int 1,V.int 3])=H2 at g1 k1 ⊢
 obtain ⟨m5,e5,h5⟩:=draw_nat c0 49 (show 0 < 4 by decide)
 have e5:draw c0 49 4=(m5:Int):=e5
 obtain ⟨c,hc,c3⟩:=pick4 m5 h5
 refine ⟨_,rfl,c0,49,4,rfl,⟨by decide,by decide⟩,by decide,_,_,_,_,rfl,rfl,SqL.of k1,by rw [e5]; exact atI_nat hc,?_⟩
 dsimp only [gName]
 refine ⟨_,rfl,_,rfl,_,rfl,_,_,rfl,rfl,.inl ⟨by omega,by omega⟩,_,_,rfl,rfl,_,rfl,_,rfl,_,_,rfl,rfl,_,rfl,_,_,rfl,rfl,.inl ⟨by omega,by omega⟩,_,_,rfl,rfl,_,rfl,_,_,rfl,(s1.trans g1).seq hS,fun p2 hp2=>?_⟩
 rw [cutV_map]
 obtain ⟨cs,ecs,csl⟩ : ∃ cs,cs=cutL ns (some (1+(m:Int) * (per:Int))) (some (1+((m:Int)+1) * (per:Int)))∧cs.length≤21:=⟨_,rfl,Nat.le_trans cut_per hper⟩
 rw [← ecs]
 clear ecs
 have g2:=same_new hp2 (.lst (cs.map V.int))
 have k2:upd H2 p2 (.lst (cs.map V.int)) p2=some (.lst (cs.map V.int)):=upd_same
 generalize upd H2 p2 (.lst (cs.map V.int))=H3 at g2 k2 ⊢
 have g12:=g1.trans g2
 refine ⟨_,rfl,_,rfl,p2,pS,cs,_,c,rfl,SqL.of k2,by omega,menu_of (rS g12),mokS,by omega,fun x hx=>by
  obtain ⟨s,hs,rfl⟩:=List.mem_map.mp hx
  exact sok.c9 s hs,fun pn H5 xs s5 fpn ⟨vn,kn,rn⟩ xl ndx xmu xwf=>?_⟩
 dsimp only [gName]
 have rx5:Rep K H5 (.lst xs) (.ref pn):=rep_lst (SqL.of kn) (by omega) (rn.mono erG_in)
 have s15:=g12.trans s5
 have wl:=wtL_len ndx
 have no12:∀ x ∈ xs,No (menuS S) c 12 x:=fun x hx=>no_of (ndx x hx) (xwf x hx)
 refine ⟨_,rfl,.ref pn,xs,menuS S,c,12,rfl,by decide,by omega,rx5,ndx,m12,by omega,fun pw H6 fpw s6 kw=>?_⟩
 dsimp only [gName]
 rw [← wtL_up (e:=100) (fun x hx=>(no12 x hx).ns) (by decide)] at kw
 have s16:=s15.trans s6
 have hS6:=(s1.trans s16).seq hS
 refine ⟨_,rfl,_,rfl,_,_,rfl,rfl,_,rfl,_,_,rfl,rfl,.inl ⟨by omega,by omega⟩,_,_,rfl,rfl,_,rfl,_,_,rfl,hS6,fun p5 hp5=>?_⟩
 rw [cutV_map]
 generalize cutL ns (some (1+((m:Int)+1) * (per:Int))) none=ds
 have g5:=same_new hp5 (.lst (ds.map V.int))
 have k5:upd H6 p5 (.lst (ds.map V.int)) p5=some (.lst (ds.map V.int)):=upd_same
 generalize upd H6 p5 (.lst (ds.map V.int))=H7 at g5 k5 ⊢
 refine ⟨_,rfl,_,_,rfl,SqL.of k5,fun p6 hp6=>?_⟩
 rw [cutV_map]
 generalize cutL ds none (some 24)=cells
 have g6:=same_new hp6 (.lst (cells.map V.int))
 have k6:upd H7 p6 (.lst (cells.map V.int)) p6=some (.lst (cells.map V.int)):=upd_same
 generalize upd H7 p6 (.lst (cells.map V.int))=Hb at g6 k6 ⊢
 have g56:=g5.trans g6
 have s1b:=s16.trans g56
 refine ⟨p6,rfl,⟨_,SqL.of k6⟩,for_list (K:=K) (a:=p6) (xs:=cells.map V.int) (fun i σ G=>∃ (pn pw:Addr) (xs:List DD) (v8 v9 v10 v11 v12 v13:Option V),σ=[some (.ref sa),some (.int c0),some (.int (m:Int)),some (.int (per:Int)),some (.ref pS),some (.int (c:Int)),some (.ref pn),some (.ref pw),v8,v9,v10,v11,v12,v13]∧Same Hb G∧Rep K G (.lst xs) (.ref pn)∧(∀ x ∈ xs,No (menuS S) c 36 x)∧muL xs≤300∧G pw=some (.lst (((wtL 100 xs).map tx).map V.str))) ⟨pn,pw,xs,none,none,none,none,none,none,rfl,Same.refl _,rx5.mono (s6.trans g56),fun x hx=>(no12 x hx).up (fun _ h=>h) (by decide),by omega,g56 _ _ kw⟩ (fun i σ G _ z=>by obtain ⟨_,_,_,_,_,_,_,_,_,_,u,_⟩:=z; exact SqL.of (u _ _ k6)) ?_ ?_⟩
 ·clear ndx xwf no12 wl rx5 xmu xl kw kn rn fpn fpw
  rintro i y σ G hy ⟨pn,pw,xs,v8,v9,v10,v11,v12,v13,rfl,sG,rx,hno,hmu,kW⟩
  obtain ⟨z,rfl,_⟩:=get_int hy
  have hns:∀ x ∈ xs,Ns (menuS S) c 36 x:=fun x hx=>(hno x hx).ns
  have lvx:=lvL_mu hns
  have nd36:∀ x ∈ xs,Nd (menuS S) c 36 x:=fun x hx=>(hns x hx).nd (by have:=lv_mem hx; omega)
  have dX:=nd_deep nd36 (by decide)
  have opn:=opensL_wt (by decide) hno
  have wl:(wtL 100 xs).length≤300:=by
   have:=wtL_len nd36
   rw [wtL_up (e:=100) hns (by decide)]
   omega
  have tkW:=tkL m12 (by decide) hno
  refine ⟨_,rfl,pw,rfl,⟨_,SqL.of kW⟩,lc_list (K:=K) (a:=pw) (xs:=((wtL 100 xs).map tx).map V.str) (fun i ys G'=>G' = G∧ys=(((wtL 100 xs).take i).filter isO).map fun w=>V.str (tx w)) ⟨rfl,rfl⟩ (fun i ys G' _ z=>by rw [z.1]; exact SqL.of kW) ?_ ?_ ?_⟩
  ·rintro i ys G' hi ⟨_,rfl⟩
   rw [List.length_map]
   have:=List.length_filter_le isO ((wtL 100 xs).take i)
   rw [List.length_take] at this
   exact small1000 (by omega)
  ·rintro i y ys G' hy ⟨eG,rfl⟩
   rw [eG]
   rw [List.getElem?_map,List.getElem?_map] at hy
   obtain ⟨u,hu,rfl⟩:=Option.map_eq_some_iff.mp hy
   obtain ⟨w,hw,rfl⟩:=Option.map_eq_some_iff.mp hu
   obtain ⟨⟨ch,r,ew⟩,hwl⟩:=tkW w (List.mem_of_getElem? hw)
   subst ew
   refine ⟨_,rfl,_,_,_,rfl,rfl,Nat.le_of_lt (small (by rw [tx_len]; omega)),at_chr,rfl,_,rfl,?_⟩
   rw [chr_eq cX91]
   by_cases h91:ch=91
   ·rw [decide_eq_true h91]
    refine iteT ?_
    refine ⟨_,rfl,rfl,?_⟩
    rw [List.take_add_one,hw,List.filter_append,List.map_append]
    show _=_++List.map _ (List.filter isO [ch :: r])
    rw [List.filter_cons,if_pos (by rw [h91]; rfl)]
    rfl
   ·rw [decide_eq_false h91]
    refine iteF ⟨rfl,?_⟩
    rw [List.take_add_one,hw,List.filter_append,List.map_append]
    show _=_++List.map _ (List.filter isO [ch :: r])
    rw [List.filter_cons,if_neg (by show ¬ ((some ch == some 91)=true); simpa using h91)]
    exact (List.append_nil _).symm
  rintro ys G' ⟨eG,rfl⟩ pq hpq
  rw [eG] at hpq ⊢
  clear eG G'
  have el:((wtL 100 xs).take (((wtL 100 xs).map tx).map V.str).length)=wtL 100 xs:=by rw [List.length_map,List.length_map,List.take_of_length_le (Nat.le_refl _)]
  rw [el]
  have gq:=same_new hpq (.lst (((wtL 100 xs).filter isO).map fun w=>V.str (tx w)))
  have kq:upd G pq (.lst (((wtL 100 xs).filter isO).map fun w=>V.str (tx w))) pq=some (.lst (((wtL 100 xs).filter isO).map fun w=>V.str (tx w))):=upd_same
  generalize upd G pq (.lst (((wtL 100 xs).filter isO).map fun w=>V.str (tx w)))=G1 at gq kq ⊢
  refine ⟨_,_,rfl,.inl (SqL.of kq),?_⟩
  dsimp only [gName]
  rw [List.length_map,show ((wtL 100 xs).filter isO).length=callsL xs from opn]
  refine ⟨_,rfl,rfl,_,rfl,?_⟩
  refine ite2 (fun _=>q _) (fun c1=>?_)
  have c1:¬ (callsL xs:Int)=0:=fun z=>c1 (decide_eq_true (by rw [z]))
  have hcp:0 < callsL xs:=by omega
  obtain ⟨t,et,ht⟩:=draw_nat z 55 hcp
  refine ⟨_,rfl,_,rfl,z,55,_,rfl,⟨by decide,by decide⟩,by omega,?_⟩
  rw [et]
  dsimp only [gName]
  have sG1:=sG.trans gq
  refine ⟨_,rfl,_,_,rfl,by omega,rS (s1b.trans sG1),fun v1 G2 t2 r2=>⟨_,rfl,_,_,rfl,by omega,rx.mono (gq.trans t2),fun v2 G3 t3 r3=>⟨le2,fun ph hph=>?_⟩⟩⟩
  have g4:=same_new hph (.lst [v1,v2])
  have k4:upd G3 ph (.lst [v1,v2]) ph=some (.lst [v1,v2]):=upd_same
  have r2':=(r2.mono erG_in).mono (t3.trans g4)
  have r3':=(r3.mono erG_in).mono g4
  generalize upd G3 ph (.lst [v1,v2])=G4 at g4 k4 r2' r3' ⊢
  dsimp only [gName]
  have s04:=gq.trans (t2.trans (t3.trans g4))
  have sG4:=sG.trans s04
  obtain ⟨z1,z2,z3,z4,z5,z6⟩:=step15 sok hno hmu (t:Int)
  refine ⟨_,rfl,_,_,_,_,rfl,rfl,SqL.of k4,rfl,_,rfl,_,_,_,_,rfl,rfl,SqL.of k4,rfl,_,rfl,v1,v2,(t:Int),S,xs,c,36,48,rfl,r2',sok.x,m10,r3',nd36,by decide,by omega,z2,by decide,by omega,by decide,fun pf G5 vf l t5 fpf kf cat new=>?_⟩
  dsimp only [gName]
  have rf:Rep K G5 (.lst (stL S 36 (t:Int) xs)) (.ref pf):=rep_lst (SqL.of kf) (by omega) cat.rep
  have sG5:=sG4.trans t5
  have dF:=nd_deep z2 (by decide)
  refine ⟨_,rfl,_,rfl,_,rfl,.ref pS,.ref pf,S,_,c,48,rfl,by decide,rS (s1b.trans sG5),sok.nd,by omega,rf,z2,fun G6 t6=>⟨_,rfl,?_⟩⟩
  refine iteF ?_
  refine ⟨_,rfl,_,rfl,_,rfl,le2,fun p7 hp7=>?_⟩
  have g7:=same_new hp7 (.lst [V.ref pS,V.ref pn])
  have k7:upd G6 p7 (.lst [V.ref pS,V.ref pn]) p7=some (.lst [V.ref pS,V.ref pn]):=upd_same
  generalize upd G6 p7 (.lst [V.ref pS,V.ref pn])=G7 at g7 k7 ⊢
  have t47:=t5.trans (t6.trans g7)
  have two:∀ {F:Hp},Same G4 F→∀ (i:Nat) x y,[v1,v2][i]? = some x→[V.ref pS,V.ref pn][i]? = some y→Dq K F 160 x y:=fun {F} u i x y e1 e2=>by
   match i,e1,e2 with
   | 0,e1,e2 =>
    have e1:v1=x:=Option.some.inj e1
    have e2:V.ref pS=y:=Option.some.inj e2
    subst e1 e2
    exact Rep.dq 160 (r2'.mono u) (rS (s1b.trans (sG4.trans u))) (by omega)
   | 1,e1,e2 =>
    have e1:v2=x:=Option.some.inj e1
    have e2:V.ref pn=y:=Option.some.inj e2
    subst e1 e2
    exact Rep.dq 160 (r3'.mono u) (rx.mono (s04.trans u)) (by omega)
  refine ⟨160,ph,p7,_,_,by decide,rfl,rfl,SqL.of (t47 _ _ k4),SqL.of k7,rfl,two t47,_,rfl,?_⟩
  refine iteF ?_
  have sG7:=sG4.trans t47
  have kW7:=(s04.trans t47) _ _ kW
  refine ⟨_,rfl,_,rfl,_,rfl,pS,pw,t,c,S,wtL 100 xs,wtL 100 (stL S 36 (t:Int) xs),rfl,rS (s1b.trans sG7),sok,SqL.of kW7,split_list sok.x (by decide) hno ht,tkW,by omega,by omega,fun px G8 t8 fpx k8=>?_⟩
  dsimp only [gName]
  have t58:=(t6.trans g7).trans t8
  refine ⟨_,rfl,.ref pf,_,menuS S,c,48,rfl,by decide,by omega,rf.mono t58,z2,m12,by rw [← wtL_up (e:=100) (fun x hx=>(z1 x hx).ns) (by decide)]; omega,fun pg G9 fpg t9 kg=>?_⟩
  rw [← wtL_up (e:=100) (fun x hx=>(z1 x hx).ns) (by decide)] at kg
  have k89:=t9 _ _ k8
  refine ⟨_,rfl,_,_,_,_,rfl,rfl,SqL.of kg,SqL.of k89,flat_strX _,flat_strX _,_,rfl,?_⟩
  rw [if_pos rfl,eqVs_refl (flat_strX _)]
  refine iteF ?_
  refine ⟨_,rfl,?_⟩
  dsimp only [gName]
  have t59:=t58.trans t9
  refine ⟨_,rfl,_,_,rfl,by omega,rf.mono t59,fun vn Ga ta ra=>?_⟩
  dsimp only [gName]
  have t5a:=t59.trans ta
  have kfa:=t5a _ _ kf
  have hsm:=cat.small2
  refine ⟨_,rfl,pf,vf,_,l,48,rfl,by decide,kfa,cat.mono t5a,by omega,new.nd,fun b hb=>by obtain ⟨o,o1,o2⟩:=new.at' b hb; exact ⟨o,t5a _ _ o1,o2⟩,fun Gb gb=>⟨_,rfl,?_⟩⟩
  refine iteF ?_
  have in5:∀ b ∈ pf :: l,∃ o,G5 b=some o:=fun b hb=>by obtain ⟨o,o1,_⟩:=new.at' b hb; exact ⟨_,o1⟩
  have u4b:Same G4 Gb:=fun b o hb=>gb b o (fun z=>by rw [new.new b z] at hb; cases hb) ((t5.trans t5a) _ _ hb)
  have late:∀ {F:Hp},Same G5 F→∀ b o,F b=none→Ga b=some o→Gb b=some o:=fun {F} u b o hb ho=>gb b o (fun z=>by
   obtain ⟨o',ho'⟩:=in5 b z
   rw [u _ _ ho'] at hb
   cases hb) ho
  have rnb:Rep K Gb (.lst (stL S 36 (t:Int) xs)) vn:=ra.mono fun b o hb=>late t59 b o (erG_of hb).1.2 (erG_of hb).2
  have kxb:Gb px=some (.lst (((wtL 100 (stL S 36 (t:Int) xs)).map tx).map V.str)):=late (t6.trans g7) px _ fpx (ta _ _ k89)
  refine ⟨_,rfl,_,rfl,_,rfl,le2,fun pc hpc=>?_⟩
  have gc:=same_new hpc (.lst [V.ref pS,V.ref pn])
  have kc:upd Gb pc (.lst [V.ref pS,V.ref pn]) pc=some (.lst [V.ref pS,V.ref pn]):=upd_same
  generalize upd Gb pc (.lst [V.ref pS,V.ref pn])=Gc at gc kc ⊢
  have u4c:=u4b.trans gc
  refine ⟨160,ph,pc,_,_,by decide,rfl,rfl,SqL.of (u4c _ _ k4),SqL.of kc,rfl,two u4c,_,rfl,?_⟩
  refine iteF ?_
  refine ⟨_,rfl,_,_,rfl,.inl (SqL.of (gc _ _ kxb)),_,_,rfl,rfl,_,rfl,?_⟩
  refine ite2 (fun _=>q _) (fun c2=>?_)
  have c2:¬ (70:Int) < ((((wtL 100 (stL S 36 (t:Int) xs)).map tx).map V.str).length:Int):=fun z=>c2 (decide_eq_true z)
  rw [List.length_map,List.length_map] at c2
  have ge:=wtL_ge (by decide) fun z hz=>(z1 z hz).ns
  have mw:=muL_wt (by decide) fun z hz=>(z1 z hz).ns
  obtain ⟨pn',_,epn,_⟩:=id rnb.lstO
  subst epn
  refine ⟨pn',px,stL S 36 (t:Int) xs,_,_,_,_,_,_,rfl,sG4.trans u4c,rnb.mono gc,fun x hx=>?_,by omega,gc _ _ kxb⟩
  have:=lv_mem hx
  exact (z1 x hx).low.up (fun _ h=>h) (by omega)
 ·rintro σ G ⟨pn,pw,xs,v8,v9,v10,v11,v12,v13,rfl,_⟩
  exact q _
end
noncomputable abbrev fdA (n:Str) (s:Stmt) (d kV dc pm:Value) (an:Option Addr) (cd ct:Value) : FuncData:=PySem.W.fnOf n n (defArgs s) (defBody s) (defScope s) d kV dc pm an cd ct
abbrev Na (K:PySem.W.Frag) (n:Str) (f:Addr) : Prop:=PySem.W.nsIn K mainGlobals n=some (some (.ref f))
abbrev Lk (K:PySem.W.Frag) (f:Addr) (n:Str) (s:Stmt) (d oc:Value) (od:Option Addr) (sl:Array (Option Value)) (kV dc pm:Value) (an:Option Addr) (cd ct:Value) : Prop:=K.lookup f=some ⟨oc,od,.func (fdA n s d kV dc pm an cd ct),sl⟩
abbrev Cd (K:PySem.W.Frag) (c:Value) (n:Str) : Prop:=PySem.W.codeIn K c n=true
abbrev Kp (K:PySem.W.Frag) (f:Addr) : Prop:=PySem.W.keepIn K (.ref f)=true
abbrev Zn (K:PySem.W.Frag) (n:Str) : Prop:=PySem.W.nsIn K mainGlobals n=some none
theorem us1 {us:List Value} (h:us.length=1) : ∃ a0,us=[a0]:=by
 match us,h with
 | [a0],_=>exact ⟨a0,rfl⟩
theorem us2 {us:List Value} (h:us.length=2) : ∃ a0 a1,us=[a0,a1]:=by
 match us,h with
 | [a0,a1],_=>exact ⟨a0,a1,rfl⟩
theorem us3 {us:List Value} (h:us.length=3) : ∃ a0 a1 a2,us=[a0,a1,a2]:=by
 match us,h with
 | [a0,a1,a2],_=>exact ⟨a0,a1,a2,rfl⟩
theorem us4 {us:List Value} (h:us.length=4) : ∃ a0 a1 a2 a3,us=[a0,a1,a2,a3]:=by
 match us,h with
 | [a0,a1,a2,a3],_=>exact ⟨a0,a1,a2,a3,rfl⟩
theorem txt_mk {P:Program} {w:World} {K:PySem.W.Frag} {h:Heap} {mg:Str→Option Value} (X:K.In h) (G:h.Ns mainGlobals mg)
  {od0 an0 od1 an1 od2 an2 od3 an3 od4 an4 od5 an5 od6 an6 od7 an7 od8 an8 od9 an9 od10 an10 od11 an11 od12 an12 od13 an13 od14 an14 od15 an15 od16 an16 od17 an17 od18 an18 od19 an19 od20 an20 od21 an21 od22 an22 od23 an23:Option Addr} {sl0 sl1 sl2 sl3 sl4 sl5 sl6 sl7 sl8 sl9 sl10 sl11 sl12 sl13 sl14 sl15 sl16 sl17 sl18 sl19 sl20 sl21 sl22 sl23:Array (Option Value)} {oc0 kV0 dc0 pm0 cd0 ct0 oc1 kV1 dc1 pm1 cd1 ct1 oc2 kV2 dc2 pm2 cd2 ct2 oc3 kV3 dc3 pm3 cd3 ct3 oc4 kV4 dc4 pm4 cd4 ct4 oc5 kV5 dc5 pm5 cd5 ct5 oc6 kV6 dc6 pm6 cd6 ct6 oc7 kV7 dc7 pm7 cd7 ct7 oc8 kV8 dc8 pm8 cd8 ct8 oc9 kV9 dc9 pm9 cd9 ct9 oc10 kV10 dc10 pm10 cd10 ct10 oc11 kV11 dc11 pm11 cd11 ct11 oc12 kV12 dc12 pm12 cd12 ct12 oc13 kV13 dc13 pm13 cd13 ct13 oc14 kV14 dc14 pm14 cd14 ct14 oc15 kV15 dc15 pm15 cd15 ct15 oc16 kV16 dc16 pm16 cd16 ct16 oc17 kV17 dc17 pm17 cd17 ct17 oc18 kV18 dc18 pm18 cd18 ct18 oc19 kV19 dc19 pm19 cd19 ct19 oc20 kV20 dc20 pm20 cd20 ct20 oc21 kV21 dc21 pm21 cd21 ct21 oc22 kV22 dc22 pm22 cd22 ct22 oc23 kV23 dc23 pm23 cd23 ct23:Value} {f0 f1 f2 f3 f4 f5 f6 f7 f8 f9 f10 f11 f12 f13 f14 f15 f16 f17 f18 f19 f20 f21 f22 f23:Addr}
  (a0:Na K "_law_lists" f0) (l0:Lk K f0 "_law_lists" s_l_lists .none oc0 od0 sl0 kV0 dc0 pm0 an0 cd0 ct0) (c0:Cd K cd0 "_law_lists") (k0:Kp K f0)
  (a1:Na K "_law_apart" f1) (l1:Lk K f1 "_law_apart" s_l_apart .none oc1 od1 sl1 kV1 dc1 pm1 an1 cd1 ct1) (c1:Cd K cd1 "_law_apart") (k1:Kp K f1)
  (a2:Na K "_law_cell_at" f2) (l2:Lk K f2 "_law_cell_at" s_l_cell_at .none oc2 od2 sl2 kV2 dc2 pm2 an2 cd2 ct2) (c2:Cd K cd2 "_law_cell_at") (k2:Kp K f2)
  (a3:Na K "_law_copy" f3) (l3:Lk K f3 "_law_copy" s_l_copy .none oc3 od3 sl3 kV3 dc3 pm3 an3 cd3 ct3) (c3:Cd K cd3 "_law_copy") (k3:Kp K f3)
  (a4:Na K "_law_draw" f4) (l4:Lk K f4 "_law_draw" s_l_draw .none oc4 od4 sl4 kV4 dc4 pm4 an4 cd4 ct4) (c4:Cd K cd4 "_law_draw") (k4:Kp K f4)
  (a5:Na K "_law_ends" f5) (l5:Lk K f5 "_law_ends" s_l_ends .none oc5 od5 sl5 kV5 dc5 pm5 an5 cd5 ct5) (c5:Cd K cd5 "_law_ends") (k5:Kp K f5)
  (a6:Na K "_law_written" f6) (l6:Lk K f6 "_law_written" s_l_written .none oc6 od6 sl6 kV6 dc6 pm6 an6 cd6 ct6) (c6:Cd K cd6 "_law_written") (k6:Kp K f6)
  (a7:Na K "_law_exchanged" f7) (l7:Lk K f7 "_law_exchanged" s_l_exchanged .none oc7 od7 sl7 kV7 dc7 pm7 an7 cd7 ct7) (c7:Cd K cd7 "_law_exchanged") (k7:Kp K f7)
  (a8:Na K "_law_end_argument" f8) (l8:Lk K f8 "_law_end_argument" s_l_end_argument .none oc8 od8 sl8 kV8 dc8 pm8 an8 cd8 ct8) (c8:Cd K cd8 "_law_end_argument") (k8:Kp K f8)
  (a9:Na K "_law_word_by" f9) (l9:Lk K f9 "_law_word_by" s_l_word_by .none oc9 od9 sl9 kV9 dc9 pm9 an9 cd9 ct9) (c9:Cd K cd9 "_law_word_by") (k9:Kp K f9)
  (a10:Na K "_law_nodes" f10) (l10:Lk K f10 "_law_nodes" s_l_nodes .none oc10 od10 sl10 kV10 dc10 pm10 an10 cd10 ct10) (c10:Cd K cd10 "_law_nodes") (k10:Kp K f10)
  (a11:Na K "_law_names" f11) (l11:Lk K f11 "_law_names" s_l_names .none oc11 od11 sl11 kV11 dc11 pm11 an11 cd11 ct11) (c11:Cd K cd11 "_law_names") (k11:Kp K f11)
  (a12:Na K "_law_size" f12) (l12:Lk K f12 "_law_size" s_l_size .none oc12 od12 sl12 kV12 dc12 pm12 an12 cd12 ct12) (c12:Cd K cd12 "_law_size") (k12:Kp K f12)
  (a13:Na K "_law_short" f13) (l13:Lk K f13 "_law_short" s_l_short .none oc13 od13 sl13 kV13 dc13 pm13 an13 cd13 ct13) (c13:Cd K cd13 "_law_short") (k13:Kp K f13)
  (a14:Na K "_law_shorts" f14) (l14:Lk K f14 "_law_shorts" s_l_shorts .none oc14 od14 sl14 kV14 dc14 pm14 an14 cd14 ct14) (c14:Cd K cd14 "_law_shorts") (k14:Kp K f14)
  (a15:Na K "_law_sound" f15) (l15:Lk K f15 "_law_sound" s_l_sound .none oc15 od15 sl15 kV15 dc15 pm15 an15 cd15 ct15) (c15:Cd K cd15 "_law_sound") (k15:Kp K f15)
  (a16:Na K "by_name" f16) (l16:Lk K f16 "by_name" s_by_name .none oc16 od16 sl16 kV16 dc16 pm16 an16 cd16 ct16) (c16:Cd K cd16 "by_name") (k16:Kp K f16)
  (a17:Na K "calls_in" f17) (l17:Lk K f17 "calls_in" s_calls_in .none oc17 od17 sl17 kV17 dc17 pm17 an17 cd17 ct17) (c17:Cd K cd17 "calls_in") (k17:Kp K f17)
  (a18:Na K "arguments_stepped" f18) (l18:Lk K f18 "arguments_stepped" s_arguments_stepped .none oc18 od18 sl18 kV18 dc18 pm18 an18 cd18 ct18) (c18:Cd K cd18 "arguments_stepped") (k18:Kp K f18)
  (a19:Na K "copied" f19) (l19:Lk K f19 "copied" s_copied .none oc19 od19 sl19 kV19 dc19 pm19 an19 cd19 ct19) (c19:Cd K cd19 "copied") (k19:Kp K f19)
  (a20:Na K "filled" f20) (l20:Lk K f20 "filled" s_filled .none oc20 od20 sl20 kV20 dc20 pm20 an20 cd20 ct20) (c20:Cd K cd20 "filled") (k20:Kp K f20)
  (a21:Na K "stepped" f21) (l21:Lk K f21 "stepped" s_stepped .none oc21 od21 sl21 kV21 dc21 pm21 an21 cd21 ct21) (c21:Cd K cd21 "stepped") (k21:Kp K f21)
  (a22:Na K "one_step" f22) (l22:Lk K f22 "one_step" s_one_step .none oc22 od22 sl22 kV22 dc22 pm22 an22 cd22 ct22) (c22:Cd K cd22 "one_step") (k22:Kp K f22)
  (a23:Na K "law" f23) (l23:Lk K f23 "law" s_law .none oc23 od23 sl23 kV23 dc23 pm23 an23 cd23 ct23) (c23:Cd K cd23 "law") (k23:Kp K f23)
  (z_bool:Zn K "bool")
  (z_dict:Zn K "dict")
  (z_int:Zn K "int")
  (z_isinstance:Zn K "isinstance")
  (z_len:Zn K "len")
  (z_list:Zn K "list")
  (z_range:Zn K "range")
  (z_str:Zn K "str")
  (z_sum:Zn K "sum")
  (z_tuple:Zn K "tuple") :
  ∃ a:Adr,Txt P w K mg a:=by
 refine ⟨{ f_l_lists:=f0,fd_l_lists:=fdA "_law_lists" s_l_lists .none kV0 dc0 pm0 an0 cd0 ct0,f_l_apart:=f1,fd_l_apart:=fdA "_law_apart" s_l_apart .none kV1 dc1 pm1 an1 cd1 ct1,f_l_cell_at:=f2,fd_l_cell_at:=fdA "_law_cell_at" s_l_cell_at .none kV2 dc2 pm2 an2 cd2 ct2,f_l_copy:=f3,fd_l_copy:=fdA "_law_copy" s_l_copy .none kV3 dc3 pm3 an3 cd3 ct3,f_l_draw:=f4,fd_l_draw:=fdA "_law_draw" s_l_draw .none kV4 dc4 pm4 an4 cd4 ct4,f_l_ends:=f5,fd_l_ends:=fdA "_law_ends" s_l_ends .none kV5 dc5 pm5 an5 cd5 ct5,f_l_written:=f6,fd_l_written:=fdA "_law_written" s_l_written .none kV6 dc6 pm6 an6 cd6 ct6,f_l_exchanged:=f7,fd_l_exchanged:=fdA "_law_exchanged" s_l_exchanged .none kV7 dc7 pm7 an7 cd7 ct7,f_l_end_argument:=f8,fd_l_end_argument:=fdA "_law_end_argument" s_l_end_argument .none kV8 dc8 pm8 an8 cd8 ct8,f_l_word_by:=f9,fd_l_word_by:=fdA "_law_word_by" s_l_word_by .none kV9 dc9 pm9 an9 cd9 ct9,f_l_nodes:=f10,fd_l_nodes:=fdA "_law_nodes" s_l_nodes .none kV10 dc10 pm10 an10 cd10 ct10,f_l_names:=f11,fd_l_names:=fdA "_law_names" s_l_names .none kV11 dc11 pm11 an11 cd11 ct11,f_l_size:=f12,fd_l_size:=fdA "_law_size" s_l_size .none kV12 dc12 pm12 an12 cd12 ct12,f_l_short:=f13,fd_l_short:=fdA "_law_short" s_l_short .none kV13 dc13 pm13 an13 cd13 ct13,f_l_shorts:=f14,fd_l_shorts:=fdA "_law_shorts" s_l_shorts .none kV14 dc14 pm14 an14 cd14 ct14,f_l_sound:=f15,fd_l_sound:=fdA "_law_sound" s_l_sound .none kV15 dc15 pm15 an15 cd15 ct15,f_by_name:=f16,fd_by_name:=fdA "by_name" s_by_name .none kV16 dc16 pm16 an16 cd16 ct16,f_calls_in:=f17,fd_calls_in:=fdA "calls_in" s_calls_in .none kV17 dc17 pm17 an17 cd17 ct17,f_arguments_stepped:=f18,fd_arguments_stepped:=fdA "arguments_stepped" s_arguments_stepped .none kV18 dc18 pm18 an18 cd18 ct18,f_copied:=f19,fd_copied:=fdA "copied" s_copied .none kV19 dc19 pm19 an19 cd19 ct19,f_filled:=f20,fd_filled:=fdA "filled" s_filled .none kV20 dc20 pm20 an20 cd20 ct20,f_stepped:=f21,fd_stepped:=fdA "stepped" s_stepped .none kV21 dc21 pm21 an21 cd21 ct21,f_one_step:=f22,fd_one_step:=fdA "one_step" s_one_step .none kV22 dc22 pm22 an22 cd22 ct22,f_law:=f23,fd_law:=fdA "law" s_law .none kV23 dc23 pm23 an23 cd23 ct23 },{
  d_l_lists:=defok_mk X G a0 l0 c0 k0 fun _ _ _ _ _ _ us hl=>by obtain ⟨_,rfl⟩:=us1 hl; rfl,
  d_l_apart:=defok_mk X G a1 l1 c1 k1 fun _ _ _ _ _ _ us hl=>by obtain ⟨_,rfl⟩:=us1 hl; rfl,
  d_l_cell_at:=defok_mk X G a2 l2 c2 k2 fun _ _ _ _ _ _ us hl=>by obtain ⟨_,⟨_,rfl⟩⟩:=us2 hl; rfl,
  d_l_copy:=defok_mk X G a3 l3 c3 k3 fun _ _ _ _ _ _ us hl=>by obtain ⟨_,rfl⟩:=us1 hl; rfl,
  d_l_draw:=defok_mk X G a4 l4 c4 k4 fun _ _ _ _ _ _ us hl=>by obtain ⟨_,⟨_,⟨_,rfl⟩⟩⟩:=us3 hl; rfl,
  d_l_ends:=defok_mk X G a5 l5 c5 k5 fun _ _ _ _ _ _ us hl=>by obtain ⟨_,⟨_,rfl⟩⟩:=us2 hl; rfl,
  d_l_written:=defok_mk X G a6 l6 c6 k6 fun _ _ _ _ _ _ us hl=>by obtain ⟨_,rfl⟩:=us1 hl; rfl,
  d_l_exchanged:=defok_mk X G a7 l7 c7 k7 fun _ _ _ _ _ _ us hl=>by obtain ⟨_,⟨_,⟨_,rfl⟩⟩⟩:=us3 hl; rfl,
  d_l_end_argument:=defok_mk X G a8 l8 c8 k8 fun _ _ _ _ _ _ us hl=>by obtain ⟨_,rfl⟩:=us1 hl; rfl,
  d_l_word_by:=defok_mk X G a9 l9 c9 k9 fun _ _ _ _ _ _ us hl=>by obtain ⟨_,rfl⟩:=us1 hl; rfl,
  d_l_nodes:=defok_mk X G a10 l10 c10 k10 fun _ _ _ _ _ _ us hl=>by obtain ⟨_,⟨_,⟨_,rfl⟩⟩⟩:=us3 hl; rfl,
  d_l_names:=defok_mk X G a11 l11 c11 k11 fun _ _ _ _ _ _ us hl=>by obtain ⟨_,⟨_,rfl⟩⟩:=us2 hl; rfl,
  d_l_size:=defok_mk X G a12 l12 c12 k12 fun _ _ _ _ _ _ us hl=>by obtain ⟨_,⟨_,⟨_,rfl⟩⟩⟩:=us3 hl; rfl,
  d_l_short:=defok_mk X G a13 l13 c13 k13 fun _ _ _ _ _ _ us hl=>by obtain ⟨_,⟨_,⟨_,⟨_,rfl⟩⟩⟩⟩:=us4 hl; rfl,
  d_l_shorts:=defok_mk X G a14 l14 c14 k14 fun _ _ _ _ _ _ us hl=>by obtain ⟨_,⟨_,⟨_,rfl⟩⟩⟩:=us3 hl; rfl,
  d_l_sound:=defok_mk X G a15 l15 c15 k15 fun _ _ _ _ _ _ us hl=>by obtain ⟨_,⟨_,⟨_,rfl⟩⟩⟩:=us3 hl; rfl,
  d_by_name:=defok_mk X G a16 l16 c16 k16 fun _ _ _ _ _ _ us hl=>by obtain ⟨_,rfl⟩:=us1 hl; rfl,
  d_calls_in:=defok_mk X G a17 l17 c17 k17 fun _ _ _ _ _ _ us hl=>by obtain ⟨_,rfl⟩:=us1 hl; rfl,
  d_arguments_stepped:=defok_mk X G a18 l18 c18 k18 fun _ _ _ _ _ _ us hl=>by obtain ⟨_,⟨_,⟨_,rfl⟩⟩⟩:=us3 hl; rfl,
  d_copied:=defok_mk X G a19 l19 c19 k19 fun _ _ _ _ _ _ us hl=>by obtain ⟨_,rfl⟩:=us1 hl; rfl,
  d_filled:=defok_mk X G a20 l20 c20 k20 fun _ _ _ _ _ _ us hl=>by obtain ⟨_,⟨_,rfl⟩⟩:=us2 hl; rfl,
  d_stepped:=defok_mk X G a21 l21 c21 k21 fun _ _ _ _ _ _ us hl=>by obtain ⟨_,⟨_,⟨_,rfl⟩⟩⟩:=us3 hl; rfl,
  d_one_step:=defok_mk X G a22 l22 c22 k22 fun _ _ _ _ _ _ us hl=>by obtain ⟨_,⟨_,⟨_,rfl⟩⟩⟩:=us3 hl; rfl,
  d_law:=defok_mk X G a23 l23 c23 k23 fun _ _ _ _ _ _ us hl=>by obtain ⟨_,rfl⟩:=us1 hl; rfl,
  z_bool:=PySem.W.mg_none_of X G z_bool,
  z_dict:=PySem.W.mg_none_of X G z_dict,
  z_int:=PySem.W.mg_none_of X G z_int,
  z_isinstance:=PySem.W.mg_none_of X G z_isinstance,
  z_len:=PySem.W.mg_none_of X G z_len,
  z_list:=PySem.W.mg_none_of X G z_list,
  z_range:=PySem.W.mg_none_of X G z_range,
  z_str:=PySem.W.mg_none_of X G z_str,
  z_sum:=PySem.W.mg_none_of X G z_sum,
  z_tuple:=PySem.W.mg_none_of X G z_tuple }⟩
theorem walk {l:PySem.W.OpenLaw} {q:Program} {loose:List Str} {XP:(Str→Option Value)→Heap→Prop} {YP:World→Heap→Prop} {d:DefRec} {K:Params→PySem.W.Frag} (hn:l.most=some 63) (hdf:d.params.defaults=[]) (hnm:d.name = "law")
  (hY:∀ (w:World) (h:Heap),YP w h→(K w.params).In h)
  (F:∀ (w:World) (mg:Str→Option Value) (h:Heap),(K w.params).In h→h.Ns mainGlobals mg→∃ a:Adr,Txt l.prog w (K w.params) mg a) :
  PySem.W.WalkO q loose XP YP l.row.toRowW d [] (fun f vs=>PySem.call f vs):=
 L2.walk_of (n:=63) (k:=201) (x := "script") (CX:=fun _=>CX0) (sp:=fun w=>sp_law (K w.params)) hn (by decide) hdf ⟨rfl,by decide,by decide⟩ hY (fun w mg fa h KX G hmg=>by
  obtain ⟨a,T⟩:=F w mg h KX G
  have e0:=hmg.symm.trans (hnm ▸ T.d_law.mg)
  cases e0
  refine ⟨a.fd_law,fun s u=>.of_eq (T.d_law.ba [u] rfl),fun base _ _=>ok_law T⟩) (fun _ _ a ns hl _ hS=>⟨a,ns,rfl,hS,hl,fun _=>rfl⟩) fun _ _ _ _ _ z=>z
end K15
open PySem PySem.W PyProof.Rows
set_option maxRecDepth 100000 in
set_option maxHeartbeats 0 in
theorem PySem.Challenge.cw_trueleaf_k15_one_step_holds : PySem.Challenge.rw_trueleaf_k15_one_step.Holds := by
 w_on; o_law
 refine holds_open (q:=K15.vw) (loose:=K15.ls) (Xt:=K15.xt) (XP:=XL K15.vw []) (Yf:=Hook.obs K15.hk) (Ya:=Hook.val K15.hk) (YP:=InK K15.kk) K15.left
  (Hook.of K15.hk) (Hook.keeps K15.hk) (fun s e=>xl_of s (Bool.and_eq_true_iff.mp e).1) XL.keeps (by rfl) (by rfl) (by rfl)
  (fun s e=>recFacts_of (Bool.and_eq_true_iff.mp e).2) (by rfl) (by assumption) (by decide +kernel) ⟨rfl,rfl,rfl,rfl,rfl,by decide +kernel⟩ ?hw ?hc
 (case hw=>w_witness2)
 k_fill
 refine K15.walk (l:=PySem.Challenge.rw_trueleaf_k15_one_step) rfl rfl rfl (fun w h Y=>Y) ?F
 case F =>
  intro w mg h KX G
  refine' K15.txt_mk KX G ?a0 ?l0 ?c0 ?k0 ?a1 ?l1 ?c1 ?k1 ?a2 ?l2 ?c2 ?k2 ?a3 ?l3 ?c3 ?k3 ?a4 ?l4 ?c4 ?k4 ?a5 ?l5 ?c5 ?k5 ?a6 ?l6 ?c6 ?k6 ?a7 ?l7 ?c7 ?k7 ?a8 ?l8 ?c8 ?k8 ?a9 ?l9 ?c9 ?k9 ?a10 ?l10 ?c10 ?k10 ?a11 ?l11 ?c11 ?k11 ?a12 ?l12 ?c12 ?k12 ?a13 ?l13 ?c13 ?k13 ?a14 ?l14 ?c14 ?k14 ?a15 ?l15 ?c15 ?k15 ?a16 ?l16 ?c16 ?k16 ?a17 ?l17 ?c17 ?k17 ?a18 ?l18 ?c18 ?k18 ?a19 ?l19 ?c19 ?k19 ?a20 ?l20 ?c20 ?k20 ?a21 ?l21 ?c21 ?k21 ?a22 ?l22 ?c22 ?k22 ?a23 ?l23 ?c23 ?k23 ?z_bool ?z_dict ?z_int ?z_isinstance ?z_len ?z_list ?z_range ?z_str ?z_sum ?z_tuple
  (case a0 | l0 | c0 | k0 | a1 | l1 | c1 | k1 | a2 | l2 | c2 | k2 | a3 | l3 | c3 | k3 | a4 | l4 | c4 | k4 | a5 | l5 | c5 | k5 | a6 | l6 | c6 | k6 | a7 | l7 | c7 | k7 | a8 | l8 | c8 | k8 | a9 | l9 | c9 | k9 | a10 | l10 | c10 | k10 | a11 | l11 | c11 | k11 | a12 | l12 | c12 | k12 | a13 | l13 | c13 | k13 | a14 | l14 | c14 | k14 | a15 | l15 | c15 | k15 | a16 | l16 | c16 | k16 | a17 | l17 | c17 | k17 | a18 | l18 | c18 | k18 | a19 | l19 | c19 | k19 | a20 | l20 | c20 | k20 | a21 | l21 | c21 | k21 | a22 | l22 | c22 | k22 | a23 | l23 | c23 | k23 | z_bool | z_dict | z_int | z_isinstance | z_len | z_list | z_range | z_str | z_sum | z_tuple=>(first | k_is | (delta K15.Na; k_is) | (delta K15.Lk K15.fdA; k_is) | (delta K15.Cd; k_is) | (delta K15.Kp; k_is) | (delta K15.Zn; k_is)))
